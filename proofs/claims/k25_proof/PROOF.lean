import PyProof.Rows.All
import Wide.All
import OpenK.AllK
import Wide.FinOn
import Lean
import PyProof.EqAt
import PyProof.EqKinds
import PyProof.TupleCall
import KE.KSortTup
import KE.KRevSl
import KE.KDictSum
import PyProof.NeKinds
import PyProof.Rows.Range3
import PyProof.Rows.SetFrom
import PyProof.Rows.StrItems
import PyProof.StrWalks
import PyProof.EnumMake
import PyProof.FString5
import PyProof.Conv_int_bool
import PyProof.DictStraight
import PyProof.StrLawsIn
import PyProof.Rows.RuleN_abs
import PySem.Challenge.RW_censers_k25_whole_moved_between_three
set_option Elab.async false
set_option linter.all false
set_option maxRecDepth 100000
namespace L2
open PySem PySem.Spec PyProof.Rows
abbrev Key := Sum Int Str
def keyIs : Key → Value → Bool
  | .inl k, v => Value.isInt k v
  | .inr x, v => Value.isStrOf x v
def keyH (w : World) : Key → Int
  | .inl k => hashInt k
  | .inr x => hashStr w x
theorem keyIs_shape : ∀ {k : Key} {v : Value}, keyIs k v = true → (∃ i t, k = Sum.inl i ∧ v = Value.int i t) ∨ (∃ x t, k = Sum.inr x ∧ v = Value.str x t)
  | .inl i, v, h => by
    obtain ⟨t, e⟩ := Value.isInt_shape (k := i) (v := v) h
    exact .inl ⟨i, t, rfl, e⟩
  | .inr x, v, h => by
    obtain ⟨t, e⟩ := Value.isStrOf_shape (x := x) (v := v) h
    exact .inr ⟨x, t, rfl, e⟩
theorem key_ll (a b : Int) : decide ((Sum.inl a : Key) = Sum.inl b) = (a == b) := by
  by_cases e : a = b
  · subst e; simp
  · have h : ¬ (Sum.inl a : Key) = Sum.inl b := fun q => e (Sum.inl.inj q)
    rw [decide_eq_false h]
    exact (beq_eq_false_iff_ne.mpr e).symm
theorem key_rr (a b : Str) : decide ((Sum.inr a : Key) = Sum.inr b) = decide (a = b) := by
  by_cases e : a = b
  · subst e; simp
  · have h : ¬ (Sum.inr a : Key) = Sum.inr b := fun q => e (Sum.inr.inj q)
    rw [decide_eq_false h, decide_eq_false e]
theorem key_lr (a : Int) (b : Str) : decide ((Sum.inl a : Key) = Sum.inr b) = false := decide_eq_false (fun q => nomatch q)
theorem key_rl (a : Str) (b : Int) : decide ((Sum.inr a : Key) = Sum.inl b) = false := decide_eq_false (fun q => nomatch q)
def mixKind (prog : Program) (w : World) : PySem.KeyKind prog w Key where
  is := keyIs
  hash := keyH w
  inj := fun v a b ha hb => by
    rcases keyIs_shape ha with ⟨i, t, rfl, rfl⟩ | ⟨x, t, rfl, rfl⟩
    · rcases keyIs_shape hb with ⟨j, u, rfl, e⟩ | ⟨y, u, rfl, e⟩
      · injection e with e1 _; rw [e1]
      · exact nomatch e
    · rcases keyIs_shape hb with ⟨j, u, rfl, e⟩ | ⟨y, u, rfl, e⟩
      · exact nomatch e
      · injection e with e1 _; rw [e1]
  byValue := fun k v h => by
    rcases keyIs_shape h with ⟨i, t, rfl, rfl⟩ | ⟨x, t, rfl, rfl⟩ <;> rfl
  pyHash := fun hv h => by
    rcases keyIs_shape hv with ⟨i, t, rfl, rfl⟩ | ⟨x, t, rfl, rfl⟩
    · exact wpAny_pyHash_int h
    · exact wpAny_pyHash_str h
  eqBool := fun hu hv h => by
    rcases keyIs_shape hu with ⟨i, t, rfl, rfl⟩ | ⟨x, t, rfl, rfl⟩
    · rcases keyIs_shape hv with ⟨j, u, rfl, rfl⟩ | ⟨y, u, rfl, rfl⟩
      · rw [key_ll] at h; exact wpAny_eqBool_int h
      · rw [key_lr] at h; exact SeqAt.EqAt.int_str i t y u _ _ _ _ h
    · rcases keyIs_shape hv with ⟨j, u, rfl, rfl⟩ | ⟨y, u, rfl, rfl⟩
      · rw [key_rl] at h; exact SeqAt.EqAt.str_int x t j u _ _ _ _ h
      · rw [key_rr] at h; exact wpAny_eqBool_str h
  «strs» := fun k x t v h => by
    rcases keyIs_shape h with ⟨i, u, rfl, e⟩ | ⟨y, u, rfl, e⟩
    · exact nomatch e
    · injection e with e1 _
      subst e1
      cases v <;> rfl
end L2
namespace L2
open PySem PySem.Spec PyProof.Rows
inductive V where
  | non | bl (b : Bool) | int (i : Int) | str (x : Str) | byt (b : Array UInt8) | flt (b : UInt64) | ref (a : Addr) | ty (n : String)
  deriving DecidableEq
def RelV : V → Value → Prop
  | .non, u => u = Value.none
  | .bl b, u => u = Value.bool b
  | .int i, u => ∃ t, u = Value.int i t
  | .str x, u => ∃ t, u = Value.str x t
  | .byt b, u => ∃ t, u = Value.bytes b t
  | .flt b, u => ∃ t, u = Value.float b t
  | .ref a, u => u = Value.ref a
  | .ty n, u => u = Value.type n
abbrev Vals : List V → List Value → Prop := Paired RelV
theorem Vals.length {xs : List V} {us : List Value} (r : Vals xs us) : xs.length = us.length := Paired.length r
theorem Vals.get : ∀ {xs : List V} {us : List Value} {i : Nat} {x : V}, Vals xs us → xs[i]? = some x → ∃ u, us[i]? = some u ∧ RelV x u
  | _, _, _, _, .nil, e => by simp at e
  | _, _, 0, _, .cons r _, e => by simp at e; subst e; exact ⟨_, rfl, r⟩
  | _, _, i + 1, x, .cons _ t, e => by
    obtain ⟨u, h1, h2⟩ := Vals.get (i := i) (x := x) t (by simpa using e)
    exact ⟨u, by simpa using h1, h2⟩
theorem Vals.set {x : V} {u : Value} (r : RelV x u) : ∀ {xs : List V} {us : List Value} (i : Nat), Vals xs us → Vals (xs.set i x) (us.set i u)
  | _, _, _, .nil => .nil
  | _, _, 0, .cons _ t => .cons r t
  | _, _, i + 1, .cons q t => .cons q (Vals.set r i t)
theorem Vals.append : ∀ {xs ys : List V} {us ws : List Value}, Vals xs us → Vals ys ws → Vals (xs ++ ys) (us ++ ws)
  | _, _, _, _, .nil, s => s
  | _, _, _, _, .cons r t, s => .cons r (Vals.append t s)
theorem Vals.take : ∀ {xs : List V} {us : List Value} (n : Nat), Vals xs us → Vals (xs.take n) (us.take n)
  | _, _, 0, _ => .nil
  | _, _, _ + 1, .nil => .nil
  | _, _, n + 1, .cons r t => .cons r (Vals.take n t)
theorem Vals.drop : ∀ {xs : List V} {us : List Value} (n : Nat), Vals xs us → Vals (xs.drop n) (us.drop n)
  | _, _, 0, r => r
  | _, _, _ + 1, .nil => .nil
  | _, _, n + 1, .cons _ t => Vals.drop n t
theorem Vals.none_of : ∀ {xs : List V} {us : List Value} {i : Nat}, Vals xs us → xs[i]? = none → us[i]? = none := fun {xs us i} r e => by
  have h1 := r.length
  have h2 : xs.length ≤ i := List.getElem?_eq_none_iff.mp e
  exact List.getElem?_eq_none_iff.mpr (by omega)
def RelO : Option V → Option Value → Prop
  | some v, some u => RelV v u
  | none, none => True
  | _, _ => False
def KV {κ : Type} : List (κ × V) → List (κ × Value) → Prop := Paired fun (p : κ × V) (q : κ × Value) => p.1 = q.1 ∧ RelV p.2 q.2
def kV : Key → V
  | .inl i => .int i
  | .inr x => .str x
inductive HO where
  /-- a list -/
  | lst (xs : List V)
  /-- a tuple (never changes) -/
  | tup (xs : List V)
  /-- a dict whose keys are ints and texts; one whose keys are tuples of ints and texts (the empty one is both) -/
  | dK (kvs : List (Key × V)) | dT (kvs : List (List Key × V))
  /-- a set of ints: its members, its size -/
  | set (S : Int → Bool) (n : Nat)
  /-- an instance of the class at C, its dict at dx, its attributes -/
  | ins (C dx : Addr) (fs : List (Str × V))
  /-- the dict of the instance at x -/
  | own (x : Addr)
  /-- the dict of an exception -/
  | xd (fs : List (Str × V))
  /-- a bound method, f of x -/
  | met (f x : Addr)
  /-- a range object lo, lo + 1, .. below hi -/
  | rng (lo hi : Int)
  /-- a thing that is known to the object (the script; a dict while a loop walks it): read, never written while it is so -/
  | frz (o : Obj) (u : HO)
  /-- a code object's table -/
  | tbl (ps : Array Value)
  /-- any other thing, by what is true of its one object (a def of one's own: SetO a S n := HO.ext fun h => ..) -/
  | ext (φ : Heap → Prop)
abbrev Hp := Addr → Option HO
def upd (H : Hp) (a : Addr) (o : HO) : Hp := fun b => if b = a then some o else H b
theorem upd_same {H : Hp} {a : Addr} {o : HO} : upd H a o a = some o := by unfold upd; rw [if_pos rfl]
theorem upd_ne {H : Hp} {a b : Addr} {o : HO} (h : b ≠ a) : upd H a o b = H b := by unfold upd; rw [if_neg h]
theorem ne_of {H : Hp} {a b : Addr} {o u : HO} (h : H a = some o) (h' : H b = some u) (d : o ≠ u) : a ≠ b := by
  intro e; subst e; rw [h] at h'; exact d (Option.some.inj h')
theorem ne_of_none {H : Hp} {a b : Addr} {o : HO} (h : H a = some o) (h' : H b = none) : a ≠ b := by
  intro e; subst e; rw [h] at h'; cases h'
section
variable (P : Program) (w : World)
def ObjOk (H : Hp) (h : Heap) (a : Addr) : HO → Prop
  | .lst xs => xs.length ≤ sizeLine ∧ ∃ (its : List Value) (n : Nat), Vals xs its ∧ h.get? a = some { cls := .type "list", data := .seq its.toArray n }
  | .tup xs => xs.length ≤ sizeLine ∧ ∃ its : List Value, Vals xs its ∧ IsTup h a its.toArray
  | .dK kvs => kvs.length ≤ sizeLine ∧ (a == sysModules) = false ∧ ∃ vs, KV kvs vs ∧ h.DictOf (mixKind P w) a vs
  | .dT kvs => kvs.length ≤ sizeLine ∧ (a == sysModules) = false ∧ ∃ xs : List (List Key × Addr × Value),
      Paired (fun (p : List Key × V) (q : List Key × Addr × Value) => p.1 = q.1 ∧ H q.2.1 = some (.tup (p.1.map kV)) ∧ RelV p.2 q.2.2) kvs xs ∧
      ∃ o es ep, h.get? a = some o ∧ o.ExactDict ∧ o.data = .dict es ep ∧ es.toList = xs.map (entryOfKey (tupleKind (mixKind P w))) ∧ (xs.map (·.1)).Nodup
  | .set S n => h.SetOf (intKind P w) a S n
  | .ins C dx fs => H dx = some (.own a) ∧ fs.length ≤ 1000 ∧ dx ≠ a ∧ h.get? a = some (PySem.W.instObj C dx) ∧
      ∃ mA, h.Ns1 dx mA ∧ (∀ f, RelO (fs.lookup f) (mA f)) ∧ PySem.Within mA (fs.map (·.1))
  | .own _ => ∃ o, h.get? a = some o
  | .xd fs => ∃ mA, h.Ns1 a mA ∧ ∀ f, RelO (fs.lookup f) (mA f)
  | .rng lo hi => ∃ t u v, h.get? a = some { cls := .type "range", data := .fields #[.int lo t, .int hi u, .int 1 v] }
  | .frz o u => h.get? a = some o ∧ ObjOk H h a u
  | .tbl ps => h.get? a = some { cls := .none, data := .fields ps }
  | .met f x => h.get? a = some (PySem.W.methodObj (.ref f) (.ref x))
  | .ext φ => φ h ∧ (∃ o, h.get? a = some o) ∧ ∀ h1 h2 : Heap, φ h1 → (∀ o, h1.get? a = some o → h2.get? a = some o) → φ h2
def HOk (H : Hp) (h : Heap) : Prop := ∀ a o, H a = some o → ObjOk P w H h a o
end
section
variable {P : Program} {w : World} {H H' : Hp} {h h' : Heap} {a : Addr} {o : HO}
theorem ObjOk.lt (x : ObjOk P w H h a o) : a < h.objs.size := by
  cases o with
  | lst xs => obtain ⟨_, _, _, _, e⟩ := x; exact Heap.lt_size e
  | tup xs => obtain ⟨_, _, _, p⟩ := x; exact p.lt
  | dK kvs => obtain ⟨_, _, _, _, o, _, _, e, _⟩ := x; exact Heap.lt_size e
  | dT kvs => obtain ⟨_, _, _, _, o, _, _, e, _⟩ := x; exact Heap.lt_size e
  | set S n => obtain ⟨o, _, _, _, e, _⟩ := x; exact Heap.lt_size e
  | ins C dx fs => obtain ⟨_, _, _, e, _⟩ := x; exact Heap.lt_size e
  | own y => obtain ⟨_, e⟩ := x; exact Heap.lt_size e
  | xd fs => obtain ⟨_, ⟨_, _, _, e, _⟩, _⟩ := x; exact Heap.lt_size e
  | rng lo hi => obtain ⟨_, _, _, e⟩ := x; exact Heap.lt_size e
  | frz ob u => obtain ⟨e, _⟩ := x; exact Heap.lt_size e
  | tbl ps => exact Heap.lt_size (show h.get? a = some _ from x)
  | met f y => exact Heap.lt_size (show h.get? a = some _ from x)
  | ext φ => obtain ⟨_, ⟨_, e⟩, _⟩ := x; exact Heap.lt_size e
theorem Paired.mapP {α β : Type} {F G : α → β → Prop} : ∀ {l₁ : List α} {l₂ : List β}, Paired F l₁ l₂ → (∀ a b, F a b → G a b) → Paired G l₁ l₂
  | _, _, .nil, _ => .nil
  | _, _, .cons r t, f => .cons (f _ _ r) (Paired.mapP t f)
theorem ObjOk.stay (x : ObjOk P w H h a o) (k : ∀ b u, (b = a ∨ H b = some (.own a)) → h.get? b = some u → h'.get? b = some u)
    (ho : ∀ b, H b = some (.own a) → H' b = some (.own a)) (ht : ∀ b xs, H b = some (.tup xs) → H' b = some (.tup xs)) : ObjOk P w H' h' a o := by
  induction o with
  | lst xs => obtain ⟨z, its, n, r, e⟩ := x; exact ⟨z, its, n, r, k _ _ (.inl rfl) e⟩
  | tup xs => obtain ⟨z, its, r, ob, e, c⟩ := x; exact ⟨z, its, r, ob, k _ _ (.inl rfl) e, c⟩
  | dK kvs => obtain ⟨z, y, vs, r, ob, es, ep, e, c⟩ := x; exact ⟨z, y, vs, r, ob, es, ep, k _ _ (.inl rfl) e, c⟩
  | dT kvs =>
    obtain ⟨z, y, xs, r, ob, es, ep, e, c⟩ := x
    exact ⟨z, y, xs, Paired.mapP r fun p q z => ⟨z.1, ht _ _ z.2.1, z.2.2⟩, ob, es, ep, k _ _ (.inl rfl) e, c⟩
  | set S n => obtain ⟨ob, es, ep, t, e, c⟩ := x; exact ⟨ob, es, ep, t, k _ _ (.inl rfl) e, c⟩
  | ins C dx fs =>
    obtain ⟨d, z, ne, e, mA, ⟨od, es, ep, e2, c⟩, r⟩ := x
    exact ⟨ho _ d, z, ne, k _ _ (.inl rfl) e, mA, ⟨od, es, ep, k _ _ (.inr d) e2, c⟩, r⟩
  | own y => obtain ⟨ob, e⟩ := x; exact ⟨ob, k _ _ (.inl rfl) e⟩
  | xd fs => obtain ⟨mA, ⟨od, es, ep, e, c⟩, r⟩ := x; exact ⟨mA, ⟨od, es, ep, k _ _ (.inl rfl) e, c⟩, r⟩
  | rng lo hi => obtain ⟨t, u, v, e⟩ := x; exact ⟨t, u, v, k _ _ (.inl rfl) e⟩
  | frz ob u ih => obtain ⟨e, q⟩ := x; exact ⟨k _ _ (.inl rfl) e, ih q⟩
  | tbl ps =>
    have e : h.get? a = some { cls := .none, data := .fields ps } := x
    show h'.get? a = some { cls := .none, data := .fields ps }
    exact k a _ (.inl rfl) e
  | met f y =>
    have e : h.get? a = some (PySem.W.methodObj (.ref f) (.ref y)) := x
    show h'.get? a = some (PySem.W.methodObj (.ref f) (.ref y))
    exact k a _ (.inl rfl) e
  | ext φ => obtain ⟨p, ⟨o, e⟩, st⟩ := x; exact ⟨st _ _ p fun o q => k _ _ (.inl rfl) q, ⟨o, k _ _ (.inl rfl) e⟩, st⟩
theorem HOk.lt (x : HOk P w H h) (e : H a = some o) : a < h.objs.size := (x a o e).lt
theorem HOk.fresh (x : HOk P w H h) (e : h.objs.size ≤ a) : H a = none := by
  cases q : H a with
  | none => rfl
  | some u => exact absurd (Nat.lt_of_lt_of_le (x.lt q) e) (Nat.lt_irrefl _)
theorem HOk.kept (x : HOk P w H h) (k : ∀ b u, h.get? b = some u → h'.get? b = some u) : HOk P w H h' := fun a o e =>
  (x a o e).stay (fun b u _ q => k b u q) (fun _ q => q) fun _ _ q => q
theorem HOk.laid (x : HOk P w H h) (k : ∀ b u, h.get? b = some u → h'.get? b = some u) (hp : h.objs.size ≤ a) (new : ObjOk P w (upd H a o) h' a o) : HOk P w (upd H a o) h' := fun b u e => by
  have hn := x.fresh hp
  by_cases hb : b = a
  · subst hb; rw [upd_same] at e; cases e; exact new
  · rw [upd_ne hb] at e
    exact (x b u e).stay (fun c v _ q => k c v q) (fun c q => by rw [upd_ne (ne_of_none q hn)]; exact q) fun c xs q => by rw [upd_ne (ne_of_none q hn)]; exact q
end
def Rd (H : Hp) (a : Addr) (u : HO) : Prop := H a = some u ∨ ∃ o, H a = some (.frz o u)
theorem Rd.of {H : Hp} {a : Addr} {u : HO} (h : H a = some u) : Rd H a u := .inl h
theorem Rd.ok {P : Program} {w : World} {H : Hp} {h : Heap} {a : Addr} {u : HO} (r : Rd H a u) (x : HOk P w H h) : ObjOk P w H h a u := by
  rcases r with r | ⟨o, r⟩
  · exact x a u r
  · obtain ⟨_, q⟩ := x a _ r
    exact q
def Mut : Option HO → Prop
  | some (.lst _) => True
  | some (.dK _) => True
  | some (.dT _) => True
  | some (.set _ _) => True
  | some (.ins _ _ _) => True
  | some (.ext _) => True
  | _ => False
section
variable {P : Program} {w : World} {H : Hp} {h h' : Heap} {x e : Addr} {o' : HO}
theorem HOk.write (ok : HOk P w H h) (mu : Mut (H x)) (he : e = x ∨ H e = some (.own x)) (k : ∀ b u, b ≠ e → h.get? b = some u → h'.get? b = some u) (heo : ∃ u, h'.get? e = some u)
    (new : ObjOk P w (upd H x o') h' x o') : HOk P w (upd H x o') h' := fun b u q => by
  have nown : ∀ c y, H c = some (.own y) → c ≠ x := fun c y r z => by subst z; rw [r] at mu; exact mu
  have ntup : ∀ c xs, H c = some (.tup xs) → c ≠ x := fun c xs r z => by subst z; rw [r] at mu; exact mu
  by_cases hb : b = x
  · subst hb; rw [upd_same] at q; cases q; exact new
  · rw [upd_ne hb] at q
    by_cases hbe : b = e
    · have q' : H b = some (.own x) := by
        rcases he with z | z
        · exact absurd (hbe.trans z) hb
        · rw [hbe]; exact z
      rw [q] at q'; cases q'
      obtain ⟨v, hv⟩ := heo
      exact ⟨v, by rw [hbe]; exact hv⟩
    · refine (ok b u q).stay (fun c v hc r => k c v ?_ r) (fun c r => by rw [upd_ne (nown c b r)]; exact r) fun c xs r => by rw [upd_ne (ntup c xs r)]; exact r
      rcases hc with rfl | hc
      · exact hbe
      · rintro rfl
        rcases he with z | z
        · exact nown c b hc z
        · rw [hc] at z; cases z; exact hb rfl
end
structure Un (fs ex : List Addr) (H H' : Hp) (h h' : Heap) : Prop where
  keep : ∀ b o, h.get? b = some o → H b = none → b ∉ fs → b ∉ ex → h'.get? b = some o
  slot : ∀ b o, h.get? b = some o → H b = none → b ∈ fs → b ∉ ex → ∃ sl, h'.get? b = some { o with slots := sl }
  free : ∀ b o, h.get? b = some o → H b = none → b ∉ ex → H' b = none
  there : ∀ b o, h.get? b = some o → b ∉ ex → ∃ o', h'.get? b = some o'
  tups : ∀ b xs, H b = some (.tup xs) → H' b = some (.tup xs)
  frzs : ∀ b o u, H b = some (.frz o u) → H' b = some (.frz o u)
  tbls : ∀ b ps, H b = some (.tbl ps) → ∃ more, H' b = some (.tbl (ps ++ more))
section
variable {fs fs' ex ex' : List Addr} {H H1 H2 : Hp} {h h1 h2 h' : Heap} {a x e : Addr} {o : HO}
theorem Un.any (u : Un fs ex H H1 h h1) {b : Addr} {ob : Obj} (q : h.get? b = some ob) (n : H b = none) (hx : b ∉ ex) : ∃ sl, h1.get? b = some { ob with slots := sl } := by
  by_cases hb : b ∈ fs
  · exact u.slot b ob q n hb hx
  · exact ⟨ob.slots, u.keep b ob q n hb hx⟩
theorem Un.trans (a : Un fs ex H H1 h h1) (b : Un fs ex H1 H2 h1 h2) : Un fs ex H H2 h h2 where
  keep := fun c ob q n hc hx => b.keep c ob (a.keep c ob q n hc hx) (a.free c ob q n hx) hc hx
  slot := fun c ob q n hc hx => by
    obtain ⟨sl, e1⟩ := a.slot c ob q n hc hx
    obtain ⟨sl', e2⟩ := b.slot c _ e1 (a.free c ob q n hx) hc hx
    exact ⟨sl', e2⟩
  free := fun c ob q n hx => by
    obtain ⟨o', e1⟩ := a.there c ob q hx
    exact b.free c o' e1 (a.free c ob q n hx) hx
  there := fun c ob q hx => by
    obtain ⟨o', e1⟩ := a.there c ob q hx
    exact b.there c o' e1 hx
  tups := fun c xs q => b.tups c xs (a.tups c xs q)
  frzs := fun c ob xs q => b.frzs c ob xs (a.frzs c ob xs q)
  tbls := fun c ps q => by
    obtain ⟨m1, e1⟩ := a.tbls c ps q
    obtain ⟨m2, e2⟩ := b.tbls c _ e1
    exact ⟨m1 ++ m2, by rw [e2, Array.append_assoc]⟩
theorem Un.kept (k : ∀ b u, h.get? b = some u → h'.get? b = some u) : Un fs ex H H h h' :=
  ⟨fun b ob q _ _ _ => k b ob q, fun b ob q _ _ _ => ⟨ob.slots, k b ob q⟩, fun _ _ _ n _ => n, fun b ob q _ => ⟨ob, k b ob q⟩, fun _ _ q => q, fun _ _ _ q => q, fun _ ps q => ⟨#[], by rw [q]; simp⟩⟩
theorem Un.refl : Un fs ex H H h h := Un.kept fun _ _ q => q
theorem Un.laid (k : ∀ b u, h.get? b = some u → h'.get? b = some u) (hp : h.objs.size ≤ a) (hn : H a = none) : Un fs ex H (upd H a o) h h' where
  keep := fun b u q _ _ _ => k b u q
  slot := fun b u q _ _ _ => ⟨u.slots, k b u q⟩
  free := fun b u q n _ => by rw [upd_ne (Nat.ne_of_lt (Nat.lt_of_lt_of_le (Heap.lt_size q) hp))]; exact n
  there := fun b u q _ => ⟨u, k b u q⟩
  tups := fun b xs q => by rw [upd_ne (ne_of_none q hn)]; exact q
  frzs := fun b u xs q => by rw [upd_ne (ne_of_none q hn)]; exact q
  tbls := fun b ps q => ⟨#[], by rw [upd_ne (ne_of_none q hn), q]; simp⟩
theorem Un.write (mu : Mut (H x)) (he : e = x ∨ H e = some (.own x)) (k : ∀ b u, b ≠ e → h.get? b = some u → h'.get? b = some u) (heo : ∃ u, h'.get? e = some u) : Un fs ex H (upd H x o) h h' := by
  have hx : ∀ b, H b = none → b ≠ x := fun b n z => by subst z; rw [n] at mu; exact mu
  have hb : ∀ b, H b = none → b ≠ e := fun b n z => by
    subst z
    rcases he with r | r
    · exact hx b n r
    · rw [n] at r; cases r
  have hm : ∀ b u, H b = some u → ¬ Mut (some u) → b ≠ x := fun b u q nm z => by subst z; rw [q] at mu; exact nm mu
  refine ⟨fun b u q n _ _ => k b u (hb b n) q, fun b u q n _ _ => ⟨u.slots, k b u (hb b n) q⟩, fun b u q n _ => by rw [upd_ne (hx b n)]; exact n, fun b u q _ => ?_,
    fun b xs q => by rw [upd_ne (hm b _ q fun z => z)]; exact q, fun b u xs q => by rw [upd_ne (hm b _ q fun z => z)]; exact q, fun b ps q => ⟨#[], by rw [upd_ne (hm b _ q fun z => z), q]; simp⟩⟩
  by_cases hbe : b = e
  · subst hbe; exact heo
  · exact ⟨u, k b u hbe q⟩
theorem Un.mono (u : Un fs ex H H1 h h1) (hs : ∀ b ∈ fs, b ∈ fs') (hx : ∀ b ∈ ex, b ∈ ex') : Un fs' ex' H H1 h h1 :=
  ⟨fun b ob q n hb he => u.keep b ob q n (fun z => hb (hs b z)) fun z => he (hx b z), fun _ _ q n _ he => u.any q n fun z => he (hx _ z), fun b ob q n he => u.free b ob q n fun z => he (hx b z), fun b ob q he => u.there b ob q fun z => he (hx b z), u.tups, u.frzs, u.tbls⟩
end
def trk (h : Heap) (H : Hp) : List Addr := (List.range h.objs.size).filter fun a => (H a).isSome
def hidT (h : Heap) (H : Hp) : Heap := PySem.W.hideAll h (trk h H)
theorem hidT_size (h : Heap) (H : Hp) : (hidT h H).objs.size = h.objs.size := PySem.W.hideAll_size _ _
theorem hidT_get {h : Heap} {H : Hp} {b : Addr} {o : Obj} (e : h.get? b = some o) (n : H b = none) : (hidT h H).get? b = some o :=
  PySem.W.hideAll_get _ e fun hm => by
    have q : (H b).isSome = true := (List.mem_filter.mp hm).2
    rw [n] at q; simp at q
theorem of_hidT {h : Heap} {H : Hp} {b : Addr} {o : Obj} (e : (hidT h H).get? b = some o) : h.get? b = some o ∧ H b = none := by
  have e' : h.get? b = some o := PySem.W.of_hideAll (trk h H) e
  refine ⟨e', ?_⟩
  cases q : H b with
  | none => rfl
  | some x =>
    have hm : b ∈ trk h H := List.mem_filter.mpr ⟨List.mem_range.mpr (Heap.lt_size e'), by simp [q]⟩
    have z : (hidT h H).get? b = none := PySem.W.hideAll_none (trk h H) hm
    rw [z] at e; cases e
def allNews (g h : Heap) (L : Addr) : List (Addr × Obj) := (List.range h.objs.size).filterMap fun a => if a = L ∨ (g.get? a).isSome = true then none else (h.get? a).map fun o => (a, o)
theorem mem_allNews {g h : Heap} {L a : Addr} {o : Obj} (h1 : a ≠ L) (h2 : g.get? a = none) (h3 : h.get? a = some o) : (a, o) ∈ allNews g h L :=
  List.mem_filterMap.mpr ⟨a, List.mem_range.mpr (Heap.lt_size h3), by simp [h1, h2, h3]⟩
theorem of_mem_allNews {g h : Heap} {L : Addr} {p : Addr × Obj} (hp : p ∈ allNews g h L) : p.1 ≠ L ∧ g.get? p.1 = none ∧ h.get? p.1 = some p.2 := by
  obtain ⟨b, _, e⟩ := List.mem_filterMap.mp hp
  split at e
  · cases e
  · rename_i hn
    cases q : h.get? b with
    | none => rw [q] at e; simp at e
    | some u =>
      rw [q] at e
      simp only [Option.map_some, Option.some.injEq] at e
      subst e
      refine ⟨fun z => hn (.inl z), ?_, q⟩
      show g.get? b = none
      cases r : g.get? b with
      | none => rfl
      | some v => exact (hn (.inr (by simp [r]))).elim
def rest (g h : Heap) (L d : Addr) : List (Addr × Obj) := (allNews g h L).filter fun p => decide (p.1 ≠ d)
theorem news_all {g h : Heap} {L : Addr} : News g L h (allNews g h L) := fun p hp => let ⟨a, b, c⟩ := of_mem_allNews hp; ⟨c, a, b⟩
end L2
namespace L2
open PySem PySem.Spec PyProof.Rows
structure Mod (K : PySem.W.Frag) (mg : Str → Option Value) (base : Heap) : Prop where
  kin : K.In base
  glob : base.Ns mainGlobals mg
  blt : ∃ mb, base.Ns builtinsNs mb ∧ ∀ x : Str, x ≠ "__name__" → mb x = bootBuiltins x
  nolimit : base.NoLimit
structure Cx where
  prog : Program
  w : World
  K : PySem.W.Frag
  mg : Str → Option Value
  base : Heap
  A : Around
  N : List Str
  s₀ : Shared
  H₀ : Hp
  env : Env
  outer : List Env
  stack : List Env
  ex : List Addr
  fn : Str → Bool
  calm : Bool
  pn : List (Addr × Obj)
  xe : Value → Shared → Prop
def frs (l : List Env) : List Addr := l.filterMap (·.frame)
abbrev Cx.fs (X : Cx) : List Addr := frs X.outer
def Vis (sc : Scope) (x : Str) : Prop := sc.names.lookup x = some .local ∨ sc.names.lookup x = some .cell ∨ sc.names.lookup x = some .free
def Loc (sc : Scope) (x : Str) : Prop := sc.names.lookup x = some .local ∨ sc.names.lookup x = some .cell
def Look (env : Env) (h : Heap) (m : Str → Option Value) (x : Str) (u : Value) : Prop :=
  (env.kindOf x = some .local ∧ m x = some u) ∨ ((env.kindOf x = some .cell ∨ env.kindOf x = some .free) ∧ ∃ c, env.cells.lookup x = some c ∧ h.IsCell c (some u))
structure Cx.Ok (X : Cx) : Prop where
  mod : Mod X.K X.mg X.base
  kind : X.env.scope.kind = .function
  glob : X.env.globals = mainGlobals
  blt : X.env.builtins = builtinsNs
  above : X.s₀.heap.objs.size ≤ X.env.locals
  inj : ∀ x y c, X.env.cells.lookup x = some c → X.env.cells.lookup y = some c → x = y
  has : ∀ x, (X.env.kindOf x = some .cell ∨ X.env.kindOf x = some .free) → ∃ c, X.env.cells.lookup x = some c
  cab : ∀ x c, X.fn x = true → X.env.cells.lookup x = some c → X.s₀.heap.objs.size ≤ c
  hd : X.calm = true → X.A.handled = none
  frames : X.A.frames = some X.stack
  stk : X.stack = X.outer ∨ (X.stack = X.env :: X.outer ∧ X.env.frame = some X.env.locals)
  exf : ∀ b ∈ X.ex, b ≠ X.env.locals ∧ ∀ x c, X.env.cells.lookup x = some c → c ≠ b
  bs : ∀ b o, X.base.get? b = some o → X.s₀.heap.get? b = some o ∧ X.H₀ b = none
  bsz : X.base.objs.size ≤ X.s₀.heap.objs.size
  noex : ∀ b o, X.base.get? b = some o → b ∉ X.ex
  exfs : ∀ b ∈ X.ex, b ∉ X.fs
  funs : X.s₀.heap.FunFrames X.base X.outer
  frf : ∀ b ∈ X.fs, X.H₀ b = none
structure Inv (X : Cx) (pins : List (Addr × Obj)) (σ : List (Option V)) (H : Hp) (s : Shared) : Prop where
  ok : X.Ok
  os : s.os = X.s₀.os
  bare : AllBare s.gens
  base : Un X.fs X.ex X.H₀ H X.s₀.heap s.heap
  loc : ∃ m, s.heap.Ns X.env.locals m ∧ ∀ (i : Nat) (x : Str) (v : V), X.N[i]? = some x → σ[i]? = some (some v) → Vis X.env.scope x → ∃ u, RelV v u ∧ Look X.env s.heap m x u
  cell : ∀ x c, X.env.cells.lookup x = some c → ∃ v, s.heap.IsCell c v
  free : H X.env.locals = none
  freeC : ∀ x c, X.env.cells.lookup x = some c → H c = none
  pin : ∀ p ∈ X.pn ++ pins, s.heap.get? p.1 = some p.2 ∧ H p.1 = none ∧ p.1 ≠ X.env.locals ∧ p.1 ∉ X.fs ∧ ∀ v, p.2.data ≠ .cell v
  hok : HOk X.prog X.w H s.heap
  len : σ.length = X.N.length
section
variable {X : Cx} {pins : List (Addr × Obj)} {σ : List (Option V)} {H H' : Hp} {s : Shared} {h' : Heap}
theorem Cx.Ok.nofr (ok : X.Ok) {b : Addr} {o : Obj} (e : X.base.get? b = some o) : b ∉ X.fs := fun hb => by
  have := (ok.funs.mem hb).1
  rw [e] at this; cases this
theorem Inv.bs (I : Inv X pins σ H s) : ∀ b o, X.base.get? b = some o → s.heap.get? b = some o ∧ H b = none := fun b o e =>
  ⟨I.base.keep b o (I.ok.bs b o e).1 (I.ok.bs b o e).2 (I.ok.nofr e) (I.ok.noex b o e), I.base.free b o (I.ok.bs b o e).1 (I.ok.bs b o e).2 (I.ok.noex b o e)⟩
theorem Inv.bk (I : Inv X pins σ H s) : ∀ b o, X.base.get? b = some o → s.heap.get? b = some o := fun b o e => (I.bs b o e).1
theorem Inv.mod (I : Inv X pins σ H s) : Mod X.K X.mg X.base := I.ok.mod
theorem Inv.kIn (I : Inv X pins σ H s) : X.K.In s.heap := I.ok.mod.kin.keeps I.bk
theorem Inv.nolimit (I : Inv X pins σ H s) : s.heap.NoLimit := I.ok.mod.nolimit.keeps I.bk
theorem Inv.fr (I : Inv X pins σ H s) : ∃ m, Fr X.base X.env.locals s.heap m :=
  let ⟨m, hn, _⟩ := I.loc
  ⟨m, hn, I.bk, Nat.le_trans I.ok.bsz I.ok.above⟩
theorem Inv.lt (I : Inv X pins σ H s) : X.env.locals < s.heap.objs.size := let ⟨_, hn, _⟩ := I.loc; hn.lt
theorem Inv.sz (I : Inv X pins σ H s) : X.s₀.heap.objs.size ≤ s.heap.objs.size := Nat.le_trans I.ok.above (Nat.le_of_lt I.lt)
theorem Inv.nofs (I : Inv X pins σ H s) {a : Addr} (h : s.heap.objs.size ≤ a) : a ∉ X.fs := fun hb => by
  obtain ⟨_, o, ho, _⟩ := I.ok.funs.mem hb
  exact absurd (Nat.lt_of_lt_of_le (Heap.lt_size ho) (Nat.le_trans I.sz h)) (Nat.lt_irrefl _)
theorem Inv.cne (I : Inv X pins σ H s) : ∀ x c, X.env.cells.lookup x = some c → c ≠ X.env.locals := fun x c e z => by
  obtain ⟨v, o, ho, hd⟩ := I.cell x c e
  obtain ⟨m, ⟨o', es, ep, ho', hd', _⟩, _⟩ := I.loc
  rw [z, ho'] at ho; cases ho; rw [hd'] at hd; cases hd
theorem Inv.funs (I : Inv X pins σ H s) : s.heap.FunFrames X.base X.outer := by
  have all : ∀ (l : List Env), (∀ b ∈ frs l, b ∈ X.fs) → X.s₀.heap.FunFrames X.base l → s.heap.FunFrames X.base l := by
    intro l
    induction l with
    | nil => intro _ _; trivial
    | cons env r ih =>
      intro hs hl
      obtain ⟨hk, ⟨L, o, hf, hn, ho, hd⟩, hr⟩ := hl
      have hL : L ∈ X.fs := hs L (by unfold frs; rw [List.filterMap_cons, hf]; exact List.mem_cons_self)
      obtain ⟨sl, e⟩ := I.base.slot L o ho (I.ok.frf L hL) hL fun z => I.ok.exfs L z hL
      exact ⟨hk, ⟨L, _, hf, hn, e, hd⟩, ih (fun b hb => hs b (by unfold frs; rw [List.filterMap_cons, hf]; exact List.mem_cons_of_mem _ hb)) hr⟩
  exact all X.outer (fun _ hb => hb) I.ok.funs
theorem Inv.stack (I : Inv X pins σ H s) : s.heap.FunFrames X.base X.stack := by
  rcases I.ok.stk with e | ⟨e, hf⟩
  · rw [e]; exact I.funs
  · rw [e]
    obtain ⟨m, hn, _⟩ := I.loc
    refine .cons (by rw [I.ok.kind]; decide) hf hn ?_ I.funs
    exact Heap.get?_none_of_le (Nat.le_trans I.ok.bsz I.ok.above)
theorem Inv.stkSub (I : Inv X pins σ H s) : ∀ b ∈ frs X.stack, b ∈ X.env.locals :: X.fs := fun b hb => by
  rcases I.ok.stk with e | ⟨e, hf⟩
  · rw [e] at hb; exact List.mem_cons_of_mem _ hb
  · rw [e] at hb
    unfold frs at hb
    rw [List.filterMap_cons, hf] at hb
    exact hb
theorem Inv.stkFree (I : Inv X pins σ H s) : ∀ b ∈ frs X.stack, H b = none := fun b hb => by
  rcases List.mem_cons.mp (I.stkSub b hb) with e | hb
  · rw [e]; exact I.free
  · obtain ⟨_, o, ho, _⟩ := I.ok.funs.mem hb
    exact I.base.free b o ho (I.ok.frf b hb) fun z => I.ok.exfs b z hb
theorem Inv.step {g' : Array GenState} {t' : Nat} {d' : Drawn} {ch : List Addr} (I : Inv X pins σ H s)
    (hch : ∀ b ∈ ch, (b ∈ X.ex ∨ X.s₀.heap.objs.size ≤ b) ∧ b ≠ X.env.locals ∧ (∀ x c, X.env.cells.lookup x = some c → c ≠ b) ∧ ∀ p ∈ X.pn ++ pins, p.1 ≠ b)
    (keep : ∀ b o, b ≠ X.env.locals → b ∉ X.fs → b ∉ ch → s.heap.get? b = some o → H b = none → h'.get? b = some o)
    (slot : ∀ b o, b ≠ X.env.locals → b ∈ X.fs → b ∉ ch → s.heap.get? b = some o → H b = none → ∃ sl, h'.get? b = some { o with slots := sl }) (free : ∀ b o, b ∉ ch → s.heap.get? b = some o → H b = none → H' b = none)
    (there : ∀ b o, b ∉ ch → s.heap.get? b = some o → ∃ o', h'.get? b = some o')
    (tups : ∀ b xs, H b = some (.tup xs) → H' b = some (.tup xs)) (frzs : ∀ b o u, H b = some (.frz o u) → H' b = some (.frz o u)) (tbls : ∀ b ps, H b = some (.tbl ps) → ∃ more, H' b = some (.tbl (ps ++ more)))
    (ns : ∀ m, s.heap.Ns X.env.locals m → h'.Ns X.env.locals m) (hok : HOk X.prog X.w H' h') (hg : AllBare g') :
    Inv X pins σ H' { s with heap := h', gens := g', drawn := d', toks := t' } := by
  have neL : ∀ b o, X.s₀.heap.get? b = some o → b ≠ X.env.locals := fun b o e => Nat.ne_of_lt (Nat.lt_of_lt_of_le (Heap.lt_size e) I.ok.above)
  have neC : ∀ b o, X.s₀.heap.get? b = some o → b ∉ X.ex → b ∉ ch := fun b o e hx hb => by
    rcases (hch b hb).1 with z | z
    · exact hx z
    · exact absurd (Nat.lt_of_lt_of_le (Heap.lt_size e) z) (Nat.lt_irrefl _)
  have cellK : ∀ x c, X.env.cells.lookup x = some c → ∀ v, s.heap.IsCell c v → h'.IsCell c v := fun x c e v ⟨o, ho, hd⟩ => by
    have nch : c ∉ ch := fun z => (hch c z).2.2.1 x c e rfl
    by_cases hc : c ∈ X.fs
    · obtain ⟨sl, q⟩ := slot c o (I.cne x c e) hc nch ho (I.freeC x c e)
      exact ⟨_, q, hd⟩
    · exact ⟨o, keep c o (I.cne x c e) hc nch ho (I.freeC x c e), hd⟩
  refine ⟨I.ok, I.os, hg, ⟨fun b o e n hb hx => ?_, fun b o e n hb hx => ?_, fun b o e n hx => ?_, fun b o e hx => ?_, fun b xs e => tups b xs (I.base.tups b xs e), fun b o xs e => frzs b o xs (I.base.frzs b o xs e), fun b ps e => ?_⟩, ?_, fun x c e => ?_, ?_, fun x c e => ?_, fun p hp => ?_, hok, I.len⟩
  · exact keep b o (neL b o e) hb (neC b o e hx) (I.base.keep b o e n hb hx) (I.base.free b o e n hx)
  · obtain ⟨sl, e1⟩ := I.base.slot b o e n hb hx
    obtain ⟨sl', e2⟩ := slot b _ (neL b o e) hb (neC b o e hx) e1 (I.base.free b o e n hx)
    exact ⟨sl', e2⟩
  · obtain ⟨o', e1⟩ := I.base.there b o e hx
    exact free b o' (neC b o e hx) e1 (I.base.free b o e n hx)
  · obtain ⟨o', e1⟩ := I.base.there b o e hx
    exact there b o' (neC b o e hx) e1
  · obtain ⟨m1, e1⟩ := I.base.tbls b ps e
    obtain ⟨m2, e2⟩ := tbls b _ e1
    exact ⟨m1 ++ m2, by rw [e2, Array.append_assoc]⟩
  · obtain ⟨m, hn, hl⟩ := I.loc
    refine ⟨m, ns m hn, fun i x v e1 e2 e3 => ?_⟩
    obtain ⟨u, r, l⟩ := hl i x v e1 e2 e3
    refine ⟨u, r, ?_⟩
    rcases l with l | ⟨k, c, e, z⟩
    · exact .inl l
    · exact .inr ⟨k, c, e, cellK x c e _ z⟩
  · obtain ⟨v, z⟩ := I.cell x c e
    exact ⟨v, cellK x c e v z⟩
  · obtain ⟨m, ⟨o, _, _, ho, _⟩, _⟩ := I.loc
    exact free _ o (fun z => (hch _ z).2.1 rfl) ho I.free
  · obtain ⟨v, o, ho, hd⟩ := I.cell x c e
    exact free c o (fun z => (hch c z).2.2.1 x c e rfl) ho (I.freeC x c e)
  · obtain ⟨e, n, ne, nf, d⟩ := I.pin p hp
    have nch : p.1 ∉ ch := fun z => (hch p.1 z).2.2.2 p hp rfl
    exact ⟨keep p.1 p.2 ne nf nch e n, free p.1 p.2 nch e n, ne, nf, d⟩
theorem Inv.un {t' : Nat} (I : Inv X pins σ H s) (u : Un X.fs [] H H' s.heap h') (hok : HOk X.prog X.w H' h') : Inv X pins σ H' { s with heap := h', toks := t' } := by
  obtain ⟨m, ⟨o, es, ep, ho, r⟩, _⟩ := id I.loc
  obtain ⟨sl, hL⟩ := u.any ho I.free (by simp)
  exact I.step (g' := s.gens) (d' := s.drawn) (ch := []) (fun _ z => nomatch z) (fun b o _ hb _ e n => u.keep b o e n hb (by simp)) (fun b o _ hb _ e n => u.slot b o e n hb (by simp)) (fun b o _ e n => u.free b o e n (by simp)) (fun b o _ e => u.there b o e (by simp)) u.tups u.frzs u.tbls (fun m' hm => by
    obtain ⟨o', es', ep', ho', r'⟩ := hm
    rw [ho] at ho'; cases ho'
    exact ⟨_, es', ep', hL, r'⟩) hok I.bare
theorem Inv.call {g' : Array GenState} {t' : Nat} {d' : Drawn} {ch : List Addr} (I : Inv X pins σ H s) (u : Un (frs X.stack) ch H H' s.heap h') (hok : HOk X.prog X.w H' h') (hg : AllBare g')
    (hch : ∀ b ∈ ch, (b ∈ X.ex ∨ X.s₀.heap.objs.size ≤ b) ∧ b ≠ X.env.locals ∧ (∀ x c, X.env.cells.lookup x = some c → c ≠ b) ∧ ∀ p ∈ X.pn ++ pins, p.1 ≠ b) :
    Inv X pins σ H' { s with heap := h', gens := g', drawn := d', toks := t' } := by
  obtain ⟨m, ⟨o, es, ep, ho, r⟩, _⟩ := id I.loc
  obtain ⟨sl, hL⟩ := u.any ho I.free fun z => (hch _ z).2.1 rfl
  exact I.step (ch := ch) hch (fun b o hL hb hc e n => u.keep b o e n (fun z => (List.mem_cons.mp (I.stkSub b z)).elim hL hb) hc) (fun b o _ _ hc e n => u.any e n hc) (fun b o hc e n => u.free b o e n hc) (fun b o hc e => u.there b o e hc) u.tups u.frzs u.tbls (fun m' hm => by
    obtain ⟨o', es', ep', ho', r'⟩ := hm
    rw [ho] at ho'; cases ho'
    exact ⟨_, es', ep', hL, r'⟩) hok hg
theorem Inv.turned {t' : Nat} {it : Addr} (I : Inv X pins σ H s) (k : ∀ b o, b ≠ it → s.heap.get? b = some o → h'.get? b = some o) (hn : H it = none) (hL : it ≠ X.env.locals)
    (h1 : it ∈ X.ex ∨ X.s₀.heap.objs.size ≤ it) (h2 : ∀ x c, X.env.cells.lookup x = some c → c ≠ it) (h3 : ∀ p ∈ X.pn ++ pins, p.1 ≠ it) : Inv X pins σ H { s with heap := h', toks := t' } := by
  have nit : ∀ b u, H b = some u → b ≠ it := fun b u e z => by rw [z, hn] at e; cases e
  refine I.step (g' := s.gens) (d' := s.drawn) (ch := [it]) (fun b hb => ?_) (fun b o _ _ hc e _ => k b o (fun z => hc (by simp [z])) e) (fun b o _ _ hc e _ => ⟨o.slots, k b o (fun z => hc (by simp [z])) e⟩) (fun _ _ _ _ n => n)
    (fun b o hc e => ⟨o, k b o (fun z => hc (by simp [z])) e⟩) (fun _ _ e => e) (fun _ _ _ e => e) (fun b ps e => ⟨#[], by rw [e]; simp⟩) (fun m hm => ?_) (fun b u e => ?_) I.bare
  · have e : b = it := by simpa using hb
    subst e
    exact ⟨h1, hL, h2, h3⟩
  · obtain ⟨o, es, ep, ho, r⟩ := hm
    exact ⟨o, es, ep, k _ o (Ne.symm hL) ho, r⟩
  · refine (I.hok b u e).stay (fun c v hc q => k c v ?_ q) (fun _ q => q) fun _ _ q => q
    rcases hc with z | z
    · rw [z]; exact nit b u e
    · exact nit c _ z
theorem Inv.tok (I : Inv X pins σ H s) (t : Nat) : Inv X pins σ H { s with toks := t } := I.un (h' := s.heap) (t' := t) Un.refl I.hok
theorem Inv.kept {t' : Nat} (I : Inv X pins σ H s) (k : ∀ b u, s.heap.get? b = some u → h'.get? b = some u) : Inv X pins σ H { s with heap := h', toks := t' } := I.un (Un.kept k) (I.hok.kept k)
theorem Inv.laid {a : Addr} {o : HO} {t' : Nat} (I : Inv X pins σ H s) (k : ∀ b u, s.heap.get? b = some u → h'.get? b = some u) (hp : s.heap.objs.size ≤ a) (new : ObjOk X.prog X.w (upd H a o) h' a o) :
    Inv X pins σ (upd H a o) { s with heap := h', toks := t' } := I.un (Un.laid k hp (I.hok.fresh hp)) (I.hok.laid k hp new)
theorem Inv.write {x e : Addr} {o : HO} {t' : Nat} (I : Inv X pins σ H s) (mu : Mut (H x)) (he : e = x ∨ H e = some (.own x)) (k : ∀ b u, b ≠ e → s.heap.get? b = some u → h'.get? b = some u) (heo : ∃ u, h'.get? e = some u)
    (new : ObjOk X.prog X.w (upd H x o) h' x o) : Inv X pins σ (upd H x o) { s with heap := h', toks := t' } := I.un (Un.write mu he k heo) (I.hok.write mu he k heo new)
theorem Inv.weak {σ' : List (Option V)} (I : Inv X pins σ H s) (hl : σ'.length = σ.length) (w : ∀ (i : Nat) v, σ'[i]? = some (some v) → σ[i]? = some (some v)) : Inv X pins σ' H s :=
  ⟨I.ok, I.os, I.bare, I.base, let ⟨m, hn, hl'⟩ := I.loc; ⟨m, hn, fun i x v e1 e2 e3 => hl' i x v e1 (w i v e2) e3⟩, I.cell, I.free, I.freeC, I.pin, I.hok, hl.trans I.len⟩
theorem Inv.pins_of {pins' : List (Addr × Obj)} (I : Inv X pins σ H s) (h : ∀ p ∈ pins', s.heap.get? p.1 = some p.2 ∧ H p.1 = none ∧ p.1 ≠ X.env.locals ∧ p.1 ∉ X.fs ∧ ∀ v, p.2.data ≠ .cell v) : Inv X pins' σ H s :=
  ⟨I.ok, I.os, I.bare, I.base, I.loc, I.cell, I.free, I.freeC, fun p hp => (List.mem_append.mp hp).elim (fun z => I.pin p (List.mem_append_left _ z)) (h p), I.hok, I.len⟩
theorem nodup_ix {N : List Str} (hN : N.Nodup) {i j : Nat} {x : Str} (a : N[i]? = some x) (b : N[j]? = some x) : i = j := by
  obtain ⟨h1, e1⟩ := List.getElem?_eq_some_iff.mp a
  obtain ⟨h2, e2⟩ := List.getElem?_eq_some_iff.mp b
  exact (List.getElem_inj hN).mp (e1.trans e2.symm)
theorem store_ok2 {M : Model} {A : Around} {E : Value → Shared → Prop} {i : Nat} {x : Str} {v : V} {u : Value} {Q : Unit → Shared → Prop} (I : Inv X pins σ H s) (hN : X.N.Nodup) (hi : X.N[i]? = some x) (hx : Loc X.env.scope x) (r : RelV v u)
    (h : ∀ s', Inv X pins (σ.set i (some v)) H s' → (∃ a, Heap.SameBut a s.heap s'.heap ∧ (a = X.env.locals ∨ X.env.cells.lookup x = some a)) → Q () s') (hf : X.fn x = true ∨ X.env.scope.names.lookup x = some .local := by first | exact .inl rfl | exact .inr rfl | assumption) : wpAny M A (storeName X.env x u) Q E s := by
  obtain ⟨m, hn, hl⟩ := id I.loc
  have hcls : (X.env.scope.kind == .class || (X.env.scope.kind == .module && X.env.locals != X.env.globals)) = false := by rw [I.ok.kind]; rfl
  have hiσ : i < σ.length := by rw [I.len]; exact (List.getElem?_eq_some_iff.mp hi).1
  have cne := I.cne
  have tracked : ∀ {a : Addr} {h' : Heap}, (∃ o, s.heap.get? a = some o ∧ H a = none) → Heap.SameBut a s.heap h' → HOk X.prog X.w H h' := fun {a h'} ha hs b ob e => by
    obtain ⟨_, _, hfree⟩ := ha
    refine (I.hok b ob e).stay (fun c w' hc q => (hs.2 c ?_).trans q) (fun _ q => q) fun _ _ q => q
    rintro rfl
    rcases hc with rfl | hc
    · rw [hfree] at e; cases e
    · rw [hfree] at hc; cases hc
  rcases hx with hk | hk
  · refine wpAny_storeName_local hk hn (fun h' hn' hs => ?_) hcls
    obtain ⟨oL, _, _, hoL, _⟩ := id hn
    refine h _ ⟨I.ok, I.os, I.bare, ⟨fun b o e n hb hx => ?_, fun b o e n hb hx => ?_, I.base.free, fun b o e hx => ?_, I.base.tups, I.base.frzs, I.base.tbls⟩, ⟨_, hn', fun j y v' e1 e2 e3 => ?_⟩, fun y c e => ?_, I.free, I.freeC, fun p hp => ?_, tracked ⟨oL, hoL, I.free⟩ hs, by simpa using I.len⟩ ⟨_, hs, .inl rfl⟩
    · exact (hs.2 b (Nat.ne_of_lt (Nat.lt_of_lt_of_le (Heap.lt_size e) I.ok.above))).trans (I.base.keep b o e n hb hx)
    · obtain ⟨sl, e1⟩ := I.base.slot b o e n hb hx
      exact ⟨sl, (hs.2 b (Nat.ne_of_lt (Nat.lt_of_lt_of_le (Heap.lt_size e) I.ok.above))).trans e1⟩
    · obtain ⟨o', e1⟩ := I.base.there b o e hx
      exact ⟨o', (hs.2 b (Nat.ne_of_lt (Nat.lt_of_lt_of_le (Heap.lt_size e) I.ok.above))).trans e1⟩
    · by_cases hj : j = i
      · subst hj
        rw [hi] at e1; cases e1
        rw [List.getElem?_set_self hiσ] at e2
        cases e2
        exact ⟨u, r, .inl ⟨hk, by simp⟩⟩
      · rw [List.getElem?_set_ne (Ne.symm hj)] at e2
        obtain ⟨u', r', q⟩ := hl j y v' e1 e2 e3
        refine ⟨u', r', ?_⟩
        rcases q with ⟨k, e⟩ | ⟨k, c, e, z⟩
        · refine .inl ⟨k, ?_⟩
          have : y ≠ x := fun e => hj (nodup_ix hN e1 (e ▸ hi))
          simp [this, e]
        · exact .inr ⟨k, c, e, z.sameBut hs (cne y c e)⟩
    · obtain ⟨w', z⟩ := I.cell y c e
      exact ⟨w', z.sameBut hs (cne y c e)⟩
    · obtain ⟨e, n, ne, nf, d⟩ := I.pin p hp
      exact ⟨(hs.2 p.1 ne).trans e, n, ne, nf, d⟩
  · have hfn : X.fn x = true := by
      rcases hf with z | z
      · exact z
      · rw [z] at hk; cases hk
    obtain ⟨c, hc⟩ := I.ok.has x (.inl hk)
    obtain ⟨w', z⟩ := I.cell x c hc
    refine wpAny_storeName_cell I.ok.kind hk hc z (fun h' hc' hs => ?_)
    obtain ⟨oc, hoc, hocd⟩ := id z
    refine h { s with heap := h' } ⟨I.ok, I.os, I.bare, ⟨fun b o e n hb hx => ?_, fun b o e n hb hx => ?_, I.base.free, fun b o e hx => ?_, I.base.tups, I.base.frzs, I.base.tbls⟩, ⟨m, hn.sameBut hs (Ne.symm (cne x c hc)), fun j y v' e1 e2 e3 => ?_⟩, fun y c' e => ?_, I.free, I.freeC, fun p hp => ?_, tracked ⟨oc, hoc, I.freeC x c hc⟩ hs, by simpa using I.len⟩ ⟨c, hs, .inr hc⟩
    · exact (hs.2 b (Nat.ne_of_lt (Nat.lt_of_lt_of_le (Heap.lt_size e) (I.ok.cab x c hfn hc)))).trans (I.base.keep b o e n hb hx)
    · obtain ⟨sl, e1⟩ := I.base.slot b o e n hb hx
      exact ⟨sl, (hs.2 b (Nat.ne_of_lt (Nat.lt_of_lt_of_le (Heap.lt_size e) (I.ok.cab x c hfn hc)))).trans e1⟩
    · obtain ⟨o', e1⟩ := I.base.there b o e hx
      exact ⟨o', (hs.2 b (Nat.ne_of_lt (Nat.lt_of_lt_of_le (Heap.lt_size e) (I.ok.cab x c hfn hc)))).trans e1⟩
    · by_cases hj : j = i
      · subst hj
        rw [hi] at e1; cases e1
        rw [List.getElem?_set_self hiσ] at e2
        cases e2
        exact ⟨u, r, .inr ⟨.inl hk, c, hc, hc'⟩⟩
      · rw [List.getElem?_set_ne (Ne.symm hj)] at e2
        obtain ⟨u', r', q⟩ := hl j y v' e1 e2 e3
        refine ⟨u', r', ?_⟩
        rcases q with q | ⟨k, c', e, z'⟩
        · exact .inl q
        · refine .inr ⟨k, c', e, z'.sameBut hs ?_⟩
          rintro rfl
          exact hj (nodup_ix hN e1 (I.ok.inj _ _ _ e hc ▸ hi))
    · by_cases hcc : c' = c
      · subst hcc; exact ⟨_, hc'⟩
      · obtain ⟨w2, z2⟩ := I.cell y c' e
        exact ⟨w2, z2.sameBut hs hcc⟩
    · obtain ⟨e, n, ne, nf, d⟩ := I.pin p hp
      refine ⟨(hs.2 p.1 ?_).trans e, n, ne, nf, d⟩
      intro q
      rw [q, hoc] at e
      have q' : oc = p.2 := Option.some.inj e
      exact d w' (by rw [← q']; exact hocd)
theorem store_ok {M : Model} {A : Around} {E : Value → Shared → Prop} {i : Nat} {x : Str} {v : V} {u : Value} {Q : Unit → Shared → Prop} (I : Inv X pins σ H s) (hN : X.N.Nodup) (hi : X.N[i]? = some x) (hx : Loc X.env.scope x) (r : RelV v u)
    (h : ∀ s', Inv X pins (σ.set i (some v)) H s' → Q () s') (hf : X.fn x = true ∨ X.env.scope.names.lookup x = some .local := by first | exact .inl rfl | exact .inr rfl | assumption) : wpAny M A (storeName X.env x u) Q E s :=
  store_ok2 I hN hi hx r (fun s' I' _ => h s' I') hf
theorem Inv.call' {s' : Shared} {ch : List Addr} (I : Inv X pins σ H s) (ho : s'.os = s.os) (u : Un (frs X.stack) ch H H' s.heap s'.heap) (hok : HOk X.prog X.w H' s'.heap) (hg : AllBare s'.gens)
    (hch : ∀ b ∈ ch, (b ∈ X.ex ∨ X.s₀.heap.objs.size ≤ b) ∧ b ≠ X.env.locals ∧ (∀ x c, X.env.cells.lookup x = some c → c ≠ b) ∧ ∀ p ∈ X.pn ++ pins, p.1 ≠ b) : Inv X pins σ H' s' := by
  obtain ⟨h', g', d', t', o'⟩ := s'
  have e : o' = s.os := ho
  subst e
  exact I.call (g' := g') (t' := t') (d' := d') u hok hg hch
end
abbrev XK := Value → Option Addr → Hp → Prop
abbrev St := List (Option V)
abbrev VK := V → Hp → Prop
abbrev TE := St → Hp → VK → Prop
abbrev TT := St → Hp → (Bool → Hp → Prop) → Prop
abbrev TA := St → Hp → (List V → Hp → Prop) → Prop
structure Ends where
  nx : St → Hp → Prop
  rt : VK
  bk : St → Hp → Prop := fun _ _ => False
  ct : St → Hp → Prop := fun _ _ => False
abbrev TS := Ends → St → Hp → Prop
def EP (X : Cx) (pins : List (Addr × Obj)) (σ : St) (Q : VK) (u : Value) (s' : Shared) : Prop := ∃ v H', Inv X pins σ H' s' ∧ RelV v u ∧ Q v H'
def TP (X : Cx) (pins : List (Addr × Obj)) (σ : St) (Q : Bool → Hp → Prop) (b : Bool) (s' : Shared) : Prop := ∃ H', Inv X pins σ H' s' ∧ Q b H'
def AP (X : Cx) (pins : List (Addr × Obj)) (σ : St) (Q : List V → Hp → Prop) (us : List Value) (s' : Shared) : Prop := ∃ vs H', Inv X pins σ H' s' ∧ Vals vs us ∧ Q vs H'
def SP (X : Cx) (pins : List (Addr × Obj)) (D : Ends) (f : Flow) (s' : Shared) : Prop :=
  match f with
  | .next => ∃ σ' H', Inv X pins σ' H' s' ∧ D.nx σ' H'
  | .brk => ∃ σ' H', Inv X pins σ' H' s' ∧ D.bk σ' H'
  | .cont => ∃ σ' H', Inv X pins σ' H' s' ∧ D.ct σ' H'
  | .ret u => ∃ v σ' H', Inv X pins σ' H' s' ∧ RelV v u ∧ D.rt v H'
def PE (X : Cx) (e : Expr) (t : TE) : Prop :=
  ∀ (pins : List (Addr × Obj)) (s : Shared) (σ : St) (H : Hp) (Q : VK), Inv X pins σ H s → t σ H Q → wpAny (model X.prog X.w) X.A (eval e X.env) (EP X pins σ Q) X.xe s
def PT (X : Cx) (e : Expr) (t : TT) : Prop :=
  ∀ (pins : List (Addr × Obj)) (s : Shared) (σ : St) (H : Hp) (Q : Bool → Hp → Prop), Inv X pins σ H s → t σ H Q → wpAny (model X.prog X.w) X.A (isTrue e X.env (eval e X.env)) (TP X pins σ Q) X.xe s
def PW (X : Cx) (e : Expr) (t : TT) : Prop :=
  ∀ (whole : Sem Value) (pins : List (Addr × Obj)) (s : Shared) (σ : St) (H : Hp) (Q : Bool → Hp → Prop), Inv X pins σ H s → t σ H Q → wpAny (model X.prog X.w) X.A (isTrue e X.env whole) (TP X pins σ Q) X.xe s
theorem PW.pt {X : Cx} {e : Expr} {t : TT} (h : PW X e t) : PT X e t := h _
def PA (X : Cx) (es : List Expr) (t : TA) : Prop :=
  ∀ (pos : Pos) (pins : List (Addr × Obj)) (s : Shared) (σ : St) (H : Hp) (Q : List V → Hp → Prop), Inv X pins σ H s → t σ H Q → wpAny (model X.prog X.w) X.A (spliced (backTo pos (starEach es X.env))) (AP X pins σ Q) X.xe s
def PS (X : Cx) (st : Stmt) (t : TS) : Prop :=
  ∀ (pins : List (Addr × Obj)) (s : Shared) (σ : St) (H : Hp) (D : Ends), Inv X pins σ H s → t D σ H → wpAny (model X.prog X.w) X.A (exec st X.env) (SP X pins D) X.xe s
def PSs (X : Cx) (st : List Stmt) (t : TS) : Prop :=
  ∀ (pins : List (Addr × Obj)) (s : Shared) (σ : St) (H : Hp) (D : Ends), Inv X pins σ H s → t D σ H → wpAny (model X.prog X.w) X.A (execs st X.env) (SP X pins D) X.xe s
theorem thn {α : Type} {t : Sem α} {Q Q' : α → Shared → Prop} {M : Model} {A : Around} {E : Value → Shared → Prop} {s : Shared} (h : wpAny M A t Q E s) (hQ : ∀ a s, Q a s → Q' a s) : wpAny M A t Q' E s := wpAny_mono h hQ fun _ _ x => x
end L2
namespace L2
open PySem PySem.Spec PyProof.Rows
section
variable {X : Cx}
theorem bin {a b : Expr} {ta tb : TE} (ha : PE X a ta) (hb : PE X b tb) {pins : List (Addr × Obj)} {s : Shared} {σ : St} {H : Hp} {R : V → V → Hp → Prop} (I : Inv X pins σ H s) (h : ta σ H fun x H1 => tb σ H1 fun y H2 => R x y H2)
    {α : Type} {Q : α → Shared → Prop} {f : Value → Value → Sem α}
    (hf : ∀ v u s2 x y H2, Inv X pins σ H2 s2 → RelV x v → RelV y u → R x y H2 → wpAny (model X.prog X.w) X.A (f v u) Q X.xe s2) :
    wpAny (model X.prog X.w) X.A (eval a X.env) (fun v s₁ => wpAny (model X.prog X.w) X.A (eval b X.env) (fun u s₂ => wpAny (model X.prog X.w) X.A (f v u) Q X.xe s₂) X.xe s₁) X.xe s := by
  refine thn (ha pins s σ H _ I h) fun v s1 ⟨x, H1, I1, r1, q1⟩ => ?_
  refine thn (hb pins s1 σ H1 _ I1 q1) fun u s2 ⟨y, H2, I2, r2, q2⟩ => ?_
  exact hf v u s2 x y H2 I2 r1 r2 q2
def tVar (i : Nat) : TE := fun σ H Q => ∃ v, σ[i]? = some (some v) ∧ Q v H
def tC (v : V) : TE := fun _ H Q => Q v H
theorem pe_var {i : Nat} {x : Str} {pos : Pos} (hN : X.N[i]? = some x) (hv : Vis X.env.scope x) (hd : (x == ("__debug__" : Str)) = false := by decide) (hcd : (x == ("__classdict__" : Str)) = false := by decide) : PE X (.Name x pos) (tVar i) := by
  intro pins s σ H Q I h
  obtain ⟨v, e, h⟩ := h
  obtain ⟨m, hn, hl⟩ := I.loc
  obtain ⟨u, r, l⟩ := hl i x v hN e hv
  have fin : EP X pins σ Q u s := ⟨v, H, I, r, h⟩
  rcases l with ⟨hk, hm⟩ | ⟨hk, c, hc, hcell⟩
  · exact wpAny_Name (wpAny_loadName_local I.ok.kind hk hn hm fin) hd
  · rcases hk with hk | hk
    · exact wpAny_Name (wpAny_loadName_cell I.ok.kind hk hc hcell fin) hd
    · exact wpAny_Name (wpAny_loadName_free I.ok.kind hk hc hcell fin hcd) hd
theorem pe_int {i j pos} : PE X (.Constant (.int i) j pos) (tC (.int i)) := fun _ _ _ H _ I h => wpAny_Constant_int ⟨.int i, H, I.tok _, ⟨_, rfl⟩, h⟩
theorem pe_bl {b j pos} : PE X (.Constant (.bool b) j pos) (tC (.bl b)) := fun _ _ _ H _ I h => Constant_bool ⟨.bl b, H, I, rfl, h⟩
theorem pe_non {j pos} : PE X (.Constant .none j pos) (tC .non) := fun _ _ _ H _ I h => Constant_none ⟨.non, H, I, rfl, h⟩
theorem pe_str {x j pos} : PE X (.Constant (.str x) j pos) (tC (.str x)) := fun _ _ _ H _ I h => Calls.Constant_str ⟨.str x, H, I.tok _, ⟨_, rfl⟩, h⟩
def Gl (X : Cx) (x : Str) : Prop := X.env.kindOf x = some .globalImplicit
theorem ld_glob {E : Value → Shared → Prop} {pins : List (Addr × Obj)} {s : Shared} {σ : St} {H : Hp} {x : Str} {u : Value} {pos : Pos} {Q : Value → Shared → Prop} (I : Inv X pins σ H s) (hg : Gl X x) (hm : X.mg x = some u) (h : Q u s)
    (hd : (x == ("__debug__" : Str)) = false := by decide) : wpAny (model X.prog X.w) X.A (eval (.Name x pos) X.env) Q E s :=
  Calls.Name_function_global I.ok.kind hg (Calls.loadGlobal_global (by rw [I.ok.glob]; exact I.mod.glob.keeps I.bk) hm h) hd
theorem ld_blt {E : Value → Shared → Prop} {pins : List (Addr × Obj)} {s : Shared} {σ : St} {H : Hp} {x : Str} {u : Value} {pos : Pos} {Q : Value → Shared → Prop} (I : Inv X pins σ H s) (hg : Gl X x) (hm : X.mg x = none) (hv : bootBuiltins x = some u) (h : Q u s)
    (hn : x ≠ "__name__" := by decide) (hd : (x == ("__debug__" : Str)) = false := by decide) : wpAny (model X.prog X.w) X.A (eval (.Name x pos) X.env) Q E s := by
  obtain ⟨mb, h1, h2⟩ := I.mod.blt
  exact Calls.Name_function_global I.ok.kind hg (Calls.loadGlobal_builtin (by rw [I.ok.glob]; exact I.mod.glob.keeps I.bk) hm (by rw [I.ok.blt]; exact h1.keeps I.bk) ((h2 x hn).trans hv) h) hd
theorem pe_glob {x : Str} {v : V} {u : Value} {pos : Pos} (hg : Gl X x) (hm : X.mg x = some u) (r : RelV v u) (hd : (x == ("__debug__" : Str)) = false := by decide) : PE X (.Name x pos) (tC v) :=
  fun _ _ _ H _ I h => ld_glob I hg hm ⟨v, H, I, r, h⟩ hd
variable {a b : Expr} {ta tb : TE} {pos : Pos}
def PC (X : Cx) (op : CmpOp) (a b : Expr) (t : TE) : Prop :=
  ∀ (pins : List (Addr × Obj)) (s : Shared) (σ : St) (H : Hp) (Q : VK), Inv X pins σ H s → t σ H Q →
    wpAny (model X.prog X.w) X.A (eval a X.env) (fun v s₁ => wpAny (model X.prog X.w) X.A (eval b X.env) (fun u s₂ => wpAny (model X.prog X.w) X.A (compareOp op v u) (EP X pins σ Q) X.xe s₂) X.xe s₁) X.xe s
theorem nobehind (b : Expr) {op : CmpOp} (h : op ≠ .In) (h2 : op ≠ .NotIn) : behindInMarks op b = false := by
  have e1 : (op == CmpOp.In) = false := by cases op <;> first | rfl | exact absurd rfl h
  have e2 : (op == CmpOp.NotIn) = false := by cases op <;> first | rfl | exact absurd rfl h2
  cases b <;> simp [behindInMarks, e1, e2]
def tB (t : TE) : TT := fun σ H Q => t σ H fun x H1 => ∃ c, x = .bl c ∧ Q c H1
theorem pt_cmp {op : CmpOp} {t : TE} (h : PC X op a b t) (h1 : behindInMarks op b = false := by first | exact nobehind _ (by decide) (by decide) | rfl) : PT X (.Compare a [op] [b] pos) (tB t) := by
  intro pins s σ H Q I hw
  refine wpAny_isTrue_Compare1 (thn (h pins s σ H _ I hw) fun v s1 h1 => thn h1 fun u s2 h2 => thn h2 fun c s3 ⟨x, H1, I1, r1, q1⟩ => ?_) h1
  obtain ⟨d, rfl, q⟩ := q1
  cases r1
  exact wpAny_truthy_bool ⟨H1, I1, q⟩
theorem pt_val {e : Expr} {t : TE} (h : PE X e t) (he : ∀ whole, isTrue e X.env whole = (do let v ← whole; standAt e.pos; holding [v] (truthy v)) := by intro _; rfl) : PT X e (tB t) := by
  intro pins s σ H Q I hw
  refine isTrue_plain (thn (h pins s σ H _ I hw) fun v s1 ⟨x, H1, I1, r1, q1⟩ => ?_) (he _)
  obtain ⟨d, rfl, q⟩ := q1
  cases r1
  exact wpAny_truthy_bool ⟨H1, I1, q⟩
variable {tA tB' : TT} {rest : List Expr}
def tAnd (t u : TT) : TT := fun σ H Q => t σ H fun c H1 => if c = true then u σ H1 Q else Q false H1
def tOr (t u : TT) : TT := fun σ H Q => t σ H fun c H1 => if c = true then Q true H1 else u σ H1 Q
def tNot (t : TT) : TT := fun σ H Q => t σ H fun c H1 => Q (!c) H1
theorem pw_and1 (ha : PT X a tA) : PW X (.BoolOp .And [a] pos) tA := by
  intro wh pins s σ H Q I h
  refine isTrue_and (thn (ha pins s σ H Q I h) fun c s1 e => ?_)
  cases c with
  | true => exact isTrue_and_nil e
  | false => exact e
theorem pw_or1 (ha : PT X a tA) : PW X (.BoolOp .Or [a] pos) tA := by
  intro wh pins s σ H Q I h
  refine isTrue_or (thn (ha pins s σ H Q I h) fun c s1 e => ?_)
  cases c with
  | false => exact isTrue_or_nil e
  | true => exact e
theorem pw_and (ha : PT X a tA) (hb : PW X (.BoolOp .And (b :: rest) pos) tB') : PW X (.BoolOp .And (a :: b :: rest) pos) (tAnd tA tB') := by
  intro wh pins s σ H Q I h
  refine isTrue_and (thn (ha pins s σ H _ I h) fun c s1 ⟨H1, I1, q1⟩ => ?_)
  cases c with
  | true => exact hb wh pins s1 σ H1 Q I1 q1
  | false => exact ⟨H1, I1, q1⟩
theorem pw_or (ha : PT X a tA) (hb : PW X (.BoolOp .Or (b :: rest) pos) tB') : PW X (.BoolOp .Or (a :: b :: rest) pos) (tOr tA tB') := by
  intro wh pins s σ H Q I h
  refine isTrue_or (thn (ha pins s σ H _ I h) fun c s1 ⟨H1, I1, q1⟩ => ?_)
  cases c with
  | true => exact ⟨H1, I1, q1⟩
  | false => exact hb wh pins s1 σ H1 Q I1 q1
theorem pt_not (ha : PT X a tA) : PT X (.UnaryOp .Not a pos) (tNot tA) := by
  intro pins s σ H Q I h
  exact isTrue_not (ha pins s σ H (fun c H1 => Q (!c) H1) I h)
def tIf (t : TT) (ta tb : TE) : TE := fun σ H Q => t σ H fun c H1 => if c = true then ta σ H1 Q else tb σ H1 Q
theorem pe_ifExp {c : Expr} (hc : PT X c tA) (ha : PE X a ta) (hb : PE X b tb) : PE X (.IfExp c a b pos) (tIf tA ta tb) := by
  intro pins s σ H Q I h
  refine wpAny_IfExp (thn (hc pins s σ H _ I h) fun d s1 ⟨H1, I1, q1⟩ => ?_)
  cases d with
  | true => exact ha pins s1 σ H1 Q I1 q1
  | false => exact hb pins s1 σ H1 Q I1 q1
end
end L2
namespace L2
open PySem PySem.Spec PyProof.Rows
def SqL (K : PySem.W.Frag) (H : Hp) (a : Addr) (xs : List V) : Prop :=
  Rd H a (.lst xs) ∨
    ∃ (o : Obj) (its : Array Value) (n : Nat), K.lookup a = some o ∧ o.cls = .type "list" ∧ o.dict = none ∧ o.data = .seq its n ∧ its.size ≤ sizeLine ∧ Vals xs its.toList
def SqT (K : PySem.W.Frag) (H : Hp) (a : Addr) (xs : List V) : Prop :=
  Rd H a (.tup xs) ∨
    ∃ (o : Obj) (its : Array Value) (n : Nat), K.lookup a = some o ∧ o.cls = .type "tuple" ∧ o.data = .seq its n ∧ its.size ≤ sizeLine ∧ Vals xs its.toList
def absV : Value → Option V
  | .none => some .non
  | .bool b => some (.bl b)
  | .int i _ => some (.int i)
  | .str x _ => some (.str x)
  | .bytes b _ => some (.byt b)
  | .float b _ => some (.flt b)
  | .ref a => some (.ref a)
  | .type n => some (.ty n)
  | _ => none
theorem RelV.abs {x : V} {u : Value} (r : RelV x u) : absV u = some x := by
  cases x with
  | non => cases r; rfl
  | bl _ => cases r; rfl
  | int _ => obtain ⟨t, rfl⟩ := r; rfl
  | str _ => obtain ⟨t, rfl⟩ := r; rfl
  | byt _ => obtain ⟨t, rfl⟩ := r; rfl
  | flt _ => obtain ⟨t, rfl⟩ := r; rfl
  | ref _ => cases r; rfl
  | ty _ => cases r; rfl
theorem RelV.inj {x y : V} {u : Value} (r : RelV x u) (q : RelV y u) : x = y := Option.some.inj (r.abs.symm.trans q.abs)
theorem Vals.inj : ∀ {xs ys : List V} {us : List Value}, Vals xs us → Vals ys us → xs = ys
  | _, _, _, .nil, .nil => rfl
  | _, _, _, .cons r t, .cons r' t' => by rw [r.inj r', Vals.inj t t']
section
variable {X : Cx} {pins : List (Addr × Obj)} {σ : St} {H : Hp} {s : Shared} {a : Addr} {xs ys : List V}
theorem SqL.of {K : PySem.W.Frag} (h : H a = some (.lst xs)) : SqL K H a xs := .inl (.inl h)
theorem SqT.of {K : PySem.W.Frag} (h : H a = some (.tup xs)) : SqT K H a xs := .inl (.inl h)
theorem Inv.list (I : Inv X pins σ H s) (h : SqL X.K H a xs) : ∃ its : List Value, Vals xs its ∧ PlainL s.heap a its.toArray ∧ xs.length ≤ sizeLine := by
  rcases h with h | ⟨o, its, n, hk, hc, hd, hs, hz, r⟩
  · obtain ⟨z, its, n, r, e⟩ := h.ok I.hok
    exact ⟨its, r, ⟨_, n, e, rfl, rfl, rfl⟩, z⟩
  · refine ⟨its.toList, r, ⟨o, n, I.kIn a o hk, hc, hd, by simpa using hs⟩, ?_⟩
    have e := r.length
    simp only [Array.length_toList] at e
    omega
theorem Inv.tuple (I : Inv X pins σ H s) (h : SqT X.K H a xs) : ∃ its : List Value, Vals xs its ∧ IsTup s.heap a its.toArray ∧ xs.length ≤ sizeLine := by
  rcases h with h | ⟨o, its, n, hk, hc, hs, hz, r⟩
  · obtain ⟨z, its, r, p⟩ := h.ok I.hok
    exact ⟨its, r, p, z⟩
  · refine ⟨its.toList, r, ⟨o, I.kIn a o hk, hc, n, by simpa using hs⟩, ?_⟩
    have e := r.length
    simp only [Array.length_toList] at e
    omega
theorem Inv.list_inj (I : Inv X pins σ H s) (h : SqL X.K H a xs) (h' : SqL X.K H a ys) : xs = ys := by
  obtain ⟨its, r, ⟨o, n, e, _, _, d⟩, _⟩ := I.list h
  obtain ⟨its', r', ⟨o', n', e', _, _, d'⟩, _⟩ := I.list h'
  rw [e] at e'; cases e'
  rw [d] at d'
  injection d' with d1 _
  have : its = its' := by simpa using congrArg Array.toList d1
  subst this
  exact r.inj r'
theorem Inv.tuple_inj (I : Inv X pins σ H s) (h : SqT X.K H a xs) (h' : SqT X.K H a ys) : xs = ys := by
  obtain ⟨its, r, ⟨o, e, _, n, d⟩, _⟩ := I.tuple h
  obtain ⟨its', r', ⟨o', e', _, n', d'⟩, _⟩ := I.tuple h'
  rw [e] at e'; cases e'
  rw [d] at d'
  injection d' with d1 _
  have : its = its' := by simpa using congrArg Array.toList d1
  subst this
  exact r.inj r'
end
abbrev Cx.wish (X : Cx) (E : Value → Shared → Prop) : Cx := { X with xe := E }
abbrev Cx.nox (X : Cx) : Cx := X.wish fun _ _ => False
theorem Cx.Ok.wish {X : Cx} (ok : X.Ok) (E : Value → Shared → Prop) : (X.wish E).Ok :=
  ⟨ok.mod, ok.kind, ok.glob, ok.blt, ok.above, ok.inj, ok.has, ok.cab, ok.hd, ok.frames, ok.stk, ok.exf, ok.bs, ok.bsz, ok.noex, ok.exfs, ok.funs, ok.frf⟩
theorem Cx.Ok.unwish {X : Cx} {E : Value → Shared → Prop} (ok : (X.wish E).Ok) : X.Ok :=
  ⟨ok.mod, ok.kind, ok.glob, ok.blt, ok.above, ok.inj, ok.has, ok.cab, ok.hd, ok.frames, ok.stk, ok.exf, ok.bs, ok.bsz, ok.noex, ok.exfs, ok.funs, ok.frf⟩
section
variable {X : Cx} {pins : List (Addr × Obj)} {σ : St} {H : Hp} {s : Shared} {E : Value → Shared → Prop}
theorem Inv.wish (I : Inv X pins σ H s) (E : Value → Shared → Prop) : Inv (X.wish E) pins σ H s := ⟨I.ok.wish E, I.os, I.bare, I.base, I.loc, I.cell, I.free, I.freeC, I.pin, I.hok, I.len⟩
theorem Inv.unwish (I : Inv (X.wish E) pins σ H s) : Inv X pins σ H s := ⟨I.ok.unwish, I.os, I.bare, I.base, I.loc, I.cell, I.free, I.freeC, I.pin, I.hok, I.len⟩
theorem SP.unwish {D : Ends} {f : Flow} {s' : Shared} (h : SP (X.wish E) pins D f s') : SP X pins D f s' := by
  cases f with
  | next => obtain ⟨σ', H', I, q⟩ := h; exact ⟨σ', H', I.unwish, q⟩
  | brk => obtain ⟨σ', H', I, q⟩ := h; exact ⟨σ', H', I.unwish, q⟩
  | cont => obtain ⟨σ', H', I, q⟩ := h; exact ⟨σ', H', I.unwish, q⟩
  | ret u => obtain ⟨v, σ', H', I, r, q⟩ := h; exact ⟨v, σ', H', I.unwish, r, q⟩
theorem PE.nox {e : Expr} {t : TE} (h : PE X.nox e t) : PE X e t := fun pins s σ H Q I hw =>
  wpAny_mono (h pins s σ H Q (I.wish _) hw) (fun _ _ ⟨v, H', I', r, q⟩ => ⟨v, H', I'.unwish, r, q⟩) fun _ _ z => False.elim z
theorem PT.nox {e : Expr} {t : TT} (h : PT X.nox e t) : PT X e t := fun pins s σ H Q I hw =>
  wpAny_mono (h pins s σ H Q (I.wish _) hw) (fun _ _ ⟨H', I', q⟩ => ⟨H', I'.unwish, q⟩) fun _ _ z => False.elim z
theorem PSs.nox {st : List Stmt} {t : TS} (h : PSs X.nox st t) : PSs X st t := fun pins s σ H D I hw =>
  wpAny_mono (h pins s σ H D (I.wish _) hw) (fun _ _ q => q.unwish) fun _ _ z => False.elim z
end
section
variable {X : Cx} {st : Stmt} {rest : List Stmt} {t u : TS} {e : Expr} {te : TE} {pos : Pos}
def tNext : TS := fun D σ H => D.nx σ H
def tSeq (t u : TS) : TS := fun D σ H => t { D with nx := u D } σ H
theorem pss_nil : PSs X [] tNext := fun _ _ σ H _ I h => wpAny_execs_nil ⟨σ, H, I, h⟩
theorem pss_cons (h1 : PS X st t) (h2 : PSs X rest u) : PSs X (st :: rest) (tSeq t u) := by
  intro pins s σ H D I h
  refine wpAny_execs_cons (thn (h1 pins s σ H { D with nx := u D } I h) fun f s1 q => ?_)
  cases f with
  | next =>
    obtain ⟨σ', H', I', q⟩ := q
    exact h2 pins s1 σ' H' D I' q
  | ret v => exact q
  | brk => exact q
  | cont => exact q
theorem pss_one (h1 : PS X st t) : PSs X [st] t := by
  intro pins s σ H D I h
  refine wpAny_execs_cons (thn (h1 pins s σ H D I h) fun f s1 q => ?_)
  cases f with
  | next => exact wpAny_execs_nil q
  | ret v => exact q
  | brk => exact q
  | cont => exact q
def tCont : TS := fun D σ H => D.ct σ H
theorem ps_continue : PS X (.Continue pos) tCont := fun _ _ σ H _ I h => wpAny_Continue ⟨σ, H, I, h⟩
theorem Inv.quiet {pins : List (Addr × Obj)} {σ : St} {H : Hp} {s : Shared} (I : Inv X pins σ H s) : interactive X.env = false := by simp [interactive, I.ok.kind]
def tDrop (te : TE) : TS := fun D σ H => te σ H fun _ H1 => D.nx σ H1
theorem ps_expr (he : PE X e te) (hs : swapsWith e none pos.line X.env = pure false := by rfl) : PS X (.Expr e pos) (tDrop te) := by
  intro pins s σ H D I h
  exact wpAny_Expr_any (thn (he pins s σ H _ I h) fun v s1 ⟨x, H1, I1, r1, q1⟩ => ⟨σ, H1, I1, q1⟩) I.quiet hs
def tRet (te : TE) : TS := fun D σ H => te σ H D.rt
theorem ps_ret (he : PE X e te) : PS X (.Return (some e) pos) (tRet te) := by
  intro pins s σ H D I h
  exact wpAny_Return_some (thn (he pins s σ H _ I h) fun v s1 ⟨x, H1, I1, r1, q1⟩ => ⟨x, σ, H1, I1, r1, q1⟩)
def tRetN : TS := fun D _ H => D.rt .non H
theorem ps_retN : PS X (.Return none pos) tRetN := fun _ _ σ H _ I h => wpAny_Return_none ⟨.non, σ, H, I, rfl, h⟩
def tIfS (c : TT) (t u : TS) : TS := fun D σ H => c σ H fun b H1 => if b = true then t D σ H1 else u D σ H1
theorem ps_if {c : Expr} {a b : List Stmt} {tc : TT} (hc : PT X c tc) (ha : PSs X a t) (hb : PSs X b u) : PS X (.If c a b pos) (tIfS tc t u) := by
  intro pins s σ H D I h
  refine wpAny_If (thn (hc pins s σ H _ I h) fun d s1 ⟨H1, I1, q1⟩ => ?_)
  cases d with
  | true => exact ha pins s1 σ H1 D I1 q1
  | false => exact hb pins s1 σ H1 D I1 q1
def tNever : TS := fun _ _ _ => False
theorem ps_never : PS X st tNever := fun _ _ _ _ _ _ h => h.elim
end
abbrev TG := V → St → Hp → (St → Hp → Prop) → Prop
abbrev TGs := List V → St → Hp → (St → Hp → Prop) → Prop
def PG (X : Cx) (target : Expr) (t : TG) : Prop :=
  ∀ (pins : List (Addr × Obj)) (s : Shared) (σ : St) (H : Hp) (v : V) (u : Value) (Q : St → Hp → Prop), Inv X pins σ H s → RelV v u → t v σ H Q →
    wpAny (model X.prog X.w) X.A (assign target X.env u) (fun _ s' => ∃ σ' H', Inv X pins σ' H' s' ∧ Q σ' H') X.xe s
def PGs (X : Cx) (ts : List Expr) (t : TGs) : Prop :=
  ∀ (pins : List (Addr × Obj)) (s : Shared) (σ : St) (H : Hp) (vs : List V) (us : List Value) (Q : St → Hp → Prop), Inv X pins σ H s → Vals vs us → t vs σ H Q →
    wpAny (model X.prog X.w) X.A (assignInOrder ((assignEach ts X.env).map (·.2)) us) (fun _ s' => ∃ σ' H', Inv X pins σ' H' s' ∧ Q σ' H') X.xe s
abbrev TSet := V → V → V → Hp → (Hp → Prop) → Prop
def PSet (X : Cx) (t : TSet) : Prop :=
  ∀ (pins : List (Addr × Obj)) (s : Shared) (σ : St) (H : Hp) (o i v : V) (ov iv u : Value) (Q : Hp → Prop), Inv X pins σ H s → RelV o ov → RelV i iv → RelV v u → t o i v H Q →
    wpAny (model X.prog X.w) X.A (setItem ov iv u) (fun _ s' => ∃ H', Inv X pins σ H' s' ∧ Q H') X.xe s
abbrev TIp := V → V → Hp → VK → Prop
def PIp (X : Cx) (op : Operator) (t : TIp) : Prop :=
  ∀ (pins : List (Addr × Obj)) (s : Shared) (σ : St) (H : Hp) (x y : V) (v u : Value) (Q : VK), Inv X pins σ H s → RelV x v → RelV y u → t x y H Q →
    wpAny (model X.prog X.w) X.A (inplaceOp op v u) (EP X pins σ Q) X.xe s
section
variable {X : Cx} {pos : Pos}
def gName (i : Nat) : TG := fun v σ H Q => Q (σ.set i (some v)) H
theorem pg_name {i : Nat} {x : Str} (hN : X.N.Nodup) (hi : X.N[i]? = some x) (hx : Loc X.env.scope x) (hf : X.fn x = true ∨ X.env.scope.names.lookup x = some .local := by first | exact .inl rfl | exact .inr rfl | assumption) : PG X (.Name x pos) (gName i) := by
  intro pins s σ H v u Q I r h
  exact wpAny_assign_Name (store_ok I hN hi hx r (fun s' I' => ⟨_, H, I', h⟩) hf)
def gNil : TGs := fun vs σ H Q => vs = [] ∧ Q σ H
def gCons (t : TG) (u : TGs) : TGs := fun vs σ H Q => ∃ v r, vs = v :: r ∧ t v σ H fun σ' H' => u r σ' H' Q
theorem pgs_nil : PGs X [] gNil := by
  intro pins s σ H vs us Q I r h
  obtain ⟨e, h⟩ := h
  subst e
  cases r
  exact assignInOrder_nil ⟨σ, H, I, h⟩
theorem pgs_cons {e : Expr} {es : List Expr} {t : TG} {u : TGs} (h1 : PG X e t) (h2 : PGs X es u)
    (hs : (assignEach (e :: es) X.env).map (·.2) = assign e X.env :: (assignEach es X.env).map (·.2) := by rfl) : PGs X (e :: es) (gCons t u) := by
  intro pins s σ H vs us Q I r h
  obtain ⟨v, vr, e1, h⟩ := h
  subst e1
  cases r with
  | cons r rr =>
    rw [hs]
    refine assignInOrder_cons (thn (h1 pins s σ H _ _ _ I r h) fun _ s1 ⟨σ1, H1, I1, q1⟩ => ?_)
    exact h2 pins s1 σ1 H1 _ _ Q I1 rr q1
def gTup (K : PySem.W.Frag) (n : Nat) (t : TGs) : TG := fun v σ H Q => ∃ a xs, v = .ref a ∧ SqT K H a xs ∧ xs.length = n ∧ t xs σ H Q
theorem pg_tup {es : List Expr} {k : Nat} {t : TGs} {n : Nat} (hc : X.calm = true) (h : PGs X es t)
    (hn : (assignEach es X.env).length = n := by rfl) (hst : (assignEach es X.env).findIdx? (·.1) = none := by rfl) : PG X (.Tuple es k pos) (gTup X.K n t) := by
  intro pins s σ H v u Q I r hw
  obtain ⟨a, xs, e1, hq, hl, hw⟩ := hw
  subst e1
  cases r
  obtain ⟨its, rv, ht, hz⟩ := I.tuple hq
  refine assign_Tuple_tuple (I.ok.hd hc) ht (by simp [hn, ← hl, rv.length]) hst fun h' hx => ?_
  have I1 : Inv X pins σ H { s with heap := h' } := I.kept (t' := s.toks) fun b o e => hx b o (Nat.ne_of_lt (Heap.lt_size e)) e
  exact h pins _ σ H xs _ Q I1 (by simpa using rv) hw
def gSub (to ti : TE) (t : TSet) : TG := fun v σ H Q => to σ H fun o H1 => ti σ H1 fun i H2 => t o i v H2 fun H3 => Q σ H3
theorem pg_sub {o i : Expr} {to ti : TE} {t : TSet} (ho : PE X o to) (hi : PE X i ti) (hs : PSet X t)
    (ha : ∀ v, assign (.Subscript o i pos) X.env v = (do
      let ov ← holding [v] (eval o X.env)
      let iv ← holding [v, ov] (eval i X.env)
      standAt pos
      holding [v, ov, iv] (setItem ov iv v)
      release [v, ov, iv] []) := by intro _; rfl) : PG X (.Subscript o i pos) (gSub to ti t) := by
  intro pins s σ H v u Q I r h
  rw [ha]
  refine wpAny_bind (wpAny_holding (thn (ho pins s σ H _ I h) fun ov s1 ⟨x, H1, I1, r1, q1⟩ => ?_))
  refine wpAny_bind (wpAny_holding (thn (hi pins s1 σ H1 _ I1 q1) fun iv s2 ⟨y, H2, I2, r2, q2⟩ => ?_))
  refine wpAny_bind (wpAny_standAt (wpAny_bind (wpAny_holding (thn (hs pins s2 σ H2 x y v ov iv u _ I2 r1 r2 r q2) fun _ s3 ⟨H3, I3, q3⟩ => ?_))))
  exact wpAny_release ⟨σ, H3, I3, q3⟩
def tAsg (te : TE) (g : TG) : TS := fun D σ H => te σ H fun x H1 => g x σ H1 D.nx
theorem ps_asg {tg e : Expr} {te : TE} {g : TG} (he : PE X e te) (hg : PG X tg g) (hs : swapsWithSole [tg] e pos.line X.env = pure false := by rfl) (hw : swappedStores [tg] e X.env = pure none := by rfl)
    (h1 : (assignEach [tg] X.env).map (·.2) = [assign tg X.env] := by rfl) : PS X (.Assign [tg] e pos) (tAsg te g) := by
  intro pins s σ H D I h
  refine wpAny_Assign_stores (thn (he pins s σ H _ I h) fun v s1 ⟨x, H1, I1, r1, q1⟩ => ?_) hs hw
  rw [h1]
  exact thn (hg pins s1 σ H1 x v _ I1 r1 q1) fun _ s2 q => q
theorem ps_set {i : Nat} {x : Str} {e : Expr} {te : TE} {pos' : Pos} (hN : X.N.Nodup) (hi : X.N[i]? = some x) (hx : Loc X.env.scope x) (he : PE X e te) (hs : swapsWith e (some (.Name x pos')) pos.line X.env = pure false := by rfl) (hf : X.fn x = true ∨ X.env.scope.names.lookup x = some .local := by first | exact .inl rfl | exact .inr rfl | assumption) :
    PS X (.Assign [.Name x pos'] e pos) (tAsg te (gName i)) := by
  intro pins s σ H D I h
  refine wpAny_Assign_Name (thn (he pins s σ H _ I h) fun v s1 ⟨y, H1, I1, r1, q1⟩ => ?_) hs
  exact store_ok I1 hN hi hx r1 (fun s2 I2 => ⟨_, H1, I2, q1⟩) hf
def tAug (i : Nat) (te : TE) (ti : TIp) : TS := fun D σ H => ∃ x, σ[i]? = some (some x) ∧ te σ H fun y H1 => ti x y H1 fun z H2 => D.nx (σ.set i (some z)) H2
theorem ps_aug {i : Nat} {x : Str} {e : Expr} {te : TE} {op : Operator} {ti : TIp} {pos' : Pos} (hN : X.N.Nodup) (hi : X.N[i]? = some x) (hx : Loc X.env.scope x) (he : PE X e te) (ho : PIp X op ti) (hf : X.fn x = true ∨ X.env.scope.names.lookup x = some .local := by first | exact .inl rfl | exact .inr rfl | assumption) :
    PS X (.AugAssign (.Name x pos') op e pos) (tAug i te ti) := by
  intro pins s σ H D I h
  obtain ⟨v, e1, h⟩ := h
  obtain ⟨m, hn, hl⟩ := I.loc
  have vis : Vis X.env.scope x := by rcases hx with k | k; exact .inl k; exact .inr (.inl k)
  obtain ⟨u, r, l⟩ := hl i x v hi e1 vis
  refine wpAny_AugAssign_Name ?_
  have go : wpAny (model X.prog X.w) X.A (eval e X.env) (fun w s₂ => wpAny (model X.prog X.w) X.A (inplaceOp op u w) (fun r s₃ => wpAny (model X.prog X.w) X.A (storeName X.env x r) (fun _ => SP X pins D .next) X.xe s₃) X.xe s₂) X.xe s := by
    refine thn (he pins s σ H _ I h) fun w s1 ⟨y, H1, I1, r1, q1⟩ => ?_
    refine thn (ho pins s1 σ H1 v y u w _ I1 r r1 q1) fun z s2 ⟨zv, H2, I2, r2, q2⟩ => ?_
    exact store_ok I2 hN hi hx r2 (fun s3 I3 => ⟨_, H2, I3, q2⟩) hf
  rcases l with ⟨hk, hm⟩ | ⟨hk, c, hc, hcell⟩
  · exact wpAny_loadName_local I.ok.kind hk hn hm go
  · rcases hk with hk | hk
    · exact wpAny_loadName_cell I.ok.kind hk hc hcell go
    · rcases hx with k | k
      · have : X.env.scope.names.lookup x = some .free := hk
        rw [k] at this; cases this
      · have : X.env.scope.names.lookup x = some .free := hk
        rw [k] at this; cases this
def tAugS (to ti te : TE) (tget : V → V → Hp → VK → Prop) (tip : TIp) (tset : TSet) : TS := fun D σ H => to σ H fun o H1 => ti σ H1 fun i H2 => tget o i H2 fun x H3 => te σ H3 fun y H4 => tip x y H4 fun z H5 => tset o i z H5 fun H6 => D.nx σ H6
def PGet (X : Cx) (t : V → V → Hp → VK → Prop) : Prop :=
  ∀ (pins : List (Addr × Obj)) (s : Shared) (σ : St) (H : Hp) (o i : V) (ov iv : Value) (Q : VK), Inv X pins σ H s → RelV o ov → RelV i iv → t o i H Q →
    wpAny (model X.prog X.w) X.A (getItem ov iv) (EP X pins σ Q) X.xe s
theorem ps_augS {o i e : Expr} {to ti te : TE} {tget : V → V → Hp → VK → Prop} {tip : TIp} {tset : TSet} {op : Operator} {tpos : Pos} (ho : PE X o to) (hi : PE X i ti) (hg : PGet X tget) (he : PE X e te) (hp : PIp X op tip) (hs : PSet X tset)
    (ha : ∀ ov iv new, augStore i ov iv new = (do holding [new, ov, iv] (setItem ov iv new); release [new, ov, iv] []; pure .next) := by intros; rfl) : PS X (.AugAssign (.Subscript o i tpos) op e pos) (tAugS to ti te tget tip tset) := by
  intro pins s σ H D I h
  refine wpAny_AugAssign_SubscriptAny (thn (ho pins s σ H _ I h) fun ov s1 ⟨x1, H1, I1, r1, q1⟩ => ?_) ha
  refine thn (hi pins s1 σ H1 _ I1 q1) fun iv s2 ⟨x2, H2, I2, r2, q2⟩ => ?_
  refine thn (hg pins s2 σ H2 x1 x2 ov iv _ I2 r1 r2 q2) fun old s3 ⟨x3, H3, I3, r3, q3⟩ => ?_
  refine thn (he pins s3 σ H3 _ I3 q3) fun v s4 ⟨x4, H4, I4, r4, q4⟩ => ?_
  refine thn (hp pins s4 σ H4 x3 x4 old v _ I4 r3 r4 q4) fun new s5 ⟨x5, H5, I5, r5, q5⟩ => ?_
  exact thn (hs pins s5 σ H5 x1 x2 x5 ov iv new _ I5 r1 r2 r5 q5) fun _ s6 ⟨H6, I6, q6⟩ => ⟨σ, H6, I6, q6⟩
def ipI (f : Int → Int → Int) : TIp := fun x y H Q => ∃ i j, x = .int i ∧ y = .int j ∧ Q (.int (f i j)) H
theorem ip_add : PIp X .Add (ipI fun i j => i + j) := by
  intro pins s σ H x y v u Q I r1 r2 h
  obtain ⟨i, j, e1, e2, q⟩ := h
  subst e1; subst e2
  obtain ⟨t, rfl⟩ := r1
  obtain ⟨t', rfl⟩ := r2
  exact iadd_int ⟨.int _, H, I.tok _, ⟨_, rfl⟩, q⟩
theorem ip_sub : PIp X .Sub (ipI fun i j => i - j) := by
  intro pins s σ H x y v u Q I r1 r2 h
  obtain ⟨i, j, e1, e2, q⟩ := h
  subst e1; subst e2
  obtain ⟨t, rfl⟩ := r1
  obtain ⟨t', rfl⟩ := r2
  exact isub_int ⟨.int _, H, I.tok _, ⟨_, rfl⟩, q⟩
end
section
variable {X : Cx} {pos : Pos}
def tWhile (c : TT) (tb : TS) : TS := fun D σ H => ∃ W : Nat → St → Hp → Prop, (∃ m, W m σ H) ∧ ∀ m σ H, W m σ H →
  c σ H fun b H1 => if b = true then ∃ N : St → Hp → Prop, (∀ σ' H', N σ' H' → ∃ m', m' < m ∧ W m' σ' H') ∧ tb { D with nx := N, ct := N, bk := D.nx } σ H1 else D.nx σ H1
theorem ps_while {c : Expr} {body : List Stmt} {tc : TT} {tb : TS} (hp : PassesOwn (model X.prog X.w) X.A X.env X.xe) (hc : PT X c tc) (hb : PSs X body tb) : PS X (.While c body [] pos) (tWhile tc tb) := by
  intro pins s σ H D I h
  obtain ⟨W, ⟨m0, w0⟩, turn⟩ := h
  refine wpAny_While (codeAny_whileLoop (fun n s' => ∃ σ' H', Inv X pins σ' H' s' ∧ W n σ' H') ?_ m0 ⟨σ, H, I, w0⟩)
  rintro n s1 ⟨σ1, H1, I1, w1⟩
  refine wpAny_passesOwn hp (thn (hc pins s1 σ1 H1 _ I1 (turn n σ1 H1 w1)) fun b s2 ⟨H2, I2, q2⟩ => ?_)
  cases b with
  | true =>
    obtain ⟨N, hN, q2⟩ := q2
    rw [if_pos rfl]
    refine wpAny_passesOwn hp (thn (hb pins s2 σ1 H2 _ I2 q2) fun f s3 q3 => ?_)
    cases f with
    | next =>
      obtain ⟨σ3, H3, I3, n3⟩ := q3
      obtain ⟨m', hm, w3⟩ := hN σ3 H3 n3
      exact ⟨m', hm, σ3, H3, I3, w3⟩
    | cont =>
      obtain ⟨σ3, H3, I3, n3⟩ := q3
      obtain ⟨m', hm, w3⟩ := hN σ3 H3 n3
      exact ⟨m', hm, σ3, H3, I3, w3⟩
    | brk => exact q3
    | ret v => exact q3
  | false =>
    rw [if_neg Bool.false_ne_true]
    exact wpAny_execs_nil ⟨σ1, H2, I2, q2⟩
end
structure It where
  go : Nat → Hp → Prop
  yld : Nat → Hp → V → Hp → Prop
  stop : Nat → Hp → Prop
def FpOk (X : Cx) (pins : List (Addr × Obj)) (H : Hp) (b : Addr) : Prop :=
  H b = none ∧ b ≠ X.env.locals ∧ b ∉ X.fs ∧ (b ∈ X.ex ∨ X.s₀.heap.objs.size ≤ b) ∧ (∀ x c, X.env.cells.lookup x = some c → c ≠ b) ∧ ∀ p ∈ X.pn ++ pins, p.1 ≠ b
theorem Inv.fpOk {X : Cx} {pins : List (Addr × Obj)} {σ : St} {H H' : Hp} {s : Shared} {b : Addr} (I : Inv X pins σ H s) (hb : s.heap.objs.size ≤ b) (hn : H' b = none) : FpOk X pins H' b := by
  refine ⟨hn, Nat.ne_of_gt (Nat.lt_of_lt_of_le I.lt hb), I.nofs hb, .inr (Nat.le_trans I.sz hb), fun x c e z => ?_, fun p hp z => ?_⟩
  · obtain ⟨v, q⟩ := I.cell x c e
    exact absurd (Nat.lt_of_lt_of_le q.lt (by rw [z]; exact hb)) (Nat.lt_irrefl _)
  · exact absurd (Nat.lt_of_lt_of_le (Heap.lt_size (I.pin p hp).1) (by rw [z]; exact hb)) (Nat.lt_irrefl _)
structure Turn (P : Program) (w : World) (K : PySem.W.Frag) (tg : Expr) (J : It) (fp : List Addr) (it : Addr) (tn : Nat → Heap → Prop) : Prop where
  mem : it ∈ fp
  obj : ∀ i h, tn i h → ∀ b ∈ fp, ∃ o, h.get? b = some o ∧ ∀ v, o.data ≠ .cell v
  keep : ∀ i h h', tn i h → (∀ b ∈ fp, ∀ o, h.get? b = some o → h'.get? b = some o) → tn i h'
  item : ∀ (X : Cx), X.prog = P → X.w = w → X.K = K → X.calm = true → ∀ (i : Nat) (pins : List (Addr × Obj)) (s : Shared) (σ : St) (H : Hp) (E : Value → Shared → Prop), Inv X pins σ H s → (∀ b ∈ fp, FpOk X pins H b) → tn i s.heap → J.go i H →
    wpAny (model P w) X.A (pyNext (.ref it)) (fun r s1 => ∃ u, r = some u ∧
      wpAny (model P w) X.A (letOwnedTupleGo tg (.ref it) u) (fun _ s2 => ∃ x H', Inv X pins σ H' s2 ∧ RelV x u ∧ J.yld i H x H' ∧ tn (i + 1) s2.heap ∧ ∀ b ∈ fp, H' b = none) E s1) E s
  done : ∀ (X : Cx), X.prog = P → X.w = w → X.K = K → X.calm = true → ∀ (i : Nat) (pins : List (Addr × Obj)) (s : Shared) (σ : St) (H : Hp) (E : Value → Shared → Prop), Inv X pins σ H s → (∀ b ∈ fp, FpOk X pins H b) → tn i s.heap → J.stop i H →
    wpAny (model P w) X.A (pyNext (.ref it)) (fun r s1 => r = none ∧ Inv X pins σ H s1) E s
  self : ∀ (A : Around) (i : Nat) (s : Shared) (Q : Value → Shared → Prop) (E : Value → Shared → Prop), tn i s.heap → Q (.ref it) s → wpAny (model P w) A (pyIter (.ref it)) Q E s
abbrev TI := St → Hp → (It → Hp → Prop) → Prop
def PIE (X : Cx) (pins : List (Addr × Obj)) (σ : St) (tg : Expr) (R : It → Hp → Prop) (itv : Value) (s2 : Shared) : Prop :=
  ∃ (it : Addr) (fp : List Addr) (tn : Nat → Heap → Prop) (J : It) (H' : Hp), itv = .ref it ∧ Inv X pins σ H' s2 ∧ Turn X.prog X.w X.K tg J fp it tn ∧ tn 0 s2.heap ∧ (∀ b ∈ fp, FpOk X pins H' b) ∧ R J H'
def PI (X : Cx) (tg iter : Expr) (wi : TI) : Prop :=
  ∀ (pins : List (Addr × Obj)) (s : Shared) (σ : St) (H : Hp) (R : It → Hp → Prop), Inv X pins σ H s → wi σ H R →
    wpAny (model X.prog X.w) X.A (eval iter X.env) (fun v s1 => wpAny (model X.prog X.w) X.A (pyIter v) (PIE X pins σ tg R) X.xe s1) X.xe s
theorem go_of {M : Model} {A : Around} {E : Value → Shared → Prop} {s : Shared} {tg : Expr} {it : Addr} {u : Value} {o : Obj} {n : String} {vs : Array Value} {Q : Unit → Shared → Prop} (ho : s.heap.get? it = some o) (hc : o.cls = .type n) (hd : o.data = .fields vs)
    (hn : ["enumerate", "zip", "dict_itemiterator", "dict_reverseitemiterator", "odict_iterator", "itertools.zip_longest", "itertools.pairwise"].contains n = false) (hQ : Q () s) : wpAny M A (letOwnedTupleGo tg (.ref it) u) Q E s := by
  unfold letOwnedTupleGo
  cases tg <;> first
    | exact wpAny_pure hQ
    | (cases u <;> first
        | exact wpAny_pure hQ
        | (refine wpAny_bind (wpAny_load ho ?_)
           rw [hc, hd]
           show wpAny M A (if (["enumerate", "zip", "dict_itemiterator", "dict_reverseitemiterator", "odict_iterator", "itertools.zip_longest", "itertools.pairwise"].contains n && vs[0]? == some (rawInt _)) = true then _ else _) Q E s
           rw [if_neg (by intro h; rw [hn, Bool.false_and] at h; cases h)]
           exact wpAny_pure hQ))
def Itl (K : PySem.W.Frag) (a : Addr) : It :=
  ⟨fun i H => ∃ xs x, SqL K H a xs ∧ xs[i]? = some x, fun i H x H' => H' = H ∧ ∀ xs, SqL K H a xs → xs[i]? = some x, fun i H => ∃ xs, SqL K H a xs ∧ xs.length ≤ i⟩
def Itt (K : PySem.W.Frag) (a : Addr) : It :=
  ⟨fun i H => ∃ xs x, SqT K H a xs ∧ xs[i]? = some x, fun i H x H' => H' = H ∧ ∀ xs, SqT K H a xs → xs[i]? = some x, fun i H => ∃ xs, SqT K H a xs ∧ xs.length ≤ i⟩
def Itr (lo : Int) (n : Nat) : It := ⟨fun i _ => i < n, fun i H x H' => H' = H ∧ x = .int (lo + i), fun i _ => n ≤ i⟩
theorem turn_list {P : Program} {w : World} {K : PySem.W.Frag} {tg : Expr} (a it : Addr) : Turn P w K tg (Itl K a) [it] it (fun i h => h.IsListIter it a i) where
  mem := by simp
  obj := fun i h st b hb => by
    have e : b = it := by simpa using hb
    subst e
    obtain ⟨o, e, c, d⟩ := st
    exact ⟨o, e, fun v z => by rw [d] at z; cases z⟩
  keep := fun i h h' st k => st.at fun o e => k it (by simp) o e
  item := by
    intro X hP hw hK hc i pins s σ H E I hf st hg
    subst hP hw hK
    obtain ⟨xs, x, hq, hx⟩ := hg
    obtain ⟨its, rv, p, hz⟩ := I.list hq
    obtain ⟨u, hu, ru⟩ := rv.get hx
    obtain ⟨f0, f1, f2, f3, f4, f5⟩ := hf it (by simp)
    refine wpAny_pyNext_list_item st p.isList (x := u) (by simpa using hu) fun h' st' sb => ?_
    have I1 : Inv X pins σ H { s with heap := h' } := I.turned (t' := s.toks) (fun b o hb e => (sb.2 b hb).trans e) f0 f1 f3 f4 f5
    obtain ⟨o, e, c, d⟩ := id st'
    exact ⟨u, rfl, go_of (s := { s with heap := h' }) e c d (by decide) ⟨x, H, I1, ru, ⟨rfl, fun ys hy => by rw [I.list_inj hy hq]; exact hx⟩, st', fun b hb => (hf b hb).1⟩⟩
  done := by
    intro X hP hw hK hc i pins s σ H E I hf st hg
    subst hP hw hK
    obtain ⟨xs, hq, hx⟩ := hg
    obtain ⟨its, rv, p, hz⟩ := I.list hq
    obtain ⟨f0, f1, f2, f3, f4, f5⟩ := hf it (by simp)
    have hl := rv.length
    exact wpAny_pyNext_list_end (I.ok.hd hc) st p.isList (by simp; omega) fun h' eb => ⟨rfl, I.turned (t' := s.toks) (fun b o hb e => eb b o hb e) f0 f1 f3 f4 f5⟩
  self := fun _ _ _ _ _ st h => wpAny_pyIter_listiter st h
theorem turn_tuple {P : Program} {w : World} {K : PySem.W.Frag} {tg : Expr} (a it : Addr) : Turn P w K tg (Itt K a) [it] it (fun i h => h.IsTupleIter it a i) where
  mem := by simp
  obj := fun i h st b hb => by
    have e : b = it := by simpa using hb
    subst e
    obtain ⟨o, e, c, d⟩ := st
    exact ⟨o, e, fun v z => by rw [d] at z; cases z⟩
  keep := fun i h h' st k => st.at fun o e => k it (by simp) o e
  item := by
    intro X hP hw hK hc i pins s σ H E I hf st hg
    subst hP hw hK
    obtain ⟨xs, x, hq, hx⟩ := hg
    obtain ⟨its, rv, p, hz⟩ := I.tuple hq
    obtain ⟨u, hu, ru⟩ := rv.get hx
    obtain ⟨f0, f1, f2, f3, f4, f5⟩ := hf it (by simp)
    refine wpAny_pyNext_tuple_item st (show s.heap.IsTuple a its.toArray from p) (x := u) (by simpa using hu) fun h' st' sb => ?_
    have I1 : Inv X pins σ H { s with heap := h' } := I.turned (t' := s.toks) (fun b o hb e => (sb.2 b hb).trans e) f0 f1 f3 f4 f5
    obtain ⟨o, e, c, d⟩ := id st'
    exact ⟨u, rfl, go_of (s := { s with heap := h' }) e c d (by decide) ⟨x, H, I1, ru, ⟨rfl, fun ys hy => by rw [I.tuple_inj hy hq]; exact hx⟩, st', fun b hb => (hf b hb).1⟩⟩
  done := by
    intro X hP hw hK hc i pins s σ H E I hf st hg
    subst hP hw hK
    obtain ⟨xs, hq, hx⟩ := hg
    obtain ⟨its, rv, p, hz⟩ := I.tuple hq
    obtain ⟨f0, f1, f2, f3, f4, f5⟩ := hf it (by simp)
    have hl := rv.length
    exact wpAny_pyNext_tuple_end (I.ok.hd hc) st (show s.heap.IsTuple a its.toArray from p) (by simp; omega) fun h' eb => ⟨rfl, I.turned (t' := s.toks) (fun b o hb e => eb b o hb e) f0 f1 f3 f4 f5⟩
  self := fun _ _ _ _ _ st h => wpAny_pyIter_tupleiter st h
theorem turn_range {P : Program} {w : World} {K : PySem.W.Frag} {tg : Expr} (it : Addr) (lo : Int) (n : Nat) : Turn P w K tg (Itr lo n) [it] it (fun i h => IsRangeIter h it (lo + (i : Nat) * 1) ((n : Int) - (i : Nat)) 1) where
  mem := by simp
  obj := fun i h st b hb => by
    have e : b = it := by simpa using hb
    subst e
    exact ⟨_, st, fun v z => by
      have z' : Data.fields _ = Data.cell v := z
      cases z'⟩
  keep := fun i h h' st k => k it (by simp) _ st
  item := by
    intro X hP hw hK hc i pins s σ H E I hf st hg
    subst hP hw hK
    obtain ⟨f0, f1, f2, f3, f4, f5⟩ := hf it (by simp)
    have W := Walks.range (prog := X.prog) (w := X.w) (I.ok.hd hc) it lo 1 n
    refine W.item i s _ _ hg st fun v h' tk hv st' kk => ?_
    obtain ⟨t, rfl⟩ := hv
    have I1 : Inv X pins σ H { s with heap := h', toks := tk } := I.turned (fun b o hb e => kk b o (by simpa using hb) e) f0 f1 f3 f4 f5
    refine ⟨_, rfl, go_of (s := { s with heap := h', toks := tk }) (n := "range_iterator") st' rfl rfl (by decide) ⟨.int (lo + i), H, I1, ⟨t, ?_⟩, ⟨rfl, rfl⟩, st', fun b hb => (hf b hb).1⟩⟩
    rw [Int.mul_one]
  done := by
    intro X hP hw hK hc i pins s σ H E I hf st hg
    subst hP hw hK
    obtain ⟨f0, f1, f2, f3, f4, f5⟩ := hf it (by simp)
    exact wpAny_pyNext_range_end (I.ok.hd hc) st (by have : n ≤ i := hg; omega) fun h' eb => ⟨rfl, I.turned (t' := s.toks) (fun b o hb e => eb b o hb e) f0 f1 f3 f4 f5⟩
  self := fun _ _ _ _ _ st h => wpAny_pyIter_rangeiter st h
end L2
namespace L2
open PySem PySem.Spec PyProof.Rows
section
variable {X : Cx} {tg : Expr}
def iList (K : PySem.W.Frag) (tl : TE) : TI := fun σ H R => tl σ H fun x H1 => ∃ a, x = .ref a ∧ (∃ xs, SqL K H1 a xs) ∧ R (Itl K a) H1
def iTup (K : PySem.W.Frag) (tl : TE) : TI := fun σ H R => tl σ H fun x H1 => ∃ a, x = .ref a ∧ (∃ xs, SqT K H1 a xs) ∧ R (Itt K a) H1
theorem pi_list {l : Expr} {tl : TE} (hl : PE X l tl) : PI X tg l (iList X.K tl) := by
  intro pins s σ H R I h
  refine thn (hl pins s σ H _ I h) fun v s1 ⟨x, H1, I1, r1, q1⟩ => ?_
  obtain ⟨a, e, ⟨xs, hq⟩, q⟩ := q1
  subst e
  cases r1
  obtain ⟨its, rv, p, hz⟩ := I1.list hq
  refine wpAny_pyIter_list p.isList ?_
  refine ⟨s1.heap.objs.size, [s1.heap.objs.size], _, _, H1, rfl, I1.kept (t' := s1.toks) fun b o e => Heap.get?_push_of_some _ e, turn_list a _, ⟨_, Heap.get?_push_size _ rfl, rfl, rfl⟩, fun b hb => ?_, q⟩
  have e : b = s1.heap.objs.size := by simpa using hb
  subst e
  exact I1.fpOk (Nat.le_refl _) (I1.hok.fresh (Nat.le_refl _))
theorem pi_tup {l : Expr} {tl : TE} (hl : PE X l tl) : PI X tg l (iTup X.K tl) := by
  intro pins s σ H R I h
  refine thn (hl pins s σ H _ I h) fun v s1 ⟨x, H1, I1, r1, q1⟩ => ?_
  obtain ⟨a, e, ⟨xs, hq⟩, q⟩ := q1
  subst e
  cases r1
  obtain ⟨its, rv, p, hz⟩ := I1.tuple hq
  refine wpAny_pyIter_tuple (show s1.heap.IsTuple a its.toArray from p) ?_
  refine ⟨s1.heap.objs.size, [s1.heap.objs.size], _, _, H1, rfl, I1.kept (t' := s1.toks) fun b o e => Heap.get?_push_of_some _ e, turn_tuple a _, ⟨_, Heap.get?_push_size _ rfl, rfl, rfl⟩, fun b hb => ?_, q⟩
  have e : b = s1.heap.objs.size := by simpa using hb
  subst e
  exact I1.fpOk (Nat.le_refl _) (I1.hok.fresh (Nat.le_refl _))
theorem range_it {pins : List (Addr × Obj)} {σ : St} {H : Hp} {s : Shared} {R : It → Hp → Prop} {E : Value → Shared → Prop} {lo hi : Int} {t u v : Tok} {tk : Nat} (I : Inv X pins σ H s) (h1 : -(2 ^ 62) ≤ lo) (h2 : lo < 2 ^ 62) (h3 : -(2 ^ 62) ≤ hi) (h4 : hi < 2 ^ 62)
    (q : R (Itr lo (hi - lo).toNat) H) : wpAny (model X.prog X.w) X.A (pyIter (.ref s.heap.objs.size)) (PIE X pins σ tg R) E { s with heap := s.heap.push { cls := .type "range", data := .fields #[.int lo t, .int hi u, .int 1 v] }, toks := tk } := by
  refine wpAny_pyIter_range (IsRange.new ..) (small_one h1 h2 h3 h4) ?_
  have I1 : Inv X pins σ H { s with heap := s.heap.push { cls := .type "range", data := .fields #[.int lo t, .int hi u, .int 1 v] }, toks := tk } := I.kept fun b o e => Heap.get?_push_of_some _ e
  refine ⟨(s.heap.push { cls := .type "range", data := .fields #[.int lo t, .int hi u, .int 1 v] }).objs.size, [(s.heap.push { cls := .type "range", data := .fields #[.int lo t, .int hi u, .int 1 v] }).objs.size], _, _, H, rfl,
    I1.kept (t' := tk) fun b o e => Heap.get?_push_of_some _ e, turn_range _ lo (hi - lo).toNat, ?_, fun b hb => ?_, q⟩
  · have e1 : lo + ((0 : Nat) : Int) * 1 = lo := by simp
    have e2 : (((hi - lo).toNat : Nat) : Int) - ((0 : Nat) : Int) = Builtin.Range.rangeSize lo hi 1 := by rw [rangeSize_one]; split <;> omega
    show IsRangeIter _ _ (lo + ((0 : Nat) : Int) * 1) ((((hi - lo).toNat : Nat) : Int) - ((0 : Nat) : Int)) 1
    rw [e1, e2]
    exact Heap.get?_push_size _ rfl
  · have e : b = (s.heap.push { cls := .type "range", data := .fields #[.int lo t, .int hi u, .int 1 v] }).objs.size := by simpa using hb
    subst e
    exact I1.fpOk (Nat.le_refl _) (I1.hok.fresh (Nat.le_refl _))
def iRng1 (ta : TA) : TI := fun σ H R => ta σ H fun vs H1 => ∃ j : Int, vs = [.int j] ∧ -(2 ^ 62) ≤ j ∧ j < 2 ^ 62 ∧ R (Itr 0 j.toNat) H1
theorem pi_range1 {a : Expr} {ta : TA} {p pos : Pos} (hg : Gl X "range") (hm : X.mg "range" = none) (ha : PA X [a] ta) (hs : starEach [a] X.env = [(false, eval a X.env)] := by rfl) : PI X tg (.Call (.Name "range" p) [a] [] pos) (iRng1 ta) := by
  intro pins s σ H R I h
  refine Call_ (ld_blt I hg hm boot_range (PyProof.Rows.callWith_type1 (thn (ha pos pins s σ H _ I h) fun us s1 ⟨vs, H1, I1, r1, q1⟩ => ?_) hs rfl))
  obtain ⟨j, e, q1, q2, q⟩ := q1
  subst e
  cases r1 with
  | cons r rr =>
    cases rr
    obtain ⟨t, rfl⟩ := r
    exact call_range_1 (range_it I1 (by omega) (by omega) q1 q2 (by simpa using q))
def tFor (wi : TI) (g : TG) (tb : TS) : TS := fun D σ H => wi σ H fun J H1 => ∃ W : Nat → Nat → St → Hp → Prop, (∃ m, W 0 m σ H1) ∧ ∀ i m σ H, W i m σ H →
  (J.stop i H ∧ D.nx σ H) ∨ (J.go i H ∧ ∃ N : St → Hp → Prop, (∀ σ' H', N σ' H' → ∃ m', m' < m ∧ W (i + 1) m' σ' H') ∧ ∀ x H', J.yld i H x H' → g x σ H' fun σ2 H2 => tb { D with nx := N, ct := N, bk := D.nx } σ2 H2)
def pinsAt (fp : List Addr) (h : Heap) : List (Addr × Obj) := fp.filterMap fun b => (h.get? b).map fun o => (b, o)
theorem mem_pinsAt {fp : List Addr} {h : Heap} {b : Addr} {o : Obj} (hb : b ∈ fp) (e : h.get? b = some o) : (b, o) ∈ pinsAt fp h := List.mem_filterMap.mpr ⟨b, hb, by rw [e]; rfl⟩
theorem of_pinsAt {fp : List Addr} {h : Heap} {p : Addr × Obj} (hp : p ∈ pinsAt fp h) : p.1 ∈ fp ∧ h.get? p.1 = some p.2 := by
  obtain ⟨b, hb, e⟩ := List.mem_filterMap.mp hp
  cases q : h.get? b with
  | none => rw [q] at e; cases e
  | some o =>
    rw [q] at e
    have e' : (b, o) = p := Option.some.inj e
    subst e'
    exact ⟨hb, q⟩
theorem Inv.pinned {pins : List (Addr × Obj)} {σ : St} {H : Hp} {s : Shared} {fp : List Addr} (I : Inv X pins σ H s) (hf : ∀ b ∈ fp, FpOk X pins H b) (ho : ∀ b ∈ fp, ∃ o, s.heap.get? b = some o ∧ ∀ v, o.data ≠ .cell v) : Inv X (pins ++ pinsAt fp s.heap) σ H s :=
  I.pins_of fun p hp => (List.mem_append.mp hp).elim (fun z => I.pin p (List.mem_append_right _ z)) fun z => by
    obtain ⟨hb, e⟩ := of_pinsAt z
    obtain ⟨f0, f1, f2, _⟩ := hf p.1 hb
    obtain ⟨o, e', d⟩ := ho p.1 hb
    rw [e] at e'; cases e'
    exact ⟨e, f0, f1, f2, d⟩
theorem Inv.unpinned {pins pl : List (Addr × Obj)} {σ : St} {H : Hp} {s : Shared} (I : Inv X (pins ++ pl) σ H s) : Inv X pins σ H s := I.pins_of fun p hp => I.pin p (List.mem_append_right _ (List.mem_append_left _ hp))
theorem ps_for {iter : Expr} {body : List Stmt} {wi : TI} {g : TG} {tb : TS} {pos : Pos} (hp : PassesOwn (model X.prog X.w) X.A X.env X.xe) (hc : X.calm = true) (hi : PI X tg iter wi) (hg : PG X tg g) (hb : PSs X body tb)
    (hs : ∀ x, foldedSetIterable iter X.env x = pure x := by intro _; rfl) : PS X (.For tg iter body [] pos) (tFor wi g tb) := by
  intro pins s σ H D I h
  refine wpAny_For (thn (hi pins s σ H _ I h) fun v s1 h1 => thn h1 fun itv s2 h2 => ?_) hs
  obtain ⟨it, fp, tn, J, H2, e, I2, T, st2, f2, W, ⟨m0, w0⟩, turn⟩ := h2
  subst e
  -- what stays true of the iterator's objects through the loop
  have stat : ∀ {H' : Hp}, (∀ b ∈ fp, H' b = none) → ∀ b ∈ fp, FpOk X pins H' b := fun hn b hb => ⟨hn b hb, (f2 b hb).2⟩
  refine codeAny_forLoop_any (fun n s' => ∃ i σ' H', Inv X pins σ' H' s' ∧ tn i s'.heap ∧ (∀ b ∈ fp, H' b = none) ∧ W i n σ' H') ?_ m0 ⟨0, σ, H2, I2, st2, fun b hb => (f2 b hb).1, w0⟩
  rintro n s3 ⟨i, σ3, H3, I3, st3, fr3, w3⟩
  rcases turn i n σ3 H3 w3 with ⟨stop, qn⟩ | ⟨go, N, hN, step⟩
  · refine wpAny_passesOwn hp (thn (T.done X rfl rfl rfl hc i pins s3 σ3 H3 X.xe I3 (stat fr3) st3 stop) fun r s4 ⟨hr, I4⟩ => ?_)
    subst hr
    exact wpAny_execs_nil ⟨σ3, H3, I4, qn⟩
  · refine wpAny_passesOwn hp (thn (T.item X rfl rfl rfl hc i pins s3 σ3 H3 X.xe I3 (stat fr3) st3 go) fun r s4 ⟨u, hr, h4⟩ => ?_)
    subst hr
    refine wpAny_passesOwn hp (thn h4 fun _ s5 ⟨x, H5, I5, r5, y5, st5, fr5⟩ => ?_)
    have I5' := I5.pinned (stat fr5) (T.obj _ _ st5)
    refine wpAny_passesOwn hp (thn (hg _ s5 σ3 H5 x u _ I5' r5 (step x H5 y5)) fun _ s6 ⟨σ6, H6, I6, q6⟩ => ?_)
    refine wpAny_passesOwn hp (thn (hb _ s6 σ6 H6 _ I6 q6) fun f s7 q7 => ?_)
    have again : ∀ {σ7 : St} {H7 : Hp}, Inv X (pins ++ pinsAt fp s5.heap) σ7 H7 s7 → N σ7 H7 → ∃ m, m < n ∧ ∃ i σ' H', Inv X pins σ' H' s7 ∧ tn i s7.heap ∧ (∀ b ∈ fp, H' b = none) ∧ W i m σ' H' := fun {σ7 H7} I7 n7 => by
      obtain ⟨m', hm, w7⟩ := hN σ7 H7 n7
      refine ⟨m', hm, i + 1, σ7, H7, I7.unpinned, T.keep _ _ _ st5 fun b hb o e => (I7.pin (b, o) (List.mem_append_right _ (List.mem_append_right _ (mem_pinsAt hb e)))).1, fun b hb => ?_, w7⟩
      obtain ⟨o, e, d⟩ := T.obj _ _ st5 b hb
      exact (I7.pin (b, o) (List.mem_append_right _ (List.mem_append_right _ (mem_pinsAt hb e)))).2.1
    cases f with
    | next => obtain ⟨σ7, H7, I7, n7⟩ := q7; exact again I7 n7
    | cont => obtain ⟨σ7, H7, I7, n7⟩ := q7; exact again I7 n7
    | brk => obtain ⟨σ7, H7, I7, q7⟩ := q7; exact ⟨σ7, H7, I7.unpinned, q7⟩
    | ret v => obtain ⟨x7, σ7, H7, I7, r7, q7⟩ := q7; exact ⟨x7, σ7, H7, I7.unpinned, r7, q7⟩
end
theorem for_list {K : PySem.W.Frag} {a : Addr} {xs : List V} {g : TG} {tb : TS} {D : Ends} {σ : St} {H : Hp} (Pv : Nat → St → Hp → Prop) (h0 : Pv 0 σ H) (hl : ∀ i σ H, i ≤ xs.length → Pv i σ H → SqL K H a xs)
    (hs : ∀ i x σ H, xs[i]? = some x → Pv i σ H → g x σ H fun σ2 H2 => tb { D with nx := Pv (i + 1), ct := Pv (i + 1), bk := D.nx } σ2 H2) (hd : ∀ σ H, Pv xs.length σ H → D.nx σ H) :
    ∃ W : Nat → Nat → St → Hp → Prop, (∃ m, W 0 m σ H) ∧ ∀ i m σ H, W i m σ H →
      ((Itl K a).stop i H ∧ D.nx σ H) ∨ ((Itl K a).go i H ∧ ∃ N : St → Hp → Prop, (∀ σ' H', N σ' H' → ∃ m', m' < m ∧ W (i + 1) m' σ' H') ∧ ∀ x H', (Itl K a).yld i H x H' → g x σ H' fun σ2 H2 => tb { D with nx := N, ct := N, bk := D.nx } σ2 H2) := by
  refine ⟨fun i m σ H => m = xs.length - i ∧ i ≤ xs.length ∧ Pv i σ H, ⟨xs.length, by simp, Nat.zero_le _, h0⟩, ?_⟩
  rintro i m σ H ⟨rfl, hi, p⟩
  have q := hl i σ H hi p
  by_cases hlt : i < xs.length
  · refine .inr ⟨⟨xs, xs[i], q, by simp [hlt]⟩, Pv (i + 1), fun σ' H' p' => ⟨xs.length - (i + 1), by omega, rfl, hlt, p'⟩, fun x H' y => ?_⟩
    obtain ⟨e, y⟩ := y
    subst e
    exact hs i x σ _ (y xs q) p
  · have e : i = xs.length := by omega
    subst e
    exact .inl ⟨⟨xs, q, Nat.le_refl _⟩, hd σ H p⟩
theorem for_tup {K : PySem.W.Frag} {a : Addr} {xs : List V} {g : TG} {tb : TS} {D : Ends} {σ : St} {H : Hp} (Pv : Nat → St → Hp → Prop) (h0 : Pv 0 σ H) (hl : ∀ i σ H, i ≤ xs.length → Pv i σ H → SqT K H a xs)
    (hs : ∀ i x σ H, xs[i]? = some x → Pv i σ H → g x σ H fun σ2 H2 => tb { D with nx := Pv (i + 1), ct := Pv (i + 1), bk := D.nx } σ2 H2) (hd : ∀ σ H, Pv xs.length σ H → D.nx σ H) :
    ∃ W : Nat → Nat → St → Hp → Prop, (∃ m, W 0 m σ H) ∧ ∀ i m σ H, W i m σ H →
      ((Itt K a).stop i H ∧ D.nx σ H) ∨ ((Itt K a).go i H ∧ ∃ N : St → Hp → Prop, (∀ σ' H', N σ' H' → ∃ m', m' < m ∧ W (i + 1) m' σ' H') ∧ ∀ x H', (Itt K a).yld i H x H' → g x σ H' fun σ2 H2 => tb { D with nx := N, ct := N, bk := D.nx } σ2 H2) := by
  refine ⟨fun i m σ H => m = xs.length - i ∧ i ≤ xs.length ∧ Pv i σ H, ⟨xs.length, by simp, Nat.zero_le _, h0⟩, ?_⟩
  rintro i m σ H ⟨rfl, hi, p⟩
  have q := hl i σ H hi p
  by_cases hlt : i < xs.length
  · refine .inr ⟨⟨xs, xs[i], q, by simp [hlt]⟩, Pv (i + 1), fun σ' H' p' => ⟨xs.length - (i + 1), by omega, rfl, hlt, p'⟩, fun x H' y => ?_⟩
    obtain ⟨e, y⟩ := y
    subst e
    exact hs i x σ _ (y xs q) p
  · have e : i = xs.length := by omega
    subst e
    exact .inl ⟨⟨xs, q, Nat.le_refl _⟩, hd σ H p⟩
theorem for_range {lo : Int} {n : Nat} {g : TG} {tb : TS} {D : Ends} {σ : St} {H : Hp} (Pv : Nat → St → Hp → Prop) (h0 : Pv 0 σ H)
    (hs : ∀ i σ H, i < n → Pv i σ H → g (.int (lo + i)) σ H fun σ2 H2 => tb { D with nx := Pv (i + 1), ct := Pv (i + 1), bk := D.nx } σ2 H2) (hd : ∀ σ H, Pv n σ H → D.nx σ H) :
    ∃ W : Nat → Nat → St → Hp → Prop, (∃ m, W 0 m σ H) ∧ ∀ i m σ H, W i m σ H →
      ((Itr lo n).stop i H ∧ D.nx σ H) ∨ ((Itr lo n).go i H ∧ ∃ N : St → Hp → Prop, (∀ σ' H', N σ' H' → ∃ m', m' < m ∧ W (i + 1) m' σ' H') ∧ ∀ x H', (Itr lo n).yld i H x H' → g x σ H' fun σ2 H2 => tb { D with nx := N, ct := N, bk := D.nx } σ2 H2) := by
  refine ⟨fun i m σ H => m = n - i ∧ i ≤ n ∧ Pv i σ H, ⟨n, by simp, Nat.zero_le _, h0⟩, ?_⟩
  rintro i m σ H ⟨rfl, hi, p⟩
  by_cases hlt : i < n
  · refine .inr ⟨hlt, Pv (i + 1), fun σ' H' p' => ⟨n - (i + 1), by omega, rfl, hlt, p'⟩, fun x H' y => ?_⟩
    obtain ⟨e, y⟩ := y
    subst e y
    exact hs i σ _ hlt p
  · have e : i = n := by omega
    subst e
    exact .inl ⟨Nat.le_refl _, hd σ H p⟩
end L2
namespace L2
open PySem PySem.Spec PyProof.Rows
abbrev R2 := V → V → Hp → VK → Prop
def OpR (X : Cx) (f : Value → Value → Sem Value) (r : R2) : Prop :=
  ∀ (pins : List (Addr × Obj)) (s : Shared) (σ : St) (H : Hp) (x y : V) (v u : Value) (Q : VK), Inv X pins σ H s → RelV x v → RelV y u → r x y H Q →
    wpAny (model X.prog X.w) X.A (f v u) (EP X pins σ Q) X.xe s
def UnR (X : Cx) (f : Value → Sem Value) (r : V → Hp → VK → Prop) : Prop :=
  ∀ (pins : List (Addr × Obj)) (s : Shared) (σ : St) (H : Hp) (x : V) (v : Value) (Q : VK), Inv X pins σ H s → RelV x v → r x H Q →
    wpAny (model X.prog X.w) X.A (f v) (EP X pins σ Q) X.xe s
def CallR (X : Cx) (f : Value) (r : List V → Hp → VK → Prop) : Prop :=
  ∀ (pins : List (Addr × Obj)) (s : Shared) (σ : St) (H : Hp) (xs : List V) (us : List Value) (Q : VK), Inv X pins σ H s → Vals xs us → r xs H Q →
    wpAny (model X.prog X.w) X.A (call f us) (EP X pins σ Q) X.xe s
def tOp (r : R2) (ta tb : TE) : TE := fun σ H Q => ta σ H fun x H1 => tb σ H1 fun y H2 => r x y H2 Q
def tUn (r : V → Hp → VK → Prop) (ta : TE) : TE := fun σ H Q => ta σ H fun x H1 => r x H1 Q
def rI (C : Int → Int → Prop) (g : Int → Int → V) : R2 := fun x y H Q => ∃ i j, x = .int i ∧ y = .int j ∧ C i j ∧ Q (g i j) H
def rI0 (g : Int → Int → V) : R2 := fun x y H Q => ∃ i j, x = .int i ∧ y = .int j ∧ Q (g i j) H
def rU (g : Int → V) : V → Hp → VK → Prop := fun x H Q => ∃ i, x = .int i ∧ Q (g i) H
section
variable {X : Cx} {a b c : Expr} {ta tb tc : TE} {pos : Pos}
theorem binT (ha : PE X a ta) (hb : PE X b tb) {pins : List (Addr × Obj)} {s : Shared} {σ : St} {H : Hp} {R : V → V → Hp → Prop} (I : Inv X pins σ H s)
    (h : ta σ H fun x H1 => tb σ H1 fun y H2 => R x y H2) {Q : Value → Shared → Prop} {f : Value → Value → Sem Value}
    (hf : ∀ v u s2 x y H2, Inv X pins σ H2 s2 → RelV x v → RelV y u → R x y H2 → wpAny (model X.prog X.w) X.A (f v u) Q X.xe s2) :
    wpAny (model X.prog X.w) X.A (eval a X.env) (fun v s₁ => wpAny (model X.prog X.w) X.A (eval b X.env) (fun u s₂ => wpAny (model X.prog X.w) X.A (f v u) Q X.xe s₂) X.xe s₁) X.xe s := by
  refine thn (ha pins s σ H _ I h) fun v s1 ⟨x, H1, I1, r1, q1⟩ => ?_
  refine thn (hb pins s1 σ H1 _ I1 q1) fun u s2 ⟨y, H2, I2, r2, q2⟩ => ?_
  exact hf v u s2 x y H2 I2 r1 r2 q2
theorem pe_op {op : Operator} {r : R2} (ho : OpR X (binaryOp op) r) (ha : PE X a ta) (hb : PE X b tb) : PE X (.BinOp a op b pos) (tOp r ta tb) := by
  intro pins s σ H Q I h
  exact wpAny_BinOp (binT ha hb I h fun v u s2 x y H2 I2 rx ry q => ho pins s2 σ H2 x y v u Q I2 rx ry q)
theorem pe_un {op : UnaryOp} {r : V → Hp → VK → Prop} (ho : UnR X (unaryOp op) r) (ha : PE X a ta) : PE X (.UnaryOp op a pos) (tUn r ta) := by
  intro pins s σ H Q I h
  exact UnaryOp_ (thn (ha pins s σ H _ I h) fun v s1 ⟨x, H1, I1, r1, q1⟩ => ho pins s1 σ H1 x v Q I1 r1 q1)
theorem opI {f : Value → Value → Sem Value} {C : Int → Int → Prop} {g : Int → Int → Int}
    (rule : ∀ (i j : Int) (t u : Tok) (s : Shared) (Q : Value → Shared → Prop) (E : Value → Shared → Prop), C i j → Q (.int (g i j) s.toks) { s with toks := s.toks + 1 } → wpAny (model X.prog X.w) X.A (f (.int i t) (.int j u)) Q E s) :
    OpR X f (rI C fun i j => .int (g i j)) := by
  intro pins s σ H x y v u Q I rx ry h
  obtain ⟨i, j, rfl, rfl, hc, q⟩ := h
  obtain ⟨t, rfl⟩ := rx
  obtain ⟨t', rfl⟩ := ry
  exact rule i j t t' s _ _ hc ⟨.int (g i j), H, I.tok _, ⟨_, rfl⟩, q⟩
theorem opI0 {f : Value → Value → Sem Value} {g : Int → Int → Int}
    (rule : ∀ (i j : Int) (t u : Tok) (s : Shared) (Q : Value → Shared → Prop) (E : Value → Shared → Prop), Q (.int (g i j) s.toks) { s with toks := s.toks + 1 } → wpAny (model X.prog X.w) X.A (f (.int i t) (.int j u)) Q E s) :
    OpR X f (rI0 fun i j => .int (g i j)) := by
  intro pins s σ H x y v u Q I rx ry h
  obtain ⟨i, j, rfl, rfl, q⟩ := h
  obtain ⟨t, rfl⟩ := rx
  obtain ⟨t', rfl⟩ := ry
  exact rule i j t t' s _ _ ⟨.int (g i j), H, I.tok _, ⟨_, rfl⟩, q⟩
theorem opB0 {f : Value → Value → Sem Value} {g : Int → Int → Bool}
    (rule : ∀ (i j : Int) (t u : Tok) (s : Shared) (Q : Value → Shared → Prop) (E : Value → Shared → Prop), Q (.bool (g i j)) s → wpAny (model X.prog X.w) X.A (f (.int i t) (.int j u)) Q E s) :
    OpR X f (rI0 fun i j => .bl (g i j)) := by
  intro pins s σ H x y v u Q I rx ry h
  obtain ⟨i, j, rfl, rfl, q⟩ := h
  obtain ⟨t, rfl⟩ := rx
  obtain ⟨t', rfl⟩ := ry
  exact rule i j t t' s _ _ ⟨.bl (g i j), H, I, rfl, q⟩
def CPow (i j : Int) : Prop := 0 ≤ j ∧ j ≤ 1000000 ∧ i.natAbs < 2 ^ 64
def CMul (i j : Int) : Prop := (-(2 ^ 64) < i ∧ i < 2 ^ 64) ∨ (-(2 ^ 64) < j ∧ j < 2 ^ 64)
theorem CMul.ok {i j : Int} (h : CMul i j) : IntMulOk i j := by
  rcases h with ⟨h1, h2⟩ | ⟨h1, h2⟩
  · exact .of_left (intBits_le_64 h1 h2)
  · exact .of_right (intBits_le_64 h1 h2)
theorem op_add : OpR X (binaryOp .Add) (rI0 fun i j => .int (i + j)) := opI0 fun _ _ _ _ _ _ _ q => add_int q
theorem op_sub : OpR X (binaryOp .Sub) (rI0 fun i j => .int (i - j)) := opI0 fun _ _ _ _ _ _ _ q => sub_int q
theorem op_mod : OpR X (binaryOp .Mod) (rI (fun _ j => 0 < j) fun i j => .int (i % j)) := opI fun i j _ _ _ _ _ hc q => by
  have h1 : (0 : Int) < j := hc
  exact mod_int' (by omega) (by rw [Int.fmod_eq_emod_of_nonneg i (by omega)]; exact q)
theorem op_pow : OpR X (binaryOp .Pow) (rI CPow fun i j => .int (i ^ j.toNat)) := opI fun _ _ _ _ _ _ _ hc q => pow_int_small hc.1 hc.2.1 hc.2.2 q
theorem unI {f : Value → Sem Value} {g : Int → Int}
    (rule : ∀ (i : Int) (t : Tok) (s : Shared) (Q : Value → Shared → Prop) (E : Value → Shared → Prop), Q (.int (g i) s.toks) { s with toks := s.toks + 1 } → wpAny (model X.prog X.w) X.A (f (.int i t)) Q E s) :
    UnR X f (rU fun i => .int (g i)) := by
  intro pins s σ H x v Q I rx h
  obtain ⟨i, rfl, q⟩ := h
  obtain ⟨t, rfl⟩ := rx
  exact rule i t s _ _ ⟨.int (g i), H, I.tok _, ⟨_, rfl⟩, q⟩
theorem un_neg : UnR X (unaryOp .USub) (rU fun i => .int (-i)) := unI fun _ _ _ _ _ q => neg_int q
end
def scal : V → V → Bool
  | .non, .non => true | .non, .int _ => true | .int _, .non => true | .non, .bl _ => true | .bl _, .non => true | .non, .str _ => true | .str _, .non => true
  | .int _, .int _ => true | .bl _, .bl _ => true | .str _, .str _ => true | .byt _, .byt _ => true
  | .int _, .str _ => true | .str _, .int _ => true | .bl _, .str _ => true | .str _, .bl _ => true
  | _, _ => false
def rEq : R2 := fun x y H Q => scal x y = true ∧ Q (.bl (decide (x = y))) H
def rNe : R2 := fun x y H Q => scal x y = true ∧ Q (.bl (!decide (x = y))) H
theorem dec_int {i j : Int} : decide (V.int i = V.int j) = (i == j) := by
  rw [Bool.eq_iff_iff]
  simp
theorem dec_bl {i j : Bool} : decide (V.bl i = V.bl j) = (i == j) := by
  rw [Bool.eq_iff_iff]
  simp
theorem dec_str {i j : Str} : decide (V.str i = V.str j) = (i == j) := by
  rw [Bool.eq_iff_iff]
  simp
theorem dec_byt {i j : Array UInt8} : decide (V.byt i = V.byt j) = (i.toList == j.toList) := by
  rw [Bool.eq_iff_iff]
  cases i
  cases j
  simp
section
variable {X : Cx} {a b c : Expr} {ta tb tc : TE} {pos : Pos}
theorem fin_bl {pins : List (Addr × Obj)} {σ : St} {H : Hp} {s : Shared} {Q : VK} {k k' : Bool} (I : Inv X pins σ H s) (q : Q (.bl k) H) (e : k = k') : EP X pins σ Q (.bool k') s := by
  subst e
  exact ⟨.bl k, H, I, rfl, q⟩
theorem op_eq : OpR X (compareOp .Eq) rEq := by
  intro pins s σ H x y v u Q I rx ry h
  obtain ⟨hs, q⟩ := h
  cases x with
  | non =>
    cases rx
    cases y with
    | non => cases ry; exact PySem.EqNone.eq_none_none (fin_bl I q (by simp))
    | bl j => cases ry; exact PySem.EqNone.eq_none_bool (fin_bl I q (by simp))
    | int j => obtain ⟨t', rfl⟩ := ry; exact PySem.EqNone.eq_none_int (fin_bl I q (by simp))
    | str j => obtain ⟨t', rfl⟩ := ry; exact PySem.EqNone.eq_none_str (fin_bl I q (by simp))
    | _ => exact absurd (show false = true from hs) Bool.false_ne_true
  | bl i =>
    cases rx
    cases y with
    | non => cases ry; exact PySem.EqNone.eq_bool_none (fin_bl I q (by simp))
    | bl j => cases ry; exact eq_bool (fin_bl I q dec_bl)
    | str j => obtain ⟨t', rfl⟩ := ry; exact PySem.EqMixed.eq_bool_str (fin_bl I q (by simp))
    | _ => exact absurd (show false = true from hs) Bool.false_ne_true
  | int i =>
    obtain ⟨t, rfl⟩ := rx
    cases y with
    | non => cases ry; exact PySem.EqNone.eq_int_none (fin_bl I q (by simp))
    | int j => obtain ⟨t', rfl⟩ := ry; exact eq_int (fin_bl I q dec_int)
    | str j => obtain ⟨t', rfl⟩ := ry; exact PySem.EqMixed.eq_int_str (fin_bl I q (by simp))
    | _ => exact absurd (show false = true from hs) Bool.false_ne_true
  | str i =>
    obtain ⟨t, rfl⟩ := rx
    cases y with
    | non => cases ry; exact PySem.EqNone.eq_str_none (fin_bl I q (by simp))
    | bl j => cases ry; exact PySem.EqMixed.eq_str_bool (fin_bl I q (by simp))
    | int j => obtain ⟨t', rfl⟩ := ry; exact PySem.EqMixed.eq_str_int (fin_bl I q (by simp))
    | str j => obtain ⟨t', rfl⟩ := ry; exact eq_str (fin_bl I q dec_str)
    | _ => exact absurd (show false = true from hs) Bool.false_ne_true
  | byt i =>
    obtain ⟨t, rfl⟩ := rx
    cases y with
    | byt j => obtain ⟨t', rfl⟩ := ry; exact PySem.W.eq_bytes (fin_bl I q dec_byt)
    | _ => exact absurd (show false = true from hs) Bool.false_ne_true
  | _ => cases y <;> exact absurd (show false = true from hs) Bool.false_ne_true
theorem op_ne : OpR X (compareOp .NotEq) rNe := by
  intro pins s σ H x y v u Q I rx ry h
  obtain ⟨hs, q⟩ := h
  cases x with
  | non =>
    cases rx
    cases y with
    | non => cases ry; exact PySem.EqNone.ne_none_none (fin_bl I q (by simp))
    | bl j => cases ry; exact PySem.EqNone.ne_none_bool (fin_bl I q (by simp))
    | int j => obtain ⟨t', rfl⟩ := ry; exact PySem.EqNone.ne_none_int (fin_bl I q (by simp))
    | str j => obtain ⟨t', rfl⟩ := ry; exact PySem.EqNone.ne_none_str (fin_bl I q (by simp))
    | _ => exact absurd (show false = true from hs) Bool.false_ne_true
  | bl i =>
    cases rx
    cases y with
    | non => cases ry; exact PySem.EqNone.ne_bool_none (fin_bl I q (by simp))
    | bl j => cases ry; exact ne_bool (fin_bl I q (congrArg not dec_bl))
    | str j => obtain ⟨t', rfl⟩ := ry; exact PySem.EqMixed.ne_bool_str (fin_bl I q (by simp))
    | _ => exact absurd (show false = true from hs) Bool.false_ne_true
  | int i =>
    obtain ⟨t, rfl⟩ := rx
    cases y with
    | non => cases ry; exact PySem.EqNone.ne_int_none (fin_bl I q (by simp))
    | int j => obtain ⟨t', rfl⟩ := ry; exact ne_int (fin_bl I q (congrArg not dec_int))
    | str j => obtain ⟨t', rfl⟩ := ry; exact PySem.EqMixed.ne_int_str (fin_bl I q (by simp))
    | _ => exact absurd (show false = true from hs) Bool.false_ne_true
  | str i =>
    obtain ⟨t, rfl⟩ := rx
    cases y with
    | non => cases ry; exact PySem.EqNone.ne_str_none (fin_bl I q (by simp))
    | bl j => cases ry; exact PySem.EqMixed.ne_str_bool (fin_bl I q (by simp))
    | int j => obtain ⟨t', rfl⟩ := ry; exact PySem.EqMixed.ne_str_int (fin_bl I q (by simp))
    | str j => obtain ⟨t', rfl⟩ := ry; exact ne_str (fin_bl I q (congrArg not dec_str))
    | _ => exact absurd (show false = true from hs) Bool.false_ne_true
  | byt i =>
    obtain ⟨t, rfl⟩ := rx
    cases y with
    | byt j => obtain ⟨t', rfl⟩ := ry; exact PySem.W.ne_bytes (fin_bl I q (congrArg not dec_byt))
    | _ => exact absurd (show false = true from hs) Bool.false_ne_true
  | _ => cases y <;> exact absurd (show false = true from hs) Bool.false_ne_true
theorem op_lt : OpR X (compareOp .Lt) (rI0 fun i j => .bl (decide (i < j))) := opB0 fun _ _ _ _ _ _ _ q => lt_int q
theorem op_le : OpR X (compareOp .LtE) (rI0 fun i j => .bl (decide (i ≤ j))) := opB0 fun _ _ _ _ _ _ _ q => le_int q
theorem op_gt : OpR X (compareOp .Gt) (rI0 fun i j => .bl (decide (j < i))) := opB0 fun _ _ _ _ _ _ _ q => gt_int q
theorem op_ge : OpR X (compareOp .GtE) (rI0 fun i j => .bl (decide (j ≤ i))) := opB0 fun _ _ _ _ _ _ _ q => ge_int q
theorem op_isN : OpR X (compareOp .Is) (fun x y H Q => y = .non ∧ Q (.bl (decide (x = .non))) H) := by
  intro pins s σ H x y v u Q I rx ry h
  obtain ⟨rfl, q⟩ := h
  cases ry
  refine is_none_gen (fin_bl I q ?_)
  cases x <;> first
    | (cases rx; rfl)
    | (obtain ⟨t, rfl⟩ := rx; rfl)
theorem op_notN : OpR X (compareOp .IsNot) (fun x y H Q => y = .non ∧ Q (.bl (!decide (x = .non))) H) := by
  intro pins s σ H x y v u Q I rx ry h
  obtain ⟨rfl, q⟩ := h
  cases ry
  refine isnot_none_gen (fin_bl I q ?_)
  cases x <;> first
    | (cases rx; rfl)
    | (obtain ⟨t, rfl⟩ := rx; rfl)
theorem OpR.or {f : Value → Value → Sem Value} {r r' : R2} (h : OpR X f r) (h' : OpR X f r') : OpR X f (fun x y H Q => r x y H Q ∨ r' x y H Q) := by
  intro pins s σ H x y v u Q I rx ry q
  rcases q with q | q
  · exact h pins s σ H x y v u Q I rx ry q
  · exact h' pins s σ H x y v u Q I rx ry q
theorem nomark (b : Expr) {op : CmpOp} (h : op ≠ .In := by decide) (h2 : op ≠ .NotIn := by decide) : behindInMarks op b = false := by
  have e1 : (op == CmpOp.In) = false := by cases op <;> first | rfl | exact absurd rfl h
  have e2 : (op == CmpOp.NotIn) = false := by cases op <;> first | rfl | exact absurd rfl h2
  cases b <;> simp [behindInMarks, e1, e2]
theorem pe_cmpR {op : CmpOp} {r : R2} (ho : OpR X (compareOp op) r) (ha : PE X a ta) (hb : PE X b tb) (hm : behindInMarks op b = false) : PE X (.Compare a [op] [b] pos) (tOp r ta tb) := by
  intro pins s σ H Q I h
  exact wpAny_Compare1 (binT ha hb I h fun v u s2 x y H2 I2 rx ry q => ho pins s2 σ H2 x y v u Q I2 rx ry q) hm
def tTest (t : TE) : TT := fun σ H Q => t σ H fun x H' => ∃ k, x = .bl k ∧ Q k H'
theorem pt_cmpR {op : CmpOp} {r : R2} (ho : OpR X (compareOp op) r) (ha : PE X a ta) (hb : PE X b tb) (hm : behindInMarks op b = false) : PT X (.Compare a [op] [b] pos) (tTest (tOp r ta tb)) := by
  intro pins s σ H Q I h
  refine wpAny_isTrue_Compare1 (thn (ha pins s σ H _ I h) fun v s1 ⟨x, H1, I1, r1, q1⟩ => thn (hb pins s1 σ H1 _ I1 q1) fun u s2 ⟨y, H2, I2, r2, q2⟩ =>
    thn (ho pins s2 σ H2 x y v u _ I2 r1 r2 q2) fun c s3 ⟨z, H3, I3, r3, k, e, q3⟩ => ?_) hm
  subst e
  cases r3
  exact wpAny_truthy_bool ⟨H3, I3, q3⟩
def tChain (r r' : R2) (ta tb tc : TE) : TE := fun σ H Q => ta σ H fun x H1 => tb σ H1 fun y H2 => r x y H2 fun z H3 => ∃ k, z = .bl k ∧
  (if k = true then tc σ H3 fun w' H4 => r' y w' H4 Q else Q (.bl false) H3)
theorem pt_chain {op op' : CmpOp} {r r' : R2} (ho : OpR X (compareOp op) r) (ho' : OpR X (compareOp op') r') (ha : PE X a ta) (hb : PE X b tb) (hc : PE X c tc)
    (hm : lastMarks [op, op'] [b, c] = false := by with_unfolding_all rfl) : PT X (.Compare a [op, op'] [b, c] pos) (tTest (tChain r r' ta tb tc)) := by
  intro pins s σ H Q I h
  refine isTrue_chain (thn (ha pins s σ H _ I h) fun v s1 ⟨x, H1, I1, r1, q1⟩ => test_link (thn (hb pins s1 σ H1 _ I1 q1) fun u s2 ⟨y, H2, I2, r2, q2⟩ =>
    thn (ho pins s2 σ H2 x y v u _ I2 r1 r2 q2) fun d s3 ⟨z, H3, I3, r3, k, e, q3⟩ => ?_)) hm
  subst e
  cases r3
  refine wpAny_truthy_bool ?_
  cases k with
  | false =>
    obtain ⟨k', e', q'⟩ := q3
    cases e'
    exact ite_ff ⟨H3, I3, q'⟩
  | true =>
    refine ite_tt (test_last (thn (hc pins s3 σ H3 _ I3 q3) fun w' s4 ⟨z', H4, I4, r4, q4⟩ => thn (ho' pins s4 σ H4 y z' u w' _ I4 r2 r4 q4) fun d' s5 ⟨z2, H5, I5, r5, k2, e2, q5⟩ => ?_))
    subst e2
    cases r5
    exact wpAny_truthy_bool ⟨H5, I5, q5⟩
theorem line63 : (sizeLine : Nat) < 2 ^ 63 := by rw [sizeLine_eq]; decide
theorem vals1 {x : V} {us : List Value} (r : Vals [x] us) : ∃ u, us = [u] ∧ RelV x u := by
  cases r with
  | cons r1 r2 => cases r2; exact ⟨_, rfl, r1⟩
theorem vals2 {x y : V} {us : List Value} (r : Vals [x, y] us) : ∃ u w', us = [u, w'] ∧ RelV x u ∧ RelV y w' := by
  cases r with
  | cons r1 r2 =>
    cases r2 with
    | cons r3 r4 => cases r4; exact ⟨_, _, rfl, r1, r3⟩
theorem call_max2 (hc : X.calm = true) : CallR X (.builtin "max") (fun xs H Q => ∃ i j, xs = [.int i, .int j] ∧ Q (.int (if j > i then j else i)) H) := by
  intro pins s σ H xs us Q I r h
  obtain ⟨i, j, rfl, q⟩ := h
  obtain ⟨u, w', rfl, ⟨t, rfl⟩, ⟨t', rfl⟩⟩ := vals2 r
  refine max_two_ints (I.ok.hd hc) fun h' tk k => ⟨_, H, I.kept k, ?_, q⟩
  by_cases hj : j > i
  · rw [if_pos hj, if_pos hj]; exact ⟨_, rfl⟩
  · rw [if_neg hj, if_neg hj]; exact ⟨_, rfl⟩
theorem call_min2 (hc : X.calm = true) : CallR X (.builtin "min") (fun xs H Q => ∃ i j, xs = [.int i, .int j] ∧ Q (.int (if j < i then j else i)) H) := by
  intro pins s σ H xs us Q I r h
  obtain ⟨i, j, rfl, q⟩ := h
  obtain ⟨u, w', rfl, ⟨t, rfl⟩, ⟨t', rfl⟩⟩ := vals2 r
  refine min_two_ints (I.ok.hd hc) fun h' tk k => ⟨_, H, I.kept k, ?_, q⟩
  by_cases hj : j < i
  · rw [if_pos hj, if_pos hj]; exact ⟨_, rfl⟩
  · rw [if_neg hj, if_neg hj]; exact ⟨_, rfl⟩
end
end L2
namespace L2
open PySem PySem.Spec PyProof.Rows
structure ObjM (h : Heap) (x dx C : Addr) (mA : Str → Option Value) : Prop where
  obj : h.get? x = some (PySem.W.instObj C dx)
  ns : h.Ns1 dx mA
  ne : dx ≠ x
theorem lookIn_ns {h : Heap} {dx : Addr} {mA : Str → Option Value} (n : h.Ns1 dx mA) : ∃ od, h.get? dx = some od ∧ ∀ name, PySem.W.lookIn name od = some (mA name) := by
  obtain ⟨o, es, ep, ho, hd, hk, _, hm⟩ := n
  refine ⟨o, ho, fun name => ?_⟩
  have e := hm name
  unfold nsFind findBy at e
  rw [← Array.find?_toList] at e
  unfold PySem.W.lookIn
  rw [hd]
  dsimp only
  split
  · rename_i y q
    rw [q] at e
    exact congrArg some e
  · rename_i q
    rw [q] at e
    have a : es.toList.any (·.refKey) = false := by
      rw [List.any_eq_false]
      intro y hy
      obtain ⟨z, t, hkey⟩ := hk y (Array.mem_toList_iff.mp hy)
      simp [DictEntry.refKey, hkey]
    have a' : ¬ es.toList.any (·.refKey) = true := by rw [a]; exact Bool.false_ne_true
    rw [if_neg a']
    exact congrArg some e
theorem ObjM.look {h : Heap} {x dx C : Addr} {mA : Str → Option Value} (I : ObjM h x dx C mA) : ∃ od, PySem.W.InstAt h x (PySem.W.instObj C dx) C (some od) ∧ ∀ name, PySem.W.lookIn name od = some (mA name) :=
  let ⟨od, ho, hl⟩ := lookIn_ns I.ns
  ⟨od, ⟨I.obj, rfl, rfl, ho⟩, hl⟩
section
variable {prog : Program} {w : World} {A : Around} {E : Value → Shared → Prop} {s : Shared} {K : PySem.W.Frag} {x dx C f : Addr} {mA : Str → Option Value} {name : Str} {v : Value}
theorem get_map {expr : Bool} {Q : Value → Shared → Prop} (X : K.In s.heap) (I : ObjM s.heap x dx C mA) (hg : PySem.W.plainGet K C name = true) (hh : PySem.W.hasDictIn K C = true)
    (ha : PySem.W.findIn K (.ref C) name = some none) (hv : mA name = some v) (hv' : PySem.W.handedIn v = true) (h : Q v { s with toks := s.toks + 1 }) :
    wpAny (model prog w) A (getAttr (.ref x) name expr) Q E s := by
  obtain ⟨od, J, hl⟩ := I.look
  exact PySem.W.get_value X J (PySem.W.plainGet_of hg).1 (PySem.W.findObj_own hh ha rfl (by rw [hl, hv])) hv' h
theorem get_meth {pl : Sem Bool} {Q : Value × List Value → Shared → Prop} (X : K.In s.heap) (I : ObjM s.heap x dx C mA) (hg : PySem.W.plainGet K C name = true)
    (hf : PySem.W.findIn K (.ref C) name = some (some (.ref f))) (ht : PySem.W.isFn K (.ref f) = true) (hv : mA name = none) (h : Q (.ref f, [.ref x]) s) :
    wpAny (model prog w) A (getMethod (.ref x) name pl) Q E s := by
  obtain ⟨od, J, hl⟩ := I.look
  exact PySem.W.method_fn X J (PySem.W.plainGet_of hg).1 (PySem.W.plainGet_of hg).2 hf (beq_iff_eq.mp ht) (by show (PySem.W.lookIn name od).map (·.isSome) = some false; rw [hl, hv]; rfl) h
theorem set_map {ns : List Str} {Q : Unit → Shared → Prop} (X : K.In s.heap) (I : ObjM s.heap x dx C mA)
    (hs : PySem.W.findIn K (.ref C) "__setattr__" = some (some (.builtin "object.__setattr__"))) (hp : PySem.W.plainOver K C = true) (ht : PySem.W.takerIn K C name = some none) (hh : PySem.W.hasDictIn K C = true)
    (hw : PySem.Within mA ns) (hsz : ns.length ≤ sizeLine)
    (h : ∀ h', ObjM h' x dx C (fun y => if y = name then some v else mA y) → Heap.SameBut dx s.heap h' → Q () { s with heap := h', toks := s.toks + 2 }) :
    wpAny (model prog w) A (setAttr (.ref x) name v) Q E s := by
  obtain ⟨od, J, hl⟩ := I.look
  refine PySem.W.set_plain X J hs (PySem.W.osa_open (s := { s with toks := s.toks + 1 }) (r := none) X J hp ht fun b => ?_)
  obtain ⟨cd, hc, hd'⟩ := PySem.W.any_some hh
  have hx : s.heap.get? x = some ⟨.ref C, some dx, .plain, #[]⟩ := I.obj
  refine wpAny_bind (wpAny_pure (wpAny_bind (wpAny_bind (wpAny_loadPart hx (wpAny_bind (PySem.W.Looks.here (s := { s with toks := s.toks + 1 }) (PySem.W.looks_clsIn X hc) ?_))))))
  rw [hd']
  refine wpAny_pure (a := some dx) (wpAny_bind (wpAny_pure (wpAny_bind ?_)))
  refine wpAny_nsSet1 (s := { s with toks := s.toks + 1 }) I.ns fun h' hn2 hs2 => ?_
  obtain ⟨oD, esD, epD, hoD, hdD, hcD⟩ := hn2.count (PySem.Within.cons name v hw)
  refine wpAny_bind (wpAny_lookBehind hoD (by rw [hdD]; exact pastItsLine_dict (Nat.le_trans hcD (by rw [List.length_cons]; omega))) ?_)
  exact wpAny_pure (h _ ⟨(hs2.2 _ (Ne.symm I.ne)).trans I.obj, hn2, I.ne⟩ hs2)
theorem make_map {R : Result → Shared → Prop} {vs : List Value} {kw : List (Str × Value)} (X : K.In s.heap) (hm : PySem.W.makesIn K C = true)
    (hi : PySem.W.findIn K (.ref C) "__init__" = some (some (.ref f))) (hf : PySem.W.typeIn K (.ref f) = some (.type "function"))
    (h : codeAny (model prog w) (A.under (.builtin "type.__call__" ⟨.ref C :: vs, kw⟩)) (.call (.ref f) ⟨.ref (s.heap.objs.size + 1) :: vs, kw⟩) (PySem.W.InitBack (s.heap.objs.size + 1) R)
      { s with heap := (s.heap.push PySem.W.emptyDict).push (PySem.W.instObj C s.heap.objs.size) }) :
    codeAny (model prog w) A (.call (.ref C) ⟨vs, kw⟩) R s := by
  obtain ⟨hh, g, d, t, os⟩ := s
  exact PySem.W.make_core (PySem.W.makes_of X hm) (PySem.W.looks_findIn X hi) (fun self => PySem.W.bind_fn X self hf) (.inl rfl) h
end
def putF (f : Str) (v : V) : List (Str × V) → List (Str × V)
  | [] => [(f, v)]
  | (g, x) :: r => if g = f then (g, v) :: r else (g, x) :: putF f v r
theorem lookup_putF (f g : Str) (v : V) : ∀ fs : List (Str × V), (putF f v fs).lookup g = if g = f then some v else fs.lookup g
  | [] => by
    show List.lookup g [(f, v)] = _
    by_cases h : g = f
    · have hb : (g == f) = true := beq_iff_eq.mpr h
      simp only [List.lookup, hb, if_pos h]
    · have hb : (g == f) = false := beq_eq_false_iff_ne.mpr h
      simp only [List.lookup, hb, if_neg h]
  | (k, x) :: r => by
    have ih := lookup_putF f g v r
    rw [show putF f v ((k, x) :: r) = (if k = f then (k, v) :: r else (k, x) :: putF f v r) from rfl]
    by_cases hk : k = f
    · rw [if_pos hk]
      by_cases h : g = k
      · have hb : (g == k) = true := beq_iff_eq.mpr h
        simp only [List.lookup, hb, if_pos (h.trans hk)]
      · have hb : (g == k) = false := beq_eq_false_iff_ne.mpr h
        simp only [List.lookup, hb, if_neg (fun e : g = f => h (e.trans hk.symm))]
    · rw [if_neg hk]
      by_cases h : g = k
      · have hb : (g == k) = true := beq_iff_eq.mpr h
        simp only [List.lookup, hb, if_neg (fun e : g = f => hk (h.symm.trans e))]
      · have hb : (g == k) = false := beq_eq_false_iff_ne.mpr h
        simp only [List.lookup, hb]
        exact ih
theorem keys_putF (f : Str) (v : V) : ∀ fs : List (Str × V), f ∈ (putF f v fs).map (·.1) ∧ ∀ g, g ∈ fs.map (·.1) → g ∈ (putF f v fs).map (·.1)
  | [] => ⟨by simp [putF], fun g h => by simp at h⟩
  | (k, x) :: r => by
    obtain ⟨i1, i2⟩ := keys_putF f v r
    rw [show putF f v ((k, x) :: r) = (if k = f then (k, v) :: r else (k, x) :: putF f v r) from rfl]
    by_cases hk : k = f
    · rw [if_pos hk]
      subst hk
      exact ⟨by simp, fun g h => by simpa using h⟩
    · rw [if_neg hk]
      refine ⟨?_, fun g h => ?_⟩
      · rw [List.map_cons]
        exact List.mem_cons_of_mem _ i1
      · rw [List.map_cons] at h ⊢
        rcases List.mem_cons.mp h with e | e
        · exact List.mem_cons.mpr (.inl e)
        · exact List.mem_cons_of_mem _ (i2 g e)
theorem length_putF (f : Str) (v : V) : ∀ fs : List (Str × V), (putF f v fs).length ≤ fs.length + 1
  | [] => by simp [putF]
  | (k, x) :: r => by
    have ih := length_putF f v r
    rw [show putF f v ((k, x) :: r) = (if k = f then (k, v) :: r else (k, x) :: putF f v r) from rfl]
    by_cases hk : k = f
    · rw [if_pos hk, List.length_cons, List.length_cons]; omega
    · rw [if_neg hk, List.length_cons, List.length_cons]; omega
theorem RelO.some_of {v : V} {o : Option Value} (r : RelO (some v) o) : ∃ u, o = some u ∧ RelV v u := by
  cases o with
  | none => exact (show False from r).elim
  | some u => exact ⟨u, rfl, r⟩
theorem RelO.none_of {o : Option Value} (r : RelO none o) : o = none := by
  cases o with
  | none => rfl
  | some u => exact (show False from r).elim
theorem handed_of {v : V} {u : Value} (r : RelV v u) : PySem.W.handedIn u = true := by
  cases v with
  | non => cases (show u = Value.none from r); rfl
  | bl b => cases (show u = Value.bool b from r); rfl
  | int i => obtain ⟨t, e⟩ := (show ∃ t, u = Value.int i t from r); cases e; rfl
  | str x => obtain ⟨t, e⟩ := (show ∃ t, u = Value.str x t from r); cases e; rfl
  | byt b => obtain ⟨t, e⟩ := (show ∃ t, u = Value.bytes b t from r); cases e; rfl
  | flt b => obtain ⟨t, e⟩ := (show ∃ t, u = Value.float b t from r); cases e; rfl
  | ref a => cases (show u = Value.ref a from r); rfl
  | ty n => cases (show u = Value.type n from r); rfl
section
variable {P : Program} {w : World} {H H' : Hp} {h h' : Heap} {a C dx : Addr} {fs fs' : List (Str × V)}
theorem ins_get (hok : HOk P w H h) (e : H a = some (.ins C dx fs)) : ∃ mA, ObjM h a dx C mA ∧ (∀ f, RelO (fs.lookup f) (mA f)) ∧ PySem.Within mA (fs.map (·.1)) ∧ fs.length ≤ 1000 ∧ H dx = some (.own a) := by
  obtain ⟨d, z, ne, ob, mA, n, r, q⟩ := (show ObjOk P w H h a (.ins C dx fs) from hok a _ e)
  exact ⟨mA, ⟨ob, n, ne⟩, r, q, z, d⟩
end
structure Cls (K : PySem.W.Frag) (C : Addr) : Prop where
  pg : PySem.W.plainGet K C Str.empty = true
  hd : PySem.W.hasDictIn K C = true
  po : PySem.W.plainOver K C = true
  sa : PySem.W.findIn K (.ref C) "__setattr__" = some (some (.builtin "object.__setattr__"))
theorem Cls.get {K : PySem.W.Frag} {C : Addr} (c : Cls K C) (f : Str) : PySem.W.plainGet K C f = true := c.pg
def NoAttr (K : PySem.W.Frag) (C : Addr) (f : Str) : Prop := PySem.W.findIn K (.ref C) f = some none
theorem NoAttr.taker {K : PySem.W.Frag} {C : Addr} {f : Str} (n : NoAttr K C f) : PySem.W.takerIn K C f = some none := by
  unfold PySem.W.takerIn
  rw [show PySem.W.findIn K (.ref C) f = some none from n]
  rfl
structure Meth (K : PySem.W.Frag) (C : Addr) (m : Str) (f : Addr) : Prop where
  at_ : PySem.W.findIn K (.ref C) m = some (some (.ref f))
  fn : PySem.W.isFn K (.ref f) = true
  kp : PySem.W.keepIn K (.ref f) = true
section
variable {X : Cx} {pins : List (Addr × Obj)} {σ : St} {H : Hp} {s : Shared} {a C dx : Addr} {fs : List (Str × V)} {f : Str} {v : V} {A : Around} {E : Value → Shared → Prop}
theorem getattr_ok {b : Bool} {Q : Value → Shared → Prop} (I : Inv X pins σ H s) (e : H a = some (.ins C dx fs)) (c : Cls X.K C) (n : NoAttr X.K C f) (l : fs.lookup f = some v)
    (h : ∀ u s', Inv X pins σ H s' → RelV v u → Q u s') : wpAny (model X.prog X.w) A (getAttr (.ref a) f b) Q E s := by
  obtain ⟨mA, O, r, _, _, _⟩ := ins_get I.hok e
  obtain ⟨u, hu, ru⟩ := RelO.some_of (v := v) (o := mA f) (by rw [← l]; exact r f)
  exact get_map I.kIn O (c.get f) c.hd n hu (handed_of ru) (h u _ (I.tok _) ru)
theorem getmeth_ok {m : Str} {g : Addr} {pl : Sem Bool} {Q : Value × List Value → Shared → Prop} (I : Inv X pins σ H s) (e : H a = some (.ins C dx fs)) (c : Cls X.K C) (k : Meth X.K C m g) (l : fs.lookup m = none)
    (h : Q (.ref g, [.ref a]) s) : wpAny (model X.prog X.w) A (getMethod (.ref a) m pl) Q E s := by
  obtain ⟨mA, O, r, _, _, _⟩ := ins_get I.hok e
  have hn : mA m = none := RelO.none_of (by rw [← l]; exact r m)
  exact get_meth I.kIn O (c.get m) k.at_ k.fn hn h
theorem setattr_ok {y : V} {u : Value} {Q : Unit → Shared → Prop} (I : Inv X pins σ H s) (e : H a = some (.ins C dx fs)) (c : Cls X.K C) (n : NoAttr X.K C f) (hl : fs.length < 1000) (ry : RelV y u)
    (h : ∀ s', Inv X pins σ (upd H a (.ins C dx (putF f y fs))) s' → Q () s') : wpAny (model X.prog X.w) A (setAttr (.ref a) f u) Q E s := by
  obtain ⟨mA, O, r, wi, _, ho⟩ := ins_get I.hok e
  have hz : (fs.map (·.1)).length ≤ sizeLine := by rw [List.length_map, sizeLine_eq]; omega
  refine set_map I.kIn O c.sa c.po n.taker c.hd wi hz fun h' O' sb => h _ ?_
  have hd : ∃ o, h'.get? dx = some o := let ⟨o, _, _, e', _⟩ := O'.ns; ⟨o, e'⟩
  refine I.write (x := a) (e := dx) (by rw [e]; exact True.intro) (.inr ho) (fun b q hb z => (sb.2 b hb).trans z) hd ?_
  refine ⟨by rw [upd_ne O.ne]; exact ho, ?_, O.ne, O'.obj, _, O'.ns, fun g => ?_, fun g hg => ?_⟩
  · have := length_putF f y fs; omega
  · show RelO ((putF f y fs).lookup g) (if g = f then some u else mA g)
    rw [lookup_putF]
    by_cases q : g = f
    · rw [if_pos q, if_pos q]; exact ry
    · rw [if_neg q, if_neg q]; exact r g
  · by_cases q : g = f
    · rw [q]; exact (keys_putF f y fs).1
    · refine (keys_putF f y fs).2 g (wi g fun z => hg ?_)
      show (if g = f then some u else mA g) = none
      rw [if_neg q]; exact z
theorem Inv.made (I : Inv X pins σ H s) : Inv X pins σ (upd (upd H s.heap.objs.size (.own (s.heap.objs.size + 1))) (s.heap.objs.size + 1) (.ins C s.heap.objs.size []))
    { s with heap := (s.heap.push PySem.W.emptyDict).push (PySem.W.instObj C s.heap.objs.size) } := by
  have e1 : (s.heap.push PySem.W.emptyDict).get? s.heap.objs.size = some PySem.W.emptyDict := Heap.get?_push_size s.heap rfl
  have e2 : ((s.heap.push PySem.W.emptyDict).push (PySem.W.instObj C s.heap.objs.size)).get? (s.heap.objs.size + 1) = some (PySem.W.instObj C s.heap.objs.size) := by
    have := Heap.get?_push_size (s.heap.push PySem.W.emptyDict) (o := PySem.W.instObj C s.heap.objs.size) rfl
    rwa [Heap.size_push] at this
  have e3 : (s.heap.push PySem.W.emptyDict).Ns s.heap.objs.size (fun _ => none) := ⟨PySem.W.emptyDict, #[], _, e1, rfl, (fun e he => absurd he (by simp)), fun _ => rfl⟩
  have I1 := I.laid (a := s.heap.objs.size) (o := .own (s.heap.objs.size + 1)) (h' := s.heap.push PySem.W.emptyDict) (t' := s.toks) (fun b u q => Heap.get?_push_of_some _ q) (Nat.le_refl _) ⟨_, e1⟩
  refine I1.laid (a := s.heap.objs.size + 1) (o := .ins C s.heap.objs.size []) (t' := s.toks) (fun b u q => Heap.get?_push_of_some _ q) (Nat.le_of_eq (Heap.size_push _ _)) ?_
  have ne : s.heap.objs.size ≠ s.heap.objs.size + 1 := Nat.ne_of_lt (Nat.lt_succ_self _)
  refine ⟨by rw [upd_ne ne, upd_same], Nat.zero_le _, ne, e2, fun _ => none, (Heap.Ns1.of_empty e3).at fun o q => Heap.get?_push_of_some _ q, fun _ => True.intro, fun y hy => absurd rfl hy⟩
theorem attr_of {prog : Program} {w : World} {env : Env} {e : Expr} {f : Str} {pos : Pos} {s : Shared} {Q : Value → Shared → Prop} (hb : attributeBase e f env (eval e env) = eval e env)
    (h : wpAny (model prog w) A (eval e env) (fun o s₁ => wpAny (model prog w) A (getAttr o f true) Q E s₁) E s) : wpAny (model prog w) A (eval (.Attribute e f pos) env) Q E s :=
  Attribute_any_ h (by rw [arm_eval_Attribute, hb])
end
def tFld (K : PySem.W.Frag) (ta : TE) (f : Str) : TE := fun σ H Q => ta σ H fun x H1 => ∃ a C dx fs v, x = .ref a ∧ H1 a = some (.ins C dx fs) ∧ Cls K C ∧ NoAttr K C f ∧ fs.lookup f = some v ∧ Q v H1
def sFld (K : PySem.W.Frag) (ta tv : TE) (f : Str) : TS := fun D σ H => tv σ H fun y H1 => ta σ H1 fun x H2 => ∃ a C dx fs, x = .ref a ∧ H2 a = some (.ins C dx fs) ∧ Cls K C ∧ NoAttr K C f ∧ fs.length < 1000 ∧
  D.nx σ (upd H2 a (.ins C dx (putF f y fs)))
section
variable {X : Cx} {o e value : Expr} {f : Str} {pos pos' tpos : Pos} {ta tv : TE}
theorem pe_fld (he : PE X e ta) (hb : attributeBase e f X.env (eval e X.env) = eval e X.env) : PE X (.Attribute e f pos) (tFld X.K ta f) := by
  intro pins s σ H Q I h
  refine attr_of hb (thn (he pins s σ H _ I h) fun u s1 ⟨x, H1, I1, rx, a, C, dx, fs, v, ex, ea, c, n, l, q⟩ => ?_)
  subst ex
  obtain rfl : u = Value.ref a := rx
  exact getattr_ok I1 ea c n l fun u' s2 I2 ru => ⟨v, H1, I2, ru, q⟩
theorem ps_fld (ha : PE X o ta) (hv : PE X value tv) (hs : swapsWith value (some (.Attribute o f pos')) pos.line X.env = pure false) : PS X (.Assign [.Attribute o f pos'] value pos) (sFld X.K ta tv f) := by
  intro pins s σ H D I h
  refine plainObj_wpAny_Assign_Attribute (thn (hv pins s σ H _ I h) fun u s1 ⟨y, H1, I1, ry, q⟩ => thn (ha pins s1 σ H1 _ I1 q) fun ov s2 ⟨x, H2, I2, rx, a, C, dx, fs, ex, ea, c, n, l, q2⟩ => ?_) hs
  subst ex
  obtain rfl : ov = Value.ref a := rx
  exact setattr_ok I2 ea c n l ry fun s3 I3 => ⟨σ, _, I3, q2⟩
theorem methcall_of {pl : Sem Bool} {m : Str} {apos : Pos} {args : List Expr} {pins : List (Addr × Obj)} {s : Shared} {σ : St} {H : Hp} {Q : Value → Shared → Prop} {te : TE} (he : PE X e te) (I : Inv X pins σ H s)
    (h : te σ H fun x H1 => ∃ a C dx fs g, x = .ref a ∧ H1 a = some (.ins C dx fs) ∧ Cls X.K C ∧ Meth X.K C m g ∧ fs.lookup m = none ∧
      ∀ s1, Inv X pins σ H1 s1 → wpAny (model X.prog X.w) X.A (callWith pos (.ref g) [.ref a] (backTo pos (starEach args X.env)) (backToKw pos (keywordEach [] X.env))) Q X.xe s1)
    (ht : eval (.Call (.Attribute e m apos) args [] pos) X.env = (do
      let ov ← eval e X.env
      standAt apos.atName
      let (f, first) ← holding [ov] (getMethod ov m pl)
      callWith pos f first (backTo pos (starEach args X.env)) (backToKw pos (keywordEach [] X.env)))) :
    wpAny (model X.prog X.w) X.A (eval (.Call (.Attribute e m apos) args [] pos) X.env) Q X.xe s := by
  refine PySem.W.methodCall_KW (pl := pl) (thn (he pins s σ H _ I h) fun u s1 ⟨x, H1, I1, rx, a, C, dx, fs, g, ex, ea, c, k, l, q⟩ => ?_) ht
  subst ex
  obtain rfl : u = Value.ref a := rx
  exact getmeth_ok I1 ea c k l (q s1 I1)
end
section
variable {X : Cx} {pins : List (Addr × Obj)} {σ : St} {H : Hp} {s : Shared} {A : Around} {E : Value → Shared → Prop} {Q : Value → Shared → Prop} {c : Value} {b : Bool}
end
end L2
namespace L2
open PySem PySem.Spec PyProof.Rows
structure Room (k : Nat) (A : Around) : Prop where
  hd : A.handled = none
  dp : A.depth + 3 * k + 5 < recursionLimit
  un : A.units + 16 * k + 200 < cLine
theorem Room.mono {j k : Nat} {A : Around} (r : Room k A) (h : j ≤ k) : Room j A := ⟨r.hd, by have := r.dp; omega, by have := r.un; omega⟩
theorem Room.deeper {k : Nat} {A : Around} (r : Room (k + 1) A) (env : Env) : Room k (A.deeper env) :=
  ⟨r.hd, by have := r.dp; show A.depth + 1 + 3 * k + 5 < _; omega, by have := r.un; show A.units + 3 + 16 * k + 200 < _; omega⟩
theorem Room.in1 {k : Nat} {A : Around} (r : Room (k + 1) A) : Room k A.in1 :=
  ⟨r.hd, by have := r.dp; show A.depth + 3 * k + 5 < _; omega, by have := r.un; show A.units + 1 + 16 * k + 200 < _; omega⟩
theorem make_depth {A : Around} {C : Addr} {us : List Value} {kw : List (Str × Value)} : (A.under (.builtin "type.__call__" ⟨.ref C :: us, kw⟩)).depth = A.depth + 1 := by
  first | rfl | simp [Around.under, Code.weight, Code.isCreation, Code.isGuard, Code.isCaller, Code.frames, Code.isFrame, guardIds]
theorem make_units {A : Around} {C : Addr} {us : List Value} {kw : List (Str × Value)} : (A.under (.builtin "type.__call__" ⟨.ref C :: us, kw⟩)).units = A.units + 1 := by
  first | rfl | simp [Around.under, Code.cUnits, Code.frames, Code.isFrame]
theorem Room.make {k : Nat} {A : Around} (r : Room (k + 1) A) (C : Addr) (us : List Value) (kw : List (Str × Value)) : Room k (A.under (.builtin "type.__call__" ⟨.ref C :: us, kw⟩)) :=
  ⟨r.hd, by have := r.dp; rw [make_depth]; omega, by have := r.un; rw [make_units]; omega⟩
theorem Room.depth {k : Nat} {A : Around} (r : Room k A) : A.depth < recursionLimit := by have := r.dp; omega
theorem Room.units {k : Nat} {A : Around} (r : Room k A) : A.units + 64 < cLine := by have := r.un; omega
theorem Room.units0 {k : Nat} {A : Around} (r : Room k A) : A.units < cLine := by have := r.un; omega
def tNil : TA := fun _ H Q => Q [] H
def tCons (ta : TE) (tr : TA) : TA := fun σ H Q => ta σ H fun x H1 => tr σ H1 fun xs H2 => Q (x :: xs) H2
section
variable {X : Cx} {e : Expr} {es : List Expr} {te : TE} {t : TA} {pos : Pos}
theorem pa_nil : PA X [] tNil := fun _ _ _ _ H Q I h => Calls.spliced_nil ⟨[], H, I, .nil, h⟩
theorem pa_cons (ha : PE X e te) (hr : PA X es t) (hs : starEach (e :: es) X.env = (false, eval e X.env) :: starEach es X.env := by rfl) : PA X (e :: es) (tCons te t) := by
  intro pos pins s σ H Q I h
  rw [hs]
  show wpAny _ _ (spliced ((false, eval e X.env) :: backTo pos (starEach es X.env))) _ _ s
  refine Calls.spliced_cons (thn (ha pins s σ H _ I h) fun u s1 ⟨x, H1, I1, r1, q1⟩ => ?_)
  exact thn (hr pos pins s1 σ H1 _ I1 q1) fun us s2 ⟨xs, H2, I2, r2, q2⟩ => ⟨x :: xs, H2, I2, .cons r1 r2, q2⟩
def tTup (t : TA) : TE := fun σ H Q => t σ H fun xs H1 => xs.length ≤ sizeLine ∧ ∀ p, H1 p = none → Q (.ref p) (upd H1 p (.tup xs))
def tLst (t : TA) : TE := fun σ H Q => t σ H fun xs H1 => xs.length ≤ sizeLine ∧ ∀ p, H1 p = none → Q (.ref p) (upd H1 p (.lst xs))
theorem pe_tup {x1} (h : PA X es t) : PE X (.Tuple es x1 pos) (tTup t) := by
  intro pins s σ H Q I hq
  refine wpAny_Tuple_spliced (thn (h pos pins s σ H _ I hq) fun us s1 ⟨xs, H1, I1, r, z, q⟩ => ⟨by rw [← r.length]; exact z, ?_⟩)
  have hf : H1 s1.heap.objs.size = none := I1.hok.fresh (Nat.le_refl _)
  refine ⟨.ref s1.heap.objs.size, upd H1 s1.heap.objs.size (.tup xs), I1.laid (t' := s1.toks) (fun b u e => Heap.get?_push_of_some _ e) (Nat.le_refl _) ?_, rfl, q _ hf⟩
  exact ⟨z, us, r, ⟨_, Heap.get?_push_size _ rfl, rfl, _, rfl⟩⟩
theorem pe_lst (h : PA X es t) : PE X (.List es pos) (tLst t) := by
  intro pins s σ H Q I hq
  refine wpAny_List_spliced (thn (h pos pins s σ H _ I hq) fun us s1 ⟨xs, H1, I1, r, z, q⟩ => ⟨by rw [← r.length]; exact z, ?_⟩)
  have hf : H1 s1.heap.objs.size = none := I1.hok.fresh (Nat.le_refl _)
  refine ⟨.ref s1.heap.objs.size, upd H1 s1.heap.objs.size (.lst xs), I1.laid (t' := s1.toks) (fun b u e => Heap.get?_push_of_some _ e) (Nat.le_refl _) ?_, rfl, q _ hf⟩
  exact ⟨z, us, 0, r, Heap.get?_push_size _ rfl⟩
end
abbrev Sp := List V → Hp → VK → XK → Prop
abbrev CXT := List Env → Hp → Shared → XK → Value → Shared → Prop
structure Env0 (P : Program) (w : World) (K : PySem.W.Frag) (mg : Str → Option Value) (base : Heap) (A : Around) (outer : List Env) (s : Shared) (H : Hp) : Prop where
  frames : A.frames = some outer
  mod : Mod K mg base
  bs : ∀ b o, base.get? b = some o → s.heap.get? b = some o ∧ H b = none
  bsz : base.objs.size ≤ s.heap.objs.size
  funs : s.heap.FunFrames base outer
  frf : ∀ b ∈ frs outer, H b = none
  hok : HOk P w H s.heap
  bare : AllBare s.gens
def CE (outer : List Env) (P : Program) (w : World) (H : Hp) (s : Shared) (Q : VK) (u : Value) (s' : Shared) : Prop :=
  ∃ v H', s'.os = s.os ∧ AllBare s'.gens ∧ Un (frs outer) [] H H' s.heap s'.heap ∧ HOk P w H' s'.heap ∧ RelV v u ∧ Q v H'
def CR (CX : CXT) (outer : List Env) (P : Program) (w : World) (H : Hp) (s : Shared) (Q : VK) (E : XK) (r : Result) (s' : Shared) : Prop :=
  match r with
  | .ok (.ret u) => CE outer P w H s Q u s'
  | .ok _ => False
  | .error e => CX outer H s E e s'
structure FnOk (P : Program) (w : World) (K : PySem.W.Frag) (mg : Str → Option Value) (base : Heap) (CX : CXT) (k : Nat) (f : Addr) (fd : FuncData) (ps : List Str) (sp : Sp) : Prop where
  len : ∀ vs H Q E, sp vs H Q E → vs.length = ps.length
  run : ∀ (A : Around) (outer : List Env) (s : Shared) (H : Hp) (args : Args) (us : List Value) (vs : List V) (Q : VK) (E : XK), Room k A → Env0 P w K mg base A outer s H → BindsTo s fd args (ps.zip us) → Vals vs us → sp vs H Q E →
    codeAny (model P w) A (.call (.ref f) args) (CR CX outer P w H s Q E) s
theorem FnOk.mono {P : Program} {w : World} {K : PySem.W.Frag} {mg : Str → Option Value} {base : Heap} {CX : CXT} {j k : Nat} {f : Addr} {fd : FuncData} {ps : List Str} {sp : Sp} (F : FnOk P w K mg base CX j f fd ps sp) (h : j ≤ k) :
    FnOk P w K mg base CX k f fd ps sp := ⟨F.len, fun A outer s H args us vs Q E hr => F.run A outer s H args us vs Q E (hr.mono h)⟩
theorem FnOk.imp {P : Program} {w : World} {K : PySem.W.Frag} {mg : Str → Option Value} {base : Heap} {CX : CXT} {k : Nat} {f : Addr} {fd : FuncData} {ps : List Str} {sp sp' : Sp} (F : FnOk P w K mg base CX k f fd ps sp)
    (h : ∀ vs H Q E, sp' vs H Q E → sp vs H Q E) : FnOk P w K mg base CX k f fd ps sp' :=
  ⟨fun vs H Q E q => F.len vs H Q E (h _ _ _ _ q), fun A outer s H args us vs Q E hr he hb hv hs => F.run A outer s H args us vs Q E hr he hb hv (h _ _ _ _ hs)⟩
theorem Env0.make {P : Program} {w : World} {K : PySem.W.Frag} {mg : Str → Option Value} {base : Heap} {A : Around} {outer : List Env} {s : Shared} {H : Hp} (e : Env0 P w K mg base A outer s H) (C : Addr) (us : List Value) (kw : List (Str × Value)) :
    Env0 P w K mg base (A.under (.builtin "type.__call__" ⟨.ref C :: us, kw⟩)) outer s H := ⟨by first | exact e.frames | (simpa [Around.under, Code.envs, Code.isFrame, pushEnvs] using e.frames), e.mod, e.bs, e.bsz, e.funs, e.frf, e.hok, e.bare⟩
theorem Env0.in1 {P : Program} {w : World} {K : PySem.W.Frag} {mg : Str → Option Value} {base : Heap} {A : Around} {outer : List Env} {s : Shared} {H : Hp} (e : Env0 P w K mg base A outer s H) :
    Env0 P w K mg base A.in1 outer s H := ⟨e.frames, e.mod, e.bs, e.bsz, e.funs, e.frf, e.hok, e.bare⟩
section
variable {X : Cx} {pins : List (Addr × Obj)} {σ : St} {H : Hp} {s s' : Shared}
theorem Inv.env0 (I : Inv X pins σ H s) : Env0 X.prog X.w X.K X.mg X.base X.A X.stack s H :=
  ⟨I.ok.frames, I.ok.mod, I.bs, Nat.le_trans I.ok.bsz I.sz, I.stack, I.stkFree, I.hok, I.bare⟩
theorem Inv.after {Q : VK} {u : Value} (I : Inv X pins σ H s) (h : CE X.stack X.prog X.w H s Q u s') : EP X pins σ Q u s' := by
  obtain ⟨v, H', os, bare, un, hok, r, q⟩ := h
  obtain ⟨hh, g, d, t, os'⟩ := s'
  obtain rfl : os' = s.os := os
  exact ⟨v, H', I.call (h' := hh) (g' := g) (d' := d) (t' := t) (ch := []) un hok bare (fun b z => absurd z (by simp)), r, q⟩
end
def tCall (sp : Sp) (dvs : List V) (E : XK) (t : TA) : TE := fun σ H Q => t σ H fun vs H1 => sp (vs ++ dvs) H1 Q E
def tMeth (C : Addr) (m : Str) (sp : Sp) (dvs : List V) (E : XK) (ta : TE) (t : TA) : TE := fun σ H Q => ta σ H fun x H1 => ∃ a dx fs, x = .ref a ∧ H1 a = some (.ins C dx fs) ∧ fs.lookup m = none ∧
  t σ H1 fun vs H2 => sp (x :: (vs ++ dvs)) H2 Q E
def tMake (C : Addr) (sp : Sp) (dvs : List V) (E : XK) (t : TA) : TE := fun σ H Q => t σ H fun vs H1 => ∀ x dx, H1 x = none → H1 dx = none → dx ≠ x →
  sp (.ref x :: (vs ++ dvs)) (upd (upd H1 dx (.own x)) x (.ins C dx [])) (fun v H2 => v = .non ∧ Q (.ref x) H2) E
def Binds (K : PySem.W.Frag) (fd : FuncData) (ps : List Str) (ds : List Value) : Prop :=
  ∀ (s : Shared) (us : List Value), K.In s.heap → (us ++ ds).length = ps.length → BindsTo s fd ⟨us, []⟩ (ps.zip (us ++ ds))
theorem Binds.all {K : PySem.W.Frag} {fd : FuncData} {ps : List Str} (h : ∀ us : List Value, us.length = ps.length → bindArgs fd ⟨us, []⟩ = pure (ps.zip us)) : Binds K fd ps [] := fun s us _ hl => by
  rw [List.append_nil] at hl ⊢
  exact .of_eq (h us hl)
def Passes (CX : CXT) (X : Cx) (E : XK) : Prop := ∀ (pins : List (Addr × Obj)) (σ : St) (H : Hp) (s : Shared) (e : Value) (s' : Shared), Inv X pins σ H s → CX X.stack H s E e s' → X.xe e s'
section
variable {X : Cx} {CX : CXT} {k : Nat} {f C : Addr} {fd : FuncData} {ps : List Str} {sp : Sp} {dvs : List V} {ds : List Value} {E : XK} {x m : Str} {p pos apos : Pos} {e o : Expr} {es : List Expr} {ta : TE} {t : TA}
theorem run_fn {pins : List (Addr × Obj)} {σ : St} {H : Hp} {s : Shared} {Q : VK} {us : List Value} {vs : List V} (F : FnOk X.prog X.w X.K X.mg X.base CX k f fd ps sp) (hr : Room k X.A) (hb : Binds X.K fd ps ds) (hd : Vals dvs ds) (hx : Passes CX X E)
    (I : Inv X pins σ H s) (r : Vals vs us) (h : sp (vs ++ dvs) H Q E) : wpAny (model X.prog X.w) X.A (call (.ref f) us) (EP X pins σ Q) X.xe s := by
  have r2 : Vals (vs ++ dvs) (us ++ ds) := r.append hd
  have hl : (us ++ ds).length = ps.length := by rw [← r2.length]; exact F.len _ _ _ _ h
  refine wpAny_call (codeAny_mono (F.run X.A X.stack s H ⟨us, []⟩ (us ++ ds) (vs ++ dvs) Q E hr I.env0 (hb s us I.kIn hl) r2 h) fun r s' hq => ?_)
  cases r with
  | error e => exact hx pins σ H s e s' I hq
  | ok fl =>
    cases fl with
    | ret u => exact I.after hq
    | next => exact False.elim hq
    | brk => exact False.elim hq
    | cont => exact False.elim hq
theorem pe_call (F : FnOk X.prog X.w X.K X.mg X.base CX k f fd ps sp) (hr : Room k X.A) (hg : Gl X x) (hm : X.mg x = some (.ref f)) (hk : PySem.W.keepIn X.K (.ref f) = true) (hb : Binds X.K fd ps ds) (hd : Vals dvs ds) (hx : Passes CX X E)
    (ha : PA X (e :: es) t) (hdb : (x == ("__debug__" : Str)) = false := by decide) (he : starEach (e :: es) X.env = (false, eval e X.env) :: starEach es X.env := by rfl) (hpl : (backTo pos (starEach es X.env)).any (·.1) = false := by rfl) :
    PE X (.Call (.Name x p) (e :: es) [] pos) (tCall sp dvs E t) := by
  intro pins s σ H Q I h
  refine wpAny_Call_Name_kw (ld_glob I hg hm ?_ hdb)
  refine PySem.W.callWith_K (h₀ := X.base) I.ok.mod.kin hk (thn (ha pos pins s σ H _ I h) fun us s1 ⟨vs, H1, I1, r, q⟩ => ⟨I1.kIn, ?_⟩) he hpl
  exact run_fn F hr hb hd hx I1 r q
theorem pe_meth {pl : Sem Bool} (he : PE X o ta) (c : Cls X.K C) (hm : Meth X.K C m f) (F : FnOk X.prog X.w X.K X.mg X.base CX k f fd ps sp) (hr : Room k X.A) (hb : Binds X.K fd ps ds) (hd : Vals dvs ds) (hx : Passes CX X E) (ha : PA X (e :: es) t)
    (hst : starEach (e :: es) X.env = (false, eval e X.env) :: starEach es X.env := by rfl) (hpl : (backTo pos (starEach es X.env)).any (·.1) = false := by rfl)
    (ht : eval (.Call (.Attribute o m apos) (e :: es) [] pos) X.env = (do
      let ov ← eval o X.env
      standAt apos.atName
      let (f, first) ← holding [ov] (getMethod ov m pl)
      callWith pos f first (backTo pos (starEach (e :: es) X.env)) (backToKw pos (keywordEach [] X.env))) := by rfl) :
    PE X (.Call (.Attribute o m apos) (e :: es) [] pos) (tMeth C m sp dvs E ta t) := by
  intro pins s σ H Q I h
  refine PySem.W.methodCall_KW (pl := pl) (thn (he pins s σ H _ I h) fun u s1 ⟨x, H1, I1, rx, a, dx, fs, ex, ea, l, q⟩ => ?_) ht
  subst ex
  obtain rfl : u = Value.ref a := rx
  refine getmeth_ok I1 ea c hm l ?_
  refine PySem.W.callWith_K (first := [.ref a]) (h₀ := X.base) I.ok.mod.kin hm.kp (thn (ha pos pins s1 σ H1 _ I1 q) fun us s2 ⟨vs, H2, I2, r, q2⟩ => ⟨I2.kIn, ?_⟩) hst hpl
  exact run_fn (us := .ref a :: us) (vs := .ref a :: vs) F hr hb hd hx I2 (.cons rfl r) q2
structure Mk (K : PySem.W.Frag) (C f : Addr) : Prop where
  makes : PySem.W.makesIn K C = true
  init : PySem.W.findIn K (.ref C) "__init__" = some (some (.ref f))
  fn : PySem.W.isFn K (.ref f) = true
  kp : PySem.W.keepIn K (.ref C) = true
theorem run_make {pins : List (Addr × Obj)} {σ : St} {H : Hp} {s : Shared} {Q : VK} {us : List Value} {vs : List V} (M : Mk X.K C f) (F : FnOk X.prog X.w X.K X.mg X.base CX k f fd ps sp) (hr : Room (k + 1) X.A) (hb : Binds X.K fd ps ds) (hd : Vals dvs ds)
    (hx : Passes CX X E) (I : Inv X pins σ H s) (r : Vals vs us)
    (h : ∀ x dx, H x = none → H dx = none → dx ≠ x → sp (.ref x :: (vs ++ dvs)) (upd (upd H dx (.own x)) x (.ins C dx [])) (fun v H2 => v = .non ∧ Q (.ref x) H2) E) :
    wpAny (model X.prog X.w) X.A (call (.ref C) us) (EP X pins σ Q) X.xe s := by
  have hq := h (s.heap.objs.size + 1) s.heap.objs.size (I.hok.fresh (Nat.le_succ _)) (I.hok.fresh (Nat.le_refl _)) (Nat.ne_of_lt (Nat.lt_succ_self _))
  have I2 := Inv.made (C := C) I
  have r2 : Vals (V.ref (s.heap.objs.size + 1) :: (vs ++ dvs)) (Value.ref (s.heap.objs.size + 1) :: (us ++ ds)) := .cons rfl (r.append hd)
  have hl : (Value.ref (s.heap.objs.size + 1) :: us ++ ds).length = ps.length := by
    have e := r2.length
    rw [F.len _ _ _ _ hq] at e
    exact e.symm
  refine wpAny_call (make_map (f := f) I.kIn M.makes M.init (beq_iff_eq.mp M.fn) (codeAny_mono (F.run _ X.stack _ _ ⟨Value.ref (s.heap.objs.size + 1) :: us, []⟩ (Value.ref (s.heap.objs.size + 1) :: (us ++ ds)) _ _ E (hr.make C us [])
    (I2.env0.make C us []) (hb _ (Value.ref (s.heap.objs.size + 1) :: us) I2.kIn hl) r2 hq) fun r s' hq' => ?_))
  cases r with
  | error e => exact hx pins σ _ _ e s' I2 hq'
  | ok fl =>
    cases fl with
    | ret u =>
      obtain ⟨v, H', I3, rv, ev, q3⟩ := I2.after hq'
      subst ev
      exact ⟨rv, ⟨V.ref (s.heap.objs.size + 1), H', I3, rfl, q3⟩⟩
    | next => exact False.elim hq'
    | brk => exact False.elim hq'
    | cont => exact False.elim hq'
theorem pe_make (M : Mk X.K C f) (F : FnOk X.prog X.w X.K X.mg X.base CX k f fd ps sp) (hr : Room (k + 1) X.A) (hg : Gl X x) (hm : X.mg x = some (.ref C)) (hb : Binds X.K fd ps ds) (hd : Vals dvs ds) (hx : Passes CX X E)
    (ha : PA X (e :: es) t) (hdb : (x == ("__debug__" : Str)) = false := by decide) (he : starEach (e :: es) X.env = (false, eval e X.env) :: starEach es X.env := by rfl) (hpl : (backTo pos (starEach es X.env)).any (·.1) = false := by rfl) :
    PE X (.Call (.Name x p) (e :: es) [] pos) (tMake C sp dvs E t) := by
  intro pins s σ H Q I h
  refine wpAny_Call_Name_kw (ld_glob I hg hm ?_ hdb)
  refine PySem.W.callWith_K (h₀ := X.base) I.ok.mod.kin M.kp (thn (ha pos pins s σ H _ I h) fun us s1 ⟨vs, H1, I1, r, q⟩ => ⟨I1.kIn, ?_⟩) he hpl
  exact run_make M F hr hb hd hx I1 r q
end
section
variable {X : Cx} {CX : CXT} {k : Nat} {f C : Addr} {fd : FuncData} {ps ks : List Str} {sp : Sp} {E : XK} {x m : Str} {p pos apos kpos : Pos} {e o : Expr} {es : List Expr} {kws : List Keyword} {te ta : TE} {t tk : TA} {nm : Option Str}
variable {g : List Value → List Value → List Value} {gV : List V → List V → List V}
end
structure FnScope (N P : List Str) (sc : Scope) : Prop where
  kind : sc.kind = .function
  co : sc.isCoroutine = false
  gen : sc.isGenerator = false
  nd : N.Nodup
  pre : N.take P.length = P
  par : ∀ x ∈ P, sc.names.lookup x = some .local ∨ sc.names.lookup x = some .cell
  nofree : ∀ y ∈ sc.names, y.2 ≠ .free
theorem bindL_out {kindOf : Str → Option NameKind} {x : Str} : ∀ {binds : List (Str × Value)} {m : Str → Option Value}, (∀ v, (x, v) ∉ binds) → bindL kindOf binds m x = m x
  | [], _, _ => rfl
  | (n, v) :: r, m, h => by
    unfold bindL
    rw [bindL_out fun w hw => h w (List.mem_cons_of_mem _ hw)]
    split
    · have : x ≠ n := by rintro rfl; exact h v List.mem_cons_self
      simp [this]
    · rfl
theorem bindC_out {kindOf : Str → Option NameKind} {x : Str} : ∀ {binds : List (Str × Value)} {m : Str → Option Value}, (∀ v, (x, v) ∉ binds) → bindC kindOf binds m x = m x
  | [], _, _ => rfl
  | (n, v) :: r, m, h => by
    unfold bindC
    rw [bindC_out fun w hw => h w (List.mem_cons_of_mem _ hw)]
    split
    · rfl
    · have : x ≠ n := by rintro rfl; exact h v List.mem_cons_self
      simp [this]
theorem bindL_get {kindOf : Str → Option NameKind} {x : Str} {v : Value} : ∀ {P : List Str} {vs : List Value} {i : Nat} {m : Str → Option Value}, P.Nodup → P[i]? = some x → vs[i]? = some v → kindOf x = some .local →
    bindL kindOf (P.zip vs) m x = some v
  | [], _, _, _, _, h, _, _ => by simp at h
  | _ :: _, [], _, _, _, _, h, _ => by simp at h
  | p :: P, w :: vs, 0, m, nd, h1, h2, hk => by
    simp at h1 h2; subst h1; subst h2
    show bindL kindOf ((p, w) :: P.zip vs) m p = _
    unfold bindL
    rw [bindL_out fun v hv => (List.nodup_cons.mp nd).1 (List.of_mem_zip hv).1, if_pos hk]
    simp
  | p :: P, w :: vs, i + 1, m, nd, h1, h2, hk => by
    show bindL kindOf ((p, w) :: P.zip vs) m x = _
    unfold bindL
    exact bindL_get (i := i) (List.nodup_cons.mp nd).2 (by simpa using h1) (by simpa using h2) hk
theorem bindC_get {kindOf : Str → Option NameKind} {x : Str} {v : Value} : ∀ {P : List Str} {vs : List Value} {i : Nat} {m : Str → Option Value}, P.Nodup → P[i]? = some x → vs[i]? = some v → kindOf x ≠ some .local →
    bindC kindOf (P.zip vs) m x = some v
  | [], _, _, _, _, h, _, _ => by simp at h
  | _ :: _, [], _, _, _, _, h, _ => by simp at h
  | p :: P, w :: vs, 0, m, nd, h1, h2, hk => by
    simp at h1 h2; subst h1; subst h2
    show bindC kindOf ((p, w) :: P.zip vs) m p = _
    unfold bindC
    rw [bindC_out fun v hv => (List.nodup_cons.mp nd).1 (List.of_mem_zip hv).1, if_neg hk]
    simp
  | p :: P, w :: vs, i + 1, m, nd, h1, h2, hk => by
    show bindC kindOf ((p, w) :: P.zip vs) m x = _
    unfold bindC
    exact bindC_get (i := i) (List.nodup_cons.mp nd).2 (by simpa using h1) (by simpa using h2) hk
def start (N : List Str) (vs : List V) : St := vs.map some ++ List.replicate (N.length - vs.length) none
def cxOf (CX : CXT) (P : Program) (w : World) (K : PySem.W.Frag) (mg : Str → Option Value) (base : Heap) (N : List Str) (qual : Str) (scope : Scope) (f : Addr) (cd : Value) (A : Around) (outer : List Env) (s : Shared) (H : Hp) (E : XK) : Cx where
  prog := P
  w := w
  K := K
  mg := mg
  base := base
  A := A.deeper (envOfC qual scope s.heap.objs.size f cd)
  N := N
  s₀ := s
  H₀ := H
  env := envOfC qual scope s.heap.objs.size f cd
  outer := outer
  stack := envOfC qual scope s.heap.objs.size f cd :: outer
  ex := []
  calm := true
  fn := fun _ => true
  pn := []
  xe := fun e s' => wpAny (model P w) (A.deeper (envOfC qual scope s.heap.objs.size f cd)) (leaving (envOfC qual scope s.heap.objs.size f cd) e) (fun _ s'' => CX outer H s E e s'') (fun e' s'' => CX outer H s E e' s'') s'
theorem cell_has {sc : Scope} {n : Nat} {x : Str} (h : sc.names.lookup x = some .cell) : ∃ c, (cellsFrom n sc.names []).lookup x = some c := by
  have q := PySem.W.cellsFrom_some sc.names n [] (.inl h)
  exact Option.isSome_iff_exists.mp q
theorem inv_start {CX : CXT} {P : Program} {w : World} {K : PySem.W.Frag} {mg : Str → Option Value} {base : Heap} {N ps : List Str} {qual : Str} {scope : Scope} {f : Addr} {cd : Value} {A : Around} {outer : List Env} {s s1 : Shared} {H : Hp} {E : XK} {us : List Value} {vs : List V}
    (S : FnScope N ps scope) (hd : A.handled = none) (e0 : Env0 P w K mg base A outer s H) (hl : vs.length = ps.length) (r : Vals vs us)
    (x : InCallC s s.heap.objs.size (bindL (envOfC qual scope s.heap.objs.size f cd).kindOf (ps.zip us) fun _ => none) (cellsFrom (s.heap.objs.size + 1) scope.names []) (bindC (envOfC qual scope s.heap.objs.size f cd).kindOf (ps.zip us) fun _ => none) s1) :
    Inv (cxOf CX P w K mg base N qual scope f cd A outer s H E) [] (start N vs) H s1 := by
  have hpl : ps.length ≤ N.length := by have := congrArg List.length S.pre; rw [List.length_take] at this; omega
  obtain ⟨h1, tk, rfl, hk⟩ := x.done
  have noA : ∀ b : Addr, b ∉ (cxOf CX P w K mg base N qual scope f cd A outer s H E).ex := fun b z => absurd (show b ∈ ([] : List Addr) from z) (by simp)
  refine ⟨⟨e0.mod, S.kind, rfl, rfl, Nat.le_refl _, fun y z c h1 h2 => ?_, fun y hy => ?_, fun y c _ h => ?_, fun _ => hd, Around.frames_deeper e0.frames, .inr ⟨rfl, rfl⟩, fun b z => absurd z (noA b), e0.bs, e0.bsz, fun b _ _ => noA b, fun b z => absurd z (noA b), e0.funs, e0.frf⟩,
    rfl, e0.bare, Un.kept hk, ⟨_, x.toInCall.ns, fun i y v h1 h2 h3 => ?_⟩, fun y c h => ⟨_, x.cell y c h⟩, e0.hok.fresh (Nat.le_refl _), fun y c h => ?_, fun p hp => absurd (show p ∈ ([] : List (Addr × Obj)) from hp) (by simp), e0.hok.kept hk, ?_⟩
  · exact name_of_addr x.apart (PySem.mem_of_lookup h1) (PySem.mem_of_lookup h2)
  · have hy : scope.names.lookup y = some .cell ∨ scope.names.lookup y = some .free := hy
    rcases hy with hy | hy
    · exact cell_has hy
    · exact absurd rfl (S.nofree _ (PySem.mem_of_lookup hy))
  · exact Nat.le_of_lt (x.above y c (PySem.mem_of_lookup h))
  · have hi : i < vs.length := by
      unfold start at h2
      by_cases hi : i < vs.length
      · exact hi
      · rw [List.getElem?_append_right (by simpa using hi)] at h2
        rw [List.getElem?_replicate] at h2
        split at h2 <;> cases h2
    have ha : vs[i]? = some v := by
      unfold start at h2
      rw [List.getElem?_append_left (by simpa using hi), List.getElem?_map] at h2
      cases e : vs[i]? with
      | none => rw [e] at h2; cases h2
      | some a => rw [e] at h2; cases h2; rfl
    obtain ⟨u, hu, rv⟩ := r.get ha
    have hp : ps[i]? = some y := by
      rw [← S.pre, List.getElem?_take_of_lt (by omega)]; exact h1
    have ndP : ps.Nodup := by rw [← S.pre]; exact S.nd.sublist (List.take_sublist _ _)
    refine ⟨u, rv, ?_⟩
    rcases S.par y (List.mem_of_getElem? hp) with k | k
    · exact .inl ⟨k, bindL_get ndP hp hu k⟩
    · obtain ⟨c, e⟩ := cell_has (n := s.heap.objs.size + 1) k
      refine .inr ⟨.inl k, c, e, ?_⟩
      have q := x.cell y c e
      rw [bindC_get ndP hp hu (by show scope.names.lookup y ≠ _; rw [k]; decide)] at q
      exact q
  · exact e0.hok.fresh (Nat.le_of_lt (x.above y c (PySem.mem_of_lookup h)))
  · unfold start
    show _ = N.length
    rw [List.length_append, List.length_map, List.length_replicate]
    omega
theorem fn_of {CX : CXT} {P : Program} {w : World} {K : PySem.W.Frag} {mg : Str → Option Value} {base : Heap} {k : Nat} {f : Addr} {name qual : Str} {params : Arguments} {body : List Stmt} {scope : Scope} {dV kV doc pm cdv ct oc : Value} {an od : Option Addr}
    {osl : Array (Option Value)} {N ps : List Str} {sp : Sp} (lk : K.lookup f = some ⟨oc, od, .func (PySem.W.fnOf name qual params body scope dV kV doc pm an cdv ct), osl⟩) (hcd : PySem.W.codeIn K cdv qual = true) (S : FnScope N ps scope)
    (len : ∀ vs H Q E, sp vs H Q E → vs.length = ps.length)
    (hbody : ∀ (A : Around) (outer : List Env) (s : Shared) (H : Hp) (vs : List V) (Q : VK) (E : XK), Room k (A.deeper (envOfC qual scope s.heap.objs.size f cdv)) → sp vs H Q E →
      ∃ t, PSs (cxOf CX P w K mg base N qual scope f cdv A outer s H E) body t ∧ t { nx := fun _ H' => Q .non H', rt := Q } (start N vs) H) :
    FnOk P w K mg base CX (k + 1) f (PySem.W.fnOf name qual params body scope dV kV doc pm an cdv ct) ps sp := by
  refine ⟨len, fun A outer s H args us vs Q E hr e0 hb r hsp => ?_⟩
  have hl := len _ _ _ _ hsp
  have KX : K.In s.heap := e0.mod.kin.keeps fun b o e => (e0.bs b o e).1
  have lim : s.heap.NoLimit := e0.mod.nolimit.keeps fun b o e => (e0.bs b o e).1
  have hkind : ∀ y ∈ ps.zip us, scope.names.lookup y.1 = some .local ∨ (scope.names.lookup y.1 = some .cell ∧ ((cellsFrom (s.heap.objs.size + 1) scope.names []).lookup y.1).isSome = true) := fun ⟨n, v⟩ hy => by
    rcases S.par n (List.of_mem_zip hy).1 with q | q
    · exact .inl q
    · exact .inr ⟨q, PySem.W.cellsFrom_some _ _ _ (.inl q)⟩
  refine codeAny_call_function hr.depth (KX _ _ lk) rfl S.co S.gen rfl (PySem.W.codeRec_of KX hcd) (hb _ _ _ _ ?_)
  refine wpAny_newFunctionEnv_cells S.kind hkind fun env he s1 x => ?_
  subst he
  refine ⟨lim.keeps x.toInCall.keep, codeAny_func ?_⟩
  obtain ⟨t, ht, hq⟩ := hbody A outer s H vs Q E (hr.deeper _) hsp
  have I : Inv (cxOf CX P w K mg base N qual scope f cdv A outer s H E) [] (start N vs) H s1 := inv_start S hr.hd e0 hl r x
  refine wpAny_mono (ht [] s1 (start N vs) H _ I hq) (fun fl s' hs => ?_) fun e s' hs => hs
  have fin : ∀ {σ' : St} {H' : Hp} {v : V} {u : Value}, Inv (cxOf CX P w K mg base N qual scope f cdv A outer s H E) [] σ' H' s' → RelV v u → Q v H' → CE outer P w H s Q u s' :=
    fun {σ' H' v u} J rv q => ⟨v, H', J.os, J.bare, J.base, J.hok, rv, q⟩
  cases fl with
  | ret u =>
    obtain ⟨v, σ', H', J, rv, q⟩ := hs
    exact fin J rv q
  | next =>
    obtain ⟨σ', H', J, q⟩ := hs
    exact fin (v := V.non) (u := Value.none) J rfl q
  | brk =>
    obtain ⟨_, _, _, q⟩ := hs
    exact False.elim q
  | cont =>
    obtain ⟨_, _, _, q⟩ := hs
    exact False.elim q
end L2
namespace L2
open PySem PySem.Spec PyProof.Rows
section
variable {X : Cx} {x : Str} {p pos : Pos} {e : Expr} {es : List Expr} {t : TA} {id T : String} {r : List V → Hp → VK → Prop}
def tCB (r : List V → Hp → VK → Prop) (t : TA) : TE := fun σ H Q => t σ H fun vs H1 => r vs H1 Q
theorem pe_callB (hc : CallR X (.builtin id) r) (hg : Gl X x) (hm : X.mg x = none) (hv : bootBuiltins x = some (.builtin id)) (ha : PA X (e :: es) t) (hn : x ≠ "__name__" := by decide) (hdb : (x == ("__debug__" : Str)) = false := by decide)
    (he : starEach (e :: es) X.env = (false, eval e X.env) :: starEach es X.env := by rfl) (hpl : (backTo pos (starEach es X.env)).any (·.1) = false := by rfl) : PE X (.Call (.Name x p) (e :: es) [] pos) (tCB r t) := by
  intro pins s σ H Q I h
  refine wpAny_Call_Name_kw (ld_blt I hg hm hv ?_ hn hdb)
  exact PyProof.Rows.callWith_builtin1 (thn (ha pos pins s σ H _ I h) fun us s1 ⟨vs, H1, I1, r1, q1⟩ => hc pins s1 σ H1 vs us Q I1 r1 q1) he hpl
theorem pe_callTy (hc : CallR X (.type T) r) (hg : Gl X x) (hm : X.mg x = none) (hv : bootBuiltins x = some (.type T)) (ha : PA X (e :: es) t) (hn : x ≠ "__name__" := by decide) (hdb : (x == ("__debug__" : Str)) = false := by decide)
    (he : starEach (e :: es) X.env = (false, eval e X.env) :: starEach es X.env := by rfl) (hpl : (backTo pos (starEach es X.env)).any (·.1) = false := by rfl) : PE X (.Call (.Name x p) (e :: es) [] pos) (tCB r t) := by
  intro pins s σ H Q I h
  refine wpAny_Call_Name_kw (ld_blt I hg hm hv ?_ hn hdb)
  exact PyProof.Rows.callWith_type1 (thn (ha pos pins s σ H _ I h) fun us s1 ⟨vs, H1, I1, r1, q1⟩ => hc pins s1 σ H1 vs us Q I1 r1 q1) he hpl
end
end L2
namespace HT
open PySem PyProof.Rows
def lexLt : List Int → List Int → Bool
  | [], [] => false
  | [], _ :: _ => true
  | _ :: _, [] => false
  | x :: xs, y :: ys => if x = y then lexLt xs ys else decide (x < y)
theorem lexLt_cons (x y : Int) (xs ys : List Int) : lexLt (x :: xs) (y :: ys) = if x = y then lexLt xs ys else decide (x < y) := rfl
theorem lexLt_nil_nil : lexLt [] [] = false := rfl
theorem lexLt_nil_cons (y : Int) (ys : List Int) : lexLt [] (y :: ys) = true := rfl
theorem lexLt_cons_nil (x : Int) (xs : List Int) : lexLt (x :: xs) [] = false := rfl
section
open PySem.SeqAt
open PySem.AutoSeq1 (wpAny_loadPart')
open PySem.MeetsSeq PySem.MeetsSeq2 PySem.MeetsSeq3
end
section
variable {prog : Program} {w : World} {A : Around} {E : Value → Shared → Prop} {s : Shared}
theorem cat_tup {t b : Addr} {vs ws : List Value} {Q : Value → Shared → Prop} (ht : IsTup s.heap t vs.toArray) (hb : IsTup s.heap b ws.toArray) (hv : vs ≠ [])
    (h1 : ws = [] → Q (.ref t) s) (h2 : ws ≠ [] → Q (.ref s.heap.objs.size) { s with heap := s.heap.push { cls := .type "tuple", data := .seq (vs ++ ws).toArray } })
    (hsz : vs.length + ws.length ≤ sizeLine) : wpAny (model prog w) A (binaryOp .Add (.ref t) (.ref b)) Q E s := by
  obtain ⟨⟨cls, dd, data, sl⟩, ho, hc, n, hd⟩ := id ht
  obtain ⟨⟨cls2, dd2, data2, sl2⟩, ho2, hc2, n2, hd2⟩ := id hb
  simp only at hc hd hc2 hd2
  subst hc hd hc2 hd2
  have e : vs.toArray ++ ws.toArray = (vs ++ ws).toArray := by simp
  by_cases hw : ws = []
  · exact concat_meets ⟨_, ho, rfl⟩ ⟨_, ho2, rfl⟩ noFill_tuple_add seq_tuple_add PySem.F.slot_tuple_add PySem.F.entry_tuple_add (PySem.F.args_tuple_add_2 _ _)
      (tuple_addW1 t b vs.toArray ws.toArray n n2 dd dd2 sl sl2 (by simpa using hv) (by simp [hw])) ⟨ho, ho2, h1 hw⟩
  · refine concat_meets ⟨_, ho, rfl⟩ ⟨_, ho2, rfl⟩ noFill_tuple_add seq_tuple_add PySem.F.slot_tuple_add PySem.F.entry_tuple_add (PySem.F.args_tuple_add_2 _ _)
      (tuple_addW2 t b vs.toArray ws.toArray n n2 dd dd2 sl sl2 (by simpa using hv) (by simpa using hw) (by rw [List.size_toArray, List.size_toArray]; exact hsz)) ⟨ho, ho2, ?_⟩
    rw [e]
    exact h2 hw
def sIx (n d : Nat) : Option Int → Nat
  | none => d
  | some v => if v < 0 then (v + (n : Int)).toNat else min v.toNat n
theorem sIx_none (n d : Nat) : sIx n d none = d := rfl
theorem sIx_nat (n d k : Nat) : sIx n d (some (k : Int)) = min k n := by
  show (if (k : Int) < 0 then ((k : Int) + (n : Int)).toNat else min (k : Int).toNat n) = min k n
  rw [if_neg (by omega), Int.toNat_natCast]
theorem sIx_le (n d : Nat) (hd : d ≤ n) (o : Option Int) : sIx n d o ≤ n := by
  cases o with
  | none => exact hd
  | some v =>
    show (if v < 0 then (v + (n : Int)).toNat else min v.toNat n) ≤ n
    by_cases hv : v < 0
    · rw [if_pos hv]; omega
    · rw [if_neg hv]; exact Nat.min_le_right _ _
theorem clip_eq (v : Int) (n d : Nat) : (if v < 0 then max (v + (n : Int)) 0 else min v (n : Int)) = ((sIx n d (some v) : Nat) : Int) := by
  show (if v < 0 then max (v + (n : Int)) 0 else min v (n : Int)) = (((if v < 0 then (v + (n : Int)).toNat else min v.toNat n) : Nat) : Int)
  by_cases hv : v < 0
  · simp only [if_pos hv]; omega
  · simp only [if_neg hv]; omega
theorem adjust_gen (lo hi : Option Int) (n : Nat) : Builtin.Slice.sliceAdjust lo hi 1 (n : Int) = (((sIx n 0 lo : Nat) : Int), ((sIx n n hi : Nat) : Int)) := by
  have h1 : ¬ ((1 : Int) < 0) := by omega
  unfold Builtin.Slice.sliceAdjust
  simp only [h1, if_false]
  refine Prod.ext ?_ ?_
  · cases lo with
    | none => rfl
    | some v => exact clip_eq v n 0
  · cases hi with
    | none => rfl
    | some v => exact clip_eq v n n
theorem places_gen (i j : Nat) : Builtin.Slice.slicePlaces (i : Int) (j : Int) 1 = j - i := by
  unfold Builtin.Slice.slicePlaces
  have h1 : (1 : Int) > 0 := by omega
  simp only [h1, if_true, Int.ediv_one]
  split <;> omega
theorem slicePart_ {v : Value} {o : Option Int} {Q : Option Int → Shared → Prop} (p : IsPart v o) (h : Q o s) : wpAny (model prog w) A (Builtin.Slice.slicePartIndex v) Q E s := by
  cases p with
  | none => exact slicePart_none h
  | int i t => exact slicePart_int h
theorem sliceApplied_gen {sl : Addr} {vl vu : Value} {lo hi : Option Int} {n : Nat} {Q : Int × Int × Nat → Shared → Prop} (hs : s.heap.IsSliceOf sl vl vu .none) (pl : IsPart vl lo) (pu : IsPart vu hi)
    (h : Q (((sIx n 0 lo : Nat) : Int), 1, sIx n n hi - sIx n 0 lo) s) : wpAny (model prog w) A (Builtin.Slice.sliceApplied (.ref sl) (pure (n : Int))) Q E s := by
  obtain ⟨os, hos, hcs, hds⟩ := id hs
  unfold Builtin.Slice.sliceApplied Builtin.Slice.sliceFields
  refine wpAny_bind (wpAny_bind (wpAny_field hos hds (x := vl) rfl (wpAny_bind (wpAny_field hos hds (x := vu) rfl (wpAny_bind (wpAny_field hos hds (x := .none) rfl (wpAny_pure ?_)))))))
  refine wpAny_bind (slicePart_none ?_)
  show wpAny _ _ (if ((1 : Int) == 0) = true then _ else _) _ _ s
  rw [if_neg (by decide)]
  refine wpAny_bind (slicePart_ pl (wpAny_bind (slicePart_ pu (wpAny_bind (wpAny_pure ?_)))))
  show wpAny _ _ (match Builtin.Slice.sliceAdjust lo hi 1 (n : Int) with | (lo, hi) => pure (lo, (1 : Int), Builtin.Slice.slicePlaces lo hi 1)) _ _ s
  rw [adjust_gen lo hi n]
  show wpAny _ _ (pure (((sIx n 0 lo : Nat) : Int), (1 : Int), Builtin.Slice.slicePlaces ((sIx n 0 lo : Nat) : Int) ((sIx n n hi : Nat) : Int) 1)) _ _ s
  rw [places_gen]
  exact wpAny_pure h
theorem pick_gen (xs : Array Value) (i k : Nat) : ((List.range k).filterMap fun (m : Nat) => xs[((i : Int) + (m : Int) * 1).toNat]?).toArray = ((xs.toList.drop i).take k).toArray := by
  have e : (fun (m : Nat) => xs[((i : Int) + (m : Int) * 1).toNat]?) = fun m => xs[i + m]? := by
    funext m
    have : ((i : Int) + (m : Int) * 1).toNat = i + m := by omega
    rw [this]
  rw [e]
  have := pick_run xs i k
  rw [List.filterMap_map] at this
  have e2 : ((fun x => xs[x]?) ∘ fun x => i + x) = fun m => xs[i + m]? := rfl
  rw [e2] at this
  rw [this]
theorem getItem_tuple_cut {t sl : Addr} {items : Array Value} {vl vu : Value} {lo hi : Option Int} {Q : Value → Shared → Prop} (ht : IsTup s.heap t items) (hs : s.heap.IsSliceOf sl vl vu .none) (pl : IsPart vl lo) (pu : IsPart vu hi)
    (hw : ¬ (sIx items.size 0 lo = 0 ∧ sIx items.size items.size hi = items.size))
    (h : Q (.ref s.heap.objs.size) { s with heap := s.heap.push { cls := .type "tuple", data := .seq ((items.toList.drop (sIx items.size 0 lo)).take (sIx items.size items.size hi - sIx items.size 0 lo)).toArray } })
    (hsz : items.size ≤ sizeLine) : wpAny (model prog w) A (getItem (.ref t) (.ref sl)) Q E s := by
  have htake : sizeOk (.seq ((items.toList.drop (sIx items.size 0 lo)).take (sIx items.size items.size hi - sIx items.size 0 lo)).toArray) := by
    show ((items.toList.drop (sIx items.size 0 lo)).take (sIx items.size items.size hi - sIx items.size 0 lo)).toArray.size ≤ sizeLine
    rw [List.size_toArray, List.length_take, List.length_drop, Array.length_toList]
    omega
  have hj : sIx items.size items.size hi ≤ items.size := sIx_le _ _ (Nat.le_refl _) hi
  obtain ⟨os, hos, hcs, hds⟩ := id hs
  have hTs : s.TypeIs (.ref sl) "slice" := ⟨os, hos, hcs⟩
  unfold getItem
  try with_reducible refine wpAny_holding ?_
  first | refine wpAny_bind (wpAny_pure ?_) | skip
  refine wpAny_bind (wpAny_sequenceKey ht.typeIs (by decide) ?_)
  refine wpAny_bind (wpAny_callSpecial?_slot (name := Str.ofString "__getitem__") ht.typeIs PyProof.Rows.slot_tuple_getitem
    (wpAny_call_entry PyProof.Rows.slot_tuple_getitem ht.typeIs entry_tuple_getitem ?_ (args_tuple_getitem _ _)))
  show wpAny _ _ (Builtin.Tuple.tupleItemsOf (.ref t) >>= _) _ _ s
  refine wpAny_bind (tupleItemsOf_ ht ?_)
  refine wpAny_bind (wpAny_typeOf hTs ?_)
  rw [if_pos (by decide)]
  refine wpAny_bind (sliceApplied_gen hs pl pu ?_)
  have hno : ¬ ((((sIx items.size 0 lo : Nat) : Int) == 0 && (1 : Int) == 1 && (sIx items.size items.size hi - sIx items.size 0 lo) == items.size) = true) := by
    intro q
    rw [Bool.and_eq_true, Bool.and_eq_true] at q
    have q1 : ((sIx items.size 0 lo : Nat) : Int) = 0 := eq_of_beq q.1.1
    have q2 : sIx items.size items.size hi - sIx items.size 0 lo = items.size := eq_of_beq q.2
    exact hw ⟨by omega, by omega⟩
  show wpAny _ _ (if (((sIx items.size 0 lo : Nat) : Int) == 0 && (1 : Int) == 1 && (sIx items.size items.size hi - sIx items.size 0 lo) == items.size) = true then _ else _) _ _ s
  rw [if_neg hno, pick_gen]
  first
    | exact wpAny_bind (m := Builtin.Tuple.tupleExact _) (wpAny_newObj_type (wpAny_pure ⟨_, rfl, wpAny_pure h⟩) htake)
    | exact wpAny_bind (m := Builtin.Tuple.tupleExact _) (wpAny_newObj_type (wpAny_bind (wpAny_pure (wpAny_pure ⟨_, rfl, wpAny_pure h⟩))) htake)
    | exact wpAny_bind (wpAny_bind (m := Builtin.Tuple.tupleExact _) (wpAny_newObj_type (wpAny_pure (wpAny_pure ⟨_, rfl, wpAny_pure h⟩)) htake))
    | exact wpAny_bind (wpAny_bind (m := Builtin.Tuple.tupleExact _) (wpAny_newObj_type (wpAny_pure ⟨_, rfl, wpAny_pure h⟩) htake))
end
end HT
namespace L2
open PySem PySem.Spec PyProof.Rows
abbrev TO := St → Hp → (Option Int → Hp → Prop) → Prop
def PO (X : Cx) (e : Option Expr) (t : TO) : Prop :=
  ∀ (pins : List (Addr × Obj)) (s : Shared) (σ : St) (H : Hp) (Q : Option Int → Hp → Prop), Inv X pins σ H s → t σ H Q →
    wpAny (model X.prog X.w) X.A (evalPart e X.env) (fun u s' => ∃ o H', Inv X pins σ H' s' ∧ IsPart u o ∧ Q o H') X.xe s
def tNoPart : TO := fun _ H Q => Q none H
def tPart (t : TE) : TO := fun σ H Q => t σ H fun x H1 => ∃ i, x = .int i ∧ Q (some i) H1
section
variable {X : Cx} {e : Expr} {te : TE} {lo hi : Option Expr} {tl th : TO} {pos p2 : Pos}
theorem po_none : PO X none tNoPart := by
  intro pins s σ H Q I h
  rw [evalPart_none]
  exact wpAny_pure ⟨none, H, I, .none, h⟩
theorem po_some (h : PE X e te) : PO X (some e) (tPart te) := by
  intro pins s σ H Q I hw
  rw [evalPart_some]
  refine thn (h pins s σ H _ I hw) fun u s1 ⟨x, H1, I1, r1, q1⟩ => ?_
  obtain ⟨i, rfl, q⟩ := q1
  obtain ⟨t, rfl⟩ := r1
  exact ⟨some i, H1, I1, .int i t, q⟩
def SlR (X : Cx) (r : V → Option Int → Option Int → Hp → VK → Prop) : Prop :=
  ∀ (pins : List (Addr × Obj)) (s : Shared) (σ : St) (H : Hp) (x : V) (v vl vu : Value) (lo hi : Option Int) (sl : Addr) (Q : VK), Inv X pins σ H s → RelV x v → s.heap.IsSliceOf sl vl vu .none → IsPart vl lo → IsPart vu hi → r x lo hi H Q →
    ∃ T id, typeLookup (.type T) "__getitem__" = pure (some (.builtin id)) ∧ s.TypeIs v T ∧ wpAny (model X.prog X.w) X.A (getItem v (.ref sl)) (EP X pins σ Q) X.xe s
theorem SlR.or {r r' : V → Option Int → Option Int → Hp → VK → Prop} (h : SlR X r) (h' : SlR X r') : SlR X (fun x lo hi H Q => r x lo hi H Q ∨ r' x lo hi H Q) := by
  intro pins s σ H x v vl vu lo hi sl Q I rx hs pl pu q
  rcases q with q | q
  · exact h pins s σ H x v vl vu lo hi sl Q I rx hs pl pu q
  · exact h' pins s σ H x v vl vu lo hi sl Q I rx hs pl pu q
def tSl (r : V → Option Int → Option Int → Hp → VK → Prop) (te : TE) (tl th : TO) : TE := fun σ H Q => te σ H fun x H1 => tl σ H1 fun l H2 => th σ H2 fun u H3 => r x l u H3 Q
theorem pe_slice {r : V → Option Int → Option Int → Hp → VK → Prop} (hr : SlR X r) (he : PE X e te) (hl : PO X lo tl) (hu : PO X hi th) : PE X (.Subscript e (.Slice lo hi none p2) pos) (tSl r te tl th) := by
  intro pins s σ H Q I h
  refine Subscript_ (thn (he pins s σ H _ I h) fun v s1 ⟨x, H1, I1, r1, q1⟩ => ?_)
  refine wpAny_Slice (thn (hl pins s1 σ H1 _ I1 q1) fun vl s2 ⟨l, H2, I2, pl, q2⟩ => thn (hu pins s2 σ H2 _ I2 q2) fun vu s3 ⟨u, H3, I3, pu, q3⟩ => ?_)
  rw [evalPart_none]
  refine wpAny_pure ?_
  have I4 : Inv X pins σ H3 { s3 with heap := s3.heap.push { cls := .type "slice", data := .fields #[vl, vu, .none] } } := I3.kept (t' := s3.toks) fun b ob q => Heap.get?_push_of_some _ q
  obtain ⟨T, id, hT, ht, hg⟩ := hr pins { s3 with heap := s3.heap.push { cls := .type "slice", data := .fields #[vl, vu, .none] } } σ H3 x v vl vu l u s3.heap.objs.size Q I4 r1 (Heap.IsSliceOf.new ..) pl pu q3
  show wpAny (model X.prog X.w) X.A (subscriptTail e (.Slice lo hi none p2) v (.ref s3.heap.objs.size)) (EP X pins σ Q) X.xe { s3 with heap := s3.heap.push { cls := .type "slice", data := .fields #[vl, vu, .none] } }
  exact tail_any (ops := [.ref s3.heap.objs.size, v]) ht hT hg (by with_unfolding_all rfl)
def cutV (xs : List V) (lo hi : Option Int) : List V := (xs.drop (HT.sIx xs.length 0 lo)).take (HT.sIx xs.length xs.length hi - HT.sIx xs.length 0 lo)
theorem cutV_length (xs : List V) (lo hi : Option Int) : (cutV xs lo hi).length ≤ xs.length := by
  unfold cutV
  rw [List.length_take, List.length_drop]
  omega
def rSlT (K : PySem.W.Frag) : V → Option Int → Option Int → Hp → VK → Prop := fun x lo hi H Q => ∃ a xs, x = .ref a ∧ SqT K H a xs ∧
  ¬ (HT.sIx xs.length 0 lo = 0 ∧ HT.sIx xs.length xs.length hi = xs.length) ∧ ∀ p, H p = none → Q (.ref p) (upd H p (.tup (cutV xs lo hi)))
theorem sl_tup : SlR X (rSlT X.K) := by
  intro pins s σ H x v vl vu lo hi sl Q I rx hs pl pu h
  obtain ⟨a, xs, rfl, hx, hw, q⟩ := h
  cases rx
  obtain ⟨its, r, ht, hz⟩ := I.tuple hx
  have hlen : its.toArray.size = xs.length := by rw [List.size_toArray]; exact r.length.symm
  refine ⟨"tuple", _, PyProof.Rows.slot_tuple_getitem.lookup, ht.typeIs, ?_⟩
  refine HT.getItem_tuple_cut ht hs pl pu (by rw [hlen]; exact hw) ?_ (by rw [hlen]; exact hz)
  rw [hlen]
  refine ⟨.ref s.heap.objs.size, _, I.laid (t' := s.toks) (o := .tup (cutV xs lo hi)) (fun b ob q => Heap.get?_push_of_some _ q) (Nat.le_refl _) ?_, rfl, q _ (I.hok.fresh (Nat.le_refl _))⟩
  exact ⟨Nat.le_trans (cutV_length xs lo hi) hz, _, (r.drop (HT.sIx xs.length 0 lo)).take (HT.sIx xs.length xs.length hi - HT.sIx xs.length 0 lo), IsTup.new _ _⟩
def rCatT (K : PySem.W.Frag) : R2 := fun x y H Q => ∃ a b xs ys, x = .ref a ∧ y = .ref b ∧ SqT K H a xs ∧ SqT K H b ys ∧ xs ≠ [] ∧ xs.length + ys.length ≤ sizeLine ∧
  (ys = [] → Q (.ref a) H) ∧ (ys ≠ [] → ∀ p, H p = none → Q (.ref p) (upd H p (.tup (xs ++ ys))))
theorem Vals.nil_iff {xs : List V} {us : List Value} (r : Vals xs us) : us = [] ↔ xs = [] := by
  cases r with
  | nil => simp
  | cons _ _ => simp
theorem op_catT : OpR X (binaryOp .Add) (rCatT X.K) := by
  intro pins s σ H x y v u Q I rx ry h
  obtain ⟨a, b, xs, ys, rfl, rfl, ha, hb, hx, hz, q1, q2⟩ := h
  cases rx
  cases ry
  obtain ⟨its, r1, p1, _⟩ := I.tuple ha
  obtain ⟨its2, r2, p2, _⟩ := I.tuple hb
  refine HT.cat_tup p1 p2 (fun z => hx (r1.nil_iff.mp z)) (fun z => ⟨.ref a, H, I, rfl, q1 (r2.nil_iff.mp z)⟩) (fun z => ?_) (by rw [← r1.length, ← r2.length]; exact hz)
  refine ⟨.ref s.heap.objs.size, _, I.laid (t' := s.toks) (o := .tup (xs ++ ys)) (fun b ob q => Heap.get?_push_of_some _ q) (Nat.le_refl _) ?_, rfl, q2 (fun w => z (r2.nil_iff.mpr w)) _ (I.hok.fresh (Nat.le_refl _))⟩
  exact ⟨by rw [List.length_append]; exact hz, _, r1.append r2, IsTup.new _ _⟩
end
end L2
namespace L2
open PySem PySem.Spec PyProof.Rows
def ixN (n : Nat) (i : Int) : Option Nat := if 0 ≤ i then (if i < n then some i.toNat else none) else if -(n : Int) ≤ i then some (i + n).toNat else none
def atI {α : Type} (xs : List α) (i : Int) : Option α := (ixN xs.length i).bind fun j => xs[j]?
theorem ixN_seq {n : Nat} {i : Int} {j : Nat} (h : ixN n i = some j) : seqIndex? i n = some j ∧ j < n ∧ -(n : Int) ≤ i ∧ i < n := by
  unfold ixN at h
  by_cases h0 : 0 ≤ i
  · rw [if_pos h0] at h
    by_cases h1 : i < n
    · rw [if_pos h1] at h
      have e : i.toNat = j := Option.some.inj h
      exact ⟨by rw [seqIndex_of h0 h1, e], by omega, by omega, h1⟩
    · rw [if_neg h1] at h; cases h
  · rw [if_neg h0] at h
    by_cases h1 : -(n : Int) ≤ i
    · rw [if_pos h1] at h
      have e : (i + n).toNat = j := Option.some.inj h
      exact ⟨by rw [seqIndex_neg (by omega) h1, e], by omega, h1, by omega⟩
    · rw [if_neg h1] at h; cases h
theorem atI_get {α : Type} {xs : List α} {i : Int} {v : α} (h : atI xs i = some v) : ∃ j, seqIndex? i xs.length = some j ∧ xs[j]? = some v ∧ j < xs.length ∧ -(xs.length : Int) ≤ i ∧ i < xs.length := by
  unfold atI at h
  cases e : ixN xs.length i with
  | none => rw [e] at h; cases h
  | some j =>
    rw [e] at h
    obtain ⟨h1, h2, h3, h4⟩ := ixN_seq e
    exact ⟨j, h1, h, h2, h3, h4⟩
theorem atI_nat {α : Type} {xs : List α} {j : Nat} {v : α} (h : xs[j]? = some v) : atI xs (j : Int) = some v := by
  have hj : j < xs.length := (List.getElem?_eq_some_iff.mp h).1
  have e : ixN xs.length (j : Int) = some j := by
    unfold ixN
    rw [if_pos (by omega), if_pos (by omega)]; simp
  unfold atI; rw [e]; exact h
def PlainIx (b : Expr) : Prop := ∀ o i, subscripted b false o i = operate [o, i] (getItem o i)
def IxR (X : Cx) (r : R2) : Prop :=
  ∀ (value slice : Expr) (pins : List (Addr × Obj)) (s : Shared) (σ : St) (H : Hp) (x y : V) (v u : Value) (Q : VK), Inv X pins σ H s → RelV x v → RelV y u → r x y H Q →
    subscripted slice false v u = operate [v, u] (getItem v u) → wpAny (model X.prog X.w) X.A (subscriptTail value slice v u) (EP X pins σ Q) X.xe s
def MtR (X : Cx) (id : String) (r : V → List V → Hp → VK → Prop) : Prop :=
  ∀ (pins : List (Addr × Obj)) (s : Shared) (σ : St) (H : Hp) (x : V) (xs : List V) (v : Value) (us : List Value) (Q : VK), Inv X pins σ H s → RelV x v → Vals xs us → r x xs H Q →
    wpAny (model X.prog X.w) X.A (call (.builtin id) (v :: us)) (EP X pins σ Q) X.xe s
section
variable {X : Cx} {a b : Expr} {ta tb : TE} {pos : Pos}
theorem IxR.or {r r' : R2} (h : IxR X r) (h' : IxR X r') : IxR X (fun x y H Q => r x y H Q ∨ r' x y H Q) := by
  intro value slice pins s σ H x y v u Q I rx ry q hs
  rcases q with q | q
  · exact h value slice pins s σ H x y v u Q I rx ry q hs
  · exact h' value slice pins s σ H x y v u Q I rx ry q hs
theorem MtR.or {id : String} {r r' : V → List V → Hp → VK → Prop} (h : MtR X id r) (h' : MtR X id r') : MtR X id (fun x xs H Q => r x xs H Q ∨ r' x xs H Q) := by
  intro pins s σ H x xs v us Q I rx rs q
  rcases q with q | q
  · exact h pins s σ H x xs v us Q I rx rs q
  · exact h' pins s σ H x xs v us Q I rx rs q
theorem pe_ix {r : R2} (hr : IxR X r) (ha : PE X a ta) (hb : PE X b tb) (hs : PlainIx b) : PE X (.Subscript a b pos) (tOp r ta tb) := by
  intro pins s σ H Q I h
  exact Subscript_ (binT ha hb I h fun v u s2 x y H2 I2 rx ry q => hr a b pins s2 σ H2 x y v u Q I2 rx ry q (hs _ _))
def rIxL (K : PySem.W.Frag) : R2 := fun x y H Q => ∃ p xs i v, x = .ref p ∧ y = .int i ∧ SqL K H p xs ∧ atI xs i = some v ∧ Q v H
def rIxT (K : PySem.W.Frag) : R2 := fun x y H Q => ∃ p xs i v, x = .ref p ∧ y = .int i ∧ SqT K H p xs ∧ atI xs i = some v ∧ Q v H
theorem ix_list : IxR X (rIxL X.K) := by
  intro value slice pins s σ H x y v u Q I rx ry h hs
  obtain ⟨p, xs, i, z, rfl, rfl, hq, he, q⟩ := h
  cases rx
  obtain ⟨t, rfl⟩ := ry
  obtain ⟨its, r, pl, hz⟩ := I.list hq
  obtain ⟨j, h1, h2, h3, h4, h5⟩ := atI_get he
  obtain ⟨w, ew, rw'⟩ := r.get h2
  have hl := r.length
  have hn := line63
  have fin : EP X pins σ Q w s := ⟨z, H, I, rw', q⟩
  by_cases h0 : 0 ≤ i
  · have hj : i.toNat = j := by
      rw [seqIndex_of h0 h5] at h1
      exact Option.some.inj h1
    exact item_listR pl.isList h0 (by omega) (by rw [hj]; simpa using ew) fin hs
  · have hj : (i + (its.toArray.size : Int)).toNat = j := by
      rw [seqIndex_neg (by omega) h4] at h1
      rw [List.size_toArray, ← hl]
      exact Option.some.inj h1
    exact subscriptTail_builtinR (x := w) pl.isList.typeIs slot_list_getitem.lookup
      (wpAny_getItem_list_neg (Q := fun r s' => r = w ∧ EP X pins σ Q r s') pl.isList (by omega) (by rw [List.size_toArray] <;> omega) (by omega) (by rw [hj]; simpa using ew) ⟨rfl, fin⟩) hs
theorem ix_tup : IxR X (rIxT X.K) := by
  intro value slice pins s σ H x y v u Q I rx ry h hs
  obtain ⟨p, xs, i, z, rfl, rfl, hq, he, q⟩ := h
  cases rx
  obtain ⟨t, rfl⟩ := ry
  obtain ⟨its, r, pl, hz⟩ := I.tuple hq
  obtain ⟨j, h1, h2, h3, h4, h5⟩ := atI_get he
  obtain ⟨w, ew, rw'⟩ := r.get h2
  have hl := r.length
  have hn := line63
  have fin : EP X pins σ Q w s := ⟨z, H, I, rw', q⟩
  exact subscriptTail_builtinR (x := w) pl.typeIs slot_tuple_getitem.lookup
    (getItem_tuple (j := j) (Q := fun r s' => r = w ∧ EP X pins σ Q r s') pl (by omega) (by omega) (by rw [List.size_toArray, ← hl]; exact h1) (by simpa using ew) ⟨rfl, fin⟩) hs
theorem mapSeq_set (its : List Value) (n j : Nat) (u : Value) : Obj.mapSeq (·.setIfInBounds j u) { cls := .type "list", data := .seq its.toArray n } = { cls := .type "list", data := .seq (its.set j u).toArray n } := by
  simp [Obj.mapSeq]
theorem Inv.lst {pins : List (Addr × Obj)} {σ : St} {H : Hp} {s : Shared} {p : Addr} {xs : List V} (I : Inv X pins σ H s) (h : H p = some (.lst xs)) :
    ∃ (its : List Value) (n : Nat), Vals xs its ∧ s.heap.get? p = some { cls := .type "list", data := .seq its.toArray n } ∧ xs.length ≤ sizeLine := by
  obtain ⟨z, its, n, r, e⟩ := I.hok p _ h
  exact ⟨its, n, r, e, z⟩
theorem Inv.lstUpd {pins : List (Addr × Obj)} {σ : St} {H : Hp} {s : Shared} {p : Addr} {xs ys : List V} {its its' : List Value} {n n' : Nat} {f : Obj → Obj} (I : Inv X pins σ H s) (h : H p = some (.lst xs))
    (ho : s.heap.get? p = some { cls := .type "list", data := .seq its.toArray n }) (hf : f { cls := .type "list", data := .seq its.toArray n } = { cls := .type "list", data := .seq its'.toArray n' }) (r : Vals ys its') (hz : ys.length ≤ sizeLine) (t : Nat) :
    Inv X pins σ (upd H p (.lst ys)) { s with heap := s.heap.update p f, toks := t } := by
  have e : (s.heap.update p f).get? p = some { cls := .type "list", data := .seq its'.toArray n' } := by
    rw [Heap.get?_update_self f ho (by rw [hf] <;> rfl), hf]
  refine I.write (x := p) (e := p) (by rw [h]; trivial) (.inl rfl) (fun b u hb q => (Heap.get?_update_other _ _ (Ne.symm hb)).trans q) ⟨_, e⟩ ?_
  exact ⟨hz, its', n', r, e⟩
def rSetL : V → V → V → Hp → (Hp → Prop) → Prop := fun o i v H Q => ∃ p xs k j, o = .ref p ∧ i = .int k ∧ H p = some (.lst xs) ∧ ixN xs.length k = some j ∧ Q (upd H p (.lst (xs.set j v)))
theorem set_list : PSet X rSetL := by
  intro pins s σ H o i v ov iv u Q I ro ri rv h
  obtain ⟨p, xs, k, j, rfl, rfl, hp, hj, q⟩ := h
  cases ro
  obtain ⟨t, rfl⟩ := ri
  obtain ⟨its, n, r, ho, hz⟩ := I.lst hp
  obtain ⟨h1, h2, h3, h4⟩ := ixN_seq hj
  have hl := r.length
  have hn := line63
  have I' : Inv X pins σ (upd H p (.lst (xs.set j v))) { s with heap := s.heap.update p (Obj.mapSeq (·.setIfInBounds j u)) } :=
    I.lstUpd hp ho (mapSeq_set its n j u) (r.set rv j) (by rw [List.length_set]; exact hz) s.toks
  by_cases h0 : 0 ≤ k
  · have hk : k.toNat = j := by
      rw [seqIndex_of h0 h4] at h1
      exact Option.some.inj h1
    exact PySem.W.ki_setAt ho h0 (by omega) (by rw [List.size_toArray, ← hl]; exact h4) (by rw [hk]; exact ⟨_, I', q⟩)
  · have hk : (k + (its.toArray.size : Int)).toNat = j := by
      rw [seqIndex_neg (by omega) h3] at h1
      rw [List.size_toArray, ← hl]
      exact Option.some.inj h1
    exact PySem.W.ki_setBack ho (by omega) (by rw [List.size_toArray, ← hl]; exact h3) (by omega) (by rw [hk]; exact ⟨_, I', q⟩)
theorem slice_bounds (lo hi : Option Int) (n : Nat) : (sliceBounds lo hi none n).1 = ((HT.sIx n 0 lo : Nat) : Int) ∧ (sliceBounds lo hi none n).2.1 = ((HT.sIx n n hi : Nat) : Int) ∧ (sliceBounds lo hi none n).2.2 = 1 := by
  refine ⟨?_, ?_, rfl⟩
  · cases lo with
    | none => simp [sliceBounds, HT.sIx]
    | some i =>
      simp only [sliceBounds, HT.sIx, Option.getD_none, show (1 : Int) > 0 by decide, if_true]
      by_cases h : i < 0
      · simp only [h, if_true] <;> omega
      · simp only [h, if_false] <;> omega
  · cases hi with
    | none => simp [sliceBounds, HT.sIx]
    | some i =>
      simp only [sliceBounds, HT.sIx, Option.getD_none, show (1 : Int) > 0 by decide, if_true]
      by_cases h : i < 0
      · simp only [h, if_true] <;> omega
      · simp only [h, if_false] <;> omega
theorem slicePick_cut (its : List Value) (lo hi : Option Int) : slicePick its.toArray lo hi none = ((its.drop (HT.sIx its.length 0 lo)).take (HT.sIx its.length its.length hi - HT.sIx its.length 0 lo)).toArray := by
  obtain ⟨h1, h2, h3⟩ := slice_bounds lo hi its.toArray.size
  unfold slicePick
  rw [h1, h2, h3]
  simp only [sliceRange_one, pick_run, List.size_toArray] <;> rfl
def rSlL (K : PySem.W.Frag) : V → Option Int → Option Int → Hp → VK → Prop := fun x lo hi H Q => ∃ a xs, x = .ref a ∧ SqL K H a xs ∧ ∀ p, H p = none → Q (.ref p) (upd H p (.lst (cutV xs lo hi)))
theorem sl_list : SlR X (rSlL X.K) := by
  intro pins s σ H x v vl vu lo hi sl Q I rx hs pl pu h
  obtain ⟨a, xs, rfl, hx, q⟩ := h
  cases rx
  obtain ⟨its, r, ht, hz⟩ := I.list hx
  have hlen := r.length
  refine ⟨"list", _, slot_list_getitem.lookup, ht.isList.typeIs, ?_⟩
  refine wpAny_getItem_list_slice ht.isList hs pl pu .none (by simp) ?_ (by rw [List.size_toArray] <;> omega)
  rw [slicePick_cut, ← hlen]
  refine ⟨.ref s.heap.objs.size, _, I.laid (t' := s.toks) (o := .lst (cutV xs lo hi)) (fun b ob q => Heap.get?_push_of_some _ q) (Nat.le_refl _) ?_, rfl, q _ (I.hok.fresh (Nat.le_refl _))⟩
  exact ⟨Nat.le_trans (cutV_length xs lo hi) hz, _, 0, (r.drop (HT.sIx xs.length 0 lo)).take (HT.sIx xs.length xs.length hi - HT.sIx xs.length 0 lo), Heap.get?_push_size _ rfl⟩
def flatV : V → Bool
  | .non => true
  | .bl _ => true
  | .int _ => true
  | .str _ => true
  | _ => false
def eqV : V → V → Bool
  | .non, .non => true
  | .bl a, .bl b => a == b
  | .bl a, .int b => (if a then 1 else 0) == b
  | .int a, .bl b => a == (if b then 1 else 0)
  | .int a, .int b => a == b
  | .str a, .str b => a == b
  | _, _ => false
theorem eqAt_V {A : Around} {s : Shared} {y x : V} {u v : Value} (ry : RelV y u) (rx : RelV x v) (fy : flatV y = true) (fx : flatV x = true) : SeqAt.EqAt A s u v (eqV y x) := by
  cases y with
  | non =>
    cases ry
    cases x with
    | non => cases rx; exact SeqAt.EqAt.same _
    | bl b => cases rx; exact SeqAt.EqAt.none_bool b
    | int b => obtain ⟨t, rfl⟩ := rx; exact SeqAt.EqAt.none_int b t
    | str b => obtain ⟨t, rfl⟩ := rx; exact SeqAt.EqAt.none_str b t
    | _ => exact absurd (show false = true from fx) Bool.false_ne_true
  | bl a =>
    cases ry
    cases x with
    | non => cases rx; exact SeqAt.EqAt.bool_none a
    | bl b => cases rx; exact SeqAt.EqAt.bool_bool a b
    | int b => obtain ⟨t, rfl⟩ := rx; exact SeqAt.EqAt.bool_int a b t
    | str b => obtain ⟨t, rfl⟩ := rx; exact SeqAt.EqAt.bool_str a b t
    | _ => exact absurd (show false = true from fx) Bool.false_ne_true
  | int a =>
    obtain ⟨t', rfl⟩ := ry
    cases x with
    | non => cases rx; exact SeqAt.EqAt.int_none a t'
    | bl b => cases rx; exact SeqAt.EqAt.int_bool a t' b
    | int b => obtain ⟨t, rfl⟩ := rx; exact SeqAt.EqAt.int_int a t' b t
    | str b => obtain ⟨t, rfl⟩ := rx; exact SeqAt.EqAt.int_str a t' b t
    | _ => exact absurd (show false = true from fx) Bool.false_ne_true
  | str a =>
    obtain ⟨t', rfl⟩ := ry
    cases x with
    | non => cases rx; exact SeqAt.EqAt.str_none a t'
    | bl b => cases rx; exact SeqAt.EqAt.str_bool a t' b
    | int b => obtain ⟨t, rfl⟩ := rx; exact SeqAt.EqAt.str_int a t' b t
    | str b => obtain ⟨t, rfl⟩ := rx; exact SeqAt.EqAt.str_str a t' b t
    | _ => exact absurd (show false = true from fx) Bool.false_ne_true
  | _ => exact absurd (show false = true from fy) Bool.false_ne_true
def eqU (x : V) (u : Value) : Bool := match u with
  | .none => eqV .non x
  | .bool b => eqV (.bl b) x
  | .int i _ => eqV (.int i) x
  | .str z _ => eqV (.str z) x
  | _ => false
theorem eqU_of {x y : V} {u : Value} (r : RelV y u) (f : flatV y = true) : eqU x u = eqV y x := by
  cases y with
  | non => cases r; rfl
  | bl b => cases r; rfl
  | int i => obtain ⟨t, rfl⟩ := r; rfl
  | str z => obtain ⟨t, rfl⟩ := r; rfl
  | _ => exact absurd (show false = true from f) Bool.false_ne_true
theorem any_eqU {x : V} : ∀ {xs : List V} {us : List Value}, Vals xs us → xs.all flatV = true → us.any (eqU x) = xs.any fun y => eqV y x
  | _, _, .nil, _ => rfl
  | y :: xs, u :: us, .cons r t, f => by
    rw [List.all_cons, Bool.and_eq_true] at f
    rw [List.any_cons, List.any_cons, eqU_of r f.1, any_eqU t f.2]
theorem mem_eqAt {A : Around} {s : Shared} {x : V} {v : Value} (rx : RelV x v) (fx : flatV x = true) : ∀ {xs : List V} {us : List Value}, Vals xs us → xs.all flatV = true → ∀ u ∈ us, SeqAt.EqAt A s u v (eqU x u)
  | _, _, .nil, _ => fun u hu => by cases hu
  | y :: xs, u :: us, .cons r t, f => fun u' hu => by
    rw [List.all_cons, Bool.and_eq_true] at f
    rcases List.mem_cons.mp hu with rfl | hu
    · rw [eqU_of r f.1]; exact eqAt_V r rx f.1 fx
    · exact mem_eqAt rx fx t f.2 u' hu
def inV (x : V) (xs : List V) : Bool := xs.any fun y => eqV y x
def rIn (K : PySem.W.Frag) (neg : Bool) : R2 := fun x y H Q => ∃ p xs, y = .ref p ∧ (SqL K H p xs ∨ SqT K H p xs) ∧ flatV x = true ∧ xs.all flatV = true ∧ Q (.bl (if neg then !inV x xs else inV x xs)) H
theorem op_in_seq : OpR X (compareOp .In) (rIn X.K false) := by
  intro pins s σ H x y v u Q I rx ry h
  obtain ⟨p, xs, rfl, hq, fx, fs, q⟩ := h
  cases ry
  rcases hq with hq | hq
  · obtain ⟨its, r, pl, hz⟩ := I.list hq
    refine SeqAt.in_listAt (eqU x) pl.isList (fun w hw => mem_eqAt rx fx r fs w (by simpa using hw)) ⟨.bl _, H, I, rfl, ?_⟩
    rw [show its.toArray.any (eqU x) = its.any (eqU x) by simp, any_eqU r fs]
    exact q
  · obtain ⟨its, r, pl, hz⟩ := I.tuple hq
    refine SeqAt.in_tupleAt (eqU x) pl (fun w hw => mem_eqAt rx fx r fs w (by simpa using hw)) ⟨.bl _, H, I, rfl, ?_⟩
    rw [show its.toArray.any (eqU x) = its.any (eqU x) by simp, any_eqU r fs]
    exact q
theorem op_notIn_seq : OpR X (compareOp .NotIn) (rIn X.K true) := by
  intro pins s σ H x y v u Q I rx ry h
  obtain ⟨p, xs, rfl, hq, fx, fs, q⟩ := h
  cases ry
  rcases hq with hq | hq
  · obtain ⟨its, r, pl, hz⟩ := I.list hq
    refine SeqAt.notIn_listAt (eqU x) pl.isList (fun w hw => mem_eqAt rx fx r fs w (by simpa using hw)) ⟨.bl _, H, I, rfl, ?_⟩
    rw [show its.toArray.any (eqU x) = its.any (eqU x) by simp, any_eqU r fs]
    exact q
  · obtain ⟨its, r, pl, hz⟩ := I.tuple hq
    refine SeqAt.notIn_tupleAt (eqU x) pl (fun w hw => mem_eqAt rx fx r fs w (by simpa using hw)) ⟨.bl _, H, I, rfl, ?_⟩
    rw [show its.toArray.any (eqU x) = its.any (eqU x) by simp, any_eqU r fs]
    exact q
theorem call_len_seq : CallR X (.builtin "len") (fun xs H Q => ∃ p ys, xs = [.ref p] ∧ (SqL X.K H p ys ∨ SqT X.K H p ys) ∧ Q (.int ys.length) H) := by
  intro pins s σ H xs us Q I r h
  obtain ⟨p, ys, rfl, hq, q⟩ := h
  obtain ⟨u, rfl, rx⟩ := vals1 r
  cases rx
  have hn := line63
  rcases hq with hq | hq
  · obtain ⟨its, r', pl, hz⟩ := I.list hq
    have hlen := r'.length
    exact Calls.call_len_list pl.isList (by simp only [List.size_toArray] <;> omega) ⟨.int ys.length, H, I.tok _, ⟨s.toks + 1, by rw [List.size_toArray, hlen]⟩, q⟩
  · obtain ⟨its, r', pl, hz⟩ := I.tuple hq
    have hlen := r'.length
    exact len_tuple pl (by simp only [List.size_toArray] <;> omega) ⟨.int ys.length, H, I.tok _, ⟨s.toks + 1, by rw [List.size_toArray, hlen]⟩, q⟩
theorem CallR.or {f : Value} {r r' : List V → Hp → VK → Prop} (h : CallR X f r) (h' : CallR X f r') : CallR X f (fun xs H Q => r xs H Q ∨ r' xs H Q) := by
  intro pins s σ H xs us Q I rs q
  rcases q with q | q
  · exact h pins s σ H xs us Q I rs q
  · exact h' pins s σ H xs us Q I rs q
theorem call_tuple_of : CallR X (.type "tuple") (fun xs H Q => ∃ p ys, xs = [.ref p] ∧ ((SqL X.K H p ys ∧ ∀ l, H l = none → Q (.ref l) (upd H l (.tup ys))) ∨ (SqT X.K H p ys ∧ Q (.ref p) H))) := by
  intro pins s σ H xs us Q I r h
  obtain ⟨p, ys, rfl, h⟩ := h
  obtain ⟨u, rfl, rx⟩ := vals1 r
  cases rx
  rcases h with ⟨hq, q⟩ | ⟨hq, q⟩
  · obtain ⟨its, r', pl, hz⟩ := I.list hq
    have hlen := r'.length
    refine call_tuple_list pl.isList (fun h' kp => ?_) (by simp only [List.size_toArray] <;> omega)
    have I1 : Inv X pins σ H { s with heap := h' } := I.kept (t' := s.toks) kp
    have I2 : Inv X pins σ (upd H h'.objs.size (.tup ys)) { s with heap := h'.push { cls := .type "tuple", data := .seq its.toArray } } :=
      I1.laid (t' := s.toks) (fun b o e => Heap.get?_push_of_some _ e) (Nat.le_refl _) (show ObjOk X.prog X.w _ _ _ (.tup ys) from ⟨hz, its, r', IsTup.new _ _⟩)
    exact ⟨.ref h'.objs.size, _, I2, rfl, q _ (I1.hok.fresh (Nat.le_refl _))⟩
  · obtain ⟨its, r', pl, hz⟩ := I.tuple hq
    exact call_tuple_same pl ⟨.ref p, H, I, rfl, q⟩
def tyV (K : PySem.W.Frag) (T : String) (x : V) (H : Hp) : Prop := match x with
  | .str _ => T = "str"
  | .int _ => T = "int"
  | .ref p => (T = "list" ∧ ∃ xs, SqL K H p xs) ∨ (T = "tuple" ∧ ∃ o, K.lookup p = some o ∧ o.cls = .type "tuple" ∧ o.dict = none) ∨
      (T = "dict" ∧ ((∃ kvs, H p = some (.dK kvs)) ∨ ∃ kvs, H p = some (.dT kvs))) ∨ (T = "set" ∧ ∃ S n, H p = some (.set S n))
  | _ => False
theorem tyV_is {pins : List (Addr × Obj)} {σ : St} {H : Hp} {s : Shared} {T : String} {x : V} {v : Value} (I : Inv X pins σ H s) (r : RelV x v) (ty : tyV X.K T x H) :
    s.TypeIs v T ∧ ∀ a, v = .ref a → ∃ ob, s.heap.get? a = some ob ∧ ob.dict = none := by
  cases x with
  | str z =>
    obtain ⟨t, rfl⟩ := r
    cases (show T = "str" from ty)
    exact ⟨typeIs_str s z t, fun _ e => nomatch e⟩
  | int i =>
    obtain ⟨t, rfl⟩ := r
    cases (show T = "int" from ty)
    exact ⟨typeIs_int s i t, fun _ e => nomatch e⟩
  | ref p =>
    cases r
    rcases ty with ⟨rfl, xs, hq⟩ | ⟨rfl, o, hk, hc, hd⟩ | ⟨rfl, hk⟩ | ⟨rfl, S, n, hk⟩
    · obtain ⟨its, _, pl, _⟩ := I.list hq
      refine ⟨pl.isList.typeIs, fun a e => ?_⟩
      cases e
      obtain ⟨o, n, e, c, hd, _⟩ := pl
      exact ⟨o, e, hd⟩
    · refine ⟨⟨o, I.kIn p o hk, hc⟩, fun a e => ?_⟩
      cases e
      exact ⟨o, I.kIn _ o hk, hd⟩
    · have z : ∃ o, s.heap.get? p = some o ∧ o.ExactDict := by
        rcases hk with ⟨kvs, hk⟩ | ⟨kvs, hk⟩
        · obtain ⟨_, _, _, _, o, _, _, e, ex, _⟩ := I.hok p _ hk
          exact ⟨o, e, ex⟩
        · obtain ⟨_, _, _, _, o, _, _, e, ex, _⟩ := I.hok p _ hk
          exact ⟨o, e, ex⟩
      obtain ⟨o, e, ex⟩ := z
      refine ⟨⟨o, e, ex.1⟩, fun a e2 => ?_⟩
      cases e2
      exact ⟨o, e, ex.2.1⟩
    · obtain ⟨o, _, _, _, e, ex, _⟩ := I.hok p _ hk
      refine ⟨⟨o, e, ex.1⟩, fun a e2 => ?_⟩
      cases e2
      exact ⟨o, e, ex.2.1⟩
  | _ => exact False.elim ty
def tBM (K : PySem.W.Frag) (T : String) (r : V → List V → Hp → VK → Prop) (to : TE) (t : TA) : TE := fun σ H Q => to σ H fun x H1 => tyV K T x H1 ∧ t σ H1 fun xs H2 => r x xs H2 Q
variable {o e : Expr} {es : List Expr} {to : TE} {t : TA} {name : Str} {apos cpos : Pos} {T id : String} {r : V → List V → Hp → VK → Prop}
theorem pe_bm (pa : PlainAttrs T) (slot : Slot T name id) (hty : typeOf (.builtin id) = pure (.type "method_descriptor")) (hm : MtR X id r) (ho : PE X o to) (ha : PA X (e :: es) t)
    (hbase : attributeBase o name X.env (eval o X.env) = eval o X.env := by rfl)
    (hfew : ((backTo cpos (starEach (e :: es) X.env)).all (fun x => !x.1) && (backToKw cpos (keywordEach [] X.env)).all (fun x => x.1.isSome)
      && decide ((e :: es).length + ([] : List Keyword).length + (if ([] : List Keyword).isEmpty then 0 else 1) < 30)) = true := by rfl)
    (hline : (apos.endLine == cpos.line) = true := by rfl) (hs : starEach (e :: es) X.env = (false, eval e X.env) :: starEach es X.env := by rfl) (hplain : (backTo cpos (starEach es X.env)).any (·.1) = false := by rfl) :
    PE X (.Call (.Attribute o name apos) (e :: es) [] cpos) (tBM X.K T r to t) := by
  intro pins s σ H Q I h
  refine wpAny_Call_method_late hbase hfew hline rfl (thn (ho pins s σ H _ I h) fun v s1 ⟨x, H1, I1, r1, ty, q1⟩ => ?_)
  obtain ⟨h1, h2⟩ := tyV_is I1 r1 ty
  refine ⟨T, id, pa, slot, hty, h1, h2, ?_⟩
  have hA := ha cpos pins s1 σ H1 _ I1 q1
  rw [hs] at hA ⊢
  refine Calls.callWith_builtin (by show (false || (backTo cpos (starEach es X.env)).any (·.1)) = false; rw [hplain] <;> rfl) (Calls.evalArgs_plain ?_)
  exact thn hA fun us s2 ⟨vs, H2, I2, r2, q2⟩ => hm pins s2 σ H2 x vs v us Q I2 r1 r2 q2
end
end L2
namespace L2
open PySem PySem.Spec PyProof.Rows
def MtM (X : Cx) (id : String) (r : V → List V → Hp → VK → Prop) : Prop :=
  ∀ (pins : List (Addr × Obj)) (s : Shared) (σ : St) (H : Hp) (x : V) (xs : List V) (v : Value) (us : List Value) (Q : VK), Inv X pins σ H s → RelV x v → Vals xs us → r x xs H Q →
    wpAny (model X.prog X.w) X.A (call (.builtin id) (v :: us)) (EP X pins σ Q) X.xe s
theorem Vals.one : ∀ {x : V} {us : List Value}, Vals [x] us → ∃ u, us = [u] ∧ RelV x u
  | _, _, .cons r .nil => ⟨_, rfl, r⟩
theorem Vals.zero : ∀ {us : List Value}, Vals [] us → us = []
  | _, .nil => rfl
theorem Vals.dropLast {xs : List V} {us : List Value} (h : Vals xs us) : Vals xs.dropLast us.dropLast := by
  induction h with
  | nil => exact .nil
  | cons r t ih =>
    cases t with
    | nil => exact .nil
    | cons q t' => exact .cons r ih
theorem Vals.rep {xs : List V} {us : List Value} (h : Vals xs us) : ∀ k : Nat, Vals (List.replicate k xs).flatten (List.replicate k us).flatten
  | 0 => .nil
  | k + 1 => by
    rw [List.replicate_succ, List.replicate_succ, List.flatten_cons, List.flatten_cons]
    exact Vals.append h (Vals.rep h k)
theorem foldl_rep (its : List Value) : ∀ (k : Nat) (acc : List Value),
    List.foldl (fun x1 x2 => x1 ++ x2) acc.toArray (List.replicate k its.toArray) = (acc ++ (List.replicate k its).flatten).toArray
  | 0, acc => by simp
  | k + 1, acc => by
    have e : acc.toArray ++ its.toArray = (acc ++ its).toArray := by simp
    have e2 : (acc ++ its) ++ (List.replicate k its).flatten = acc ++ (List.replicate (k + 1) its).flatten := by
      rw [List.replicate_succ, List.flatten_cons, List.append_assoc]
    rw [← e2, ← foldl_rep its k (acc ++ its), ← e, List.replicate_succ, List.foldl_cons]
section
variable {X : Cx} {pins : List (Addr × Obj)} {σ : St} {H : Hp} {s : Shared} {l b : Addr} {xs ys zs : List V}
theorem Inv.lset {its its' : List Value} {n : Nat} {f : Array Value → Array Value} {t' : Nat} (I : Inv X pins σ H s) (hH : H l = some (.lst xs))
    (e : s.heap.get? l = some { cls := .type "list", data := .seq its.toArray n }) (hf : f its.toArray = its'.toArray) (hv : Vals ys its') (hz : ys.length ≤ sizeLine) :
    Inv X pins σ (upd H l (.lst ys)) { s with heap := s.heap.update l (Obj.mapSeq f), toks := t' } := by
  have q := PySem.IsL.update e f
  rw [hf] at q
  refine I.write (x := l) (e := l) (by rw [hH]; exact trivial) (.inl rfl) (fun b' u hb hu => (Heap.get?_update_other s.heap (Obj.mapSeq f) (Ne.symm hb)).trans hu) ⟨_, q⟩ ?_
  exact ⟨hz, its', _, hv, q⟩
theorem Inv.lnew {its : List Value} {t' : Nat} (I : Inv X pins σ H s) (hv : Vals ys its) (hz : ys.length ≤ sizeLine) :
    Inv X pins σ (upd H s.heap.objs.size (.lst ys)) { s with heap := s.heap.push { cls := .type "list", data := .seq its.toArray }, toks := t' } :=
  I.laid (fun _ _ q => Heap.get?_push_of_some _ q) (Nat.le_refl _) ⟨hz, its, 0, hv, Heap.get?_push_size _ rfl⟩
theorem Inv.fresh (I : Inv X pins σ H s) : H s.heap.objs.size = none := I.hok.fresh (Nat.le_refl _)
theorem Inv.lstM (I : Inv X pins σ H s) (hH : H l = some (.lst xs)) : xs.length ≤ sizeLine ∧ ∃ (its : List Value) (n : Nat), Vals xs its ∧ xs.length = its.length ∧ s.heap.get? l = some { cls := .type "list", data := .seq its.toArray n } := by
  obtain ⟨z, its, n, r, e⟩ := I.hok l _ hH
  exact ⟨z, its, n, r, r.length, e⟩
theorem notLongL {n : Nat} (h : n ≤ sizeLine) : Builtin.List.listTooLong n = false := by
  unfold Builtin.List.listTooLong
  exact decide_eq_false (by omega)
end
section
variable {X : Cx}
def rAppend : V → List V → Hp → VK → Prop := fun x vs H Q => ∃ l xs y, x = .ref l ∧ vs = [y] ∧ H l = some (.lst xs) ∧ xs.length < sizeLine ∧ Q .non (upd H l (.lst (xs ++ [y])))
theorem mt_append : MtM X "list.append" rAppend := by
  intro pins s σ H x vs v us Q I rx rv h
  obtain ⟨l, xs, y, rfl, rfl, hH, hz, q⟩ := h
  cases rx
  obtain ⟨u, rfl, ru⟩ := rv.one
  obtain ⟨z, its, n, r, hl, e⟩ := I.lstM hH
  refine call_meets F.slot_list_append ⟨_, e, rfl⟩ F.entry_list_append (F.args_list_append_2 _ _) (PySem.list_append l its.toArray n u (by rw [List.size_toArray]; omega)) ⟨e, ?_⟩
  refine ⟨.non, _, I.lset (its' := its ++ [u]) hH e (by simp) (r.append (.cons ru .nil)) ?_, rfl, q⟩
  rw [List.length_append, List.length_singleton]
  omega
def rExtend : V → List V → Hp → VK → Prop := fun x vs H Q => ∃ l b xs zs, x = .ref l ∧ vs = [.ref b] ∧ H l = some (.lst xs) ∧ H b = some (.lst zs) ∧ xs.length + zs.length ≤ sizeLine ∧ Q .non (upd H l (.lst (xs ++ zs)))
theorem mt_extend : MtM X "list.extend" rExtend := by
  intro pins s σ H x vs v us Q I rx rv h
  obtain ⟨l, b, xs, zs, rfl, rfl, hH, hB, hz, q⟩ := h
  cases rx
  obtain ⟨u, rfl, ru⟩ := rv.one
  cases ru
  obtain ⟨z, its, n, r, hl, e⟩ := I.lstM hH
  obtain ⟨z2, its2, n2, r2, hl2, e2⟩ := I.lstM hB
  have hsz : its.toArray.size + its2.toArray.size ≤ sizeLine := by rw [List.size_toArray, List.size_toArray]; omega
  have hlong : ¬ (!its.toArray.isEmpty && Builtin.List.listTooLong (its.toArray.size + its2.toArray.size)) = true := by
    rw [notLongL hsz, Bool.and_false]
    exact Bool.false_ne_true
  refine call_meets F.slot_list_extend ⟨_, e, rfl⟩ F.entry_list_extend (F.args_list_extend_2 _ _)
    (AutoSeq1.list_extend_list_list_0 l its.toArray n b its2.toArray n2 hlong (by rw [List.size_toArray]; omega) (by omega)) ⟨e, e2, ?_⟩
  refine ⟨.non, _, I.lset (its' := its ++ its2) hH e (by simp) (r.append r2) ?_, rfl, q⟩
  rw [List.length_append]
  omega
def rCat : R2 := fun x y H Q => ∃ l b xs zs, x = .ref l ∧ y = .ref b ∧ H l = some (.lst xs) ∧ H b = some (.lst zs) ∧ xs.length + zs.length ≤ sizeLine ∧ ∀ p, H p = none → Q (.ref p) (upd H p (.lst (xs ++ zs)))
theorem op_cat : OpR X (binaryOp .Add) rCat := by
  intro pins s σ H x y v u Q I rx ry h
  obtain ⟨l, b, xs, zs, rfl, rfl, hH, hB, hz, q⟩ := h
  cases rx
  cases ry
  obtain ⟨z, its, n, r, hl, e⟩ := I.lstM hH
  obtain ⟨z2, its2, n2, r2, hl2, e2⟩ := I.lstM hB
  refine PySem.P.add_list e e2 ?_ (by rw [List.size_toArray, List.size_toArray]; omega)
  have ea : its.toArray ++ its2.toArray = (its ++ its2).toArray := by simp
  rw [ea]
  exact ⟨.ref _, _, I.lnew (t' := s.toks) (r.append r2) (by rw [List.length_append]; omega), rfl, q _ I.fresh⟩
def rRep : R2 := fun x y H Q => ∃ l k xs, x = .ref l ∧ y = .int k ∧ H l = some (.lst xs) ∧ -(2 ^ 63) ≤ k ∧ k < 2 ^ 63 ∧ xs.length * k.toNat ≤ sizeLine ∧
  ∀ p, H p = none → Q (.ref p) (upd H p (.lst (List.replicate k.toNat xs).flatten))
theorem len_rep {α : Type} (xs : List α) (k : Nat) : (List.replicate k xs).flatten.length = k * xs.length := by
  induction k with
  | zero => simp
  | succ k ih => rw [List.replicate_succ, List.flatten_cons, List.length_append, ih, Nat.succ_mul, Nat.add_comm]
theorem op_rep : OpR X (binaryOp .Mult) rRep := by
  intro pins s σ H x y v u Q I rx ry h
  obtain ⟨l, k, xs, rfl, rfl, hH, h1, h2, hz, q⟩ := h
  cases rx
  obtain ⟨t, rfl⟩ := ry
  obtain ⟨z, its, n, r, hl, e⟩ := I.lstM hH
  have hlen : its.toArray.size * k.toNat ≤ sizeLine := by rw [List.size_toArray, ← hl]; exact hz
  have hcap : ¬ its.toArray.size * k.toNat > (2 ^ 63 - 1) / 8 := by
    have : (sizeLine : Nat) ≤ (2 ^ 63 - 1) / 8 := by decide
    omega
  have hfit : ¬ (!Builtin.List.listFitsIndex k) = true := by
    rw [fitsIndex_both h1 h2]
    exact Bool.false_ne_true
  have hlong : ¬ Builtin.List.listTooLong (its.toArray.size * k.toNat) = true := by
    rw [notLongL hlen]
    exact Bool.false_ne_true
  have hnew : List.foldl (fun x1 x2 => x1 ++ x2) #[] (List.replicate (if its.toArray.isEmpty = true then 0 else k.toNat) its.toArray) = (List.replicate k.toNat its).flatten.toArray := by
    have f0 : ∀ m : Nat, List.foldl (fun x1 x2 => x1 ++ x2) #[] (List.replicate m its.toArray) = (List.replicate m its).flatten.toArray := fun m => by
      have := foldl_rep its m []
      rw [List.nil_append] at this
      exact this
    rw [f0]
    cases its with
    | nil => simp
    | cons a r' => rw [if_neg (by simp)]
  refine wpAny_binaryOp_repeat_ref (T := "list") (U := "int") (by decide) ⟨_, e, rfl⟩ (fun s' => typeIs_int s' k t) noFill_list_mul F.fills_int_mul F.slot_int_rmul repeat_list F.slot_int_index.lookup
    (call_meets F.slot_int_rmul (typeIs_int s k t) F.entry_int_rmul (F.args_int_rmul_2 _ _) (int___rmul___int_list k t l its.toArray n)
      ⟨e, rfl, ⟨_, e, rfl⟩, call_meets F.slot_list_mul ⟨_, e, rfl⟩ F.entry_list_mul (F.args_list_mul_2 _ _) (AutoListH.list___mul___list_int_3 l its.toArray n k t hfit hcap hlong) ⟨e, ?_⟩⟩)
  rw [hnew]
  exact ⟨.ref _, _, I.lnew (t' := s.toks) (r.rep k.toNat) (by rw [len_rep, Nat.mul_comm]; exact hz), rfl, q _ I.fresh⟩
end
section
variable {prog : Program} {w : World} {A : Around} {E : Value → Shared → Prop} {s : Shared}
end
section
variable {X : Cx}
end
end L2
namespace Att
open PySem PySem.W PySem.Calls PyProof.Rows
theorem ints_of_wellAll {P : Params} {h : Heap} : ∀ (ns : List Int) (vs : List Value), WellAll P h vs (ns.map WData.int) → IntsAre vs ns := by
  intro ns
  induction ns with
  | nil =>
    intro vs w
    rw [List.map_nil] at w
    cases w
    exact .nil
  | cons n ns ih =>
    intro vs w
    rw [List.map_cons] at w
    cases w with
    | cons a b =>
      cases a
      exact .cons _ _ (ih _ b)
theorem script_of {l : OpenLaw} {n : Nat} (hn : l.most = some n) {P : Params} {h : Heap} {args : List WData} {vals : List Value}
    (hpre : l.row.toRowW.claim.pre args = true) (hwl : WellAll P h vals args) :
    ∃ a vs ns, vals = [Value.ref a] ∧ args = [WData.list (ns.map WData.int)] ∧ h.get? a = some { cls := .type "list", data := .seq vs.toArray } ∧ IntsAre vs ns ∧ ns.length ≤ n := by
  have hsh : WShape.hasAll [] args [.list .int] = true := (pre_splitW hpre).1
  have hc : l.pre.holds [] { args := args } = true := (pre_splitW hpre).2
  obtain ⟨d, r, rfl, h1, h2⟩ := hasAllW_cons hsh
  obtain rfl := hasAllW_nil h2
  obtain ⟨xs, rfl, h3⟩ := hasW_list h1
  obtain ⟨ns, rfl⟩ := items_int h3
  have hlen : ns.length ≤ n := by
    unfold OpenLaw.pre at hc
    have h4 : (WTm.not (.lt (.lit (.int (n : Int))) (.len (.arg 0)))).holds [] { args := [.list (ns.map .int)] } = true := by
      have h4 := (holds_andW hc).1
      rw [hn] at h4
      exact h4
    have h5 := condW_of h4 (w_not (w_lt w_lit (w_len_list (w_arg rfl))))
    rw [List.length_map] at h5
    refine Nat.le_of_not_lt fun q => ?_
    have q' : (n : Int) < ((ns.length : Nat) : Int) := by omega
    first
      | (rw [decide_eq_true q'] at h5; exact absurd h5 (by decide))
      | (simp at h5; omega)
  cases hwl with
  | cons w1 w2 =>
    cases w2
    cases w1 with
    | list ho hall => exact ⟨_, _, ns, rfl, rfl, ho, ints_of_wellAll ns _ hall, hlen⟩
theorem post_true (l : OpenLaw) (args : List WData) : l.row.toRowW.claim.post args (.bool true) args = true :=
  postW_of (r := l.row.toRowW) (X := (true == true))
    (show WShape.has [] (.bool true) .bool = true by first | rfl | decide | simp [WShape.has, WShape.arms, WShape.armsAll])
    (show (WTm.eq .res (.lit (.bool true))).value [] { args := args, res := some (.bool true), after := args } = some (.bool (true == true)) from w_eq_bool (w_res rfl) w_lit) rfl
theorem attach_call {l : OpenLaw} {n : Nat} {q : Program} {loose : List Str} {XP : (Str → Option Value) → Heap → Prop} {YP : World → Heap → Prop} {d : DefRec}
    (hn : l.most = some n) (hdf : d.params.defaults = [])
    (call : ∀ (w : World) (s₀ s₁ : Shared) (mg mb : Str → Option Value) (fa : Addr) (o : Obj) (pm cd doc : Value) (a : Addr) (vs : List Value) (ns : List Int),
      Ground q loose [] XP w s₀ mg mb s₁.heap → YP w s₁.heap →
      s₁.heap.get? fa = some o → o.data = .func (docDef d.name d.params d.body d.scope pm cd doc) → s₁.heap.CodeRec cd d.name → mg d.name = some (.ref fa) →
      s₁.heap.get? a = some { cls := .type "list", data := .seq vs.toArray } → IntsAre vs ns → ns.length ≤ n → s₁.gens = #[] →
      codeAny (model l.prog w) callerA (.call (.ref fa) ⟨[.ref a], []⟩) (fun r s' => r = .ok (.ret (.bool true)) ∧ OldK s₁.heap s'.heap ∧ s'.os = s₁.os ∧ AllBare s'.gens) s₁) :
    WalkO q loose XP YP l.row.toRowW d [] (fun f vs => PySem.call f vs) := by
  intro w s₀ s₁ mg mb G Y fa o pm cd doc dV kV ho hd hcd hD hmg hg args vals as hpre hlay hrd hwl hlo
  obtain rfl : dV = .none := Dflts.none hD hdf
  obtain rfl : kV = .none := Dflts.noKw hD
  obtain ⟨a, vs, ns, rfl, rfl, hobj, hints, hlen⟩ := script_of hn hpre hwl
  refine enter_call (codeAny_mono (call w s₀ s₁ mg mb fa o pm cd doc a vs ns G Y ho (fd_plain hd) hcd hmg hobj hints hlen hg) fun r s' hq => ?_)
  obtain ⟨rfl, h2, h3, h4⟩ := hq
  exact ⟨.inl ⟨.bool true, .bool true, [], rfl, fun _ => rfl, .bool true, post_true l _, fun _ => ⟨List.Pairwise.nil, fun _ hm => (nomatch hm)⟩⟩, h2, h3, h4⟩
section
variable {prog : Program} {w : World} {A : Around} {E : Value → Shared → Prop} {s : Shared} {K : Frag}
end
end Att
namespace L2
open PySem PySem.Spec PyProof.Rows
theorem vals_ints : ∀ {vs : List Value} {ns : List Int}, IntsAre vs ns → Vals (ns.map V.int) vs
  | _, _, .nil => .nil
  | _, _, .cons n t h => .cons ⟨t, rfl⟩ (vals_ints h)
def Only (H : Hp) : Prop := ∀ b, H b = none ∨ ∃ o xs, H b = some (.frz o (.lst xs))
theorem law_call {P : Program} {w : World} {K : PySem.W.Frag} {mg mb : Str → Option Value} {CX : CXT} {k : Nat} {fa a : Addr} {fd : FuncData} {x : Str} {sp : Sp} {s₁ : Shared} {vs : List Value} {ns : List Int}
    (KX : K.In s₁.heap) (hns : s₁.heap.Ns mainGlobals mg) (hb : s₁.heap.Ns builtinsNs mb) (hbb : ∀ x : Str, x ≠ "__name__" → mb x = bootBuiltins x) (hlim : s₁.heap.NoLimit) (hg : s₁.gens = #[])
    (ha : s₁.heap.get? a = some { cls := .type "list", data := .seq vs.toArray }) (hi : IntsAre vs ns) (hl : ns.length ≤ sizeLine) (hr : Room k callerA)
    (F : ∀ base : Heap, K.In base → base.Ns mainGlobals mg → FnOk P w K mg base CX k fa fd [x] sp) (hbind : ∀ (s : Shared) (u : Value), BindsTo s fd ⟨[u], []⟩ [(x, u)])
    (hsp : ∀ H : Hp, Only H → SqL K H a (ns.map V.int) → sp [.ref a] H (fun v _ => v = .bl true) fun _ _ _ => False)
    (hCX : ∀ H e s', CX [] H s₁ (fun _ _ _ => False) e s' → False) :
    codeAny (model P w) callerA (.call (.ref fa) ⟨[.ref a], []⟩) (fun r s' => r = .ok (.ret (.bool true)) ∧ OldK s₁.heap s'.heap ∧ s'.os = s₁.os ∧ AllBare s'.gens) s₁ := by
  have rv := vals_ints hi
  have lenV := hi.length
  -- from an abstract heap in which nothing but the script may be tracked
  have core : ∀ H : Hp, Only H → SqL K H a (ns.map V.int) → HOk P w H s₁.heap → (∀ b, H b ≠ none → b = a) → (H a ≠ none → K.lookup a = none) →
      codeAny (model P w) callerA (.call (.ref fa) ⟨[.ref a], []⟩) (fun r s' => r = .ok (.ret (.bool true)) ∧ OldK s₁.heap s'.heap ∧ s'.os = s₁.os ∧ AllBare s'.gens) s₁ := by
    intro H hO hS hok hA hK
    have base_of : ∀ {b : Addr} {o : Obj}, s₁.heap.get? b = some o → H b = none → (hidT s₁.heap H).get? b = some o := fun e n => hidT_get e n
    have noA : ∀ {b : Addr} {o : Obj} {es : Array DictEntry} {ep : Nat}, s₁.heap.get? b = some o → o.data = .dict es ep → H b = none := fun {b o es ep} e d => by
      cases q : H b with
      | none => rfl
      | some u =>
        have e' : b = a := hA b (by rw [q]; simp)
        subst e'
        rw [ha] at e; cases e
        have d' : Data.seq vs.toArray _ = Data.dict es ep := d
        cases d'
    have nsK : ∀ {b : Addr} {m : Str → Option Value}, s₁.heap.Ns b m → (hidT s₁.heap H).Ns b m := fun {b m} ⟨o, es, ep, e, d, r⟩ => ⟨o, es, ep, base_of e (noA e d), d, r⟩
    have hKb : K.In (hidT s₁.heap H) := fun b o e => base_of (KX b o e) (by
      cases q : H b with
      | none => rfl
      | some u =>
        have e' : b = a := hA b (by rw [q]; simp)
        subst e'
        rw [hK (by rw [q]; simp)] at e; cases e)
    have hM : Mod K mg (hidT s₁.heap H) := ⟨hKb, nsK hns, ⟨mb, nsK hb, hbb⟩, let ⟨mc, h1, h2⟩ := hlim; ⟨mc, nsK h1, h2⟩⟩
    have e0 : Env0 P w K mg (hidT s₁.heap H) callerA [] s₁ H := ⟨rfl, hM, fun b o e => of_hidT e, Nat.le_of_eq (hidT_size _ _), trivial, fun b hb => absurd (show b ∈ ([] : List Addr) from hb) (by simp), hok, .of_eq hg⟩
    refine codeAny_mono ((F _ hKb (nsK hns)).run callerA [] s₁ H ⟨[.ref a], []⟩ [.ref a] [.ref a] _ _ hr e0 (hbind s₁ (.ref a)) (.cons rfl .nil) (hsp H hO hS)) fun r s' h => ?_
    cases r with
    | error e => exact (hCX H e s' h).elim
    | ok fl =>
      cases fl with
      | next => exact False.elim h
      | brk => exact False.elim h
      | cont => exact False.elim h
      | ret u =>
        obtain ⟨v, H', os, bare, un, hok', r', q⟩ := h
        have q' : v = .bl true := q
        subst q'
        obtain rfl : u = Value.bool true := r'
        refine ⟨rfl, OldK.of_keep fun b o e => ?_, os, bare⟩
        cases q : H b with
        | none => exact un.keep b o e q (by intro z; exact absurd (show b ∈ ([] : List Addr) from z) (by simp)) (by simp)
        | some u =>
          rcases hO b with z | ⟨ob, xs, z⟩
          · rw [q] at z; cases z
          · have z2 := un.frzs b ob _ z
            obtain ⟨e1, _⟩ := hok b _ z
            obtain ⟨e2, _⟩ := hok' b _ z2
            rw [e] at e1; cases e1
            exact e2
  cases hk : K.lookup a with
  | some o =>
    -- the script is one of the module's own objects
    have e := KX a o hk
    rw [ha] at e
    cases e
    refine core (fun _ => none) (fun _ => .inl rfl) (.inr ⟨_, vs.toArray, _, hk, rfl, rfl, rfl, by rw [List.size_toArray, lenV]; exact hl, by simpa using rv⟩) (fun b u z => by have z' : (none : Option HO) = some u := z; cases z') (fun b z => absurd rfl z) fun z => absurd rfl z
  | none =>
    refine core (fun b => if b = a then some (.frz { cls := .type "list", data := .seq vs.toArray } (.lst (ns.map V.int))) else none) (fun b => ?_) (.inl (.inr ⟨{ cls := .type "list", data := .seq vs.toArray }, if_pos rfl⟩)) (fun b u z => ?_) (fun b z => ?_) fun _ => hk
    · by_cases hb : b = a
      · exact .inr ⟨_, _, if_pos hb⟩
      · exact .inl (if_neg hb)
    · by_cases hb : b = a
      · have z' := (if_pos hb).symm.trans z
        cases z'
        subst hb
        exact ⟨ha, by rw [List.length_map]; exact hl, vs, _, rv, ha⟩
      · have z' := (if_neg hb).symm.trans z
        cases z'
    · by_cases hb : b = a
      · exact hb
      · exact absurd (if_neg hb) z
end L2
namespace L2
open PySem PySem.Spec PyProof.Rows
theorem walk_of {l : PySem.W.OpenLaw} {n k : Nat} {q : Program} {loose : List Str} {XP : (Str → Option Value) → Heap → Prop} {YP : World → Heap → Prop} {d : DefRec} {K : Params → PySem.W.Frag} {CX : World → CXT} {sp : World → Sp} {x : Str}
    (hn : l.most = some n) (hn2 : n ≤ sizeLine) (hdf : d.params.defaults = []) (hr : Room k callerA)
    (hY : ∀ (w : World) (h : Heap), YP w h → (K w.params).In h)
    (F : ∀ (w : World) (mg : Str → Option Value) (fa : Addr) (h : Heap), (K w.params).In h → h.Ns mainGlobals mg → mg d.name = some (.ref fa) →
      ∃ fd : FuncData, (∀ (s : Shared) (u : Value), BindsTo s fd ⟨[u], []⟩ [(x, u)]) ∧
        ∀ base : Heap, (K w.params).In base → base.Ns mainGlobals mg → FnOk l.prog w (K w.params) mg base (CX w) k fa fd [x] (sp w))
    (hsp : ∀ (w : World) (H : Hp) (a : Addr) (ns : List Int), ns.length ≤ n → Only H → SqL (K w.params) H a (ns.map V.int) → sp w [.ref a] H (fun v _ => v = .bl true) fun _ _ _ => False)
    (hCX : ∀ (w : World) (H : Hp) (s : Shared) (e : Value) (s' : Shared), CX w [] H s (fun _ _ _ => False) e s' → False) :
    PySem.W.WalkO q loose XP YP l.row.toRowW d [] (fun f vs => PySem.call f vs) := by
  refine Att.attach_call hn hdf fun w s₀ s₁ mg mb fa o pm cd doc a vs ns G Y ho hd hcd hmg hobj hints hlen hg => ?_
  have KX := hY w _ Y
  obtain ⟨fd, hb, hF⟩ := F w mg fa _ KX G.T.g hmg
  exact law_call KX G.T.g G.T.b G.T.builtins G.T.nolimit hg hobj hints (Nat.le_trans hlen hn2) hr hF hb (fun H hO hS => hsp w H a ns hlen hO hS) fun H e s' => hCX w H s₁ e s'
end L2
namespace L2
open PySem PySem.Spec PyProof.Rows
def inClass (s : Stmt) (j : Nat) : Stmt := match s with
  | .ClassDef _ _ _ body _ _ _ _ _ _ _ => body.getD j (.Pass ⟨0, 0, 0, 0⟩)
  | _ => .Pass ⟨0, 0, 0, 0⟩
def defArgs (s : Stmt) : Arguments := match s with
  | .FunctionDef _ a _ _ _ _ _ _ _ _ => a
  | _ => { posonlyargs := [], args := [], vararg := none, kwonlyargs := [], kw_defaults := [], kwarg := none, defaults := [] }
def defBody (s : Stmt) : List Stmt := match s with
  | .FunctionDef _ _ b _ _ _ _ _ _ _ => b
  | _ => []
def defScope (s : Stmt) : Scope := match s with
  | .FunctionDef _ _ _ _ _ _ sc _ _ _ => sc
  | _ => { kind := .function, names := [], isGenerator := false, isCoroutine := false }
abbrev CX0 : CXT := fun _ _ _ _ _ _ => False
abbrev E0 : XK := fun _ _ _ => False
theorem pass0 {X : Cx} : Passes CX0 X E0 := fun _ _ _ _ _ _ _ h => h.elim
structure Fun (K : PySem.W.Frag) (x qual : Str) (st : Stmt) (f : Addr) (fd : FuncData) : Prop where
  ex : ∃ (oc : Value) (od : Option Addr) (kV doc pm : Value) (an : Option Addr) (cdv ct : Value) (osl : Array (Option Value)),
    fd = PySem.W.fnOf x qual (defArgs st) (defBody st) (defScope st) .none kV doc pm an cdv ct ∧ K.lookup f = some ⟨oc, od, .func fd, osl⟩ ∧ PySem.W.codeIn K cdv qual = true
  kp : PySem.W.keepIn K (.ref f) = true
section
variable {P : Program} {w : World} {K : PySem.W.Frag} {mg : Str → Option Value} {base : Heap}
theorem Fun.ok {x qual : Str} {st : Stmt} {f : Addr} {fd : FuncData} {N ps : List Str} {k : Nat} {sp : Sp} (F : Fun K x qual st f fd) (S : FnScope N ps (defScope st)) (len : ∀ vs H Q E, sp vs H Q E → vs.length = ps.length)
    (hbody : ∀ (cdv : Value) (A : Around) (outer : List Env) (s : Shared) (H : Hp) (vs : List V) (Q : VK) (E : XK), Room k (A.deeper (envOfC qual (defScope st) s.heap.objs.size f cdv)) → sp vs H Q E →
      ∃ t, PSs (cxOf CX0 P w K mg base N qual (defScope st) f cdv A outer s H E).nox (defBody st) t ∧ t { nx := fun _ H' => Q .non H', rt := Q } (start N vs) H) : FnOk P w K mg base CX0 (k + 1) f fd ps sp := by
  obtain ⟨oc, od, kV, doc, pm, an, cdv, ct, osl, rfl, lk, hcd⟩ := F.ex
  refine fn_of lk hcd S len fun A outer s H vs Q E hr hsp => ?_
  obtain ⟨t, h, q⟩ := hbody cdv A outer s H vs Q E hr hsp
  exact ⟨t, h.nox, q⟩
theorem Fun.binds {x qual : Str} {st : Stmt} {f : Addr} {fd : FuncData} {ps : List Str} (F : Fun K x qual st f fd)
    (h : ∀ (kV doc pm : Value) (an : Option Addr) (cdv ct : Value) (us : List Value), us.length = ps.length → bindArgs (PySem.W.fnOf x qual (defArgs st) (defBody st) (defScope st) .none kV doc pm an cdv ct) ⟨us, []⟩ = pure (ps.zip us)) : Binds K fd ps [] := by
  obtain ⟨oc, od, kV, doc, pm, an, cdv, ct, osl, rfl, lk, hcd⟩ := F.ex
  exact .all (h kV doc pm an cdv ct)
theorem fun_mk {x qual : Str} {st : Stmt} {f : Addr} {oc : Value} {od an : Option Addr} {osl : Array (Option Value)} {kV doc pm cdv ct : Value} (l : K.lookup f = some ⟨oc, od, .func (PySem.W.fnOf x qual (defArgs st) (defBody st) (defScope st) .none kV doc pm an cdv ct), osl⟩)
    (c : PySem.W.codeIn K cdv qual = true) (k : PySem.W.keepIn K (.ref f) = true) : Fun K x qual st f (PySem.W.fnOf x qual (defArgs st) (defBody st) (defScope st) .none kV doc pm an cdv ct) := ⟨⟨oc, od, kV, doc, pm, an, cdv, ct, osl, rfl, l, c⟩, k⟩
end
section
variable {X : Cx}
theorem pv (i : Nat) {x : Str} {pos : Pos} (hN : X.N[i]? = some x := by rfl) (hv : Vis X.env.scope x := by first | exact Or.inl rfl | exact Or.inr (Or.inl rfl) | exact Or.inr (Or.inr rfl)) (hd : (x == ("__debug__" : Str)) = false := by decide)
    (hcd : (x == ("__classdict__" : Str)) = false := by decide) : PE X (.Name x pos) (tVar i) := pe_var hN hv hd hcd
end
theorem iteF {A B : Prop} (h : B) : if false = true then A else B := by
  rw [if_neg Bool.false_ne_true]
  exact h
theorem iteT {A B : Prop} (h : A) : if true = true then A else B := by
  rw [if_pos rfl]
  exact h
theorem ite2 {c A B : Prop} [Decidable c] (h1 : c → A) (h2 : ¬ c → B) : if c then A else B := by
  by_cases h : c
  · rw [if_pos h]
    exact h1 h
  · rw [if_neg h]
    exact h2 h
def Same (H H' : Hp) : Prop := ∀ b o, H b = some o → H' b = some o
theorem Same.refl (H : Hp) : Same H H := fun _ _ h => h
theorem Same.trans {H H1 H2 : Hp} (a : Same H H1) (b : Same H1 H2) : Same H H2 := fun c o h => b c o (a c o h)
theorem Same.free {H H' : Hp} (e : Same H H') {l : Addr} (h : H' l = Option.none) : H l = Option.none := by
  cases q : H l with
  | none => rfl
  | some o =>
    rw [e l o q] at h
    cases h
theorem Same.seq {K : PySem.W.Frag} {H H' : Hp} {a : Addr} {xs : List V} (e : Same H H') (h : SqL K H a xs) : SqL K H' a xs := by
  rcases h with (h | ⟨o, h⟩) | h
  · exact .inl (.inl (e _ _ h))
  · exact .inl (.inr ⟨o, e _ _ h⟩)
  · exact .inr h
end L2
set_option Elab.async false
set_option linter.all false
set_option maxRecDepth 100000
namespace L2
open PySem PySem.Spec PyProof.Rows
theorem relabel_some {env : Env} : ∀ {names : List (Str × NameKind)} {x : Str} {k : NameKind}, names.lookup x = some k →
    ∃ k', (names.map fun (n, k) => if (k == NameKind.free && env.scope.kind == .function && env.kindOf n == some .cell) then (n, NameKind.cell) else (n, k)).lookup x = some k' ∧ (k' = k ∨ (k = .free ∧ k' = .cell))
  | [], _, _, h => by simp at h
  | (n, k0) :: r, x, k, h => by
    have ih := @relabel_some env r x k
    show ∃ k', List.lookup x ((if (k0 == NameKind.free && env.scope.kind == .function && env.kindOf n == some .cell) = true then (n, NameKind.cell) else (n, k0)) :: _) = some k' ∧ _
    cases hx : x == n with
    | true =>
      simp only [List.lookup_cons, hx] at h
      cases h
      by_cases hc : (k0 == NameKind.free && env.scope.kind == .function && env.kindOf n == some .cell) = true
      · rw [if_pos hc]
        refine ⟨.cell, by simp only [List.lookup_cons, hx], .inr ⟨?_, rfl⟩⟩
        have q : (k0 == NameKind.free) = true := by
          rw [Bool.and_eq_true, Bool.and_eq_true] at hc
          exact hc.1.1
        cases k0 <;> first | rfl | exact absurd q (by decide)
      · rw [if_neg hc]
        exact ⟨k0, by simp only [List.lookup_cons, hx], .inl rfl⟩
    | false =>
      simp only [List.lookup_cons, hx] at h
      obtain ⟨k', e, q⟩ := ih h
      by_cases hc : (k0 == NameKind.free && env.scope.kind == .function && env.kindOf n == some .cell) = true
      · rw [if_pos hc]; exact ⟨k', by simp only [List.lookup_cons, hx]; exact e, q⟩
      · rw [if_neg hc]; exact ⟨k', by simp only [List.lookup_cons, hx]; exact e, q⟩
theorem relabel_none {env : Env} : ∀ {names : List (Str × NameKind)} {x : Str}, names.lookup x = none →
    (names.map fun (n, k) => if (k == NameKind.free && env.scope.kind == .function && env.kindOf n == some .cell) then (n, NameKind.cell) else (n, k)).lookup x = none
  | [], _, _ => rfl
  | (n, k0) :: r, x, h => by
    have ih := @relabel_none env r x
    show List.lookup x ((if (k0 == NameKind.free && env.scope.kind == .function && env.kindOf n == some .cell) = true then (n, NameKind.cell) else (n, k0)) :: _) = none
    cases hx : x == n with
    | true => simp only [List.lookup_cons, hx] at h; cases h
    | false =>
      simp only [List.lookup_cons, hx] at h
      by_cases hc : (k0 == NameKind.free && env.scope.kind == .function && env.kindOf n == some .cell) = true
      · rw [if_pos hc]; simp only [List.lookup_cons, hx]; exact ih h
      · rw [if_neg hc]; simp only [List.lookup_cons, hx]; exact ih h
theorem closure_go {env : Env} : ∀ (names : List (Str × NameKind)) (cs : List (Str × Addr)), (∀ y ∈ names, y.2 = NameKind.free → ∃ c, env.cells.lookup y.1 = some c) →
    (∀ y c, cs.lookup y = some c → env.cells.lookup y = some c) →
    ∃ cl, (forIn names cs fun x r => (match x with
      | (name, kind) => if (kind == NameKind.free) = true then (do let a ← cellOf env name; pure (ForInStep.yield ((name, a) :: r))) else pure (ForInStep.yield r)) : Sem (List (Str × Addr))) = pure cl ∧
      (∀ y c, cl.lookup y = some c → env.cells.lookup y = some c) ∧ (∀ y, ((∃ c, cs.lookup y = some c) ∨ (y, NameKind.free) ∈ names) → ∃ c, cl.lookup y = some c)
  | [], cs, _, h => ⟨cs, by simp, h, fun y q => q.elim id fun z => absurd z (by simp)⟩
  | (n, k) :: r, cs, hf, h => by
    by_cases hk : (k == NameKind.free) = true
    · have hk' : k = NameKind.free := by cases k <;> first | rfl | exact absurd hk (by decide)
      obtain ⟨c, hc⟩ := hf (n, k) List.mem_cons_self hk'
      have h' : ∀ y c', ((n, c) :: cs).lookup y = some c' → env.cells.lookup y = some c' := fun y c' e => by
        cases hy : y == n with
        | true =>
          simp only [List.lookup_cons, hy] at e
          cases e
          have : y = n := by simpa using hy
          rw [this]; exact hc
        | false =>
          simp only [List.lookup_cons, hy] at e
          exact h y c' e
      obtain ⟨cl, e, q1, q2⟩ := closure_go r ((n, c) :: cs) (fun y hy => hf y (List.mem_cons_of_mem _ hy)) h'
      refine ⟨cl, ?_, q1, fun y q => q2 y ?_⟩
      · rw [List.forIn_cons]
        have ec : cellOf env n = pure c := by unfold cellOf; rw [hc]
        simp only [hk, if_true, ec, pure_bind]
        exact e
      · rcases q with ⟨c', q⟩ | q
        · left
          cases hy : y == n with
          | true => exact ⟨c, by simp only [List.lookup_cons, hy]⟩
          | false => exact ⟨c', by simp only [List.lookup_cons, hy]; exact q⟩
        · rcases List.mem_cons.mp q with z | z
          · cases z
            left
            exact ⟨c, by simp [List.lookup_cons]⟩
          · exact .inr z
    · obtain ⟨cl, e, q1, q2⟩ := closure_go r cs (fun y hy => hf y (List.mem_cons_of_mem _ hy)) h
      refine ⟨cl, ?_, q1, fun y q => q2 y ?_⟩
      · rw [List.forIn_cons]
        simp only [hk, if_false, pure_bind]
        exact e
      · rcases q with q | q
        · exact .inl q
        · rcases List.mem_cons.mp q with z | z
          · cases z
            exact absurd rfl hk
          · exact .inr z
theorem closure_of {scope : Scope} {env : Env} (h : ∀ y ∈ scope.names, y.2 = NameKind.free → ∃ c, env.cells.lookup y.1 = some c) :
    ∃ cl, closureFor scope env = pure cl ∧ (∀ y c, cl.lookup y = some c → env.cells.lookup y = some c) ∧ (∀ y, (y, NameKind.free) ∈ scope.names → ∃ c, cl.lookup y = some c) := by
  obtain ⟨cl, e, q1, q2⟩ := closure_go (env := env) scope.names [] h (fun y c e => by simp at e)
  refine ⟨cl, ?_, q1, fun y hy => q2 y (.inr hy)⟩
  unfold closureFor
  dsimp only
  rw [show (forIn scope.names ([] : List (Str × Addr)) fun x r => (match x with
      | (name, kind) => if (kind == NameKind.free) = true then (do let a ← cellOf env name; pure (ForInStep.yield ((name, a) :: r))) else pure (ForInStep.yield r)) : Sem (List (Str × Addr))) = pure cl from e]
  rfl
end L2
set_option Elab.async false
set_option linter.all false
set_option maxRecDepth 100000
namespace L2
open PySem PySem.Spec PyProof.Rows
section
variable {prog : Program} {w : World} {A : Around} {R : Result → Shared → Prop} {s : Shared}
theorem compLoop_gen {elt target iter : Expr} {ifs : List Expr} {scope : Scope} {pos : Pos} {it acc : Value} {env : Env} (Iv : Nat → Shared → Prop)
    (turn : ∀ n s, Iv n s → wpAny (model prog w) A (pyNext it) (fun r s₁ => match r with
      | none => R (.ok .next) s₁
      | some v => wpAny (model prog w) A (letOwnedTupleGo target it v) (fun _ s₁' => wpAny (model prog w) A (assign target env v) (fun _ s₂ =>
          wpAny (model prog w) A (forIn ifs true fun c r => if r = true then do let ok ← isTrue c env (eval c env); pure (ForInStep.yield ok) else pure (ForInStep.yield r)) (fun ok s₃ =>
            if ok = true then wpAny (model prog w) A (eval elt env) (fun x s₄ =>
              wpAny (model prog w) A (call (.builtin "list.append") [acc, x]) (fun _ s₅ => ∃ m, m < n ∧ Iv m s₅) (fun _ _ => False) s₄) (fun _ _ => False) s₃
            else ∃ m, m < n ∧ Iv m s₃) (fun _ _ => False) s₂) (fun _ _ => False) s₁') (fun _ _ => False) s₁) (fun _ _ => False) s)
    (n : Nat) (h : Iv n s) :
    codeAny (model prog w) A (.compLoop (.ListComp elt [⟨target, iter, ifs, 0⟩] scope pos) 0 it acc env) R s := by
  refine codeAny_loop rfl Iv (fun n s hI => ?_) n h
  show wpAny _ A ((compTurn (.ListComp elt [⟨target, iter, ifs, 0⟩] scope pos) 0 it acc env).onRaise (fun x => do noteFrame x env; theTreesLotGoes x)) _ _ s
  refine wpAny_noted ?_
  rw [compTurn_list]
  refine wpAny_bind (wpAny_standAt (wpAny_bind (wpAny_mono (turn n s hI) (fun r s₁ h₁ => ?_) fun _ _ z => z.elim)))
  cases r with
  | none => exact wpAny_pure h₁
  | some v =>
    refine wpAny_bind (wpAny_mono h₁ (fun _ s₁' h₁' => ?_) fun _ _ z => z.elim)
    refine wpAny_bind (wpAny_mono h₁' (fun _ s₂ h₂ => wpAny_bind (wpAny_mono h₂ (fun ok s₃ h₃ => ?_) fun _ _ z => z.elim)) fun _ _ z => z.elim)
    cases ok with
    | false => exact wpAny_pure ⟨rfl, h₃⟩
    | true =>
      exact wpAny_bind (wpAny_bind (wpAny_mono h₃ (fun x s₄ h₄ => wpAny_bind (wpAny_mono h₄ (fun _ s₅ h₅ => wpAny_pure (wpAny_pure ⟨rfl, h₅⟩)) fun _ _ z => z.elim)) fun _ _ z => z.elim))
end
def inSt (M : List (Option Nat)) (σ : St) : St := M.map fun o => o.bind fun j => (σ[j]?).join
theorem inSt_length (M : List (Option Nat)) (σ : St) : (inSt M σ).length = M.length := by unfold inSt; rw [List.length_map]
theorem inSt_get {M : List (Option Nat)} {σ : St} {i : Nat} {v : V} (h : (inSt M σ)[i]? = some (some v)) : ∃ j, M[i]? = some (some j) ∧ σ[j]? = some (some v) := by
  unfold inSt at h
  rw [List.getElem?_map] at h
  cases e : M[i]? with
  | none => rw [e] at h; cases h
  | some o =>
    rw [e] at h
    cases o with
    | none => cases h
    | some j =>
      refine ⟨j, rfl, ?_⟩
      have h' : (σ[j]?).join = some v := Option.some.inj h
      cases q : σ[j]? with
      | none => rw [q] at h'; cases h'
      | some o2 => rw [q] at h'; cases o2 with
        | none => cases h'
        | some v2 => cases h'; rfl
def cxLc (X : Cx) (N' : List Str) (scope : Scope) (cl : List (Str × Addr)) (C : Addr) (s : Shared) (H : Hp) (fp : List Addr) : Cx :=
  { X with N := N', s₀ := s, H₀ := H, env := compEnvC scope cl C X.env, outer := X.stack, stack := X.stack, ex := fp, fn := fun _ => false, pn := [], xe := fun _ _ => False }
structure LcSc (N N' : List Str) (M : List (Option Nat)) (sc osc : Scope) : Prop where
  kind : sc.kind = .function
  len : N'.length = M.length
  cell : ∀ y ∈ sc.names, y.2 ≠ NameKind.cell
  own : ∀ y ∈ sc.names, y.2 = NameKind.local → sc.names.lookup y.1 = some NameKind.local
  fre : ∀ y ∈ sc.names, y.2 = NameKind.free → osc.names.lookup y.1 = some NameKind.cell ∨ osc.names.lookup y.1 = some NameKind.free
  at_ : ∀ (i j : Nat), M[i]? = some (some j) → ∃ y, N'[i]? = some y ∧ N[j]? = some y ∧ sc.names.lookup y = some NameKind.free
def Frm (M : List (Option Nat)) (g : TG) : Prop := ∀ v σ H Q, g v σ H Q → g v σ H fun σ' H' => Q σ' H' ∧ σ'.length = σ.length ∧ ∀ (i j : Nat), M[i]? = some (some j) → σ'[i]? = σ[i]?
theorem frm_name {M : List (Option Nat)} {i : Nat} (h : M[i]? = some none) : Frm M (gName i) := fun v σ H Q q => by
  refine ⟨q, List.length_set .., fun k j e => ?_⟩
  have : i ≠ k := by rintro rfl; rw [h] at e; cases e
  exact List.getElem?_set_ne this
def PTs (X : Cx) (ifs : List Expr) (t : TT) : Prop :=
  ∀ (pins : List (Addr × Obj)) (s : Shared) (σ : St) (H : Hp) (Q : Bool → Hp → Prop), Inv X pins σ H s → t σ H Q →
    wpAny (model X.prog X.w) X.A (forIn ifs true fun c r => if r = true then do let ok ← isTrue c X.env (eval c X.env); pure (ForInStep.yield ok) else pure (ForInStep.yield r)) (TP X pins σ Q) X.xe s
def tYes : TT := fun _ H Q => Q true H
theorem pts_nil {X : Cx} : PTs X [] tYes := fun pins s σ H Q I h => wpAny_tests_nil ⟨H, I, h⟩
theorem pts_one {X : Cx} {c : Expr} {t : TT} (h : PT X c t) : PTs X [c] t := fun pins s σ H Q I q => wpAny_tests_one (h pins s σ H Q I q)
def tLc (wi : TI) (M : List (Option Nat)) (g : TG) (tc : TT) (te : TE) (σ : St) (H : Hp) (F : List V → Hp → Prop) : Prop := wi σ H fun J H1 =>
  ∃ W : Nat → Nat → List V → Hp → Prop, (∃ m, W 0 m [] H1) ∧ ∀ i m ys H, W i m ys H → ys.length ≤ sizeLine ∧
    ((J.stop i H ∧ F ys H) ∨ (J.go i H ∧ ys.length < sizeLine ∧ ∃ N : List V → Hp → Prop, (∀ ys' H', N ys' H' → ∃ m', m' < m ∧ W (i + 1) m' ys' H') ∧ ∀ x H', J.yld i H x H' → g x (inSt M σ) H' fun σ2 H2 => tc σ2 H2 fun b H3 =>
      if b = true then te σ2 H3 fun v H4 => N (ys ++ [v]) H4 else N ys H3))
theorem lc_block {X : Cx} {N' : List Str} {M : List (Option Nat)} {scope : Scope} {cl : List (Str × Addr)} {tg elt iter : Expr} {ifs : List Expr} {pos : Pos} {g : TG} {tc : TT} {te : TE} {pins : List (Addr × Obj)} {σ : St} {H2 : Hp} {s2 : Shared}
    {it : Addr} {fp : List Addr} {tn : Nat → Heap → Prop} {J : It} {F : List V → Hp → Prop} {RR : Value → Addr → Result → Shared → Prop} {E : Value → Shared → Prop}
    (S : LcSc X.N N' M scope X.env.scope) (hc : X.calm = true) (q1 : ∀ y c, cl.lookup y = some c → X.env.cells.lookup y = some c) (q2 : ∀ y, (y, NameKind.free) ∈ scope.names → ∃ c, cl.lookup y = some c)
    (hg : ∀ C s H fp, PG (cxLc X N' scope cl C s H fp) tg g) (hf : Frm M g) (ht : ∀ C s H fp, PTs (cxLc X N' scope cl C s H fp) ifs tc) (he : ∀ C s H fp, PE (cxLc X N' scope cl C s H fp) elt te)
    (I2 : Inv X pins σ H2 s2) (T : Turn X.prog X.w X.K tg J fp it tn) (st2 : tn 0 s2.heap) (f2 : ∀ b ∈ fp, FpOk X pins H2 b)
    (hw : ∃ W : Nat → Nat → List V → Hp → Prop, (∃ m, W 0 m [] H2) ∧ ∀ i m ys H, W i m ys H → ys.length ≤ sizeLine ∧
      ((J.stop i H ∧ F ys H) ∨ (J.go i H ∧ ys.length < sizeLine ∧ ∃ N : List V → Hp → Prop, (∀ ys' H', N ys' H' → ∃ m', m' < m ∧ W (i + 1) m' ys' H') ∧ ∀ x H', J.yld i H x H' → g x (inSt M σ) H' fun σ2 H2 => tc σ2 H2 fun b H3 =>
        if b = true then te σ2 H3 fun v H4 => N (ys ++ [v]) H4 else N ys H3)))
    (hend : ∀ (D C : Addr) (s' : Shared) (H' : Hp) (ys : List V), Inv X pins σ (upd H' D (.lst ys)) s' → H' D = none → s2.heap.objs.size ≤ D → s2.heap.objs.size < C → (∃ m, s'.heap.Ns C m) → (upd H' D (.lst ys)) C = none → F ys H' → RR (.ref D) C (.ok .next) s') :
    wpAny (model X.prog X.w) X.A (newList []) (fun acc s₃ => wpAny (model X.prog X.w) X.A (newFunctionEnv scope X.env.globals cl [] X.env.qual none .none (some X.env)) (fun cenv s₄ =>
      codeAny (model X.prog X.w) X.A (.compStart (.ListComp elt [⟨tg, iter, ifs, 0⟩] scope pos) 0 (.ref it) acc { cenv with scope := relabel scope X.env }) (RR acc cenv.locals) s₄) E s₃) E s2 := by
  obtain ⟨W, ⟨m0, w0⟩, turn⟩ := hw
  refine wpAny_newObj_type (wpAny_newFunctionEnv S.cell (by intro y hy; simp at hy) (fun h₁ hns₁ hsb₁ => ?_) S.kind)
  dsimp only at hns₁ hsb₁ ⊢
  generalize hG : s2.heap.push { cls := .type "list", dict := none, data := .seq ([] : List Value).toArray } = G at hns₁ hsb₁ ⊢
  generalize hD : s2.heap.objs.size = D at *
  have hC : G.objs.size = D + 1 := by rw [← hG, Heap.size_push, hD]
  generalize hCC : G.objs.size = C at *
  have DC : D < C := by rw [hC]; exact Nat.lt_succ_self _
  have lo : ∀ b o, s2.heap.get? b = some o → b < D := fun b o e => hD ▸ Heap.lt_size e
  have old : ∀ b o, s2.heap.get? b = some o → h₁.get? b = some o := fun b o e => by
    have hb := lo b o e
    exact hsb₁.extBut b o (Nat.ne_of_lt (Nat.lt_trans hb DC)) (Heap.get?_push_of_some _ (hG ▸ Heap.get?_push_of_some _ e))
  have hacc : h₁.get? D = some { cls := .type "list", data := .seq ([] : List Value).toArray } :=
    hsb₁.extBut _ _ (Nat.ne_of_lt DC) (Heap.get?_push_of_some _ (by rw [← hG, ← hD]; exact Heap.get?_push_size _ rfl))
  have fpl : ∀ b ∈ fp, b < D := fun b hb => by
    obtain ⟨o, e, _⟩ := T.obj _ _ st2 b hb
    exact lo b o e
  have cel : ∀ y c, cl.lookup y = some c → c < D := fun y c e => by
    obtain ⟨v, z⟩ := I2.cell y c (q1 y c e)
    exact hD ▸ z.lt
  generalize hX' : cxLc X N' scope cl C s2 H2 fp = X'
  have envE : X'.env = compEnvC scope cl C X.env := by rw [← hX']; rfl
  have locE : X'.env.locals = C := by rw [envE]; rfl
  have fsE : X'.fs = frs X.stack := by rw [← hX']; rfl
  have fsl : ∀ b ∈ frs X.stack, b < D := fun b hb => by
    rcases List.mem_cons.mp (I2.stkSub b hb) with z | z
    · rw [z]; exact hD ▸ I2.lt
    · exact Nat.lt_of_not_le fun q => I2.nofs (hD ▸ q) z
  have relS : ∀ x k, scope.names.lookup x = some k → ∃ k', X'.env.kindOf x = some k' ∧ (k' = k ∨ (k = .free ∧ k' = .cell)) := fun x k e => by
    obtain ⟨k', e', q⟩ := relabel_some (env := X.env) e
    exact ⟨k', by rw [envE]; exact e', q⟩
  have relN : ∀ x, scope.names.lookup x = none → X'.env.kindOf x = none := fun x e => by
    rw [envE]; exact relabel_none (env := X.env) e
  have cellsE : X'.env.cells = cl := by rw [envE]; rfl
  have ok' : X'.Ok := by
    refine ⟨?mod, ?kind, ?glob, ?blt, ?above, ?inj, ?has, ?cab, ?hd, ?frames, ?stk, ?exf, ?bs, ?bsz, ?noex, ?exfs, ?funs, ?frf⟩
    case mod => rw [← hX']; exact I2.ok.mod
    case kind => rw [envE]; exact S.kind
    case glob => rw [envE]; exact I2.ok.glob
    case blt => rw [envE]; exact I2.ok.blt
    case above => rw [locE, ← hX']; show s2.heap.objs.size ≤ C; rw [hD]; exact Nat.le_of_lt DC
    case inj => intro x y c e1 e2; rw [cellsE] at e1 e2; exact I2.ok.inj x y c (q1 x c e1) (q1 y c e2)
    case has =>
      intro x hx
      rw [cellsE]
      cases e : scope.names.lookup x with
      | none => rw [relN x e] at hx; rcases hx with z | z <;> cases z
      | some k =>
        obtain ⟨k', e', q⟩ := relS x k e
        rw [e'] at hx
        have kf : k = .free := by
          rcases q with q | q
          · rcases hx with z | z
            · cases z; exact absurd q.symm (S.cell _ (PySem.mem_of_lookup e))
            · cases z; exact q.symm
          · exact q.1
        subst kf
        exact q2 x (PySem.mem_of_lookup e)
    case cab => intro x c h; rw [← hX'] at h; exact absurd h (by show ¬ (false = true); decide)
    case hd => rw [← hX']; exact I2.ok.hd
    case frames => rw [← hX']; exact I2.ok.frames
    case stk => rw [← hX']; exact .inl rfl
    case exf =>
      intro b hb
      have hb' : b ∈ fp := by rw [← hX'] at hb; exact hb
      refine ⟨by rw [locE]; exact Nat.ne_of_lt (Nat.lt_trans (fpl b hb') DC), fun x c e => ?_⟩
      rw [cellsE] at e
      exact (f2 b hb').2.2.2.2.1 x c (q1 x c e)
    case bs => rw [← hX']; exact I2.bs
    case bsz => rw [← hX']; exact Nat.le_trans I2.ok.bsz I2.sz
    case noex =>
      intro b o e hb
      have hb' : b ∈ fp := by rw [← hX'] at hb; exact hb
      have e' : X.base.get? b = some o := by rw [← hX'] at e; exact e
      rcases (f2 b hb').2.2.2.1 with z | z
      · exact I2.ok.noex b o e' z
      · exact absurd (Nat.lt_of_lt_of_le (Heap.lt_size e') (Nat.le_trans I2.ok.bsz z)) (Nat.lt_irrefl _)
    case exfs =>
      intro b hb
      have hb' : b ∈ fp := by rw [← hX'] at hb; exact hb
      rw [fsE]
      intro z
      rcases List.mem_cons.mp (I2.stkSub b z) with q | q
      · exact (f2 b hb').2.1 q
      · exact (f2 b hb').2.2.1 q
    case funs => rw [← hX']; exact I2.stack
    case frf => rw [fsE, ← hX']; exact I2.stkFree
  have c0 : H2 C = none := I2.hok.fresh (by rw [hD]; exact Nat.le_of_lt DC)
  have d0 : H2 D = none := I2.hok.fresh (by rw [hD]; exact Nat.le_refl _)
  have I3 : Inv X' [] (inSt M σ) H2 { s2 with heap := h₁, toks := s2.toks + ([] : List (Str × Value)).length } := by
    refine ⟨ok', ?os, ?bare, ?base, ?loc, ?cell, ?free, ?freeC, ?pin, ?hok, ?len⟩
    case os => rw [← hX']; rfl
    case bare => exact I2.bare
    case base => rw [fsE, ← hX']; exact Un.kept old
    case loc =>
      refine ⟨_, by rw [locE]; exact hns₁, fun i x v e1 e2 _ => ?_⟩
      obtain ⟨j, eM, eσ⟩ := inSt_get e2
      obtain ⟨y, n1, n2, n3⟩ := S.at_ i j eM
      have e1' : N'[i]? = some x := by rw [← hX'] at e1; exact e1
      rw [n1] at e1'; cases e1'
      have hyf : (x, NameKind.free) ∈ scope.names := PySem.mem_of_lookup n3
      have kd := S.fre _ hyf rfl
      obtain ⟨m, hn, hl⟩ := id I2.loc
      obtain ⟨u, ru, lk⟩ := hl j x v n2 eσ (kd.elim (fun z => .inr (.inl z)) fun z => .inr (.inr z))
      refine ⟨u, ru, ?_⟩
      rcases lk with ⟨k, _⟩ | ⟨k, c, ec, z⟩
      · have k' : X.env.scope.names.lookup x = some NameKind.local := k
        rcases kd with q | q <;> (rw [k'] at q; cases q)
      · obtain ⟨c', ec'⟩ := q2 x hyf
        have hcc := q1 x c' ec'
        rw [ec] at hcc; cases hcc
        obtain ⟨k', e', q⟩ := relS x _ n3
        refine .inr ⟨?_, c, by rw [cellsE]; exact ec', ?_⟩
        · rw [e']; rcases q with q | q
          · right; rw [q]
          · left; rw [q.2]
        · obtain ⟨o, ho, hd'⟩ := z
          exact ⟨o, old _ _ ho, hd'⟩
    case cell =>
      intro x c e
      rw [cellsE] at e
      obtain ⟨v, o, ho, hd'⟩ := I2.cell x c (q1 x c e)
      exact ⟨v, o, old _ _ ho, hd'⟩
    case free => rw [locE]; exact c0
    case freeC => intro x c e; rw [cellsE] at e; exact I2.freeC x c (q1 x c e)
    case pin => intro p hp; rw [← hX'] at hp; exact absurd (show p ∈ ([] : List (Addr × Obj)) from hp) (by simp)
    case hok => rw [← hX']; exact I2.hok.kept old
    case len => rw [inSt_length, ← hX']; exact S.len.symm
  have xE : ∀ (e : Value) (s' : Shared), ¬ X'.xe e s' := fun e s' z => by rw [← hX'] at z; exact z
  have progE : X'.prog = X.prog := by rw [← hX']; rfl
  have wE : X'.w = X.w := by rw [← hX']; rfl
  have KE' : X'.K = X.K := by rw [← hX']; rfl
  have AE : X'.A = X.A := by rw [← hX']; rfl
  have cE : X'.calm = true := by rw [← hX']; exact hc
  have exE : X'.ex = fp := by rw [← hX']; rfl
  have s0E : X'.s₀ = s2 := by rw [← hX']; rfl
  have pnE : X'.pn = [] := by rw [← hX']; rfl
  have hgX : PG X' tg g := by rw [← hX']; exact hg C s2 H2 fp
  have htX : PTs X' ifs tc := by rw [← hX']; exact ht C s2 H2 fp
  have heX : PE X' elt te := by rw [← hX']; exact he C s2 H2 fp
  have Dfp : D ∉ fp := fun z => Nat.lt_irrefl _ (fpl D z)
  have Dcl : ∀ x c, X'.env.cells.lookup x = some c → c ≠ D := fun x c e => by rw [cellsE] at e; exact Nat.ne_of_lt (cel x c e)
  have Dloc : D ≠ X'.env.locals := by rw [locE]; exact Nat.ne_of_lt DC
  have Dfs : D ∉ X'.fs := by rw [fsE]; exact fun z => Nat.lt_irrefl _ (fsl D z)
  have D0 : D ∈ X'.ex ∨ X'.s₀.heap.objs.size ≤ D := .inr (by rw [s0E, hD]; exact Nat.le_refl _)
  have stat : ∀ {pl : List (Addr × Obj)} {H' : Hp}, (∀ p ∈ pl, p.1 = D) → (∀ b ∈ fp, H' b = none) → ∀ b ∈ fp, FpOk X' pl H' b := fun {pl H'} hpl hn b hb => by
    refine ⟨hn b hb, by rw [locE]; exact Nat.ne_of_lt (Nat.lt_trans (fpl b hb) DC), ?_, .inl (by rw [exE]; exact hb), fun x c e => ?_, fun p hp => ?_⟩
    · exact ok'.exfs b (by rw [exE]; exact hb)
    · rw [cellsE] at e; exact (f2 b hb).2.2.2.2.1 x c (q1 x c e)
    · rw [pnE, List.nil_append] at hp
      rw [hpl p hp]; exact (Nat.ne_of_lt (fpl b hb)).symm
  have loop : codeAny (model X.prog X.w) X.A (.compLoop (.ListComp elt [⟨tg, iter, ifs, 0⟩] scope pos) 0 (.ref it) (.ref D) X'.env) (RR (.ref D) C) { s2 with heap := h₁, toks := s2.toks + ([] : List (Str × Value)).length } := by
    refine compLoop_gen (fun n s' => ∃ i ys H', Inv X' [] (inSt M σ) H' s' ∧ tn i s'.heap ∧ (∀ b ∈ fp, H' b = none) ∧ (∃ (its : List Value) (k : Nat), Vals ys its ∧ s'.heap.get? D = some { cls := .type "list", data := .seq its.toArray k }) ∧ H' D = none ∧ W i n ys H') ?_ m0
      ⟨0, [], H2, I3, T.keep _ _ _ st2 fun b hb o e => old b o e, fun b hb => (f2 b hb).1, ⟨[], 0, .nil, hacc⟩, d0, w0⟩
    rintro n s3 ⟨i, ys, H3, J3, st3, fr3, ⟨its, k, rv, hDs⟩, dn, w3⟩
    obtain ⟨hsz, hcase⟩ := turn i n ys H3 w3
    -- the list's record is pinned
    have J3' : Inv X' [(D, { cls := .type "list", data := .seq its.toArray k })] (inSt M σ) H3 s3 := J3.pins_of fun p hp => by
      have e : p = (D, { cls := .type "list", data := .seq its.toArray k }) := by simpa using hp
      subst e
      exact ⟨hDs, dn, Dloc, Dfs, fun v z => by cases z⟩
    have hpl : ∀ p ∈ [((D, { cls := .type "list", data := .seq its.toArray k }) : Addr × Obj)], p.1 = D := fun p hp => by
      have e : p = (D, { cls := .type "list", data := .seq its.toArray k }) := by simpa using hp
      rw [e]
    rcases hcase with ⟨stop, qF⟩ | ⟨go, hlt, N, hN, step⟩
    · have q := T.done X' progE wE KE' cE i _ s3 _ H3 (fun _ _ => False) J3' (stat hpl fr3) st3 stop
      rw [AE] at q
      refine thn q fun r s4 ⟨hr, J4⟩ => ?_
      subst hr
      have hD4 : s4.heap.get? D = some { cls := .type "list", data := .seq its.toArray k } := (J4.pin _ (List.mem_append_right _ (List.mem_singleton.mpr rfl))).1
      obtain ⟨mC, hnC, _⟩ := id J4.loc
      rw [locE] at hnC
      have b4 := J4.base
      rw [fsE, exE, s0E, show X'.H₀ = H2 by rw [← hX']; rfl] at b4
      refine hend D C s4 H3 ys ?_ dn (Nat.le_refl _) DC ⟨mC, hnC⟩ (by rw [upd_ne (Nat.ne_of_gt DC)]; have := J4.free; rw [locE] at this; exact this) qF
      have hok4 := J4.hok
      rw [progE, wE] at hok4
      refine I2.call' (ch := fp) (H' := upd H3 D (.lst ys)) (by rw [J4.os, s0E]) ⟨b4.keep, b4.slot, fun b o e nn hb => ?_, b4.there, fun b xs e => ?_, fun b o u e => ?_, fun b ps e => ?_⟩ ?_ J4.bare fun b hb => ?_
      · rw [upd_ne (Nat.ne_of_lt (lo b o e))]; exact b4.free b o e nn hb
      · rw [upd_ne (ne_of_none (b4.tups b xs e) dn)]; exact b4.tups b xs e
      · rw [upd_ne (ne_of_none (b4.frzs b o u e) dn)]; exact b4.frzs b o u e
      · obtain ⟨more, e'⟩ := b4.tbls b ps e
        exact ⟨more, by rw [upd_ne (ne_of_none e' dn)]; exact e'⟩
      · intro b u e
        by_cases hb : b = D
        · subst hb
          rw [upd_same] at e; cases e
          exact ⟨hsz, its, k, rv, hD4⟩
        · rw [upd_ne hb] at e
          exact (hok4 b u e).stay (fun c v _ q => q) (fun c q => by rw [upd_ne (ne_of_none q dn)]; exact q) fun c xs q => by rw [upd_ne (ne_of_none q dn)]; exact q
      · obtain ⟨f0, f1, f3, f4, f5, f6⟩ := f2 b hb
        exact ⟨f4, f1, f5, f6⟩
    · have q := T.item X' progE wE KE' cE i _ s3 _ H3 (fun _ _ => False) J3' (stat hpl fr3) st3 go
      rw [AE] at q
      refine thn q fun r s4 ⟨u, hr, h4⟩ => ?_
      subst hr
      dsimp only
      refine thn h4 fun _ s5 ⟨x, H5, J5, r5, y5, st5, fr5⟩ => ?_
      have J5' := J5.pinned (stat hpl fr5) (T.obj _ _ st5)
      have qg := hgX _ s5 (inSt M σ) H5 x u _ J5' r5 (hf _ _ _ _ (step x H5 y5))
      rw [progE, wE, AE] at qg
      refine wpAny_mono qg (fun _ s6 h6 => ?_) fun e s' z => xE e s' z
      obtain ⟨σ6, H6, J6, q6, l6, k6⟩ := h6
      have qt := htX _ s6 σ6 H6 _ J6 q6
      rw [progE, wE, AE] at qt
      refine wpAny_mono qt (fun b s7 h7 => ?_) fun e s' z => xE e s' z
      obtain ⟨H7, J7, q7⟩ := h7
      have fin : ∀ {ys' : List V} {σ8 : St} {H8 : Hp} {s8 : Shared}, σ8 = σ6 → Inv X' ([(D, { cls := .type "list", data := .seq its.toArray k })] ++ pinsAt fp s5.heap) σ8 H8 s8 →
          s8.heap.get? D = some { cls := .type "list", data := .seq its.toArray k } ∧ H8 D = none ∧ tn (i + 1) s8.heap ∧ (∀ b ∈ fp, H8 b = none) ∧ Inv X' [] (inSt M σ) H8 s8 := fun {ys' σ8 H8 s8} e8 J8 => by
        subst e8
        obtain ⟨p1, p2, _⟩ := J8.pin _ (List.mem_append_right _ (List.mem_append_left _ (List.mem_singleton.mpr rfl)))
        refine ⟨p1, p2, T.keep _ _ _ st5 fun b hb o e => (J8.pin (b, o) (List.mem_append_right _ (List.mem_append_right _ (mem_pinsAt hb e)))).1, fun b hb => ?_, ?_⟩
        · obtain ⟨o, e, d⟩ := T.obj _ _ st5 b hb
          exact (J8.pin (b, o) (List.mem_append_right _ (List.mem_append_right _ (mem_pinsAt hb e)))).2.1
        · have J9 : Inv X' [] σ8 H8 s8 := J8.pins_of fun p hp => absurd hp (by simp)
          refine J9.weak (l6.symm) fun a v e => ?_
          obtain ⟨j, eM, _⟩ := inSt_get e
          rw [k6 a j eM]; exact e
      cases b with
      | false =>
        rw [if_neg (by decide)] at q7
        rw [if_neg (by decide)]
        obtain ⟨m', hm, w7⟩ := hN _ _ q7
        obtain ⟨a1, a2, a3, a4, a5⟩ := fin (ys' := ys) rfl J7
        exact ⟨m', hm, i + 1, ys, H7, a5, a3, a4, ⟨its, k, rv, a1⟩, a2, w7⟩
      | true =>
        rw [if_pos rfl] at q7
        rw [if_pos rfl]
        have qe := heX _ s7 σ6 H7 _ J7 q7
        rw [progE, wE, AE] at qe
        refine wpAny_mono qe (fun v8 s8 h8 => ?_) fun e s' z => xE e s' z
        obtain ⟨y8, H8, J8, r8, n8⟩ := h8
        obtain ⟨m', hm, w8⟩ := hN _ _ n8
        obtain ⟨a1, a2, a3, a4, a5⟩ := fin (ys' := ys) rfl J8
        refine wpAny_list_append_plain (items := its.toArray) ⟨k, a1⟩ (fun h9 hl9 hs9 => ?_) (by have := rv.length; rw [List.size_toArray, ← this]; exact hsz)
        have J9 : Inv X' [] (inSt M σ) H8 { s8 with heap := h9 } := a5.turned (t' := s8.toks) (fun b o hb e => (hs9.2 b hb).trans e) a2 Dloc D0 Dcl fun p hp => by rw [pnE] at hp; exact absurd hp (by simp)
        obtain ⟨k9, e9⟩ := hl9
        refine ⟨m', hm, i + 1, ys ++ [y8], H8, J9, T.keep _ _ _ a3 fun b hb o e => (hs9.2 b (fun z => Dfp (z ▸ hb))).trans e, a4, ⟨its ++ [v8], k9, rv.append (.cons r8 .nil), ?_⟩, a2, w8⟩
        rw [show (its ++ [v8]).toArray = its.toArray.push v8 by simp]
        exact e9
  have loop' : codeAny (model X.prog X.w) X.A (.compLoop (.ListComp elt [⟨tg, iter, ifs, 0⟩] scope pos) 0 (.ref it) (.ref D) (compEnvC scope cl C X.env)) (RR (.ref D) C) { s2 with heap := h₁, toks := s2.toks + ([] : List (Str × Value)).length } := envE ▸ loop
  exact codeAny_compStart_list loop' (T.self _ 0 _ _ _ (T.keep _ _ _ st2 fun b hb o e => old b o e) loop')
end L2
set_option Elab.async false
set_option linter.all false
set_option maxRecDepth 100000
namespace L2
open PySem PySem.Spec PyProof.Rows
section
variable {X : Cx} {N' : List Str} {M : List (Option Nat)} {scope : Scope} {tg elt iter : Expr} {ifs : List Expr} {pos : Pos} {g : TG} {tc : TT} {te : TE} {wi : TI}
theorem lc_clos {pins : List (Addr × Obj)} {σ : St} {H : Hp} {s : Shared} (S : LcSc X.N N' M scope X.env.scope) (I : Inv X pins σ H s) :
    ∃ cl, closureFor scope X.env = pure cl ∧ (∀ y c, cl.lookup y = some c → X.env.cells.lookup y = some c) ∧ (∀ y, (y, NameKind.free) ∈ scope.names → ∃ c, cl.lookup y = some c) :=
  closure_of fun y hy hk => I.ok.has y.1 (S.fre y hy hk)
theorem Inv.gone {pins : List (Addr × Obj)} {σ : St} {H : Hp} {s s' : Shared} {C : Addr} {h' : Heap} (I : Inv X pins σ H s) (hs : Heap.SameBut C s.heap h') (hn : H C = none) (hC : C ≠ X.env.locals) (h1 : X.s₀.heap.objs.size ≤ C)
    (h2 : ∀ x c, X.env.cells.lookup x = some c → c ≠ C) (h3 : ∀ p ∈ X.pn ++ pins, p.1 ≠ C) : Inv X pins σ H { s with heap := h' } :=
  I.turned (t' := s.toks) (fun b o hb e => (hs.2 b hb).trans e) hn hC (.inr h1) h2 h3
theorem Inv.young {pins : List (Addr × Obj)} {σ : St} {H : Hp} {s : Shared} {C : Addr} (I : Inv X pins σ H s) (h : s.heap.objs.size ≤ C) :
    C ≠ X.env.locals ∧ X.s₀.heap.objs.size ≤ C ∧ (∀ x c, X.env.cells.lookup x = some c → c ≠ C) ∧ ∀ p ∈ X.pn ++ pins, p.1 ≠ C := by
  refine ⟨(Nat.ne_of_lt (Nat.lt_of_lt_of_le I.lt h)).symm, Nat.le_trans I.sz h, fun x c e => ?_, fun p hp => ?_⟩
  · obtain ⟨v, z⟩ := I.cell x c e
    exact Nat.ne_of_lt (Nat.lt_of_lt_of_le z.lt h)
  · exact Nat.ne_of_lt (Nat.lt_of_lt_of_le (Heap.lt_size (I.pin p hp).1) h)
theorem pe_lc (S : LcSc X.N N' M scope X.env.scope) (hc : X.calm = true) (hi : PI X tg iter wi) (hg : ∀ cl C s H fp, PG (cxLc X N' scope cl C s H fp) tg g) (hf : Frm M g)
    (ht : ∀ cl C s H fp, PTs (cxLc X N' scope cl C s H fp) ifs tc) (he : ∀ cl C s H fp, PE (cxLc X N' scope cl C s H fp) elt te)
    (hs : ∀ x, foldedSetIterable iter X.env x = pure x := by intro _; rfl) :
    PE X (.ListComp elt [⟨tg, iter, ifs, 0⟩] scope pos) (fun σ H Q => tLc wi M g tc te σ H fun ys H' => ∀ p, H' p = none → Q (.ref p) (upd H' p (.lst ys))) := by
  intro pins s σ H Q I h
  obtain ⟨cl, hclos, q1, q2⟩ := lc_clos S I
  rw [eval_ListComp]
  refine wpAny_comprehension_free (use := none) rfl hs hclos S.kind S.own (thn (hi pins s σ H _ I h) fun v s1 h1 => thn h1 fun itv s2 h2 => ?_)
  obtain ⟨it, fp, tn, J, H2, e, I2, T, st2, f2, hw⟩ := h2
  subst e
  refine lc_block (RR := fun acc C => compPost (model X.prog X.w) X.A X.xe none (EP X pins σ Q) acc C) S hc q1 q2 (hg cl) hf (ht cl) (he cl) I2 T st2 f2 hw ?_
  intro D C s' H' ys I' dn hD hC ⟨m, hn⟩ hCn q
  obtain ⟨y1, y2, y3, y4⟩ := I2.young (Nat.le_of_lt hC)
  exact ⟨m, hn, fun h' hs' => ⟨.ref D, _, I'.gone (s' := s') hs' hCn y1 y2 y3 y4, rfl, q D dn⟩⟩
theorem ps_lc {i : Nat} {x : Str} {pos' spos : Pos} (hN : X.N.Nodup) (hi : X.N[i]? = some x) (hx : X.env.scope.names.lookup x = some NameKind.local)
    (S : LcSc X.N N' M scope X.env.scope) (hc : X.calm = true) (hit : PI X tg iter wi) (hg : ∀ cl C s H fp, PG (cxLc X N' scope cl C s H fp) tg g) (hf : Frm M g)
    (ht : ∀ cl C s H fp, PTs (cxLc X N' scope cl C s H fp) ifs tc) (he : ∀ cl C s H fp, PE (cxLc X N' scope cl C s H fp) elt te)
    (hsw : swapsWith (.ListComp elt [⟨tg, iter, ifs, 0⟩] scope pos) (some (.Name x pos')) spos.line X.env = pure true := by rfl)
    (hs : ∀ x, foldedSetIterable iter X.env x = pure x := by intro _; rfl) :
    PS X (.Assign [.Name x pos'] (.ListComp elt [⟨tg, iter, ifs, 0⟩] scope pos) spos) (fun D σ H => tLc wi M g tc te σ H fun ys H' => ∀ p, H' p = none → D.nx (σ.set i (some (.ref p))) (upd H' p (.lst ys))) := by
  intro pins s σ H Dn I h
  obtain ⟨cl, hclos, q1, q2⟩ := lc_clos S I
  rw [exec_Assign_Name_used _ _ _ _ hsw]
  refine wpAny_bind (wpAny_standAt (wpAny_bind ?_))
  show wpAny _ X.A (do let _ ← comprehension (.ListComp elt [⟨tg, iter, ifs, 0⟩] scope pos) scope X.env _ (newList []) false (eval iter X.env) (some (assign (.Name x pos') X.env))) _ _ s
  refine wpAny_bind (wpAny_mono (wpAny_comprehension_free (use := some (assign (.Name x pos') X.env)) (Q := fun _ s' => SP X pins Dn .next s') rfl hs hclos S.kind S.own
    (thn (hit pins s σ H _ I h) fun v s1 h1 => thn h1 fun itv s2 h2 => ?_)) (fun _ s' hq => wpAny_pure (wpAny_pure hq)) fun _ _ e => e)
  obtain ⟨it, fp, tn, J, H2, e, I2, T, st2, f2, hw⟩ := h2
  subst e
  refine lc_block (RR := fun acc C => compPost (model X.prog X.w) X.A X.xe (some (assign (.Name x pos') X.env)) (fun _ s' => SP X pins Dn .next s') acc C) S hc q1 q2 (hg cl) hf (ht cl) (he cl) I2 T st2 f2 hw ?_
  intro D C s' H' ys I' dn hD hC ⟨m, hn⟩ hCn q
  obtain ⟨y1, y2, y3, y4⟩ := I2.young (Nat.le_of_lt hC)
  show wpAny _ X.A (assign (.Name x pos') X.env (.ref D)) _ _ s'
  refine wpAny_assign_Name (store_ok2 I' hN hi (.inl hx) (v := .ref D) rfl (fun s'' I'' ⟨a, hsb, ha⟩ => ?_) (.inr hx))
  have hCa : C ≠ a := by
    rcases ha with z | z
    · rw [z]; exact y1
    · exact (y3 x a z).symm
  exact ⟨m, hn.sameBut hsb hCa, fun h' hs' => ⟨_, _, I''.gone (s' := s'') hs' hCn y1 y2 y3 y4, q D dn⟩⟩
end
end L2
set_option Elab.async false
set_option linter.all false
set_option maxRecDepth 100000
namespace L2
open PySem PySem.Spec PyProof.Rows
theorem Same.seqT {K : PySem.W.Frag} {H H' : Hp} {a : Addr} {xs : List V} (e : Same H H') (h : SqT K H a xs) : SqT K H' a xs := by
  rcases h with (h | ⟨o, h⟩) | h
  · exact .inl (.inl (e _ _ h))
  · exact .inl (.inr ⟨o, e _ _ h⟩)
  · exact .inr h
theorem Same.new {H : Hp} {p : Addr} {o : HO} (h : H p = none) : Same H (upd H p o) := fun b u e => by rw [upd_ne (ne_of_none e h)]; exact e
theorem Same.new2 {H H1 : Hp} {p : Addr} {o : HO} (e : Same H H1) (h : H1 p = none) : Same H (upd H1 p o) := e.trans (Same.new h)
theorem Same.put {H H1 : Hp} {p : Addr} {o : HO} (e : Same H H1) (h : H p = none) : Same H (upd H1 p o) := fun b u q => by rw [upd_ne (ne_of_none q h)]; exact e b u q
section
variable {X : Cx}
theorem op_mulW : OpR X (binaryOp .Mult) (rI IntMulOk fun i j => .int (i * j)) := opI fun _ _ _ _ _ _ _ hc q => mul_int q hc
def CDivW (i j : Int) : Prop := 0 < j ∧ j.natAbs.log2 < 9000
theorem op_fdivW : OpR X (binaryOp .FloorDiv) (rI CDivW fun i j => .int (i / j)) := opI fun i j _ _ _ _ _ hc q => by
  have e : i.fdiv j = i / j := Int.fdiv_eq_ediv_of_nonneg i (Int.le_of_lt hc.1)
  exact floordiv_int (Int.ne_of_gt hc.1) (by rw [e]; exact q) (.inl (PyProof.noPylong_of_log2 hc.2))
theorem mulOk_l {a b : Int} (h : -(2 ^ 64) < a ∧ a < 2 ^ 64) : IntMulOk a b := CMul.ok (.inl h)
theorem mulOk_r {a b : Int} (h : -(2 ^ 64) < b ∧ b < 2 ^ 64) : IntMulOk a b := CMul.ok (.inr h)
theorem old_keptT {s : Shared} {l : Addr} {h' : Heap} (hk : ∀ b o, b ∉ [s.heap.objs.size] → (s.heap.push { cls := .type "tuple_iterator", data := .fields #[.ref l, .int 0 0] }).get? b = some o → h'.get? b = some o) :
    ∀ b o, s.heap.get? b = some o → h'.get? b = some o := fun b o e => hk b o (fun hm => absurd (Heap.lt_size e) (by rw [List.mem_singleton.mp hm]; exact Nat.lt_irrefl _)) (Heap.get?_push_of_some _ e)
theorem seq_walk {pins : List (Addr × Obj)} {σ : St} {H : Hp} {s : Shared} {a : Addr} {xs : List V} {A : Around} {E : Value → Shared → Prop} {Q : Value → Shared → Prop} (I : Inv X pins σ H s) (hh : A.handled = none) (hq : SqL X.K H a xs ∨ SqT X.K H a xs)
    (h : ∀ (its : List Value) (I' : Addr) (fp wr : List Addr) (St' : Nat → Heap → Prop) (s2 : Shared), Vals xs its → Walks X.prog X.w A I' fp wr its.toArray.size (fun i v => its.toArray[i]? = some v) St' → St' 0 s2.heap → (∀ b ∈ fp, b < s2.heap.objs.size) →
      s2.toks = s.toks → s2.os = s.os → s2.gens = s.gens → s2.drawn = s.drawn → (∀ h' tk, (∀ b o, b ∉ wr → s2.heap.get? b = some o → h'.get? b = some o) → Inv X pins σ H { s2 with heap := h', toks := tk }) → Q (.ref I') s2) :
    wpAny (model X.prog X.w) A (pyIter (.ref a)) Q E s := by
  rcases hq with hq | hq
  · obtain ⟨its, rv, p, hz⟩ := I.list hq
    obtain ⟨o, ho, _⟩ := id p.isList
    have hlt := Heap.lt_size ho
    refine wpAny_pyIter_list p.isList (h its s.heap.objs.size [s.heap.objs.size, a] [s.heap.objs.size] _ _ rv (Walks.list hh _ a (Nat.ne_of_lt hlt) its.toArray) ⟨⟨_, Heap.get?_push_size _ rfl, rfl, rfl⟩, p.isList.push _⟩ (fun b hb => ?_) rfl rfl rfl rfl fun h' tk hk => ?_)
    · show b < (s.heap.push _).objs.size
      rw [Heap.size_push]
      rcases List.mem_cons.mp hb with rfl | hb
      · exact Nat.lt_succ_self _
      · rw [List.mem_singleton.mp hb]; exact Nat.lt_succ_of_lt hlt
    · exact I.kept (t' := tk) (old_kept hk)
  · obtain ⟨its, rv, p, hz⟩ := I.tuple hq
    obtain ⟨o, ho, _⟩ := id p
    have hlt := Heap.lt_size ho
    have p' : s.heap.IsTuple a its.toArray := p
    refine wpAny_pyIter_tuple p' (h its s.heap.objs.size [s.heap.objs.size, a] [s.heap.objs.size] _ _ rv (Walks.tuple hh _ a (Nat.ne_of_lt hlt) its.toArray) ⟨⟨_, Heap.get?_push_size _ rfl, rfl, rfl⟩, p'.push _⟩ (fun b hb => ?_) rfl rfl rfl rfl fun h' tk hk => ?_)
    · show b < (s.heap.push _).objs.size
      rw [Heap.size_push]
      rcases List.mem_cons.mp hb with rfl | hb
      · exact Nat.lt_succ_self _
      · rw [List.mem_singleton.mp hb]; exact Nat.lt_succ_of_lt hlt
    · exact I.kept (t' := tk) (old_keptT hk)
theorem vals_int_at {ns : List Int} {its : List Value} (r : Vals (ns.map V.int) its) {i : Nat} {v : Value} (h : its.toArray[i]? = some v) : ∃ t, v = .int (ns.getD i 0) t ∧ i < ns.length := by
  have h' : its[i]? = some v := by simpa using h
  have hl := r.length
  rw [List.length_map] at hl
  have hi : i < ns.length := by rw [hl]; exact (List.getElem?_eq_some_iff.mp h').1
  obtain ⟨u, hu, ru⟩ := r.get (i := i) (x := V.int (ns[i])) (by rw [List.getElem?_map, List.getElem?_eq_getElem hi]; rfl)
  rw [hu] at h'; cases h'
  obtain ⟨t, rfl⟩ := ru
  exact ⟨t, by rw [List.getD_eq_getElem?_getD, List.getElem?_eq_getElem hi]; rfl, hi⟩
def IsMax (ns : List Int) (m : Int) : Prop := m ∈ ns ∧ ∀ a ∈ ns, a ≤ m
theorem getD_mem' {ns : List Int} {i : Nat} (h : i < ns.length) : ns.getD i 0 ∈ ns := by
  rw [List.getD_eq_getElem?_getD, List.getElem?_eq_getElem h]; exact List.getElem_mem h
theorem mem_getD' {ns : List Int} {a : Int} (h : a ∈ ns) : ∃ i, i < ns.length ∧ ns.getD i 0 = a := by
  obtain ⟨i, hi, e⟩ := List.mem_iff_getElem.mp h
  exact ⟨i, hi, by rw [List.getD_eq_getElem?_getD, List.getElem?_eq_getElem hi]; exact e⟩
theorem call_maxL (hc : X.calm = true) : CallR X (.builtin "max") (fun xs H Q => ∃ (a : Addr) (ns : List Int), xs = [.ref a] ∧ (SqL X.K H a (ns.map V.int) ∨ SqT X.K H a (ns.map V.int)) ∧ ns ≠ [] ∧ ∀ m, IsMax ns m → Q (.int m) H) := by
  intro pins s σ H xs us Q I r h
  obtain ⟨a, ns, rfl, hq, hne, q⟩ := h
  obtain ⟨u, rfl, ru⟩ := vals1 r
  cases ru
  refine call_max_walk (seq_walk I (A := X.A.in1) (I.ok.hd hc) hq fun its I' fp wr St' s2 rv W st hfp _ _ _ _ hI => ?_)
  have hlen : its.toArray.size = ns.length := by rw [List.size_toArray, ← rv.length, List.length_map]
  have hpos : 0 < ns.length := List.length_pos_iff.mpr hne
  refine ⟨_, _, _, _, _, _, _, rfl, W, st, hfp, by rw [hlen]; exact hpos, CmpOf.ints_gt (fun i => ns.getD i 0) (fun i v hv => (vals_int_at rv hv).imp fun t e => e.1), fun v h' tk hP hk => ?_⟩
  obtain ⟨t, rfl, hi⟩ := vals_int_at rv hP
  obtain ⟨h1, h2⟩ := argBest_gt (fun i => ns.getD i 0) (its.toArray.size - 1)
  refine ⟨.int _, H, hI h' tk hk, ⟨t, rfl⟩, q _ ⟨getD_mem' hi, fun b hb => ?_⟩⟩
  obtain ⟨j, hj, rfl⟩ := mem_getD' hb
  exact h2 j (by omega)
theorem call_sumL (hc : X.calm = true) : CallR X (.builtin "sum") (fun xs H Q => ∃ (a : Addr) (ns : List Int), xs = [.ref a] ∧ (SqL X.K H a (ns.map V.int) ∨ SqT X.K H a (ns.map V.int)) ∧ Q (.int ns.sum) H) := by
  intro pins s σ H xs us Q I r h
  obtain ⟨a, ns, rfl, hq, q⟩ := h
  obtain ⟨u, rfl, ru⟩ := vals1 r
  cases ru
  refine call_sum_walkG (seq_walk I (A := X.A.in1) (I.ok.hd hc) hq fun its I' fp wr St' s2 rv W st hfp _ _ _ _ hI => ?_)
  refine ⟨_, _, _, _, _, _, fun i => ns.getD i 0, rfl, W, st, hfp, (fun i v hv => (vals_int_at rv hv).imp fun t e => e.1), fun h' tk t' hk => ?_⟩
  have hlen : its.toArray.size = ns.length := by rw [List.size_toArray, ← rv.length, List.length_map]
  refine ⟨.int _, H, hI h' tk hk, ⟨t', rfl⟩, ?_⟩
  have e : preSum (fun i => ns.getD i 0) its.toArray.size = ns.sum := by
    rw [hlen]
    have gen : ∀ n, n ≤ ns.length → preSum (fun i => ns.getD i 0) n = (ns.take n).sum := by
      intro n
      induction n with
      | zero => intro _; rfl
      | succ n ih =>
        intro hn
        have e1 : preSum (fun i => ns.getD i 0) (n + 1) = preSum (fun i => ns.getD i 0) n + ns.getD n 0 := rfl
        have hn' : n < ns.length := hn
        have e2 : ns.take (n + 1) = ns.take n ++ [ns[n]] := by simp
        rw [e1, ih (by omega), e2, List.getD_eq_getElem?_getD, List.getElem?_eq_getElem hn', List.sum_append]
        simp
    rw [gen _ (Nat.le_refl _), List.take_length]
  rw [e]; exact q
end
end L2
set_option Elab.async false
set_option linter.all false
set_option maxRecDepth 100000
namespace L2
open PySem PySem.Spec PyProof.Rows
section
variable {prog : Program} {w : World} {A : Around} {E : Value → Shared → Prop} {s : Shared}
theorem isExact_tup {t : Addr} {items : Array Value} {Q : Bool → Shared → Prop} (ht : IsTup s.heap t items) (h : Q true s) : wpAny (model prog w) A (Builtin.Tuple.tupleIsExact (.ref t)) Q E s := by
  unfold Builtin.Tuple.tupleIsExact
  exact wpAny_bind (wpAny_typeOf ht.typeIs (wpAny_pure h))
theorem getItem_tuple_all {t sl : Addr} {items : Array Value} {vl vu : Value} {lo hi : Option Int} {Q : Value → Shared → Prop} (ht : IsTup s.heap t items) (hs : s.heap.IsSliceOf sl vl vu .none) (pl : IsPart vl lo) (pu : IsPart vu hi)
    (hw : HT.sIx items.size 0 lo = 0 ∧ HT.sIx items.size items.size hi = items.size) (h : Q (.ref t) s) : wpAny (model prog w) A (getItem (.ref t) (.ref sl)) Q E s := by
  obtain ⟨os, hos, hcs, hds⟩ := id hs
  have hTs : s.TypeIs (.ref sl) "slice" := ⟨os, hos, hcs⟩
  unfold getItem
  try with_reducible refine wpAny_holding ?_
  first | refine wpAny_bind (wpAny_pure ?_) | skip
  refine wpAny_bind (wpAny_sequenceKey ht.typeIs (by decide) ?_)
  refine wpAny_bind (wpAny_callSpecial?_slot (name := Str.ofString "__getitem__") ht.typeIs PyProof.Rows.slot_tuple_getitem
    (wpAny_call_entry PyProof.Rows.slot_tuple_getitem ht.typeIs entry_tuple_getitem ?_ (args_tuple_getitem _ _)))
  show wpAny _ _ (Builtin.Tuple.tupleItemsOf (.ref t) >>= _) _ _ s
  refine wpAny_bind (tupleItemsOf_ ht ?_)
  refine wpAny_bind (wpAny_typeOf hTs ?_)
  rw [if_pos (by decide)]
  refine wpAny_bind (HT.sliceApplied_gen hs pl pu ?_)
  have hyes : ((((HT.sIx items.size 0 lo : Nat) : Int) == 0 && (1 : Int) == 1 && (HT.sIx items.size items.size hi - HT.sIx items.size 0 lo) == items.size) = true) := by
    rw [hw.1, hw.2]; simp
  show wpAny _ _ (if (((HT.sIx items.size 0 lo : Nat) : Int) == 0 && (1 : Int) == 1 && (HT.sIx items.size items.size hi - HT.sIx items.size 0 lo) == items.size) = true then _ else _) _ _ s
  rw [if_pos hyes]
  refine wpAny_bind (isExact_tup ht ?_)
  rw [if_pos rfl]
  exact wpAny_bind (wpAny_rule (wpAny_bind (wpAny_pure (wpAny_pure ⟨_, rfl, wpAny_pure h⟩))))
end
section
variable {X : Cx}
theorem sl_tupA : SlR X (fun x lo hi H Q => ∃ a xs, x = .ref a ∧ SqT X.K H a xs ∧ ∀ p H', Same H H' → SqT X.K H' p (cutV xs lo hi) → Q (.ref p) H') := by
  intro pins s σ H x v vl vu lo hi sl Q I rx hs pl pu h
  obtain ⟨a, xs, rfl, hx, q⟩ := h
  by_cases hw : HT.sIx xs.length 0 lo = 0 ∧ HT.sIx xs.length xs.length hi = xs.length
  · cases rx
    obtain ⟨its, r, ht, hz⟩ := I.tuple hx
    have hlen : its.toArray.size = xs.length := by rw [List.size_toArray]; exact r.length.symm
    refine ⟨"tuple", _, PyProof.Rows.slot_tuple_getitem.lookup, ht.typeIs, ?_⟩
    refine getItem_tuple_all ht hs pl pu (by rw [hlen]; exact hw) ⟨.ref a, H, I, rfl, q a H (Same.refl H) ?_⟩
    have e : cutV xs lo hi = xs := by unfold cutV; rw [hw.1, hw.2]; simp
    rw [e]; exact hx
  · exact sl_tup pins s σ H _ v vl vu lo hi sl Q I rx hs pl pu ⟨a, xs, rfl, hx, hw, fun p hp => q p _ (Same.new hp) (SqT.of upd_same)⟩
theorem op_catA : OpR X (binaryOp .Add) (fun x y H Q => ∃ a b xs ys, x = .ref a ∧ y = .ref b ∧ SqT X.K H a xs ∧ SqT X.K H b ys ∧ xs.length + ys.length ≤ sizeLine ∧ ∀ p H', Same H H' → SqT X.K H' p (xs ++ ys) → Q (.ref p) H') := by
  intro pins s σ H x y v u Q I rx ry h
  obtain ⟨a, b, xs, ys, rfl, rfl, ha, hb, hz, q⟩ := h
  by_cases hx : xs = []
  · cases rx
    cases ry
    obtain ⟨its, r1, p1, _⟩ := I.tuple ha
    obtain ⟨its2, r2, p2, _⟩ := I.tuple hb
    have hv : its = [] := r1.nil_iff.mpr hx
    obtain ⟨⟨cls, dd, data, sl⟩, ho, hc, n, hd⟩ := id p1
    obtain ⟨⟨cls2, dd2, data2, sl2⟩, ho2, hc2, n2, hd2⟩ := id p2
    simp only at hc hd hc2 hd2
    subst hc hd hc2 hd2
    refine concat_meets ⟨_, ho, rfl⟩ ⟨_, ho2, rfl⟩ noFill_tuple_add seq_tuple_add PySem.F.slot_tuple_add PySem.F.entry_tuple_add (PySem.F.args_tuple_add_2 _ _)
      (tuple_addW0 a b its.toArray its2.toArray n n2 dd dd2 sl sl2 (by simp [hv])) ⟨ho, ho2, ?_⟩
    exact ⟨.ref b, H, I, rfl, q b H (Same.refl H) (by rw [hx, List.nil_append]; exact hb)⟩
  · refine op_catT pins s σ H _ _ v u Q I rx ry ⟨a, b, xs, ys, rfl, rfl, ha, hb, hx, hz, fun e => q a H (Same.refl H) (by rw [e, List.append_nil]; exact ha), fun _ p hp => q p _ (Same.new hp) (SqT.of upd_same)⟩
end
section
variable {X : Cx}
theorem draw_list {prog : Program} {w : World} {A : Around} {E : Value → Shared → Prop} {it t : Addr} {items : Array Value} (hne : t ≠ it) : ∀ (n i : Nat) (s : Shared) (Q : List Value → Shared → Prop), s.heap.IsListIter it t i → s.heap.IsList t items → i + n ≤ items.size →
    (∀ h', h'.IsListIter it t (i + n) → Heap.SameBut it s.heap h' → Q ((items.toList.drop i).take n) { s with heap := h' }) → wpAny (model prog w) A (draw (.ref it) n) Q E s
  | 0, i, s, Q, hit, _, _, hQ => by
    show wpAny _ _ (pure []) Q E s
    exact wpAny_pure (by simpa using hQ s.heap hit (Heap.SameBut.refl ..))
  | n + 1, i, s, Q, hit, ht, hle, hQ => by
    have hlt : i < items.size := by omega
    show wpAny _ _ (pyNext (.ref it) >>= _) Q E s
    refine wpAny_bind (wpAny_pyNext_list_item hit ht (x := items[i]) (by simp [hlt]) fun h₁ hit₁ hs₁ => ?_)
    refine wpAny_bind (wpAny_holding (draw_list hne n (i + 1) _ _ hit₁ (ht.extBut hs₁.extBut hne) (by omega) fun h₂ hit₂ hs₂ => wpAny_pure ?_))
    have hd : items.toList.drop i = items[i] :: items.toList.drop (i + 1) := by simp [List.drop_eq_getElem_cons, hlt]
    have := hQ h₂ (by rw [show i + (n + 1) = i + 1 + n by omega]; exact hit₂) (hs₁.trans hs₂)
    rw [hd, List.take_succ_cons] at this
    exact this
theorem unpackItems_list {prog : Program} {w : World} {A : Around} {E : Value → Shared → Prop} {s : Shared} {t : Addr} {items : Array Value} {Q : List Value → Shared → Prop} (hh : A.handled = none) (ht : s.heap.IsList t items)
    (hQ : ∀ h', Heap.ExtBut s.heap.objs.size s.heap h' → Q items.toList { s with heap := h' }) : wpAny (model prog w) A (unpackItems (.ref t) items.size none) Q E s := by
  have hlt : t ≠ s.heap.objs.size := by obtain ⟨o, ho, _⟩ := ht; exact Nat.ne_of_lt (Heap.lt_size ho)
  unfold unpackItems
  refine wpAny_bind ?_
  unfold notIterableAtAll
  refine wpAny_bind (wpAny_specialOf ht.typeIs slot_list_iter.lookup ?_)
  refine wpAny_pure ?_
  simp only [Bool.false_eq_true, if_false]
  refine wpAny_bind (wpAny_holding (wpAny_pyIter_list ht ?_))
  refine wpAny_bind (wpAny_holding (draw_list hlt items.size 0 _ _ ⟨_, Heap.get?_push_size _ rfl, rfl, rfl⟩ (ht.push _) (by omega) fun h₁ hit₁ hs₁ => ?_))
  have hall : List.take items.size (List.drop 0 items.toList) = items.toList := by
    rw [List.drop_zero]; exact List.take_of_length_le (by simp)
  rw [hall]
  rw [if_neg (by simp)]
  have ht₁ : h₁.IsList t items := (ht.push _).extBut hs₁.extBut hlt
  refine wpAny_bind (wpAny_holding (wpAny_pyNext_list_end hh hit₁ ht₁ (by simp) fun h₂ he₂ => ?_))
  simp only [Option.isSome_none, Bool.false_eq_true, if_false]
  refine wpAny_pure (hQ h₂ fun b o hb e => he₂ b o hb (hs₁.extBut b o hb (Heap.get?_push_of_some _ e)))
def gLst (K : PySem.W.Frag) (n : Nat) (t : TGs) : TG := fun v σ H Q => ∃ a xs, v = .ref a ∧ SqL K H a xs ∧ xs.length = n ∧ t xs σ H Q
theorem pg_lst {es : List Expr} {k : Nat} {t : TGs} {n : Nat} {pos : Pos} (hc : X.calm = true) (h : PGs X es t)
    (hn : (assignEach es X.env).length = n := by rfl) (hst : (assignEach es X.env).findIdx? (·.1) = none := by rfl) : PG X (.Tuple es k pos) (gLst X.K n t) := by
  intro pins s σ H v u Q I r hw
  obtain ⟨a, xs, e1, hq, hl, hw⟩ := hw
  subst e1
  cases r
  obtain ⟨its, rv, ht, hz⟩ := I.list hq
  rw [assign_Tuple]
  refine wpAny_bind (wpAny_standAt ?_)
  unfold unpack
  rw [show (assignEach es X.env).length = its.toArray.size by rw [hn, ← hl, rv.length, List.size_toArray], hst]
  refine wpAny_bind (wpAny_holding (unpackItems_list (I.ok.hd hc) ht.isList fun h' hx => ?_))
  have I1 : Inv X pins σ H { s with heap := h' } := I.kept (t' := s.toks) fun b o e => hx b o (Nat.ne_of_lt (Heap.lt_size e)) e
  exact h pins _ σ H xs _ Q I1 (by simpa using rv) hw
end
end L2
set_option Elab.async false
set_option linter.all false
set_option maxRecDepth 100000
namespace L2
open PySem PySem.Spec PyProof.Rows
def lcChk (N N' : List Str) (M : List (Option Nat)) (sc osc : Scope) : Bool :=
  (sc.kind == .function) && (N'.length == M.length) && (sc.names.all fun y => y.2 != NameKind.cell) && (sc.names.all fun y => y.2 != NameKind.local || sc.names.lookup y.1 == some NameKind.local) &&
  (sc.names.all fun y => y.2 != NameKind.free || (osc.names.lookup y.1 == some NameKind.cell || osc.names.lookup y.1 == some NameKind.free)) &&
  ((N'.zip M).all fun p => match p.2 with | none => true | some j => N[j]? == some p.1 && sc.names.lookup p.1 == some NameKind.free)
theorem nk_eq {a b : NameKind} (h : (a == b) = true) : a = b := by
  cases a <;> cases b <;> first | rfl | exact absurd h (by decide)
theorem nko_eq {a : Option NameKind} {b : NameKind} (h : (a == some b) = true) : a = some b := by
  cases a with
  | none => exact absurd h (by cases b <;> decide)
  | some x => rw [nk_eq (show (x == b) = true from h)]
theorem nk_ne {a b : NameKind} (h : (a != b) = true) : a ≠ b := by
  cases a <;> cases b <;> first | (intro z; cases z; done) | exact absurd h (by decide)
theorem lcSc_of {N N' : List Str} {M : List (Option Nat)} {sc osc : Scope} (h : lcChk N N' M sc osc = true) : LcSc N N' M sc osc := by
  unfold lcChk at h
  simp only [Bool.and_eq_true] at h
  obtain ⟨⟨⟨⟨⟨h1, h2⟩, h3⟩, h4⟩, h5⟩, h6⟩ := h
  have hl : N'.length = M.length := by simpa using h2
  refine ⟨?_, hl, fun y hy => nk_ne (List.all_eq_true.mp h3 y hy), fun y hy hk => ?_, fun y hy hk => ?_, fun i j e => ?_⟩
  · revert h1; cases sc.kind <;> intro h1 <;> first | rfl | exact absurd h1 (by decide)
  · have q := List.all_eq_true.mp h4 y hy
    rw [Bool.or_eq_true] at q
    rcases q with q | q
    · exact absurd hk (nk_ne q)
    · exact nko_eq q
  · have q := List.all_eq_true.mp h5 y hy
    rw [Bool.or_eq_true, Bool.or_eq_true] at q
    rcases q with q | q | q
    · exact absurd hk (nk_ne q)
    · exact .inl (nko_eq q)
    · exact .inr (nko_eq q)
  · have hi : i < M.length := (List.getElem?_eq_some_iff.mp e).1
    have hi' : i < N'.length := by rw [hl]; exact hi
    have em : (N'[i], some j) ∈ N'.zip M := by
      refine List.mem_iff_getElem?.mpr ⟨i, ?_⟩
      rw [List.getElem?_zip_eq_some]
      exact ⟨List.getElem?_eq_getElem hi', e⟩
    have q := List.all_eq_true.mp h6 _ em
    simp only [Bool.and_eq_true] at q
    exact ⟨N'[i], List.getElem?_eq_getElem hi', by simpa using q.1, nko_eq q.2⟩
section
variable {K : PySem.W.Frag} {a : Addr} {xs : List V} {M : List (Option Nat)} {σ : St} {g : TG} {tc : TT} {te : TE} {F : List V → Hp → Prop} {H : Hp}
abbrev LcGoal (J : It) (M : List (Option Nat)) (σ : St) (g : TG) (tc : TT) (te : TE) (F : List V → Hp → Prop) (H1 : Hp) : Prop :=
  ∃ W : Nat → Nat → List V → Hp → Prop, (∃ m, W 0 m [] H1) ∧ ∀ i m ys H, W i m ys H → ys.length ≤ sizeLine ∧
    ((J.stop i H ∧ F ys H) ∨ (J.go i H ∧ ys.length < sizeLine ∧ ∃ N : List V → Hp → Prop, (∀ ys' H', N ys' H' → ∃ m', m' < m ∧ W (i + 1) m' ys' H') ∧ ∀ x H', J.yld i H x H' → g x (inSt M σ) H' fun σ2 H2 => tc σ2 H2 fun b H3 =>
      if b = true then te σ2 H3 fun v H4 => N (ys ++ [v]) H4 else N ys H3))
theorem lc_list (Pv : Nat → List V → Hp → Prop) (hz : xs.length ≤ sizeLine) (h0 : Pv 0 [] H) (hl : ∀ i ys H, i ≤ xs.length → Pv i ys H → SqL K H a xs ∧ ys.length ≤ i)
    (hs : ∀ i x ys H, xs[i]? = some x → Pv i ys H → g x (inSt M σ) H fun σ2 H2 => tc σ2 H2 fun b H3 => if b = true then te σ2 H3 fun v H4 => Pv (i + 1) (ys ++ [v]) H4 else Pv (i + 1) ys H3)
    (hd : ∀ ys H, Pv xs.length ys H → F ys H) : LcGoal (Itl K a) M σ g tc te F H := by
  refine ⟨fun i m ys H => m = xs.length - i ∧ i ≤ xs.length ∧ Pv i ys H, ⟨xs.length, by simp, Nat.zero_le _, h0⟩, ?_⟩
  rintro i m ys H ⟨rfl, hi, p⟩
  obtain ⟨q, hy⟩ := hl i ys H hi p
  refine ⟨by omega, ?_⟩
  by_cases hlt : i < xs.length
  · refine .inr ⟨⟨xs, xs[i], q, by simp [hlt]⟩, by omega, Pv (i + 1), fun ys' H' p' => ⟨xs.length - (i + 1), by omega, rfl, hlt, p'⟩, fun x H' y => ?_⟩
    obtain ⟨e, y⟩ := y
    subst e
    exact hs i x ys _ (y xs q) p
  · have e : i = xs.length := by omega
    subst e
    exact .inl ⟨⟨xs, q, Nat.le_refl _⟩, hd ys H p⟩
theorem lc_range {lo : Int} {n : Nat} (Pv : Nat → List V → Hp → Prop) (hz : n ≤ sizeLine) (h0 : Pv 0 [] H) (hl : ∀ i ys H, i ≤ n → Pv i ys H → ys.length ≤ i)
    (hs : ∀ i ys H, i < n → Pv i ys H → g (.int (lo + i)) (inSt M σ) H fun σ2 H2 => tc σ2 H2 fun b H3 => if b = true then te σ2 H3 fun v H4 => Pv (i + 1) (ys ++ [v]) H4 else Pv (i + 1) ys H3)
    (hd : ∀ ys H, Pv n ys H → F ys H) : LcGoal (Itr lo n) M σ g tc te F H := by
  refine ⟨fun i m ys H => m = n - i ∧ i ≤ n ∧ Pv i ys H, ⟨n, by simp, Nat.zero_le _, h0⟩, ?_⟩
  rintro i m ys H ⟨rfl, hi, p⟩
  have hy := hl i ys H hi p
  refine ⟨by omega, ?_⟩
  by_cases hlt : i < n
  · refine .inr ⟨hlt, by omega, Pv (i + 1), fun ys' H' p' => ⟨n - (i + 1), by omega, rfl, hlt, p'⟩, fun x H' y => ?_⟩
    obtain ⟨e, y⟩ := y
    subst e y
    exact hs i ys _ hlt p
  · have e : i = n := by omega
    subst e
    exact .inl ⟨Nat.le_refl _, hd ys H p⟩
theorem map_snoc {α : Type} (f : Nat → α) (i : Nat) : (List.range i).map f ++ [f i] = (List.range (i + 1)).map f := by rw [List.range_succ, List.map_append]; rfl
end
structure Cal (P : Program) (w : World) (K : PySem.W.Frag) (mg : Str → Option Value) (base : Heap) (k : Nat) (x : Str) (dvs : List V) (sp : Sp) : Prop where
  ex : ∃ f fd ps ds, FnOk P w K mg base CX0 k f fd ps sp ∧ mg x = some (.ref f) ∧ PySem.W.keepIn K (.ref f) = true ∧ Binds K fd ps ds ∧ Vals dvs ds
theorem pe_cal {X : Cx} {k : Nat} {x : Str} {dvs : List V} {sp : Sp} {e : Expr} {es : List Expr} {t : TA} {p pos : Pos} (c : Cal X.prog X.w X.K X.mg X.base k x dvs sp) (hr : Room k X.A) (hg : Gl X x) (ha : PA X (e :: es) t) (hd : (x == ("__debug__" : Str)) = false := by decide)
    (he : starEach (e :: es) X.env = (false, eval e X.env) :: starEach es X.env := by rfl) (hpl : (backTo pos (starEach es X.env)).any (·.1) = false := by rfl) :
    PE X (.Call (.Name x p) (e :: es) [] pos) (tCall sp dvs E0 t) := by
  obtain ⟨f, fd, ps, ds, F, hm, hk, hb, hv⟩ := c.ex
  exact pe_call F hr hg hm hk hb hv pass0 ha hd he hpl
theorem Cal.up {P : Program} {w : World} {K : PySem.W.Frag} {mg : Str → Option Value} {base : Heap} {j k : Nat} {x : Str} {dvs : List V} {sp : Sp} (c : Cal P w K mg base j x dvs sp) (h : j ≤ k) : Cal P w K mg base k x dvs sp := by
  obtain ⟨f, fd, ps, ds, F, r⟩ := c.ex
  exact ⟨f, fd, ps, ds, F.mono h, r⟩
end L2
set_option Elab.async false
set_option linter.all false
set_option maxRecDepth 100000
namespace L2
open PySem
abbrev Drawn' : List Int → List Int → Prop := Paired fun l r => 0 ≤ r ∧ r < l
def LimOk (l : Int) : Prop := 0 < l ∧ l.natAbs.log2 < 9000
def spDraw (K : PySem.W.Frag) : Sp := fun vs H Q _ => ∃ (c : Int) (a : Addr) (ls : List Int), vs = [.int c, .ref a] ∧ SqL K H a (ls.map V.int) ∧ (∀ l ∈ ls, LimOk l) ∧ ls.length ≤ 1000 ∧
  ∀ (p : Addr) (rs : List Int) (H' : Hp), H p = none → Same H H' → H' p = some (.lst (rs.map V.int)) → Drawn' ls rs → Q (.ref p) H'
def spCell (K : PySem.W.Frag) : Sp := fun vs H Q _ => ∃ (a : Addr) (ns : List Int) (k : Int), vs = [.ref a, .int k] ∧ SqL K H a (ns.map V.int) ∧ 0 ≤ k ∧ k ≤ 1000 ∧ ns.length ≤ 1000 ∧ ∀ z, Q (.int z) H
def spMany (K : PySem.W.Frag) : Sp := fun vs H Q _ => ∃ (a : Addr) (ns : List Int) (f : Int), vs = [.ref a, .int f] ∧ SqL K H a (ns.map V.int) ∧ ∀ z, f ≤ z → (z ≤ 63 ∨ z = f) → Q (.int z) H
def spSplit : Sp := fun vs H Q _ => ∃ (c n : Int) (w : Int), vs = [.int c, .int n, .int w] ∧ 0 ≤ n ∧ n ≤ 100 ∧ 0 ≤ w ∧ w ≤ 2 ∧
  ∀ (p : Addr) (rs : List Int) (H' : Hp), H p = none → Same H H' → H' p = some (.lst (rs.map V.int)) → rs.length = n.toNat → Q (.ref p) H'
def wayGo : Int → List Int → Bool
  | _, [] => true
  | f, w :: r => decide (0 ≤ w) && decide (w ≤ f) && wayGo (if w = f then f + 1 else f) r
def isWay (ns : List Int) : Bool := decide (1 ≤ ns.length) && decide (ns.length ≤ 9) && wayGo 0 ns
def spWay (K : PySem.W.Frag) : Sp := fun vs H Q _ => ∃ (c n : Int), vs = [.int c, .int n] ∧ 1 ≤ n ∧ n ≤ 9 ∧
  ∀ (p : Addr) (ws : List Int) (H' : Hp), H p = none → Same H H' → H' p = some (.tup (ws.map V.int)) → ws.length = n.toNat → isWay ws = true → Q (.ref p) H'
theorem getI {ns : List Int} {i : Nat} {y : V} (h : (ns.map V.int)[i]? = some y) : ∃ z, y = V.int z ∧ ns[i]? = some z ∧ i < ns.length := by
  rw [List.getElem?_map] at h
  cases e : ns[i]? with
  | none => rw [e] at h; cases h
  | some z => rw [e] at h; exact ⟨z, (Option.some.inj h).symm, rfl, (List.getElem?_eq_some_iff.mp e).1⟩
theorem mapV {ns : List Int} {z : Int} : ns.map V.int ++ [V.int z] = (ns ++ [z]).map V.int := by rw [List.map_append]; rfl
theorem nn63 : (sizeLine : Nat) = 16777216 := by decide
theorem le_line {n : Nat} (h : n ≤ 16777216) : n ≤ sizeLine := by rw [nn63]; exact h
theorem lt_line {n : Nat} (h : n < 16777216) : n < sizeLine := by rw [nn63]; exact h
theorem ltm (l : List Int) : (l.map V.int).length = l.length := List.length_map ..
theorem drawn_snoc {ls rs : List Int} {l r : Int} (h : Drawn' ls rs) (h1 : 0 ≤ r) (h2 : r < l) : Drawn' (ls ++ [l]) (rs ++ [r]) := Paired.snoc h ⟨h1, h2⟩
theorem take_snoc {α : Type} {l : List α} {i : Nat} {x : α} (h : l[i]? = some x) : l.take (i + 1) = l.take i ++ [x] := by
  rw [List.take_add_one, h]; rfl
theorem modB (z : Int) {l : Int} (h : 0 < l) : 0 ≤ z % l ∧ z % l < l := ⟨Int.emod_nonneg _ (Int.ne_of_gt h), Int.emod_lt_of_pos _ h⟩
theorem p0 {n : Nat} : (0 : Int) < ((n + 1 : Nat) : Int) := Int.natCast_pos.mpr (Nat.succ_pos n)
theorem ite_P {c : Prop} [Decidable c] {ta tb : TE} {σ : St} {H : Hp} {Q : VK} (P : Int → Prop) (h : ∀ r, P r → Q (.int r) H) (ha : ∀ Q' : VK, (∀ r, P r → Q' (.int r) H) → ta σ H Q') (hb : ∀ Q' : VK, (∀ r, P r → Q' (.int r) H) → tb σ H Q') : if c then ta σ H Q else tb σ H Q := by
  split
  · exact ha _ h
  · exact hb _ h
end L2
set_option Elab.async false
set_option linter.all false
set_option maxRecDepth 100000
namespace L2
open PySem PySem.Spec PyProof.Rows
structure FunD (K : PySem.W.Frag) (x qual : Str) (st : Stmt) (f : Addr) (fd : FuncData) (ds : List Value) : Prop where
  ex : ∃ (oc : Value) (od : Option Addr) (T : Addr) (oT : Obj) (nT : Nat) (kV doc pm : Value) (an : Option Addr) (cdv ct : Value) (osl : Array (Option Value)),
    fd = PySem.W.fnOf x qual (defArgs st) (defBody st) (defScope st) (.ref T) kV doc pm an cdv ct ∧ K.lookup f = some ⟨oc, od, .func fd, osl⟩ ∧ PySem.W.codeIn K cdv qual = true ∧ K.lookup T = some oT ∧ oT.data = .seq ds.toArray nT
  kp : PySem.W.keepIn K (.ref f) = true
section
variable {P : Program} {w : World} {K : PySem.W.Frag} {mg : Str → Option Value} {base : Heap}
theorem FunD.ok {x qual : Str} {st : Stmt} {f : Addr} {fd : FuncData} {ds : List Value} {N ps : List Str} {k : Nat} {sp : Sp} (F : FunD K x qual st f fd ds) (S : FnScope N ps (defScope st)) (len : ∀ vs H Q E, sp vs H Q E → vs.length = ps.length)
    (hbody : ∀ (cdv : Value) (A : Around) (outer : List Env) (s : Shared) (H : Hp) (vs : List V) (Q : VK) (E : XK), Room k (A.deeper (envOfC qual (defScope st) s.heap.objs.size f cdv)) → sp vs H Q E →
      ∃ t, PSs (cxOf CX0 P w K mg base N qual (defScope st) f cdv A outer s H E).nox (defBody st) t ∧ t { nx := fun _ H' => Q .non H', rt := Q } (start N vs) H) : FnOk P w K mg base CX0 (k + 1) f fd ps sp := by
  obtain ⟨oc, od, T, oT, nT, kV, doc, pm, an, cdv, ct, osl, rfl, lk, hcd, _, _⟩ := F.ex
  refine fn_of lk hcd S len fun A outer s H vs Q E hr hsp => ?_
  obtain ⟨t, h, q⟩ := hbody cdv A outer s H vs Q E hr hsp
  exact ⟨t, h.nox, q⟩
theorem FunD.binds {x qual : Str} {st : Stmt} {f : Addr} {fd : FuncData} {ds es : List Value} {ps : List Str} (F : FunD K x qual st f fd ds)
    (h : ∀ (T : Addr) (kV doc pm : Value) (an : Option Addr) (cdv ct : Value) (us : List Value), (us ++ es).length = ps.length → ∃ kk, bindArgs (PySem.W.fnOf x qual (defArgs st) (defBody st) (defScope st) (.ref T) kV doc pm an cdv ct) ⟨us, []⟩ = seqItems? (.ref T) >>= kk ∧ kk (some ds.toArray) = pure (ps.zip (us ++ es))) : Binds K fd ps es := by
  obtain ⟨oc, od, T, oT, nT, kV, doc, pm, an, cdv, ct, osl, rfl, lk, hcd, lT, dT⟩ := F.ex
  intro s us KX hl
  obtain ⟨kk, e1, e2⟩ := h T kV doc pm an cdv ct us hl
  exact BindsTo.of_defaults rfl (KX _ _ lT) dT e1 e2
theorem funD_mk {x qual : Str} {st : Stmt} {f T : Addr} {oT : Obj} {nT : Nat} {ds : List Value} {oc : Value} {od an : Option Addr} {osl : Array (Option Value)} {kV doc pm cdv ct : Value} (l : K.lookup f = some ⟨oc, od, .func (PySem.W.fnOf x qual (defArgs st) (defBody st) (defScope st) (.ref T) kV doc pm an cdv ct), osl⟩)
    (c : PySem.W.codeIn K cdv qual = true) (k : PySem.W.keepIn K (.ref f) = true) (lT : K.lookup T = some oT) (dT : oT.data = .seq ds.toArray nT) : FunD K x qual st f (PySem.W.fnOf x qual (defArgs st) (defBody st) (defScope st) (.ref T) kV doc pm an cdv ct) ds := ⟨⟨oc, od, T, oT, nT, kV, doc, pm, an, cdv, ct, osl, rfl, l, c, lT, dT⟩, k⟩
theorem Fun.cal {x : Str} {qual : Str} {st : Stmt} {f : Addr} {fd : FuncData} {ps : List Str} {k : Nat} {sp : Sp} (F : Fun K x qual st f fd) (G : FnOk P w K mg base CX0 k f fd ps sp) (hm : mg x = some (.ref f))
    (h : ∀ (kV doc pm : Value) (an : Option Addr) (cdv ct : Value) (us : List Value), us.length = ps.length → bindArgs (PySem.W.fnOf x qual (defArgs st) (defBody st) (defScope st) .none kV doc pm an cdv ct) ⟨us, []⟩ = pure (ps.zip us)) : Cal P w K mg base k x [] sp :=
  ⟨f, fd, ps, [], G, hm, F.kp, F.binds h, .nil⟩
end
end L2
set_option Elab.async false
set_option linter.all false
namespace L2
open PySem
theorem IsMax.uniq {l : List Int} {m n : Int} (h : IsMax l m) (h' : IsMax l n) : m = n := Int.le_antisymm (h'.2 m h.1) (h.2 n h'.1)
def maxL : List Int → Int
  | [] => 0
  | a :: r => r.foldl max a
theorem foldl_max : ∀ (r : List Int) (a : Int), IsMax (a :: r) (r.foldl max a)
  | [], a => ⟨List.mem_cons_self, fun b hb => by rw [List.mem_singleton.mp hb]; exact Int.le_refl _⟩
  | b :: r, a => by
    obtain ⟨h1, h2⟩ := foldl_max r (max a b)
    refine ⟨?_, fun c hc => ?_⟩
    · show r.foldl max (max a b) ∈ a :: b :: r
      rcases List.mem_cons.mp h1 with e | e
      · rw [e]
        by_cases q : a ≤ b
        · rw [Int.max_eq_right q]; exact List.mem_cons_of_mem _ List.mem_cons_self
        · rw [Int.max_eq_left (by omega)]; exact List.mem_cons_self
      · exact List.mem_cons_of_mem _ (List.mem_cons_of_mem _ e)
    · show c ≤ r.foldl max (max a b)
      have q := h2 (max a b) List.mem_cons_self
      rcases List.mem_cons.mp hc with e | e
      · rw [e]; have := Int.le_max_left a b; omega
      · rcases List.mem_cons.mp e with e | e
        · rw [e]; have := Int.le_max_right a b; omega
        · exact h2 c (List.mem_cons_of_mem _ e)
theorem maxL_is {l : List Int} (h : l ≠ []) : IsMax l (maxL l) := by
  cases l with
  | nil => exact absurd rfl h
  | cons a r => exact foldl_max r a
theorem IsMax.eq {l : List Int} {m : Int} (h : IsMax l m) : m = maxL l := h.uniq (maxL_is (by rintro rfl; exact absurd h.1 (by simp)))
def fresh (f : Int) (xs : List Int) : Int := xs.foldl (fun f w => if w = f then f + 1 else f) f
theorem fresh_snoc (f : Int) (xs : List Int) (z : Int) : fresh f (xs ++ [z]) = if z = fresh f xs then fresh f xs + 1 else fresh f xs := by
  unfold fresh; rw [List.foldl_append]; rfl
theorem wayGo_snoc : ∀ (xs : List Int) (f z : Int), wayGo f (xs ++ [z]) = (wayGo f xs && (decide (0 ≤ z) && decide (z ≤ fresh f xs)))
  | [], f, z => by
    show (decide (0 ≤ z) && decide (z ≤ f) && true) = (true && _)
    rw [Bool.and_true, Bool.true_and]; rfl
  | w :: r, f, z => by
    show (decide (0 ≤ w) && decide (w ≤ f) && wayGo (if w = f then f + 1 else f) (r ++ [z])) = ((decide (0 ≤ w) && decide (w ≤ f) && wayGo (if w = f then f + 1 else f) r) && _)
    rw [wayGo_snoc r, Bool.and_assoc, Bool.and_assoc, Bool.and_assoc]; rfl
theorem snoc_ind {α : Type} {P : List α → Prop} (h0 : P []) (h1 : ∀ xs z, P xs → P (xs ++ [z])) (l : List α) : P l := by
  have : ∀ n (l : List α), l.length = n → P l := by
    intro n
    induction n with
    | zero => intro l e; rw [List.length_eq_zero_iff.mp e]; exact h0
    | succ n ih =>
      intro l e
      have hl : l ≠ [] := by rintro rfl; simp at e
      rw [← List.dropLast_concat_getLast hl]
      exact h1 _ _ (ih _ (by rw [List.length_dropLast, e]; rfl))
  exact this _ l rfl
theorem fresh_max (xs : List Int) : wayGo 0 xs = true → IsMax (-1 :: xs) (fresh 0 xs - 1) := by
  refine snoc_ind (P := fun xs => wayGo 0 xs = true → IsMax (-1 :: xs) (fresh 0 xs - 1)) ?_ ?_ xs
  · intro _
    exact ⟨by simp [fresh], fun a ha => by simp at ha; simp [fresh, ha]⟩
  · intro xs z ih h
    rw [wayGo_snoc, Bool.and_eq_true, Bool.and_eq_true] at h
    obtain ⟨h1, h2, h3⟩ := h
    have h2 := of_decide_eq_true h2
    have h3 := of_decide_eq_true h3
    obtain ⟨i1, i2⟩ := ih h1
    rw [fresh_snoc]
    by_cases e : z = fresh 0 xs
    · rw [if_pos e]
      refine ⟨by rw [e]; simp, fun a ha => ?_⟩
      rcases List.mem_cons.mp ha with q | q
      · omega
      · rcases List.mem_append.mp q with q | q
        · have := i2 a (List.mem_cons_of_mem _ q); omega
        · rw [List.mem_singleton.mp q]; omega
    · rw [if_neg e]
      refine ⟨?_, fun a ha => ?_⟩
      · rcases List.mem_cons.mp i1 with q | q
        · rw [q]; exact List.mem_cons_self
        · exact List.mem_cons_of_mem _ (List.mem_append_left _ q)
      · rcases List.mem_cons.mp ha with q | q
        · rw [q]; exact i2 _ List.mem_cons_self
        · rcases List.mem_append.mp q with q | q
          · exact i2 a (List.mem_cons_of_mem _ q)
          · rw [List.mem_singleton.mp q]; omega
theorem fresh_pos {xs : List Int} (h : wayGo 0 xs = true) (hne : xs ≠ []) : 1 ≤ fresh 0 xs ∧ IsMax xs (fresh 0 xs - 1) := by
  obtain ⟨i1, i2⟩ := fresh_max xs h
  cases xs with
  | nil => exact absurd rfl hne
  | cons w r =>
    have hw : 0 ≤ w := by
      have h' : (decide (0 ≤ w) && decide (w ≤ 0) && wayGo (if w = 0 then 0 + 1 else 0) r) = true := h
      rw [Bool.and_eq_true, Bool.and_eq_true] at h'
      exact of_decide_eq_true h'.1.1
    have := i2 w (by simp)
    refine ⟨by omega, ?_, fun a ha => i2 a (List.mem_cons_of_mem _ ha)⟩
    rcases List.mem_cons.mp i1 with q | q
    · omega
    · exact q
end L2
set_option Elab.async false
set_option linter.all false
namespace L2
open PySem
theorem cut_take (xs : List V) (k : Nat) : cutV xs none (some (k : Int)) = xs.take k := by
  unfold cutV
  rw [HT.sIx_none, HT.sIx_nat, List.drop_zero, Nat.sub_zero]
  by_cases h : k ≤ xs.length
  · rw [Nat.min_eq_left h]
  · rw [Nat.min_eq_right (by omega), List.take_of_length_le (Nat.le_refl _), List.take_of_length_le (by omega)]
theorem cut_drop (xs : List V) (k : Nat) : cutV xs (some (k : Int)) none = xs.drop k := by
  unfold cutV
  rw [HT.sIx_none, HT.sIx_nat]
  by_cases h : k ≤ xs.length
  · rw [Nat.min_eq_left h, List.take_of_length_le (by rw [List.length_drop]; exact Nat.le_refl _)]
  · rw [Nat.min_eq_right (by omega), List.drop_of_length_le (Nat.le_refl _), List.drop_of_length_le (by omega)]
    simp
theorem cut_take_int (ns : List Int) (k : Nat) : cutV (ns.map V.int) none (some (k : Int)) = (ns.take k).map V.int := by rw [cut_take, List.map_take]
theorem cut_drop_int (ns : List Int) (k : Nat) : cutV (ns.map V.int) (some (k : Int)) none = (ns.drop k).map V.int := by rw [cut_drop, List.map_drop]
theorem atI_int {ns : List Int} {i : Int} {z : Int} (h0 : 0 ≤ i) (h : ns[i.toNat]? = some z) : atI (ns.map V.int) i = some (V.int z) := by
  have := atI_nat (xs := ns.map V.int) (j := i.toNat) (v := V.int z) (by rw [List.getElem?_map, h]; rfl)
  rw [Int.toNat_of_nonneg h0] at this
  exact this
theorem mapV2 (f : Nat → Int) (n : Nat) : ((List.range n).map fun j => V.int (f j)) = ((List.range n).map f).map V.int := by rw [List.map_map]; rfl
theorem Drawn'.uncons {l : Int} {ls rs : List Int} (h : Drawn' (l :: ls) rs) : ∃ r rs', rs = r :: rs' ∧ 0 ≤ r ∧ r < l ∧ Drawn' ls rs' := by
  cases h with
  | cons h t => exact ⟨_, _, rfl, h.1, h.2, t⟩
theorem limOk_small {l : Int} (h0 : 0 < l) (h1 : l < 1000000) : LimOk l := by
  refine ⟨h0, ?_⟩
  by_cases h : l.natAbs = 0
  · omega
  · exact Nat.lt_of_lt_of_le (Nat.log2_lt h |>.mpr (show l.natAbs < 2 ^ 20 by omega)) (by decide)
end L2
set_option Elab.async false
set_option linter.all false
namespace L2
open PySem PySem.Spec PyProof.Rows
section
variable {X : Cx} {K : PySem.W.Frag}
theorem kix_list (h : X.K = K := by rfl) : IxR X (rIxL K) := by subst h; exact ix_list
theorem kix_tup (h : X.K = K := by rfl) : IxR X (rIxT K) := by subst h; exact ix_tup
theorem ksl_list (h : X.K = K := by rfl) : SlR X (rSlL K) := by subst h; exact sl_list
theorem ksl_tup (h : X.K = K := by rfl) : SlR X (fun x lo hi H Q => ∃ a xs, x = .ref a ∧ SqT K H a xs ∧ ∀ p H', Same H H' → SqT K H' p (cutV xs lo hi) → Q (.ref p) H') := by subst h; exact sl_tupA
theorem kop_cat (h : X.K = K := by rfl) : OpR X (binaryOp .Add) (fun x y H Q => ∃ a b xs ys, x = .ref a ∧ y = .ref b ∧ SqT K H a xs ∧ SqT K H b ys ∧ xs.length + ys.length ≤ sizeLine ∧ ∀ p H', Same H H' → SqT K H' p (xs ++ ys) → Q (.ref p) H') := by subst h; exact op_catA
theorem kop_in (h : X.K = K := by rfl) : OpR X (compareOp .In) (rIn K false) := by subst h; exact op_in_seq
theorem kop_notIn (h : X.K = K := by rfl) : OpR X (compareOp .NotIn) (rIn K true) := by subst h; exact op_notIn_seq
theorem kc_len (h : X.K = K := by rfl) : CallR X (.builtin "len") (fun xs H Q => ∃ p ys, xs = [.ref p] ∧ (SqL K H p ys ∨ SqT K H p ys) ∧ Q (.int ys.length) H) := by subst h; exact call_len_seq
theorem kc_max (hc : X.calm = true := by rfl) (h : X.K = K := by rfl) : CallR X (.builtin "max") (fun xs H Q => ∃ (a : Addr) (ns : List Int), xs = [.ref a] ∧ (SqL K H a (ns.map V.int) ∨ SqT K H a (ns.map V.int)) ∧ ns ≠ [] ∧ ∀ m, IsMax ns m → Q (.int m) H) := by subst h; exact call_maxL hc
theorem kc_sum (hc : X.calm = true := by rfl) (h : X.K = K := by rfl) : CallR X (.builtin "sum") (fun xs H Q => ∃ (a : Addr) (ns : List Int), xs = [.ref a] ∧ (SqL K H a (ns.map V.int) ∨ SqT K H a (ns.map V.int)) ∧ Q (.int ns.sum) H) := by subst h; exact call_sumL hc
theorem kc_tuple (h : X.K = K := by rfl) : CallR X (.type "tuple") (fun xs H Q => ∃ p ys, xs = [.ref p] ∧ ((SqL K H p ys ∧ ∀ l, H l = none → Q (.ref l) (upd H l (.tup ys))) ∨ (SqT K H p ys ∧ Q (.ref p) H))) := by subst h; exact call_tuple_of
theorem kc_max2 (hc : X.calm = true := by rfl) : CallR X (.builtin "max") (fun xs H Q => ∃ i j, xs = [.int i, .int j] ∧ Q (.int (if j > i then j else i)) H) := call_max2 hc
theorem kc_min2 (hc : X.calm = true := by rfl) : CallR X (.builtin "min") (fun xs H Q => ∃ i j, xs = [.int i, .int j] ∧ Q (.int (if j < i then j else i)) H) := call_min2 hc
theorem kpi_list {tg l : Expr} {tl : TE} (hl : PE X l tl) (h : X.K = K := by rfl) : PI X tg l (iList K tl) := by subst h; exact pi_list hl
theorem kpi_tup {tg l : Expr} {tl : TE} (hl : PE X l tl) (h : X.K = K := by rfl) : PI X tg l (iTup K tl) := by subst h; exact pi_tup hl
end
theorem mulOk_of {a b : Int} (h : (decide (Builtin.Int.intBits a ≤ 2 ^ 20) && decide (Builtin.Int.intBits b ≤ 2 ^ 20)) = true) : IntMulOk a b := by
  rw [Bool.and_eq_true] at h
  exact IntMulOk.of_bits (of_decide_eq_true h.1) (of_decide_eq_true h.2)
theorem lcN {i : Nat} {x : V} {te : TE} {σ : St} {H : Hp} {N : V → Hp → Prop} {N' : Hp → Prop} (h : te (σ.set i (some x)) H N) : gName i x σ H fun σ2 H2 => tYes σ2 H2 fun b H3 => if b = true then te σ2 H3 N else N' H3 := by
  show if true = true then te (σ.set i (some x)) H N else N' H
  rw [if_pos rfl]; exact h
end L2
set_option Elab.async false
set_option linter.all false
set_option maxRecDepth 100000
namespace L2
open PySem PySem.Spec PyProof.Rows
def CXE (P : Program) (w : World) : CXT := fun outer H s E e s' => ∃ (ea : Addr) (cls : Value) (H' : Hp) (B : Heap), e = .ref ea ∧ s'.os = s.os ∧ AllBare s'.gens ∧ Un (frs outer) [] H H' s.heap s'.heap ∧ HOk P w H' s'.heap ∧
  (∃ a0, Heap.FlyingW B outer ea cls a0 s'.heap) ∧ (∀ b o u, s'.heap.get? b = some o → H' b = some u → B.get? b = some o) ∧ (∀ b o, s.heap.get? b = some o → H b = none → b ∉ frs outer → B.get? b = some o) ∧
  (∀ b o, s.heap.get? b = some o → b ∉ frs outer → ∃ o', B.get? b = some o') ∧ E cls none H'
theorem ObjOk.get {P : Program} {w : World} {H : Hp} {h : Heap} {a : Addr} {o : HO} (x : ObjOk P w H h a o) : ∃ ob, h.get? a = some ob := by
  cases o with
  | lst xs => obtain ⟨_, _, _, _, e⟩ := x; exact ⟨_, e⟩
  | tup xs => obtain ⟨_, _, _, ob, e, _⟩ := x; exact ⟨ob, e⟩
  | dK kvs => obtain ⟨_, _, _, _, ob, _, _, e, _⟩ := x; exact ⟨ob, e⟩
  | dT kvs => obtain ⟨_, _, _, _, ob, _, _, e, _⟩ := x; exact ⟨ob, e⟩
  | set S n => obtain ⟨ob, _, _, _, e, _⟩ := x; exact ⟨ob, e⟩
  | ins C dx fs => obtain ⟨_, _, _, e, _⟩ := x; exact ⟨_, e⟩
  | own y => exact x
  | xd fs => obtain ⟨_, ⟨ob, _, _, e, _⟩, _⟩ := x; exact ⟨ob, e⟩
  | rng lo hi => obtain ⟨_, _, _, e⟩ := x; exact ⟨_, e⟩
  | frz ob u => obtain ⟨e, _⟩ := x; exact ⟨_, e⟩
  | tbl ps => exact ⟨_, x⟩
  | met f y => exact ⟨_, x⟩
  | ext φ => obtain ⟨_, e, _⟩ := x; exact e
section
variable {X : Cx} {pins : List (Addr × Obj)} {σ : St} {H : Hp} {s : Shared}
theorem cxe_mk {B h' : Heap} {ea : Addr} {cls a0 : Value} {E : XK} (I : Inv X pins σ H s) (hex : X.ex = []) (fl : Heap.FlyingW B X.outer ea cls a0 h')
    (fr : ∀ b ∈ frs X.outer, ∀ o, s.heap.get? b = some o → (∀ vs, o.data ≠ .fields vs) → ∃ sl, h'.get? b = some { o with slots := sl })
    (c1 : ∀ b o u, s.heap.get? b = some o → H b = some u → B.get? b = some o) (c2 : ∀ b o, X.s₀.heap.get? b = some o → X.H₀ b = none → b ∉ X.fs → B.get? b = some o)
    (c3 : ∀ b o, X.s₀.heap.get? b = some o → b ∉ X.fs → ∃ o', B.get? b = some o') (hE : E cls none H) : CXE X.prog X.w X.outer X.H₀ X.s₀ E (.ref ea) { s with heap := h' } := by
  have nex : ∀ b : Addr, b ∉ X.ex := fun b => by rw [hex]; simp
  have hfr : ∀ b ∈ X.fs, ∃ o, s.heap.get? b = some o ∧ ∀ vs, o.data ≠ .fields vs := fun b hb => (I.funs.mem hb).2
  have tr : ∀ b o u, s.heap.get? b = some o → H b = some u → h'.get? b = some o := fun b o u e q => fl.1 b o (c1 b o u e q)
  refine ⟨ea, cls, H, B, rfl, I.os, I.bare, ⟨fun b o e n hb _ => fl.1 b o (c2 b o e n hb), fun b o e n hb _ => ?_, fun b o e n _ => I.base.free b o e n (nex b), fun b o e _ => ?_, I.base.tups, I.base.frzs, I.base.tbls⟩, fun b u e => ?_, ⟨a0, fl⟩, fun b o u e q => ?_, c2, c3, hE⟩
  · obtain ⟨sl, e1⟩ := I.base.slot b o e n hb (nex b)
    obtain ⟨o1, e2, hd⟩ := hfr b hb
    obtain ⟨sl2, e3⟩ := fr b hb _ e2 hd
    rw [e1] at e2; cases e2
    exact ⟨sl2, e3⟩
  · by_cases hb : b ∈ X.fs
    · obtain ⟨o1, e2, hd⟩ := hfr b hb
      obtain ⟨sl2, e3⟩ := fr b hb _ e2 hd
      exact ⟨_, e3⟩
    · obtain ⟨o', e'⟩ := c3 b o e hb
      exact ⟨o', fl.1 b o' e'⟩
  · refine (I.hok b u e).stay (fun c v hc q => ?_) (fun _ q => q) fun _ _ q => q
    rcases hc with z | z
    · subst z; exact tr c v u q e
    · exact tr c v _ q z
  · obtain ⟨o1, e0⟩ := (I.hok b u q).get
    have q1 := tr b o1 u e0 q
    rw [e] at q1; cases q1
    exact c1 b o u e0 q
structure Fn0 (X : Cx) (E : XK) : Prop where
  xe : X.xe = fun e s' => wpAny (model X.prog X.w) X.A (leaving X.env e) (fun _ s'' => CXE X.prog X.w X.outer X.H₀ X.s₀ E e s'') (fun e' s'' => CXE X.prog X.w X.outer X.H₀ X.s₀ E e' s'') s'
  stk : X.stack = X.env :: X.outer
  frm : X.env.frame = some X.env.locals
  ex : X.ex = []
theorem Fn0.nstk (F : Fn0 X E) (I : Inv X pins σ H s) {b : Addr} {o : Obj} (e : X.s₀.heap.get? b = some o) (hb : b ∉ X.fs) : b ∉ frs X.stack := fun z => by
  rcases List.mem_cons.mp (I.stkSub b z) with q | q
  · exact absurd (Nat.lt_of_lt_of_le (Heap.lt_size e) I.ok.above) (by rw [q]; exact Nat.lt_irrefl _)
  · exact hb q
theorem pass_fn {E : XK} (F : Fn0 X E) : Passes (CXE X.prog X.w) X E := by
  intro pins σ H s e s' I h
  obtain ⟨ea, cls, H', B, rfl, os, bare, un, hok, ⟨a0, fl⟩, c1, c2, c3, hE⟩ := h
  have J : Inv X pins σ H' s' := I.call' os un hok bare fun b z => absurd z (by simp)
  rw [F.xe]
  rw [F.stk] at fl
  refine wpAny_leaves_onW (by rw [I.ok.frames, F.stk]) F.frm fl fun h'' fl'' ups => ?_
  have nex : ∀ b : Addr, b ∉ X.ex := fun b => by rw [F.ex]; simp
  refine cxe_mk J F.ex fl'' (fun b hb o e hd => ups b o e hd) c1 (fun b o e n hb => ?_) (fun b o e hb => ?_) hE
  · exact c2 b o (I.base.keep b o e n hb (nex b)) (I.base.free b o e n (nex b)) (F.nstk I e hb)
  · obtain ⟨o', e'⟩ := I.base.there b o e (nex b)
    exact c3 b o' e' (F.nstk I e hb)
abbrev bmV : List Value := [.type "ValueError", .type "Exception", .type "BaseException", .type "object"]
theorem excObj {K : PySem.W.Frag} {h : Heap} {C : Addr} (X : K.In h) (q : PySem.W.excIn K C bmV "ValueError.__new__" = true) :
    ∃ bm N nm q bs hdct sn sub ab col dd k0 k1 k2 k3 k5 mN, h.get? C = some (excClassObj nm q C N bs bm hdct sn sub ab col dd k0 k1 k2 k3 k5 "ValueError.__new__") ∧ h.Ns N mN ∧ mN "__init__" = none ∧ OwnTail h bmV bm := by
  unfold PySem.W.excIn at q
  split at q
  · rename_i dd cd sl ho
    split at q
    · rename_i C' bm k0 k1 k2 k3 n k5 hm hs
      simp only [Bool.and_eq_true, beq_iff_eq, Bool.not_eq_true'] at q
      obtain ⟨⟨⟨⟨⟨rfl, rfl⟩, hdel⟩, ht⟩, hok⟩, hni⟩ := q
      obtain ⟨nm, bs, mro, ns, qn, hd, sn, sub, ab, col, del⟩ := cd
      dsimp only at hm hdel hok hni
      subst hm hdel
      obtain ⟨l⟩ := sl
      simp only at hs
      subst hs
      exact ⟨bm, ns, nm, qn, bs, hd, sn, sub, ab, col, dd, k0, k1, k2, k3, k5, _, X _ _ ho, .of_isNs (PySem.W.isNs_of_in X hok), PySem.W.nsMap_none_of_in X hok hni, PySem.W.tail_of_in X ht⟩
    · cases q
  · cases q
theorem ps_raise {E : XK} {x : Str} {C : Addr} {e₀ : Expr} {rest : List Expr} {t : TA} {np cpos pos : Pos} (F : Fn0 X E) (hc : X.calm = true) (hg : Gl X x) (hm : X.mg x = some (.ref C)) (hq : PySem.W.excIn X.K C bmV "ValueError.__new__" = true) (ha : PA X (e₀ :: rest) t)
    (he : starEach (e₀ :: rest) X.env = (false, eval e₀ X.env) :: starEach rest X.env := by rfl) (hplain : (backTo cpos (starEach rest X.env)).any (·.1) = false := by rfl) (hd : (x == ("__debug__" : Str)) = false := by decide) :
    PS X (.Raise (some (.Call (.Name x np) (e₀ :: rest) [] cpos)) none pos) (fun _ σ H => t σ H fun vs H1 => vs.length ≤ sizeLine ∧ E (.ref C) none H1) := by
  intro pins s σ H D I h
  obtain ⟨bm, N, nm, q, bs, hdct, sn, sub, ab, col, dd, k0, k1, k2, k3, k5, mN, hC, hN, hni, T⟩ := excObj I.ok.mod.kin hq
  refine wpAny_Raise_call_subT (C := C) (nm := nm) (q := q) (N := N) (bs := bs) (bm := bm) (hdct := hdct) (sn := sn) (sub := sub) (ab := ab) (col := col) (dd := dd) (k0 := k0) (k1 := k1) (k2 := k2) (k3 := k3) (k5 := k5)
    PySem.F.excBase_ValueError (mN := mN) (T.hasType (by decide +kernel)) (I.ok.hd hc) (by rw [he]; show (false || (backTo cpos (starEach rest X.env)).any (·.1)) = false; rw [hplain]; rfl) hni (ld_glob I hg hm ⟨rfl, ?_⟩ hd)
  have hA := ha cpos pins s σ H _ I h
  rw [he] at hA ⊢
  refine Calls.evalArgs_plain (wpAny_mono hA (fun us s2 h2 => ?_) fun _ _ y => y)
  obtain ⟨vs, H1, I1, r, hl, hE⟩ := h2
  refine ⟨rfl, by rw [← r.length]; exact hl, I1.bk _ _ hC, hN.keeps I1.bk, T.keeps I1.bk, fun h' e hme => ?_⟩
  rw [F.xe]
  have hin : ∀ env ∈ X.env :: X.outer, ∀ b, env.frame = some b → b ∈ frs X.stack := fun env he b hb => by
    rw [F.stk]; exact List.mem_filterMap.mpr ⟨env, he, hb⟩
  have hstk := I1.stack
  rw [F.stk] at hstk
  refine wpAny_leaves_madeW (base := PySem.W.hideAll s2.heap (frs X.stack)) (by rw [I1.ok.frames, F.stk]) F.frm (fun b o q => PySem.W.of_hideAll _ q) (PySem.W.funFrames_hide hstk hin) hme fun h'' t fl tup bt ups => ?_
  have nex : ∀ b : Addr, b ∉ X.ex := fun b => by rw [F.ex]; simp
  show CXE X.prog X.w X.outer X.H₀ X.s₀ E (.ref e) { s2 with heap := h'' }
  refine cxe_mk I1 F.ex fl (fun b hb o e hd => ups b o (hme.keeps b o e) hd) (fun b o u e q => PySem.W.hideAll_get _ e fun z => ?_) (fun b o e n hb => PySem.W.hideAll_get _ (I1.base.keep b o e n hb (nex b)) (F.nstk I1 e hb)) (fun b o e hb => ?_) hE
  · rw [I1.stkFree b z] at q; cases q
  · obtain ⟨o', e'⟩ := I1.base.there b o e (nex b)
    exact ⟨o', PySem.W.hideAll_get _ e' (F.nstk I1 e hb)⟩
theorem Inv.slots {B h' : Heap} (I : Inv X pins σ H s) (hB : B.StaysIn h') (ups : s.heap.UpToSlots h') (c1 : ∀ b o u, s.heap.get? b = some o → H b = some u → B.get? b = some o)
    (c2 : ∀ b o, X.s₀.heap.get? b = some o → X.H₀ b = none → b ∉ X.fs → b ∉ X.ex → B.get? b = some o) (c3 : ∀ b o, X.s₀.heap.get? b = some o → b ∉ X.fs → b ∉ X.ex → ∃ o', B.get? b = some o')
    (c4 : ∀ p ∈ X.pn ++ pins, B.get? p.1 = some p.2) : Inv X pins σ H { s with heap := h' } := by
  have hfr : ∀ b ∈ X.fs, ∃ o, s.heap.get? b = some o ∧ ∀ vs, o.data ≠ .fields vs := fun b hb => (I.funs.mem hb).2
  have tr : ∀ b o u, s.heap.get? b = some o → H b = some u → h'.get? b = some o := fun b o u e q => hB b o (c1 b o u e q)
  have cl : ∀ c v, s.heap.IsCell c v → h'.IsCell c v := fun c v z => by
    obtain ⟨o, ho, hd⟩ := z
    obtain ⟨sl, e⟩ := ups c o ho fun vs q => by rw [hd] at q; cases q
    exact ⟨_, e, hd⟩
  refine ⟨I.ok, I.os, I.bare, ⟨fun b o e n hb hx => hB b o (c2 b o e n hb hx), fun b o e n hb hx => ?_, I.base.free, fun b o e hx => ?_, I.base.tups, I.base.frzs, I.base.tbls⟩, ?_, fun x c e => ?_, I.free, I.freeC, fun p hp => ?_, fun b u e => ?_, I.len⟩
  · obtain ⟨sl, e1⟩ := I.base.slot b o e n hb hx
    obtain ⟨o1, e2, hd⟩ := hfr b hb
    obtain ⟨sl2, e3⟩ := ups b _ e2 hd
    rw [e1] at e2; cases e2
    exact ⟨sl2, e3⟩
  · by_cases hb : b ∈ X.fs
    · obtain ⟨o1, e2, hd⟩ := hfr b hb
      obtain ⟨sl2, e3⟩ := ups b _ e2 hd
      exact ⟨_, e3⟩
    · obtain ⟨o', e'⟩ := c3 b o e hb hx
      exact ⟨o', hB b o' e'⟩
  · obtain ⟨m, hn, hl⟩ := I.loc
    refine ⟨m, ups.ns hn, fun i x v e1 e2 e3 => ?_⟩
    obtain ⟨u, ru, lk⟩ := hl i x v e1 e2 e3
    refine ⟨u, ru, ?_⟩
    rcases lk with lk | ⟨k, c, ec, z⟩
    · exact .inl lk
    · exact .inr ⟨k, c, ec, cl c _ z⟩
  · obtain ⟨v, z⟩ := I.cell x c e
    exact ⟨v, cl c v z⟩
  · obtain ⟨_, n, ne, nf, d⟩ := I.pin p hp
    exact ⟨hB _ _ (c4 p hp), n, ne, nf, d⟩
  · refine (I.hok b u e).stay (fun c v hc q => ?_) (fun _ q => q) fun _ _ q => q
    rcases hc with z | z
    · subst z; exact tr c v u q e
    · exact tr c v _ q z
end
section
variable {P : Program} {w : World} {K : PySem.W.Frag} {mg : Str → Option Value} {base : Heap}
theorem Fun.okE {x qual : Str} {st : Stmt} {f : Addr} {fd : FuncData} {N ps : List Str} {k : Nat} {sp : Sp} (F : Fun K x qual st f fd) (S : FnScope N ps (defScope st)) (len : ∀ vs H Q E, sp vs H Q E → vs.length = ps.length)
    (hbody : ∀ (cdv : Value) (A : Around) (outer : List Env) (s : Shared) (H : Hp) (vs : List V) (Q : VK) (E : XK), Room k (A.deeper (envOfC qual (defScope st) s.heap.objs.size f cdv)) → Fn0 (cxOf (CXE P w) P w K mg base N qual (defScope st) f cdv A outer s H E) E → sp vs H Q E →
      ∃ t, PSs (cxOf (CXE P w) P w K mg base N qual (defScope st) f cdv A outer s H E) (defBody st) t ∧ t { nx := fun _ H' => Q .non H', rt := Q } (start N vs) H) : FnOk P w K mg base (CXE P w) (k + 1) f fd ps sp := by
  obtain ⟨oc, od, kV, doc, pm, an, cdv, ct, osl, rfl, lk, hcd⟩ := F.ex
  exact fn_of lk hcd S len fun A outer s H vs Q E hr hsp => hbody cdv A outer s H vs Q E hr ⟨rfl, rfl, rfl, rfl⟩ hsp
structure CalE (P : Program) (w : World) (K : PySem.W.Frag) (mg : Str → Option Value) (base : Heap) (k : Nat) (x : Str) (dvs : List V) (sp : Sp) : Prop where
  ex : ∃ f fd ps ds, FnOk P w K mg base (CXE P w) k f fd ps sp ∧ mg x = some (.ref f) ∧ PySem.W.keepIn K (.ref f) = true ∧ Binds K fd ps ds ∧ Vals dvs ds
theorem Fun.calE {x : Str} {qual : Str} {st : Stmt} {f : Addr} {fd : FuncData} {ps : List Str} {k : Nat} {sp : Sp} (F : Fun K x qual st f fd) (G : FnOk P w K mg base (CXE P w) k f fd ps sp) (hm : mg x = some (.ref f))
    (h : ∀ (kV doc pm : Value) (an : Option Addr) (cdv ct : Value) (us : List Value), us.length = ps.length → bindArgs (PySem.W.fnOf x qual (defArgs st) (defBody st) (defScope st) .none kV doc pm an cdv ct) ⟨us, []⟩ = pure (ps.zip us)) : CalE P w K mg base k x [] sp :=
  ⟨f, fd, ps, [], G, hm, F.kp, F.binds h, .nil⟩
end
theorem pe_calE {X : Cx} {k : Nat} {x : Str} {dvs : List V} {sp : Sp} {E : XK} {e : Expr} {es : List Expr} {t : TA} {p pos : Pos} (c : CalE X.prog X.w X.K X.mg X.base k x dvs sp) (hr : Room k X.A) (hg : Gl X x) (hx : Passes (CXE X.prog X.w) X E) (ha : PA X (e :: es) t) (hd : (x == ("__debug__" : Str)) = false := by decide)
    (he : starEach (e :: es) X.env = (false, eval e X.env) :: starEach es X.env := by rfl) (hpl : (backTo pos (starEach es X.env)).any (·.1) = false := by rfl) :
    PE X (.Call (.Name x p) (e :: es) [] pos) (tCall sp dvs E t) := by
  obtain ⟨f, fd, ps, ds, F, hm, hk, hb, hv⟩ := c.ex
  exact pe_call F hr hg hm hk hb hv hx ha hd he hpl
end L2
set_option Elab.async false
set_option linter.all false
set_option maxRecDepth 100000
namespace L2
open PySem PySem.Spec PyProof.Rows
section
variable {κ : Type} [DecidableEq κ]
def valV (kvs : List (κ × V)) (k : κ) : Option V := (kvs.find? fun kv => decide (kv.1 = k)).map (·.2)
def putK (kvs : List (κ × V)) (k : κ) (v : V) : List (κ × V) :=
  if (kvs.any fun kv => decide (kv.1 = k)) = true then kvs.map (fun kv => if kv.1 = k then (kv.1, v) else kv) else kvs ++ [(k, v)]
def dropK (kvs : List (κ × V)) (k : κ) : List (κ × V) := kvs.filter fun kv => decide (kv.1 ≠ k)
theorem valV_pos {p : κ × V} {r : List (κ × V)} {k : κ} (e : p.1 = k) : valV (p :: r) k = some p.2 := by simp [valV, List.find?_cons, e]
theorem valV_neg {p : κ × V} {r : List (κ × V)} {k : κ} (e : ¬ p.1 = k) : valV (p :: r) k = valV r k := by simp [valV, List.find?_cons, e]
theorem valV_any (k : κ) : ∀ kvs : List (κ × V), (kvs.any fun kv => decide (kv.1 = k)) = (valV kvs k).isSome
  | [] => rfl
  | p :: r => by
    rw [List.any_cons]
    by_cases e : p.1 = k
    · simp only [valV_pos e, decide_eq_true e, Bool.true_or, Option.isSome_some]
    · rw [valV_neg e, decide_eq_false e, Bool.false_or]; exact valV_any k r
theorem RelO.isSome_eq {o : Option V} {u : Option Value} (r : RelO o u) : o.isSome = u.isSome := by
  cases o with
  | none => cases u with
    | none => rfl
    | some _ => exact (show False from r).elim
  | some _ => cases u with
    | none => exact (show False from r).elim
    | some _ => rfl
theorem RelO.getD {o : Option V} {u : Option Value} {d : V} {d' : Value} (r : RelO o u) (rd : RelV d d') : RelV (o.getD d) (u.getD d') := by
  cases o with
  | none => cases u with
    | none => exact rd
    | some _ => exact (show False from r).elim
  | some _ => cases u with
    | none => exact (show False from r).elim
    | some _ => exact r
theorem KV.val {kvs : List (κ × V)} {vs : List (κ × Value)} (r : KV kvs vs) (k : κ) : RelO (valV kvs k) (valueAt vs k) := by
  unfold KV at r
  induction r with
  | nil => exact True.intro
  | @cons p q ps qs h t ih =>
    obtain ⟨h1, h2⟩ := h
    by_cases e : p.1 = k
    · have e' : q.1 = k := h1.symm.trans e
      have b : valueAt (q :: qs) k = some q.2 := by simp [valueAt, List.find?_cons, e']
      rw [valV_pos e, b]; exact h2
    · have e' : ¬ q.1 = k := fun z => e (h1.trans z)
      have b : valueAt (q :: qs) k = valueAt qs k := by simp [valueAt, List.find?_cons, e']
      rw [valV_neg e, b]; exact ih
theorem KV.any {kvs : List (κ × V)} {vs : List (κ × Value)} (r : KV kvs vs) (k : κ) : (kvs.any fun kv => decide (kv.1 = k)) = vs.any fun kv => decide (kv.1 = k) := by
  unfold KV at r
  induction r with
  | nil => rfl
  | cons h t ih => rw [List.any_cons, List.any_cons, ih, h.1]
theorem KV.repl {kvs : List (κ × V)} {vs : List (κ × Value)} (r : KV kvs vs) (k : κ) {y : V} {u : Value} (ry : RelV y u) :
    KV (kvs.map fun kv => if kv.1 = k then (kv.1, y) else kv) (vs.map fun kv => if kv.1 = k then (kv.1, u) else kv) := by
  unfold KV at r ⊢
  induction r with
  | nil => exact .nil
  | @cons p q ps qs h t ih =>
    rw [List.map_cons, List.map_cons]
    refine .cons ?_ ih
    obtain ⟨h1, h2⟩ := h
    by_cases e : p.1 = k
    · rw [if_pos e, if_pos (h1.symm.trans e)]; exact ⟨h1, ry⟩
    · rw [if_neg e, if_neg (fun z => e (h1.trans z))]; exact ⟨h1, h2⟩
theorem KV.put {kvs : List (κ × V)} {vs : List (κ × Value)} (r : KV kvs vs) (k : κ) {y : V} {u : Value} (ry : RelV y u) : KV (putK kvs k y) (stored vs k u) := by
  unfold putK stored
  rw [r.any k]
  by_cases e : (vs.any fun kv => decide (kv.1 = k)) = true
  · rw [if_pos e, if_pos e]; exact r.repl k ry
  · rw [if_neg e, if_neg e]; exact Paired.snoc r ⟨rfl, ry⟩
theorem KV.drop {kvs : List (κ × V)} {vs : List (κ × Value)} (r : KV kvs vs) (k : κ) : KV (dropK kvs k) (without vs k) := by
  unfold KV at r ⊢
  unfold dropK without
  induction r with
  | nil => exact .nil
  | @cons p q ps qs h t ih =>
    obtain ⟨h1, h2⟩ := h
    rw [List.filter_cons, List.filter_cons]
    by_cases e : p.1 = k
    · have a : ¬ decide (p.1 ≠ k) = true := by simp [e]
      have b : ¬ decide (q.1 ≠ k) = true := by simp [h1.symm.trans e]
      rw [if_neg a, if_neg b]; exact ih
    · have e' : ¬ q.1 = k := fun z => e (h1.trans z)
      have a : decide (p.1 ≠ k) = true := by simp [e]
      have b : decide (q.1 ≠ k) = true := by simp [e']
      rw [if_pos a, if_pos b]; exact .cons ⟨h1, h2⟩ ih
theorem KV.keys {kvs : List (κ × V)} {vs : List (κ × Value)} (r : KV kvs vs) : kvs.map (·.1) = vs.map (·.1) := by
  unfold KV at r
  induction r with
  | nil => rfl
  | cons h t ih => rw [List.map_cons, List.map_cons, ih, h.1]
theorem KV.length {kvs : List (κ × V)} {vs : List (κ × Value)} (r : KV kvs vs) : kvs.length = vs.length := Paired.length r
end
abbrev KT (H : Hp) : List (List Key × V) → List (List Key × Addr × Value) → Prop := Paired fun p q => p.1 = q.1 ∧ H q.2.1 = some (.tup (p.1.map kV)) ∧ RelV p.2 q.2.2
theorem KT.val {H : Hp} {kvs : List (List Key × V)} {xs : List (List Key × Addr × Value)} (r : KT H kvs xs) (k : List Key) : RelO (valV kvs k) ((atKey xs k).map (·.2)) := by
  induction r with
  | nil => exact True.intro
  | @cons p q ps qs h t ih =>
    obtain ⟨h1, _, h2⟩ := h
    by_cases e : p.1 = k
    · have e' : q.1 = k := h1.symm.trans e
      have b : atKey (q :: qs) k = some q.2 := by simp [atKey, List.find?_cons, e']
      rw [valV_pos e, b]; exact h2
    · have e' : ¬ q.1 = k := fun z => e (h1.trans z)
      have b : atKey (q :: qs) k = atKey qs k := by simp [atKey, List.find?_cons, e']
      rw [valV_neg e, b]; exact ih
theorem KT.repl {H : Hp} {kvs : List (List Key × V)} {xs : List (List Key × Addr × Value)} (r : KT H kvs xs) (k : List Key) {y : V} {u : Value} (ry : RelV y u) :
    KT H (kvs.map fun kv => if kv.1 = k then (kv.1, y) else kv) (xs.map (putAt k u)) := by
  induction r with
  | nil => exact .nil
  | @cons p q ps qs h t ih =>
    rw [List.map_cons, List.map_cons]
    refine .cons ?_ ih
    obtain ⟨h1, h2, h3⟩ := h
    unfold putAt
    by_cases e : p.1 = k
    · rw [if_pos e, if_pos (h1.symm.trans e)]; exact ⟨h1, h2, ry⟩
    · rw [if_neg e, if_neg (fun z => e (h1.trans z))]; exact ⟨h1, h2, h3⟩
theorem KT.put {H : Hp} {kvs : List (List Key × V)} {xs : List (List Key × Addr × Value)} (r : KT H kvs xs) (k : List Key) {b : Addr} {y : V} {u : Value} (hb : H b = some (.tup (k.map kV))) (ry : RelV y u) :
    KT H (putK kvs k y) (storedH xs k b u) := by
  have e : (kvs.any fun kv => decide (kv.1 = k)) = (atKey xs k).isSome := by
    rw [valV_any, (r.val k).isSome_eq, Option.isSome_map]
  unfold putK storedH
  rw [e]
  by_cases q : (atKey xs k).isSome = true
  · rw [if_pos q, if_pos q]; exact r.repl k ry
  · rw [if_neg q, if_neg q]; exact Paired.snoc r ⟨rfl, hb, ry⟩
theorem KT.keeps {H H' : Hp} {kvs : List (List Key × V)} {xs : List (List Key × Addr × Value)} (r : KT H kvs xs) (ht : ∀ b ys, H b = some (.tup ys) → H' b = some (.tup ys)) : KT H' kvs xs :=
  Paired.mapP r fun _ _ z => ⟨z.1, ht _ _ z.2.1, z.2.2⟩
section
variable {P : Program} {w : World} {H : Hp} {h : Heap} {a : Addr}
end
def DGet (H : Hp) (a : Addr) (y : V) (r : Option V) : Prop :=
  (∃ kvs k, Rd H a (.dK kvs) ∧ y = kV k ∧ r = valV kvs k) ∨ ∃ kvs k b, Rd H a (.dT kvs) ∧ y = .ref b ∧ H b = some (.tup (k.map kV)) ∧ r = valV kvs k
def DPut (H : Hp) (a : Addr) (y v : V) (H' : Hp) : Prop :=
  (∃ kvs k, H a = some (.dK kvs) ∧ y = kV k ∧ kvs.length < sizeLine ∧ H' = upd H a (.dK (putK kvs k v))) ∨
  ∃ kvs k b, H a = some (.dT kvs) ∧ y = .ref b ∧ H b = some (.tup (k.map kV)) ∧ kvs.length < sizeLine ∧ H' = upd H a (.dT (putK kvs k v))
theorem DGet.k {H : Hp} {a : Addr} {kvs : List (Key × V)} {k : Key} (e : H a = some (.dK kvs)) : DGet H a (kV k) (valV kvs k) := .inl ⟨kvs, k, .inl e, rfl, rfl⟩
theorem DGet.t {H : Hp} {a b : Addr} {kvs : List (List Key × V)} {k : List Key} (e : H a = some (.dT kvs)) (eb : H b = some (.tup (k.map kV))) : DGet H a (.ref b) (valV kvs k) := .inr ⟨kvs, k, b, .inl e, rfl, eb, rfl⟩
theorem DPut.k {H : Hp} {a : Addr} {kvs : List (Key × V)} {k : Key} {v : V} (e : H a = some (.dK kvs)) (hl : kvs.length < sizeLine) : DPut H a (kV k) v (upd H a (.dK (putK kvs k v))) := .inl ⟨kvs, k, e, rfl, hl, rfl⟩
theorem DPut.t {H : Hp} {a b : Addr} {kvs : List (List Key × V)} {k : List Key} {v : V} (e : H a = some (.dT kvs)) (eb : H b = some (.tup (k.map kV))) (hl : kvs.length < sizeLine) :
    DPut H a (.ref b) v (upd H a (.dT (putK kvs k v))) := .inr ⟨kvs, k, b, e, rfl, eb, hl, rfl⟩
section
variable {X : Cx} {pins : List (Addr × Obj)} {σ : St} {H : Hp} {s : Shared} {a : Addr} {y v : V} {u r : Value} {o : Option V} {A : Around} {E : Value → Shared → Prop}
end
section
variable {X : Cx} {pins : List (Addr × Obj)} {σ : St} {H : Hp} {s : Shared} {a : Addr} {kvs : List (Key × V)} {k : Key} {u : Value} {A : Around} {E : Value → Shared → Prop}
end
section
variable {X : Cx} {o i e value : Expr} {pos pos' tpos : Pos} {td ty tv : TE}
end
section
variable {X : Cx} {pos : Pos}
end
section
variable {X : Cx} {pins : List (Addr × Obj)} {σ : St} {H : Hp} {s : Shared} {a : Addr} {y d : V} {u r : Value} {o : Option V} {A : Around} {E : Value → Shared → Prop}
end
section
variable {X : Cx} {o e f : Expr} {apos cpos : Pos} {td ty tx : TE}
end
section
variable {X : Cx} {pins : List (Addr × Obj)} {σ : St} {H : Hp} {s : Shared} {a : Addr} {kvs : List (Key × V)} {A : Around} {E : Value → Shared → Prop}
end
section
variable {X : Cx} {pins : List (Addr × Obj)} {σ : St} {H : Hp} {s : Shared} {a : Addr} {y : V} {u : Value} {A : Around} {E : Value → Shared → Prop}
end
end L2
namespace L2
open PySem PySem.Spec PyProof.Rows
section
variable {X : Cx}
end
section
variable {κ : Type} [DecidableEq κ]
end
end L2
set_option Elab.async false
set_option linter.all false
set_option maxRecDepth 100000
namespace L2
open PySem PySem.Spec PyProof.Rows
theorem range_eq {ns ms : List Int} : ((List.range (min ns.length ms.length)).all (fun j => ns.getD j 0 == ms.getD j 0) && (ns.length == ms.length)) = decide (ns = ms) := by
  rw [Bool.eq_iff_iff, Bool.and_eq_true, List.all_eq_true, decide_eq_true_iff, beq_iff_eq]
  constructor
  · rintro ⟨h1, h2⟩
    refine List.ext_getElem h2 fun i hi hi' => ?_
    have := h1 i (List.mem_range.mpr (by omega))
    rw [List.getD_eq_getElem?_getD, List.getElem?_eq_getElem hi, List.getD_eq_getElem?_getD, List.getElem?_eq_getElem hi'] at this
    simpa using this
  · rintro rfl
    exact ⟨fun i _ => by simp, rfl⟩
theorem range_eq' {ns ms : List Int} (h : ns.length = ms.length) : (List.range ns.length).all (fun j => ns.getD j 0 == ms.getD j 0) = decide (ns = ms) := by
  rw [← range_eq, h, Nat.min_self, beq_self_eq_true, Bool.and_true]
section
variable {X : Cx} {K : PySem.W.Frag}
theorem ints_eqAt {A : Around} {s : Shared} {ns ms : List Int} {its its2 : List Value} (r1 : Vals (ns.map V.int) its) (r2 : Vals (ms.map V.int) its2) (j : Nat) (h1 : j < its.toArray.size) (h2 : j < its2.toArray.size) :
    SeqAt.EqAt A s its.toArray[j] its2.toArray[j] (ns.getD j 0 == ms.getD j 0) := by
  obtain ⟨t, e1, _⟩ := vals_int_at r1 (i := j) (v := its.toArray[j]) (by simp)
  obtain ⟨t2, e2, _⟩ := vals_int_at r2 (i := j) (v := its2.toArray[j]) (by simp)
  rw [e1, e2]
  exact eqAt_V (y := .int _) (x := .int _) ⟨_, rfl⟩ ⟨_, rfl⟩ rfl rfl
def SqEq (K : PySem.W.Frag) (g : Bool → V) : R2 := fun x y H Q => ∃ (a b : Addr) (ns ms : List Int), x = .ref a ∧ y = .ref b ∧ ((SqT K H a (ns.map V.int) ∧ SqT K H b (ms.map V.int)) ∨ (SqL K H a (ns.map V.int) ∧ SqL K H b (ms.map V.int))) ∧ Q (g (decide (ns = ms))) H
theorem op_eqS (hu : X.A.units < cLine) (h : X.K = K := by rfl) : OpR X (compareOp .Eq) (SqEq K V.bl) := by
  subst h
  intro pins s σ H x y v u Q I rx ry h
  obtain ⟨a, b, ns, ms, rfl, rfl, hq, q⟩ := h
  cases rx
  cases ry
  rcases hq with ⟨ha, hb⟩ | ⟨ha, hb⟩
  · obtain ⟨its, r1, p1, _⟩ := I.tuple ha
    obtain ⟨its2, r2, p2, _⟩ := I.tuple hb
    have l1 : its.toArray.size = ns.length := by rw [List.size_toArray, ← r1.length, ltm]
    have l2 : its2.toArray.size = ms.length := by rw [List.size_toArray, ← r2.length, ltm]
    refine SeqAt.eq_tupleAt p1 p2 hu (fun j h1 h2 => ints_eqAt r1 r2 j h1 h2) ?_
    rw [l1, l2, range_eq]
    exact ⟨.bl _, H, I, rfl, q⟩
  · obtain ⟨its, r1, p1, _⟩ := I.list ha
    obtain ⟨its2, r2, p2, _⟩ := I.list hb
    have l1 : its.toArray.size = ns.length := by rw [List.size_toArray, ← r1.length, ltm]
    have l2 : its2.toArray.size = ms.length := by rw [List.size_toArray, ← r2.length, ltm]
    by_cases hl : ns.length = ms.length
    · refine SeqAt.eq_listAt p1.isList p2.isList (by rw [l1, l2, hl]) hu (fun j h1 h2 => ints_eqAt r1 r2 j h1 h2) ?_
      rw [l1, range_eq' hl]
      exact ⟨.bl _, H, I, rfl, q⟩
    · rw [decide_eq_false (fun e => hl (by rw [e]))] at q
      exact SeqAt.eq_list_lengthsAt p1.isList p2.isList (by rw [l1, l2]; simpa using hl) hu ⟨.bl _, H, I, rfl, q⟩
theorem op_neS (hu : X.A.units < cLine) (h : X.K = K := by rfl) : OpR X (compareOp .NotEq) (SqEq K fun b => .bl (!b)) := by
  subst h
  intro pins s σ H x y v u Q I rx ry h
  obtain ⟨a, b, ns, ms, rfl, rfl, hq, q⟩ := h
  cases rx
  cases ry
  rcases hq with ⟨ha, hb⟩ | ⟨ha, hb⟩
  · obtain ⟨its, r1, p1, _⟩ := I.tuple ha
    obtain ⟨its2, r2, p2, _⟩ := I.tuple hb
    have l1 : its.toArray.size = ns.length := by rw [List.size_toArray, ← r1.length, ltm]
    have l2 : its2.toArray.size = ms.length := by rw [List.size_toArray, ← r2.length, ltm]
    refine SeqAt.RcNeAt.tuples p1 p2 hu (fun j h1 h2 => ints_eqAt r1 r2 j h1 h2) _ _ _ _ ?_
    rw [l1, l2, range_eq]
    exact ⟨.bl _, H, I, rfl, q⟩
  · obtain ⟨its, r1, p1, _⟩ := I.list ha
    obtain ⟨its2, r2, p2, _⟩ := I.list hb
    have l1 : its.toArray.size = ns.length := by rw [List.size_toArray, ← r1.length, ltm]
    have l2 : its2.toArray.size = ms.length := by rw [List.size_toArray, ← r2.length, ltm]
    by_cases hl : ns.length = ms.length
    · refine SeqAt.RcNeAt.lists p1.isList p2.isList (by rw [l1, l2, hl]) hu (fun j h1 h2 => ints_eqAt r1 r2 j h1 h2) _ _ _ _ ?_
      rw [l1, range_eq' hl]
      exact ⟨.bl _, H, I, rfl, q⟩
    · rw [decide_eq_false (fun e => hl (by rw [e]))] at q
      exact SeqAt.RcNeAt.lists_lengths p1.isList p2.isList (by rw [l1, l2]; simpa using hl) hu _ _ _ _ ⟨.bl _, H, I, rfl, q⟩
theorem idx_before : ∀ (ns : List Int) (z : Int) (m : Nat), m < ns.idxOf z → ns.getD m 0 ≠ z
  | [], _, _, h => by simp at h
  | a :: r, z, m, h => by
    rw [List.idxOf_cons] at h
    by_cases e : a = z
    · subst e; simp at h
    · have e' : (a == z) = false := beq_eq_false_iff_ne.mpr e
      rw [e'] at h
      cases m with
      | zero => exact e
      | succ m => exact idx_before r z m (by simp at h; omega)
def rIndex : V → List V → Hp → VK → Prop := fun x vs H Q => ∃ (l : Addr) (ns : List Int) (z : Int), x = .ref l ∧ vs = [.int z] ∧ H l = some (.lst (ns.map V.int)) ∧ z ∈ ns ∧ ns.length ≤ 1000 ∧ Q (.int (ns.idxOf z)) H
theorem mt_index : MtR X "list.index" rIndex := by
  intro pins s σ H x vs v us Q I rx rv h
  obtain ⟨l, ns, z, rfl, rfl, hH, hz, hl, q⟩ := h
  cases rx
  obtain ⟨u, rfl, ru⟩ := rv.one
  obtain ⟨hzz, its, n, r, hlen, e⟩ := I.lstM hH
  have hj : ns.idxOf z < ns.length := List.idxOf_lt_length_of_mem hz
  have l1 : its.toArray.size = ns.length := by rw [List.size_toArray, ← r.length, ltm]
  have at_ : ∀ m (hm : m < its.toArray.size), ∃ t, its.toArray[m] = .int (ns.getD m 0) t := fun m hm => (vals_int_at r (i := m) (v := its.toArray[m]) (by simp)).imp fun t e => e.1
  refine call_meets F.slot_list_index ⟨_, e, rfl⟩ F.entry_list_index (F.args_list_index_2 _ _) (SeqAt.list_indexAt l its.toArray n none #[] u (fun y => match y with | .int i _ => i == z | _ => false) (ns.idxOf z) (by omega) (by omega) ?_ ?_) ⟨e, ?_, ?_⟩
  · obtain ⟨t, q1⟩ := at_ (ns.idxOf z) (by omega)
    rw [q1]
    show (ns.getD (ns.idxOf z) 0 == z) = true
    rw [List.getD_eq_getElem?_getD, List.getElem?_eq_getElem hj]
    simp
  · intro m hm hmj
    obtain ⟨t, q1⟩ := at_ m hm
    rw [q1]
    show (ns.getD m 0 == z) = false
    exact beq_eq_false_iff_ne.mpr (idx_before ns z m hmj)
  · intro y hy
    obtain ⟨m, hm, rfl⟩ := Array.mem_iff_getElem.mp hy
    obtain ⟨t, q1⟩ := at_ m hm
    rw [q1]
    obtain ⟨t2, rfl⟩ := ru
    exact eqAt_V (y := .int _) (x := .int _) ⟨_, rfl⟩ ⟨_, rfl⟩ rfl rfl
  · exact ⟨.int _, H, I.tok _, ⟨_, rfl⟩, q⟩
end
end L2
set_option Elab.async false
set_option linter.all false
namespace L2
open PySem
def seenP (s : List Int) (z : Int) : List Int := if z ∈ s then s else s ++ [z]
def seen (ns : List Int) : List Int := ns.foldl seenP []
def numRow (ns : List Int) : List Int := ns.map fun z => ((seen ns).idxOf z : Int)
theorem seen_snoc (xs : List Int) (z : Int) : seen (xs ++ [z]) = seenP (seen xs) z := by unfold seen; rw [List.foldl_append]; rfl
theorem mem_seenP {s : List Int} {z y : Int} : y ∈ seenP s z ↔ y ∈ s ∨ y = z := by
  unfold seenP; split
  · constructor
    · exact .inl
    · rintro (h | rfl)
      · exact h
      · assumption
  · simp
theorem mem_seen (xs : List Int) : ∀ z, z ∈ seen xs ↔ z ∈ xs := by
  refine snoc_ind (P := fun xs => ∀ z, z ∈ seen xs ↔ z ∈ xs) (fun z => by simp [seen]) (fun xs y ih z => ?_) xs
  rw [seen_snoc, mem_seenP, ih z]; simp
theorem seenP_idx {s : List Int} {z y : Int} (h : y ∈ s) : (seenP s z).idxOf y = s.idxOf y := by
  unfold seenP; split
  · rfl
  · rw [List.idxOf_append, if_pos h]
theorem seenP_new {s : List Int} {z : Int} (h : z ∉ s) : (seenP s z).idxOf z = s.length := by
  unfold seenP; rw [if_neg h, List.idxOf_append, if_neg h]; simp
theorem numRow_snoc (xs : List Int) (z : Int) : numRow (xs ++ [z]) = numRow xs ++ [((seenP (seen xs) z).idxOf z : Int)] := by
  unfold numRow
  rw [seen_snoc, List.map_append]
  congr 1
  refine List.map_congr_left fun y hy => ?_
  rw [seenP_idx ((mem_seen xs y).mpr hy)]
theorem numRow_length (xs : List Int) : (numRow xs).length = xs.length := by unfold numRow; rw [List.length_map]
theorem seen_length (xs : List Int) : (seen xs).length ≤ xs.length := by
  refine snoc_ind (P := fun xs => (seen xs).length ≤ xs.length) (by simp [seen]) (fun xs z ih => ?_) xs
  rw [seen_snoc]; unfold seenP; split
  · simp; omega
  · simp; omega
theorem numRow_way (xs : List Int) : wayGo 0 (numRow xs) = true ∧ fresh 0 (numRow xs) = (seen xs).length := by
  refine snoc_ind (P := fun xs => wayGo 0 (numRow xs) = true ∧ fresh 0 (numRow xs) = (seen xs).length) ⟨rfl, rfl⟩ (fun xs z ih => ?_) xs
  obtain ⟨h1, h2⟩ := ih
  rw [numRow_snoc, wayGo_snoc, fresh_snoc, h1, h2, seen_snoc]
  by_cases h : z ∈ seen xs
  · have e : (seenP (seen xs) z).idxOf z = (seen xs).idxOf z := seenP_idx h
    have hl : (seen xs).idxOf z < (seen xs).length := List.idxOf_lt_length_of_mem h
    rw [e]
    refine ⟨?_, ?_⟩
    · rw [decide_eq_true (by omega), decide_eq_true (by omega)]; rfl
    · rw [if_neg (by omega)]; unfold seenP; rw [if_pos h]
  · rw [seenP_new h]
    refine ⟨?_, ?_⟩
    · rw [decide_eq_true (by omega), decide_eq_true (by omega)]; rfl
    · rw [if_pos rfl]; unfold seenP; rw [if_neg h, List.length_append]; simp
theorem numRow_isWay {xs : List Int} (h1 : 1 ≤ xs.length) (h9 : xs.length ≤ 9) : isWay (numRow xs) = true := by
  unfold isWay
  rw [numRow_length, (numRow_way xs).1, decide_eq_true h1, decide_eq_true h9]; rfl
end L2
set_option Elab.async false
set_option linter.all false
set_option maxRecDepth 100000
namespace L2
open PySem
def endStep (u : Int) (cs : List Int) : List Int := (List.range (cs.length - 1)).map fun (k : Nat) => (u + (k : Int)) * cs.getD k 0 + cs.getD (k + 1) 0
def endC (l : Nat) (u : Int) : Nat → List Int
  | 0 => List.replicate (l + 1) 1
  | n + 1 => endStep u (endC l u n)
def endF (l : Nat) (u : Int) : Int := (endC l u l).getD 0 0
def moStep (n : Nat) (cs : List Int) : List Int := 0 :: (List.range n).map fun (j : Nat) => cs.getD j 0 + ((j : Int) + 1) * cs.getD (j + 1) 0
def moC (n : Nat) : Nat → List Int
  | 0 => 1 :: List.replicate n 0
  | s + 1 => moStep n (moC n s)
def manyOf (n c : Int) : Int := if 1 ≤ c ∧ c ≤ n then (moC n.toNat n.toNat).getD c.toNat 0 else 0
def stAt (w : List Int) (k : Nat) : Int := (k : Int) * w.getD k 0 + (if k = 0 then w.getD (w.length - 1) 0 else w.getD (k - 1) 0) * (if (1 : Int) < (k : Int) then 1 else (k : Int))
def stStep (row : List Int) : List Int := (List.range (row.length + 1)).map (stAt (row ++ [0]))
def stC : Nat → List Int
  | 0 => [1]
  | n + 1 => stStep (stC n)
def ext1 (r : List Int) : List (List Int) := (List.range (maxL r + 2).toNat).map fun (j : Nat) => r ++ [(j : Int)]
def allC : Nat → List (List Int)
  | 0 => [[0]]
  | n + 1 => (allC n).flatMap ext1
theorem chk9 : ((List.range 9).all fun m => decide (endF (m + 1) 0 = (stC (m + 1)).sum) && ((List.range (m + 2)).all fun c => decide (manyOf ((m : Int) + 1) (c : Int) = (stC (m + 1)).getD c 0))) = true := by decide +kernel
theorem m9 {n : Int} (h1 : 1 ≤ n) (h9 : n ≤ 9) : endF n.toNat 0 = (stC n.toNat).sum ∧ ∀ c : Int, manyOf n c = if 0 ≤ c ∧ c ≤ n then (stC n.toNat).getD c.toNat 0 else 0 := by
  have q := List.all_eq_true.mp chk9 (n.toNat - 1) (List.mem_range.mpr (by omega))
  rw [Bool.and_eq_true, List.all_eq_true] at q
  rw [show n.toNat - 1 + 1 = n.toNat by omega] at q
  refine ⟨of_decide_eq_true q.1, fun c => ?_⟩
  by_cases hc : 0 ≤ c ∧ c ≤ n
  · rw [if_pos hc]
    have q2 := of_decide_eq_true (q.2 c.toNat (List.mem_range.mpr (by omega)))
    rw [show ((n.toNat - 1 : Nat) : Int) + 1 = n by omega, Int.toNat_of_nonneg hc.1] at q2
    exact q2
  · rw [if_neg hc]
    unfold manyOf
    rw [if_neg (fun z => hc ⟨by omega, z.2⟩)]
theorem SqT.put {K : PySem.W.Frag} {H : Hp} {a l : Addr} {xs ys : List V} {o : HO} (h : SqT K H a xs) (hl : H l = some (.lst ys)) : SqT K (upd H l o) a xs := by
  rcases h with (h | ⟨u, h⟩) | h
  · exact .inl (.inl (by rw [upd_ne (fun e => by rw [e, hl] at h; cases h)]; exact h))
  · exact .inl (.inr ⟨u, by rw [upd_ne (fun e => by rw [e, hl] at h; cases h)]; exact h⟩)
  · exact .inr h
end L2
set_option Elab.async false
set_option linter.all false
namespace L2
open PySem PySem.Spec PyProof.Rows
section
variable {X : Cx} {K : PySem.W.Frag}
end
end L2
set_option Elab.async false
set_option linter.all false
namespace L2
open PySem PySem.Spec PyProof.Rows
def rg (n : Nat) : List Int := (List.range n).map fun (k : Nat) => (k : Int)
theorem rg_length (n : Nat) : (rg n).length = n := by unfold rg; simp
theorem rg_succ (n : Nat) : rg (n + 1) = rg n ++ [(n : Int)] := by unfold rg; rw [List.range_succ, List.map_append]; rfl
theorem mem_rg {n : Nat} {z : Int} : z ∈ rg n ↔ 0 ≤ z ∧ z < n := by
  unfold rg
  rw [List.mem_map]
  constructor
  · rintro ⟨k, hk, rfl⟩
    have := List.mem_range.mp hk
    omega
  · rintro ⟨h0, h1⟩
    exact ⟨z.toNat, List.mem_range.mpr (by omega), by omega⟩
theorem rg_get {n i : Nat} (h : i < n) : (rg n)[i]? = some (i : Int) := by
  unfold rg; rw [List.getElem?_map, List.getElem?_range h]; rfl
theorem rg_nodup (n : Nat) : (rg n).Nodup := by
  unfold rg
  rw [List.nodup_iff_pairwise_ne, List.pairwise_map]
  exact List.Pairwise.imp (fun h => by omega) List.pairwise_lt_range
theorem idx_of_get {l : List Int} (hn : l.Nodup) {i : Nat} {z : Int} (h : l[i]? = some z) : l.idxOf z = i := by
  obtain ⟨hi, rfl⟩ := List.getElem?_eq_some_iff.mp h
  exact hn.idxOf_getElem i hi
theorem idx_rg {n : Nat} {z : Int} (h0 : 0 ≤ z) (h1 : z < n) : (((rg n).idxOf z : Nat) : Int) = z := by
  have := idx_of_get (rg_nodup n) (rg_get (n := n) (i := z.toNat) (by omega))
  rw [show ((z.toNat : Nat) : Int) = z by omega] at this
  omega
theorem numRow_self (ws : List Int) : wayGo 0 ws = true → numRow ws = ws ∧ seen ws = rg (fresh 0 ws).toNat ∧ 0 ≤ fresh 0 ws := by
  refine snoc_ind (P := fun ws => wayGo 0 ws = true → numRow ws = ws ∧ seen ws = rg (fresh 0 ws).toNat ∧ 0 ≤ fresh 0 ws) (fun _ => ⟨rfl, rfl, by decide⟩) (fun xs z ih h => ?_) ws
  rw [wayGo_snoc, Bool.and_eq_true, Bool.and_eq_true] at h
  obtain ⟨h1, h2, h3⟩ := h
  have h2 := of_decide_eq_true h2
  have h3 := of_decide_eq_true h3
  obtain ⟨e1, e2, e3⟩ := ih h1
  rw [numRow_snoc, e1, seen_snoc, fresh_snoc, e2]
  by_cases hz : z = fresh 0 xs
  · rw [if_pos hz]
    have hn : z ∉ rg (fresh 0 xs).toNat := by rw [mem_rg]; omega
    refine ⟨?_, ?_, by omega⟩
    · rw [seenP_new hn, rg_length, hz]
      congr 2; omega
    · unfold seenP
      rw [if_neg hn, show (fresh 0 xs + 1).toNat = (fresh 0 xs).toNat + 1 by omega, rg_succ]
      congr 2; omega
  · rw [if_neg hz]
    have hn : z ∈ rg (fresh 0 xs).toNat := by rw [mem_rg]; omega
    refine ⟨?_, ?_, by omega⟩
    · rw [seenP_idx hn, idx_rg h2 (by omega)]
    · unfold seenP
      rw [if_pos hn]
def turnL (ws zs : List Int) : List Int := zs.map fun z => ws.getD z.toNat 0
end L2
set_option Elab.async false
set_option linter.all false
set_option maxRecDepth 100000
namespace PySem
open Sem (wp)
open AutoSeq1 (wpAny_loadPart')
section
variable {prog : Program} {w : World} {A : Around} {E : Value → Shared → Prop} {s : Shared}
theorem wpAny_nextOf_tuple_item {it l : Addr} {i : Nat} {items} {x : Value} {Q : Value → Shared → Prop} (hit : s.heap.IsTupleIter it l i)
    (hl : s.heap.IsTuple l items) (hx : items[i]? = some x)
    (hQ : ∀ h', h'.IsTupleIter it l (i + 1) → Heap.SameBut it s.heap h' → Q x { s with heap := h' }) :
    wpAny (model prog w) A (Builtin.SmallTypes.nextOf (.ref it)) Q E s := by
  obtain ⟨o, ho, hc, hd⟩ := id hit
  obtain ⟨ol, hol, _, nl, hdl⟩ := hl
  unfold Builtin.SmallTypes.nextOf
  refine wpAny_bind (wpAny_callSpecial?_slot (name := Str.ofString "__next__") hit.typeIs F.slot_tuple_iterator_next
    (wpAny_call_entry F.slot_tuple_iterator_next hit.typeIs F.entry_tuple_iterator_next ?_ (F.args_tuple_iterator_next_1 _)))
  show wpAny _ _ (field (.ref it) 0 >>= _) _ _ s
  refine wpAny_bind (wpAny_field ho hd (x := .ref l) rfl ?_)
  show wpAny _ _ (if (Value.ref l == Value.none) = true then _ else _) _ _ s
  rw [if_neg (show ¬ ((Value.ref l == Value.none) = true) from Bool.false_ne_true)]
  show wpAny _ _ (field (.ref it) 1 >>= _) _ _ s
  refine wpAny_bind (wpAny_field ho hd (x := .int i 0) rfl ?_)
  show wpAny _ _ (seqItems? (.ref l) >>= _) _ _ s
  refine wpAny_bind (wpAny_seqItems hol hdl ?_)
  simp only [Int.toNat_natCast, hx]
  refine wpAny_bind (wpAny_setField ho hd (by simp) (wpAny_pure ⟨x, rfl, wpAny_pure (hQ _ ?_ (Heap.SameBut.update ..))⟩))
  exact ⟨_, Heap.get?_update_self _ ho (Obj.isFreed_of_fields (Obj.data_mapFields hd _)), (Obj.cls_mapFields ..).trans hc, by
    rw [Obj.data_mapFields hd]; simp [rawInt]⟩
theorem wpAny_nextOf_tuple_end {it l : Addr} {i : Nat} {items} {Q : Value → Shared → Prop} (hh : A.handled = none)
    (hit : s.heap.IsTupleIter it l i) (hl : s.heap.IsTuple l items) (hx : items[i]? = none)
    (hE : ∀ h' e, Heap.ExtBut it s.heap h' → (∃ o, h'.get? e = some o ∧ o.cls = .type "StopIteration") → E (.ref e) { s with heap := h' }) :
    wpAny (model prog w) A (Builtin.SmallTypes.nextOf (.ref it)) Q E s := by
  obtain ⟨o, ho, hc, hd⟩ := id hit
  obtain ⟨ol, hol, _, nl, hdl⟩ := hl
  unfold Builtin.SmallTypes.nextOf
  refine wpAny_bind (wpAny_callSpecial?_slot (name := Str.ofString "__next__") hit.typeIs F.slot_tuple_iterator_next
    (wpAny_call_entry F.slot_tuple_iterator_next hit.typeIs F.entry_tuple_iterator_next ?_ (F.args_tuple_iterator_next_1 _)))
  show wpAny _ _ (field (.ref it) 0 >>= _) _ _ s
  refine wpAny_bind (wpAny_field ho hd (x := .ref l) rfl ?_)
  show wpAny _ _ (if (Value.ref l == Value.none) = true then _ else _) _ _ s
  rw [if_neg (show ¬ ((Value.ref l == Value.none) = true) from Bool.false_ne_true)]
  show wpAny _ _ (field (.ref it) 1 >>= _) _ _ s
  refine wpAny_bind (wpAny_field ho hd (x := .int i 0) rfl ?_)
  show wpAny _ _ (seqItems? (.ref l) >>= _) _ _ s
  refine wpAny_bind (wpAny_seqItems hol hdl ?_)
  simp only [Int.toNat_natCast, hx]
  refine wpAny_bind (wpAny_rule (wpAny_bind (wpAny_setField ho hd (by simp) ?_)))
  show wpAny _ _ (newExc (.type "StopIteration") [] >>= _) _ _ _
  refine wpAny_bind ?_
  simp only [newExc, newTuple]
  refine wpAny_bind (wpAny_newObj_type ?_ (by size_fits))
  refine wpAny_bind (m := firstArgMember _ _) (wpAny_of_eq (a := Value.none) (by first | rfl | (simp only [firstArgMember]; rfl)) ?_)
  refine wpAny_newObj_type ?_ (by size_fits)
  simp only [raiseNew]
  refine wpAny_bind (wpAny_handled ?_)
  first | rw [show A.in1.handled = none from hh] | rw [hh]
  refine wpAny_bind (wpAny_pure (wpAny_throw ?_))
  exact hE _ _ (((Heap.SameBut.update ..).extBut.push _).push _) ⟨_, Heap.get?_push_size _ rfl, rfl⟩
end
theorem Draws.tuple {prog : Program} {w : World} {A : Around} (hh : A.handled = none) (it l : Addr) (hne : l ≠ it) (items : Array Value) :
    Draws prog w A it [it, l] items.size (fun i v => items[i]? = some v) (fun i h => h.IsTupleIter it l i ∧ h.IsTuple l items) where
  live := fun _ _ st => let ⟨o, ho, _⟩ := st.1; ⟨o, ho⟩
  frame := fun _ _ _ st hk => ⟨st.1.at fun o e => hk it (by simp) o e, st.2.at fun o e => hk l (by simp) o e⟩
  item := fun i s Q E hi st hQ => by
    refine wpAny_nextOf_tuple_item st.1 st.2 (x := items[i]) (by simp [hi]) fun h' hit' hs' => ?_
    exact hQ _ h' s.toks (by simp [hi]) ⟨hit', st.2.extBut hs'.extBut hne⟩ hs'
  done := fun s Q E st hE => wpAny_nextOf_tuple_end hh st.1 st.2 (by simp) hE
theorem meets_enumerate_newT (l : Addr) (items : Array Value) (n : Nat) (dct : Option Addr) (sl : Array (Option Value)) :
    Meets (Builtin.«enumerate.__new__» ⟨[.type "enumerate", .ref l], []⟩) (fun _ R s => s.heap.get? l = some { cls := .type "tuple", dict := dct, data := .seq items n, slots := sl } ∧
      R (.ok (.ret (.ref (s.heap.push { cls := .type "tuple_iterator", data := .fields #[.ref l, .int 0 0] }).objs.size)))
        { s with heap := (s.heap.push { cls := .type "tuple_iterator", data := .fields #[.ref l, .int 0 0] }).push { cls := .type "enumerate", data := .fields #[.none, .bool false, .ref s.heap.objs.size, rawInt 0, .none, .none] } }) :=
  .of_wp fun prog w A R s h => by
    obtain ⟨hp, g, d, tk, os⟩ := s; obtain ⟨hl, h⟩ := h
    have hsub := sub_enumerate
    have hL : Heap.IsTuple (Shared.heap ⟨hp, g, d, tk, os⟩) l items := ⟨_, hl, rfl, n, rfl⟩
    wp_walk using wpAny_loadPart' hl
    refine wpAny_stack_any fun st => wpAny_pure ?_
    split
    · rename_i c _ _ _ _ _
      cases (c == Value.type "enumerate")
      · wp_walk using wpAny_loadPart' hl, wpAny_pyIter_tuple hL
        exact ⟨_, rfl, h⟩
      · wp_walk using wpAny_loadPart' hl, wpAny_pyIter_tuple hL
        exact ⟨_, rfl, h⟩
    · wp_walk using wpAny_loadPart' hl, wpAny_pyIter_tuple hL
      exact ⟨_, rfl, h⟩
section
variable {prog : Program} {w : World} {A : Around} {E : Value → Shared → Prop} {s : Shared}
theorem call_enumerate_tuple {l : Addr} {items : Array Value} {Q : Value → Shared → Prop} (hL : s.heap.IsTuple l items)
    (h : ∀ h', IsEnum h' (s.heap.objs.size + 1) s.heap.objs.size 0 .none → h'.IsTupleIter s.heap.objs.size l 0 → h'.objs.size = s.heap.objs.size + 2 →
      (∀ b o, s.heap.get? b = some o → h'.get? b = some o) → Q (.ref (s.heap.objs.size + 1)) { s with heap := h' }) :
    wpAny (model prog w) A (call (.type "enumerate") [.ref l]) Q E s := by
  obtain ⟨⟨c, dct, dt, sl⟩, hl, hc, n, hd⟩ := hL
  replace hc : c = .type "tuple" := hc
  replace hd : dt = .seq items n := hd
  subst hc hd
  refine callType_new F.called_enumerate (by decide) (F.typeCall_enumerate_1 _) (F.newCall_enumerate_1 _) (fun obj => F.args_object_init_2 obj _) F.entry_enumerate_new
    (meets_enumerate_newT l items n dct sl) ⟨hl, ?_⟩
  have hz : (s.heap.push { cls := .type "tuple_iterator", data := .fields #[.ref l, .int 0 0] }).objs.size = s.heap.objs.size + 1 := Heap.size_push ..
  show _ ∧ _
  rw [hz]
  have he : IsEnum ((s.heap.push { cls := .type "tuple_iterator", data := .fields #[.ref l, .int 0 0] }).push
      { cls := .type "enumerate", data := .fields #[.none, .bool false, .ref s.heap.objs.size, rawInt 0, .none, .none] }) (s.heap.objs.size + 1) s.heap.objs.size 0 .none := by
    have := Heap.get?_push_size (s.heap.push { cls := .type "tuple_iterator", data := .fields #[.ref l, .int 0 0] })
      (o := { cls := .type "enumerate", data := .fields #[.none, .bool false, .ref s.heap.objs.size, rawInt 0, .none, .none] }) rfl
    rw [hz] at this; exact this
  refine ⟨⟨_, he, rfl⟩, h _ he ⟨_, Heap.get?_push_of_some _ (Heap.get?_push_size _ rfl), rfl, rfl⟩ (by rw [Heap.size_push, hz]) fun b o x => Heap.get?_push_of_some _ (Heap.get?_push_of_some _ x)⟩
end
end PySem
namespace L2
open PySem PySem.Spec PyProof.Rows
theorem Inv.turnL {X : Cx} {pins : List (Addr × Obj)} {σ : St} {H : Hp} {s : Shared} {h' : Heap} {t' : Nat} {wr : List Addr} (I : Inv X pins σ H s) (k : ∀ b o, b ∉ wr → s.heap.get? b = some o → h'.get? b = some o) (f : ∀ b ∈ wr, FpOk X pins H b) : Inv X pins σ H { s with heap := h', toks := t' } := by
  have nit : ∀ b u, H b = some u → b ∉ wr := fun b u e z => by rw [(f b z).1] at e; cases e
  refine I.step (g' := s.gens) (d' := s.drawn) (ch := wr) (fun b hb => ?_) (fun b o _ _ hc e _ => k b o hc e) (fun b o _ _ hc e _ => ⟨o.slots, k b o hc e⟩) (fun _ _ _ _ n => n)
    (fun b o hc e => ⟨o, k b o hc e⟩) (fun _ _ e => e) (fun _ _ _ e => e) (fun b ps e => ⟨#[], by rw [e]; simp⟩) (fun m hm => ?_) (fun b u e => ?_) I.bare
  · obtain ⟨_, a2, _, a4, a5, a6⟩ := f b hb
    exact ⟨a4, a2, a5, a6⟩
  · obtain ⟨o, es, ep, ho, r⟩ := hm
    exact ⟨o, es, ep, k _ o (fun z => (f _ z).2.1 rfl) ho, r⟩
  · refine (I.hok b u e).stay (fun c v hc q => k c v ?_ q) (fun _ q => q) fun _ _ q => q
    rcases hc with z | z
    · rw [z]; exact nit b u e
    · exact nit c _ z
theorem Inv.turnNew {X : Cx} {pins : List (Addr × Obj)} {σ : St} {H : Hp} {s : Shared} {h' : Heap} {t' : Nat} {wr : List Addr} {T : Addr} {xs : List V} {its : List Value} (I : Inv X pins σ H s) (k : ∀ b o, b ∉ wr → s.heap.get? b = some o → h'.get? b = some o) (f : ∀ b ∈ wr, FpOk X pins H b)
    (hT : s.heap.objs.size ≤ T) (hz : xs.length ≤ sizeLine) (r : Vals xs its) (ht : h'.IsTuple T its.toArray) : Inv X pins σ (upd H T (.tup xs)) { s with heap := h', toks := t' } := by
  have hn : H T = none := I.hok.fresh hT
  have nT : ∀ b o, s.heap.get? b = some o → b ≠ T := fun b o e z => absurd (Heap.lt_size e) (by rw [z]; exact Nat.not_lt.mpr hT)
  have nit : ∀ b u, H b = some u → b ∉ wr := fun b u e z => by rw [(f b z).1] at e; cases e
  refine I.step (g' := s.gens) (d' := s.drawn) (ch := wr) (fun b hb => ?_) (fun b o _ _ hc e _ => k b o hc e) (fun b o _ _ hc e _ => ⟨o.slots, k b o hc e⟩) (fun b o _ e n => by rw [upd_ne (nT b o e)]; exact n)
    (fun b o hc e => ⟨o, k b o hc e⟩) (fun b xs e => by rw [upd_ne (ne_of_none e hn)]; exact e) (fun b o u e => by rw [upd_ne (ne_of_none e hn)]; exact e) (fun b ps e => ⟨#[], by rw [upd_ne (ne_of_none e hn), e]; simp⟩) (fun m hm => ?_) (fun b u e => ?_) I.bare
  · obtain ⟨_, a2, _, a4, a5, a6⟩ := f b hb
    exact ⟨a4, a2, a5, a6⟩
  · obtain ⟨o, es, ep, ho, r⟩ := hm
    exact ⟨o, es, ep, k _ o (fun z => (f _ z).2.1 rfl) ho, r⟩
  · by_cases hb : b = T
    · subst hb
      rw [upd_same] at e
      cases e
      exact ⟨hz, its, r, ht⟩
    · rw [upd_ne hb] at e
      refine (I.hok b u e).stay (fun c v hc q => k c v ?_ q) (fun c q => by rw [upd_ne (ne_of_none q hn)]; exact q) fun c ys q => by rw [upd_ne (ne_of_none q hn)]; exact q
      rcases hc with z | z
      · rw [z]; exact nit b u e
      · exact nit c _ z
theorem for_it {J : It} {n : Nat} {g : TG} {tb : TS} {D : Ends} {σ : St} {H : Hp} (Pv : Nat → St → Hp → Prop) (h0 : Pv 0 σ H) (hgo : ∀ i σ H, i < n → Pv i σ H → J.go i H) (hst : ∀ σ H, Pv n σ H → J.stop n H)
    (hs : ∀ i x σ H H', i < n → Pv i σ H → J.yld i H x H' → g x σ H' fun σ2 H2 => tb { D with nx := Pv (i + 1), ct := Pv (i + 1), bk := D.nx } σ2 H2) (hd : ∀ σ H, Pv n σ H → D.nx σ H) :
    ∃ W : Nat → Nat → St → Hp → Prop, (∃ m, W 0 m σ H) ∧ ∀ i m σ H, W i m σ H →
      (J.stop i H ∧ D.nx σ H) ∨ (J.go i H ∧ ∃ N : St → Hp → Prop, (∀ σ' H', N σ' H' → ∃ m', m' < m ∧ W (i + 1) m' σ' H') ∧ ∀ x H', J.yld i H x H' → g x σ H' fun σ2 H2 => tb { D with nx := N, ct := N, bk := D.nx } σ2 H2) := by
  refine ⟨fun i m σ H => m = n - i ∧ i ≤ n ∧ Pv i σ H, ⟨n, by simp, Nat.zero_le _, h0⟩, ?_⟩
  rintro i m σ H ⟨rfl, hi, p⟩
  by_cases hlt : i < n
  · exact .inr ⟨hgo i σ H hlt p, Pv (i + 1), fun σ' H' p' => ⟨n - (i + 1), by omega, rfl, hlt, p'⟩, fun x H' y => hs i x σ H H' hlt p y⟩
  · have e : i = n := by omega
    subst e
    exact .inl ⟨hst σ H p, hd σ H p⟩
def IteT (K : PySem.W.Frag) (a : Addr) : It :=
  ⟨fun i H => ∃ xs x, SqT K H a xs ∧ xs[i]? = some x, fun i H x H' => ∃ T y, H T = none ∧ x = .ref T ∧ H' = upd H T (.tup [.int (i : Int), y]) ∧ ∀ xs, SqT K H a xs → xs[i]? = some y, fun i H => ∃ xs, SqT K H a xs ∧ xs.length ≤ i⟩
theorem turn_enumT {P : Program} {w : World} {K : PySem.W.Frag} {elts : List Expr} {kk : Nat} {ps : Pos} (a e it : Addr) (hei : e ≠ it) : Turn P w K (.Tuple elts kk ps) (IteT K a) [e, it] e (fun i h => (∃ old, IsEnum h e it i old) ∧ h.IsTupleIter it a i) where
  mem := by simp
  obj := fun i h st b hb => by
    obtain ⟨⟨old, h1⟩, o, e2, c, d⟩ := st
    rcases List.mem_cons.mp hb with rfl | hb
    · exact ⟨_, h1, fun v z => by cases z⟩
    · have : b = it := by simpa using hb
      subst this
      exact ⟨o, e2, fun v z => by rw [d] at z; cases z⟩
  keep := fun i h h' st k => ⟨let ⟨old, h1⟩ := st.1; ⟨old, k e (by simp) _ h1⟩, let ⟨o, h1, r⟩ := st.2; ⟨o, k it (by simp) _ h1, r⟩⟩
  item := by
    intro X hP hw hK hc i pins s σ H E I hf st hg
    subst hP hw hK
    obtain ⟨xs, x, hq, hx⟩ := hg
    obtain ⟨its, rv, p, hz⟩ := I.tuple hq
    obtain ⟨u, hu, ru⟩ := rv.get hx
    have hp : s.heap.IsTuple a its.toArray := show s.heap.IsTuple a its.toArray from p
    have hai : a ≠ it := fun z => by
      obtain ⟨o1, e1, c1, _⟩ := hp
      obtain ⟨o2, e2, c2, _⟩ := st.2
      rw [z, e2] at e1; cases e1; rw [c1] at c2; injection c2 with c3; exact absurd c3 (by decide)
    have hea : e ≠ a := fun z => by
      obtain ⟨o1, e1, c1, _⟩ := hp
      obtain ⟨old, e2⟩ := st.1
      rw [← z, e2] at e1; cases e1; injection c1 with c3; exact absurd c3 (by decide)
    have hh : X.A.in1.handled = none := I.ok.hd hc
    have W := WalksT.enumerateD (Draws.tuple (prog := X.prog) (w := X.w) hh it a hai its.toArray) e hei (by simp [hei, hea]) (by simp)
    have il : i < its.toArray.size := by
      have := (List.getElem?_eq_some_iff.mp hu).1
      simpa using this
    refine W.item i s _ _ il ⟨st.1, st.2, hp⟩ fun T vals h' tk hP hT ht mid k => ?_
    obtain ⟨t, y, hy, rfl⟩ := hP
    have ey : y = u := by
      have : its.toArray[i]? = some u := by simpa using hu
      rw [this] at hy; exact (Option.some.inj hy).symm
    subst ey
    have hf' : ∀ b ∈ [e, it], FpOk X pins H b := hf
    have I1 : Inv X pins σ (upd H T (.tup [.int (i : Int), x])) { s with heap := h', toks := tk } := I.turnNew (its := [.int i t, y]) k hf' hT (by simp [le_line]) (.cons ⟨t, rfl⟩ (.cons ru .nil)) ht
    have hTn : H T = none := I.hok.fresh hT
    have hne : ∀ b ∈ [e, it], upd H T (.tup [.int (i : Int), x]) b = none := fun b hb => by
      have hbT : b ≠ T := fun z => absurd hb (by rw [z]; exact W.apart _ _ _ mid)
      rw [upd_ne hbT]; exact (hf b hb).1
    refine ⟨_, rfl, W.go elts kk ps i T { s with heap := h', toks := tk } _ E mid fun h'' st2 k2 => ?_⟩
    refine ⟨.ref T, upd H T (.tup [.int (i : Int), x]), I1.turnL (t' := tk) (wr := [e, it]) k2 (fun b hb => ⟨hne b hb, (hf b hb).2⟩), rfl, ⟨T, x, hTn, rfl, rfl, fun ys hy => by rw [I.tuple_inj hy hq]; exact hx⟩, ⟨st2.1, st2.2.1⟩, hne⟩
  done := by
    intro X hP hw hK hc i pins s σ H E I hf st hg
    subst hP hw hK
    obtain ⟨xs, hq, hx⟩ := hg
    obtain ⟨its, rv, p, hz⟩ := I.tuple hq
    have hp : s.heap.IsTuple a its.toArray := show s.heap.IsTuple a its.toArray from p
    have hai : a ≠ it := fun z => by
      obtain ⟨o1, e1, c1, _⟩ := hp
      obtain ⟨o2, e2, c2, _⟩ := st.2
      rw [z, e2] at e1; cases e1; rw [c1] at c2; injection c2 with c3; exact absurd c3 (by decide)
    have hh : X.A.in1.handled = none := I.ok.hd hc
    have hl := rv.length
    have st2 := st.2
    obtain ⟨old, st1⟩ := st.1
    unfold pyNext
    have hT : s.TypeIs (.ref e) "enumerate" := ⟨_, st1, rfl⟩
    refine wpAny_bind (wpAny_attempt (wpAny_callSpecial?_slot (name := Str.ofString "__next__") hT F.slot_enumerate_next (wpAny_call_entry F.slot_enumerate_next hT F.entry_enumerate_next ?_ (F.args_enumerate_next_1 _))))
    show wpAny _ _ (field (.ref e) 2 >>= _) _ _ _
    refine wpAny_bind (wpAny_field st1 rfl (x := .ref it) rfl ?_)
    refine wpAny_bind (wpAny_nextOf_tuple_end hh st2 hp (by simp; omega) fun h' x he' hx' => ?_)
    obtain ⟨o, ho, hc'⟩ := hx'
    refine wpAny_bind (wpAny_isInstance (T := "StopIteration") (b := true) ⟨o, ho, hc'⟩ isSubtype_stop ?_)
    exact wpAny_pure ⟨rfl, I.turnL (t' := s.toks) (wr := [it]) (fun b o hb q => he' b o (by simpa using hb) q) fun b hb => hf b (List.mem_cons_of_mem _ hb)⟩
  self := fun _ _ _ _ _ st h => let ⟨_, h1⟩ := st.1; wpAny_pyIter_enum h1 h
def iEnumT (K : PySem.W.Frag) (ta : TA) : TI := fun σ H R => ta σ H fun vs H1 => ∃ a, vs = [.ref a] ∧ (∃ xs, SqT K H1 a xs) ∧ R (IteT K a) H1
theorem pi_enumT {X : Cx} {K : PySem.W.Frag} {elts : List Expr} {kk : Nat} {ps p pos : Pos} {l : Expr} {ta : TA} (hg : Gl X "enumerate") (hm : X.mg "enumerate" = none) (ha : PA X [l] ta) (hs : starEach [l] X.env = [(false, eval l X.env)] := by rfl) (h : X.K = K := by rfl) :
    PI X (.Tuple elts kk ps) (.Call (.Name "enumerate" p) [l] [] pos) (iEnumT K ta) := by
  subst h
  intro pins s σ H R I h
  refine Call_ (ld_blt I hg hm (PyProof.Rows.boot_enumerate) (PyProof.Rows.callWith_type1 (thn (ha pos pins s σ H _ I h) fun us s1 ⟨vs, H1, I1, r1, q1⟩ => ?_) hs rfl))
  obtain ⟨a, e, ⟨xs, hq⟩, q⟩ := q1
  subst e
  obtain ⟨u, rfl, ru⟩ := r1.one
  cases ru
  obtain ⟨its, rv, p, hz⟩ := I1.tuple hq
  have hp : s1.heap.IsTuple a its.toArray := show s1.heap.IsTuple a its.toArray from p
  refine call_enumerate_tuple hp fun h' he hit hsz hk => ?_
  have I2 : Inv X pins σ H1 { s1 with heap := h', toks := s1.toks } := I1.kept hk
  refine wpAny_pyIter_enum he ⟨_, [s1.heap.objs.size + 1, s1.heap.objs.size], _, _, H1, rfl, I2, turn_enumT a (s1.heap.objs.size + 1) s1.heap.objs.size (Nat.succ_ne_self _), ⟨⟨_, he⟩, hit⟩, fun b hb => ?_, q⟩
  have hge : s1.heap.objs.size ≤ b := by
    rcases List.mem_cons.mp hb with rfl | hb
    · exact Nat.le_succ _
    · rw [List.mem_singleton.mp hb]; exact Nat.le_refl _
  exact I1.fpOk hge (I1.hok.fresh hge)
def IteL (K : PySem.W.Frag) (a : Addr) : It :=
  ⟨fun i H => ∃ xs x, SqL K H a xs ∧ xs[i]? = some x, fun i H x H' => ∃ T y, H T = none ∧ x = .ref T ∧ H' = upd H T (.tup [.int (i : Int), y]) ∧ ∀ xs, SqL K H a xs → xs[i]? = some y, fun i H => ∃ xs, SqL K H a xs ∧ xs.length ≤ i⟩
theorem turn_enumL {P : Program} {w : World} {K : PySem.W.Frag} {elts : List Expr} {kk : Nat} {ps : Pos} (a e it : Addr) (hei : e ≠ it) : Turn P w K (.Tuple elts kk ps) (IteL K a) [e, it] e (fun i h => (∃ old, IsEnum h e it i old) ∧ h.IsListIter it a i) where
  mem := by simp
  obj := fun i h st b hb => by
    obtain ⟨⟨old, h1⟩, o, e2, c, d⟩ := st
    rcases List.mem_cons.mp hb with rfl | hb
    · exact ⟨_, h1, fun v z => by cases z⟩
    · have : b = it := by simpa using hb
      subst this
      exact ⟨o, e2, fun v z => by rw [d] at z; cases z⟩
  keep := fun i h h' st k => ⟨let ⟨old, h1⟩ := st.1; ⟨old, k e (by simp) _ h1⟩, let ⟨o, h1, r⟩ := st.2; ⟨o, k it (by simp) _ h1, r⟩⟩
  item := by
    intro X hP hw hK hc i pins s σ H E I hf st hg
    subst hP hw hK
    obtain ⟨xs, x, hq, hx⟩ := hg
    obtain ⟨its, rv, p, hz⟩ := I.list hq
    obtain ⟨u, hu, ru⟩ := rv.get hx
    have hp : s.heap.IsList a its.toArray := show s.heap.IsList a its.toArray from p.isList
    have hai : a ≠ it := fun z => by
      obtain ⟨o1, e1, c1, _⟩ := hp
      obtain ⟨o2, e2, c2, _⟩ := st.2
      rw [z, e2] at e1; cases e1; rw [c1] at c2; injection c2 with c3; exact absurd c3 (by decide)
    have hea : e ≠ a := fun z => by
      obtain ⟨o1, e1, c1, _⟩ := hp
      obtain ⟨old, e2⟩ := st.1
      rw [← z, e2] at e1; cases e1; injection c1 with c3; exact absurd c3 (by decide)
    have hh : X.A.in1.handled = none := I.ok.hd hc
    have W := WalksT.enumerateD (Draws.list (prog := X.prog) (w := X.w) hh it a hai its.toArray) e hei (by simp [hei, hea]) (by simp)
    have il : i < its.toArray.size := by
      have := (List.getElem?_eq_some_iff.mp hu).1
      simpa using this
    refine W.item i s _ _ il ⟨st.1, st.2, hp⟩ fun T vals h' tk hP hT ht mid k => ?_
    obtain ⟨t, y, hy, rfl⟩ := hP
    have ey : y = u := by
      have : its.toArray[i]? = some u := by simpa using hu
      rw [this] at hy; exact (Option.some.inj hy).symm
    subst ey
    have hf' : ∀ b ∈ [e, it], FpOk X pins H b := hf
    have I1 : Inv X pins σ (upd H T (.tup [.int (i : Int), x])) { s with heap := h', toks := tk } := I.turnNew (its := [.int i t, y]) k hf' hT (by simp [le_line]) (.cons ⟨t, rfl⟩ (.cons ru .nil)) ht
    have hTn : H T = none := I.hok.fresh hT
    have hne : ∀ b ∈ [e, it], upd H T (.tup [.int (i : Int), x]) b = none := fun b hb => by
      have hbT : b ≠ T := fun z => absurd hb (by rw [z]; exact W.apart _ _ _ mid)
      rw [upd_ne hbT]; exact (hf b hb).1
    refine ⟨_, rfl, W.go elts kk ps i T { s with heap := h', toks := tk } _ E mid fun h'' st2 k2 => ?_⟩
    refine ⟨.ref T, upd H T (.tup [.int (i : Int), x]), I1.turnL (t' := tk) (wr := [e, it]) k2 (fun b hb => ⟨hne b hb, (hf b hb).2⟩), rfl, ⟨T, x, hTn, rfl, rfl, fun ys hy => by rw [I.list_inj hy hq]; exact hx⟩, ⟨st2.1, st2.2.1⟩, hne⟩
  done := by
    intro X hP hw hK hc i pins s σ H E I hf st hg
    subst hP hw hK
    obtain ⟨xs, hq, hx⟩ := hg
    obtain ⟨its, rv, p, hz⟩ := I.list hq
    have hp : s.heap.IsList a its.toArray := show s.heap.IsList a its.toArray from p.isList
    have hai : a ≠ it := fun z => by
      obtain ⟨o1, e1, c1, _⟩ := hp
      obtain ⟨o2, e2, c2, _⟩ := st.2
      rw [z, e2] at e1; cases e1; rw [c1] at c2; injection c2 with c3; exact absurd c3 (by decide)
    have hh : X.A.in1.handled = none := I.ok.hd hc
    have hl := rv.length
    have st2 := st.2
    obtain ⟨old, st1⟩ := st.1
    unfold pyNext
    have hT : s.TypeIs (.ref e) "enumerate" := ⟨_, st1, rfl⟩
    refine wpAny_bind (wpAny_attempt (wpAny_callSpecial?_slot (name := Str.ofString "__next__") hT F.slot_enumerate_next (wpAny_call_entry F.slot_enumerate_next hT F.entry_enumerate_next ?_ (F.args_enumerate_next_1 _))))
    show wpAny _ _ (field (.ref e) 2 >>= _) _ _ _
    refine wpAny_bind (wpAny_field st1 rfl (x := .ref it) rfl ?_)
    refine wpAny_bind (wpAny_nextOf_list_end hh st2 hp (by simp; omega) fun h' x he' hx' => ?_)
    obtain ⟨o, ho, hc'⟩ := hx'
    refine wpAny_bind (wpAny_isInstance (T := "StopIteration") (b := true) ⟨o, ho, hc'⟩ isSubtype_stop ?_)
    exact wpAny_pure ⟨rfl, I.turnL (t' := s.toks) (wr := [it]) (fun b o hb q => he' b o (by simpa using hb) q) fun b hb => hf b (List.mem_cons_of_mem _ hb)⟩
  self := fun _ _ _ _ _ st h => let ⟨_, h1⟩ := st.1; wpAny_pyIter_enum h1 h
def iEnumL (K : PySem.W.Frag) (ta : TA) : TI := fun σ H R => ta σ H fun vs H1 => ∃ a, vs = [.ref a] ∧ (∃ xs, SqL K H1 a xs) ∧ R (IteL K a) H1
theorem pi_enumL {X : Cx} {K : PySem.W.Frag} {elts : List Expr} {kk : Nat} {ps p pos : Pos} {l : Expr} {ta : TA} (hg : Gl X "enumerate") (hm : X.mg "enumerate" = none) (ha : PA X [l] ta) (hs : starEach [l] X.env = [(false, eval l X.env)] := by rfl) (h : X.K = K := by rfl) :
    PI X (.Tuple elts kk ps) (.Call (.Name "enumerate" p) [l] [] pos) (iEnumL K ta) := by
  subst h
  intro pins s σ H R I h
  refine Call_ (ld_blt I hg hm (PyProof.Rows.boot_enumerate) (PyProof.Rows.callWith_type1 (thn (ha pos pins s σ H _ I h) fun us s1 ⟨vs, H1, I1, r1, q1⟩ => ?_) hs rfl))
  obtain ⟨a, e, ⟨xs, hq⟩, q⟩ := q1
  subst e
  obtain ⟨u, rfl, ru⟩ := r1.one
  cases ru
  obtain ⟨its, rv, p, hz⟩ := I1.list hq
  have hp : s1.heap.IsList a its.toArray := show s1.heap.IsList a its.toArray from p.isList
  refine call_enumerate_list hp fun h' he hit hsz hk => ?_
  have I2 : Inv X pins σ H1 { s1 with heap := h', toks := s1.toks } := I1.kept hk
  refine wpAny_pyIter_enum he ⟨_, [s1.heap.objs.size + 1, s1.heap.objs.size], _, _, H1, rfl, I2, turn_enumL a (s1.heap.objs.size + 1) s1.heap.objs.size (Nat.succ_ne_self _), ⟨⟨_, he⟩, hit⟩, fun b hb => ?_, q⟩
  have hge : s1.heap.objs.size ≤ b := by
    rcases List.mem_cons.mp hb with rfl | hb
    · exact Nat.le_succ _
    · rw [List.mem_singleton.mp hb]; exact Nat.le_refl _
  exact I1.fpOk hge (I1.hok.fresh hge)
end L2
set_option Elab.async false
set_option linter.all false
set_option maxRecDepth 100000
namespace PySem
open Sem (wp)
open AutoSeq1 (wpAny_loadPart')
section
variable {prog : Program} {w : World} {A : Around} {E : Value → Shared → Prop} {s : Shared}
end
section
variable {prog : Program} {w : World} {A : Around} {E : Value → Shared → Prop} {s : Shared}
end
end PySem
namespace L2
open PySem PySem.Spec PyProof.Rows
end L2
set_option Elab.async false
set_option linter.all false
set_option maxRecDepth 100000
namespace PySem
open Sem (wp)
open AutoSeq1 (wpAny_loadPart')
namespace RV
theorem lookup_new : typeLookup (.type "reversed") "__new__" = pure (some (.builtin "reversed.__new__")) := by rw [typeLookup_type, builtinLookup_eq_fast]; kernel_rfl
theorem mro : mroOf (.type "reversed") = pure [.type "reversed", .type "object"] := by rw [mroOf_type]; kernel_rfl
theorem made : Bind.madeBy (.type "reversed") = pure (some "reversed.__new__") := madeBy_type mro lookup_new (by decide +kernel)
theorem sub : isSubtype (.type "reversed") (.type "reversed") = pure true := by rw [isSubtype_type]; kernel_rfl
end RV
section
variable {prog : Program} {w : World} {A : Around} {E : Value → Shared → Prop} {s : Shared}
end
end PySem
set_option Elab.async false
set_option linter.all false
set_option maxRecDepth 100000
namespace HT
open PySem PySem.Spec PyProof.Rows
section
open PySem.SeqAt
open PySem.AutoSeq1 (wpAny_loadPart')
open PySem.MeetsSeq PySem.MeetsSeq2 PySem.MeetsSeq3
end
section
variable {prog : Program} {w : World} {A : Around} {E : Value → Shared → Prop} {s : Shared}
end
end HT
namespace L2
open PySem PySem.Spec PyProof.Rows
section
variable {X : Cx} {K : PySem.W.Frag}
end
end L2
set_option Elab.async false
set_option linter.all false
set_option maxRecDepth 100000
namespace PySem
open Sem (wp)
open AutoSeq1 (wpAny_loadPart')
section
variable {prog : Program} {w : World} {A : Around} {E : Value → Shared → Prop} {s : Shared}
end
end PySem
namespace L2
open PySem PySem.Spec PyProof.Rows
section
variable {X : Cx} {K : PySem.W.Frag}
end
end L2
set_option Elab.async false
set_option linter.all false
set_option maxRecDepth 100000
namespace L2
open PySem PySem.Spec PyProof.Rows
section
variable {X : Cx} {K : PySem.W.Frag}
end
end L2
set_option Elab.async false
set_option linter.all false
namespace L2
open PySem
def En : Nat → Int → Int
  | 0, _ => 1
  | n + 1, u => u * En n u + En n (u + 1)
def nf (f w : Int) : Int := if w = f then f + 1 else f
def rank : Int → List Int → Int
  | _, [] => 0
  | f, w :: r => w * En r.length f + rank (nf f w) r
theorem way_cons {f w : Int} {r : List Int} (h : wayGo f (w :: r) = true) : 0 ≤ w ∧ w ≤ f ∧ wayGo (nf f w) r = true := by
  have h' : (decide (0 ≤ w) && decide (w ≤ f) && wayGo (nf f w) r) = true := h
  simp only [Bool.and_eq_true, decide_eq_true_eq] at h'
  exact ⟨h'.1.1, h'.1.2, h'.2⟩
theorem isWay_iff {ws : List Int} : isWay ws = true ↔ 1 ≤ ws.length ∧ ws.length ≤ 9 ∧ wayGo 0 ws = true := by
  unfold isWay
  simp only [Bool.and_eq_true, decide_eq_true_eq]
  exact ⟨fun ⟨⟨a, b⟩, c⟩ => ⟨a, b, c⟩, fun ⟨a, b, c⟩ => ⟨⟨a, b⟩, c⟩⟩
def pre : Nat → Int → List Int → Int
  | _, _, [] => 0
  | m, f, w :: r => w * En (r.length + m) f + pre m (nf f w) r
theorem all_mem : ∀ (m : Nat) (ws : List Int), ws.length = m + 1 → wayGo 0 ws = true → ws ∈ allC m
  | 0, ws, hl, h => by
    match ws, hl with
    | [w], _ =>
      obtain ⟨a, b, _⟩ := way_cons h
      have : w = 0 := by omega
      subst this
      show [0] ∈ [[0]]
      simp
  | m + 1, ws, hl, h => by
    have hne : ws ≠ [] := by intro e; rw [e] at hl; simp at hl
    have hs : ws.dropLast ++ [ws.getLast hne] = ws := List.dropLast_concat_getLast hne
    have hl' : ws.dropLast.length = m + 1 := by rw [List.length_dropLast, hl]; rfl
    rw [← hs, wayGo_snoc, Bool.and_eq_true, Bool.and_eq_true] at h
    obtain ⟨h1, h2, h3⟩ := h
    have h2 : 0 ≤ ws.getLast hne := of_decide_eq_true h2
    have h3 : ws.getLast hne ≤ fresh 0 ws.dropLast := of_decide_eq_true h3
    have hd : ws.dropLast ≠ [] := by intro e; rw [e] at hl'; simp at hl'
    obtain ⟨fp, fm⟩ := fresh_pos h1 hd
    have em : maxL ws.dropLast = fresh 0 ws.dropLast - 1 := (fm.uniq (maxL_is hd)).symm
    show ws ∈ (allC m).flatMap ext1
    rw [List.mem_flatMap]
    refine ⟨ws.dropLast, all_mem m _ hl' h1, ?_⟩
    unfold ext1
    rw [List.mem_map]
    refine ⟨(ws.getLast hne).toNat, List.mem_range.mpr (by omega), ?_⟩
    rw [Int.toNat_of_nonneg h2]; exact hs
def allChk : Bool := (List.range 5).all fun m => decide ((allC m).length ≤ 52) && decide (((allC m).length : Int) = En (m + 1) 0) && (allC m).all (fun r => decide (r.length = m + 1) && wayGo 0 r) && ((List.range (allC m).length).all fun i => decide (rank 0 ((allC m).getD i []) = (i : Int))) &&
  ((allC m).all fun r => decide (rank 0 r = (((allC m).countP fun q => HT.lexLt q r) : Int)))
theorem allChk_ok : allChk = true := by decide +kernel
theorem all5 {m : Nat} (hm : m ≤ 4) : (allC m).length ≤ 52 ∧ ((allC m).length : Int) = En (m + 1) 0 ∧ (∀ r ∈ allC m, r.length = m + 1 ∧ wayGo 0 r = true) ∧ (∀ i, i < (allC m).length → rank 0 ((allC m).getD i []) = (i : Int)) ∧
    (∀ ws : List Int, ws.length = m + 1 → wayGo 0 ws = true → rank 0 ws = (((allC m).countP fun q => HT.lexLt q ws) : Int)) := by
  have q := List.all_eq_true.mp allChk_ok m (List.mem_range.mpr (by omega))
  simp only [Bool.and_eq_true, decide_eq_true_eq, List.all_eq_true, List.mem_range] at q
  obtain ⟨⟨⟨⟨q1, q2⟩, q3⟩, q4⟩, q5⟩ := q
  exact ⟨q1, q2, q3, q4, fun ws hl h => q5 ws (all_mem m ws hl h)⟩
end L2
set_option Elab.async false
set_option linter.all false
set_option maxRecDepth 100000
namespace L2
open PySem PySem.Spec PyProof.Rows
section
variable {X : Cx} {K : PySem.W.Frag}
theorem passE0 : Passes (CXE X.prog X.w) X E0 := by
  intro pins σ H e s' x y h
  obtain ⟨ea, cls, H', B, _, _, _, _, _, _, _, _, _, hE⟩ := h
  exact hE.elim
end
end L2
set_option Elab.async false
set_option linter.all false
namespace L2
open PySem
end L2
set_option Elab.async false
set_option linter.all false
set_option maxRecDepth 100000
namespace L2
open PySem PySem.Spec PyProof.Rows
theorem cf_lookup : ∀ (names : List (Str × NameKind)) (n : Nat) (acc : List (Str × Addr)) (y : Str) (c : Addr), (cellsFrom n names acc).lookup y = some c → ((y, NameKind.cell) ∈ names ∧ n ≤ c) ∨ acc.lookup y = some c
  | [], n, acc, y, c, h => .inr h
  | (x, k) :: r, n, acc, y, c, h => by
    unfold cellsFrom at h
    split at h
    · rename_i hk
      rcases cf_lookup r _ _ y c h with ⟨h1, h2⟩ | h1
      · exact .inl ⟨List.mem_cons_of_mem _ h1, Nat.le_trans (Nat.le_succ _) h2⟩
      · rw [List.lookup_cons] at h1
        cases hb : y == x with
        | true =>
          rw [hb] at h1
          have e : n = c := Option.some.inj h1
          have ek : k = NameKind.cell := nk_eq hk
          have ey : y = x := by simpa using hb
          subst e ek ey
          exact .inl ⟨List.mem_cons_self, Nat.le_refl _⟩
        | false => rw [hb] at h1; exact .inr h1
    · rcases cf_lookup r _ _ y c h with ⟨h1, h2⟩ | h1
      · exact .inl ⟨List.mem_cons_of_mem _ h1, h2⟩
      · exact .inr h1
theorem cf_acc : ∀ (names : List (Str × NameKind)) (n : Nat) (acc : List (Str × Addr)) (y : Str), (∃ c, acc.lookup y = some c) → ∃ c, (cellsFrom n names acc).lookup y = some c
  | [], n, acc, y, h => h
  | (x, k) :: r, n, acc, y, h => by
    unfold cellsFrom
    split
    · refine cf_acc r _ _ y ?_
      obtain ⟨c, hc⟩ := h
      rw [List.lookup_cons]
      cases y == x with
      | true => exact ⟨n, rfl⟩
      | false => exact ⟨c, hc⟩
    · exact cf_acc r _ _ y h
theorem cf_has : ∀ (names : List (Str × NameKind)) (n : Nat) (acc : List (Str × Addr)) (y : Str), (y, NameKind.cell) ∈ names → ∃ c, (cellsFrom n names acc).lookup y = some c
  | [], n, acc, y, h => by simp at h
  | (x, k) :: r, n, acc, y, h => by
    unfold cellsFrom
    rcases List.mem_cons.mp h with e | h
    · cases e
      rw [if_pos (by decide)]
      exact cf_acc r _ _ x ⟨n, by rw [List.lookup_cons]; simp⟩
    · split
      · exact cf_has r _ _ y h
      · exact cf_has r _ _ y h
theorem cf_keep : ∀ (names : List (Str × NameKind)) (n : Nat) (acc : List (Str × Addr)) (y : Str), (y, NameKind.cell) ∉ names → (cellsFrom n names acc).lookup y = acc.lookup y
  | [], n, acc, y, h => rfl
  | (x, k) :: r, n, acc, y, h => by
    unfold cellsFrom
    split
    · rename_i hk
      rw [cf_keep r _ _ y (fun z => h (List.mem_cons_of_mem _ z)), List.lookup_cons]
      cases hb : y == x with
      | true =>
        have ek : k = NameKind.cell := nk_eq hk
        have ey : y = x := by simpa using hb
        subst ek ey
        exact absurd List.mem_cons_self h
      | false => rfl
    · exact cf_keep r _ _ y (fun z => h (List.mem_cons_of_mem _ z))
theorem cf_own : ∀ (names : List (Str × NameKind)) (n : Nat) (acc : List (Str × Addr)) (y : Str) (c : Addr), (y, NameKind.cell) ∈ names → (cellsFrom n names acc).lookup y = some c → n ≤ c
  | [], n, acc, y, c, h, _ => by simp at h
  | (x, k) :: r, n, acc, y, c, h, e => by
    unfold cellsFrom at e
    by_cases hr : (y, NameKind.cell) ∈ r
    · split at e
      · exact Nat.le_trans (Nat.le_succ _) (cf_own r _ _ y c hr e)
      · exact cf_own r _ _ y c hr e
    · rcases List.mem_cons.mp h with q | q
      · cases q
        rw [if_pos (by decide), cf_keep r _ _ x hr, List.lookup_cons] at e
        simp at e
        exact Nat.le_of_eq e
      · exact absurd q hr
theorem cf_inj : ∀ (names : List (Str × NameKind)) (n : Nat) (acc : List (Str × Addr)), (∀ z d, (z, d) ∈ acc → d < n) → ∀ (x y : Str) (c : Addr), (x, c) ∈ cellsFrom n names acc → (y, c) ∈ cellsFrom n names acc → n ≤ c → x = y := by
  have gen : ∀ (names : List (Str × NameKind)) (m n : Nat) (acc : List (Str × Addr)), m ≤ n → (∀ z d, (z, d) ∈ acc → d < n) → (∀ x y c, (x, c) ∈ acc → (y, c) ∈ acc → m ≤ c → x = y) → ∀ (x y : Str) (c : Addr), (x, c) ∈ cellsFrom n names acc → (y, c) ∈ cellsFrom n names acc → m ≤ c → x = y := by
    intro names
    induction names with
    | nil => intro m n acc _ _ h x y c h1 h2 h3; exact h x y c h1 h2 h3
    | cons p r ih =>
      obtain ⟨z, k⟩ := p
      intro m n acc hm hlt hin x y c h1 h2 h3
      unfold cellsFrom at h1 h2
      split at h1
      · rename_i hk
        rw [if_pos hk] at h2
        refine ih m (n + 1) ((z, n) :: acc) (Nat.le_trans hm (Nat.le_succ _)) (fun a d hd => ?_) (fun a b d ha hb hd => ?_) x y c h1 h2 h3
        · rcases List.mem_cons.mp hd with q | q
          · cases q; exact Nat.lt_succ_self _
          · exact Nat.lt_succ_of_lt (hlt a d q)
        · rcases List.mem_cons.mp ha with q | q <;> rcases List.mem_cons.mp hb with q' | q'
          · cases q; cases q'; rfl
          · cases q; exact absurd (hlt b n q') (Nat.lt_irrefl _)
          · cases q'; exact absurd (hlt a n q) (Nat.lt_irrefl _)
          · exact hin a b d q q' hd
      · rename_i hk
        rw [if_neg hk] at h2
        exact ih m n acc hm hlt hin x y c h1 h2 h3
  intro names n acc hlt x y c h1 h2 h3
  exact gen names n n acc (Nat.le_refl _) hlt (fun x y c hx _ hc => absurd (hlt x c hx) (Nat.not_lt.mpr hc)) x y c h1 h2 h3
theorem cf_cell : ∀ (names : List (Str × NameKind)) (h : Heap) (acc : List (Str × Addr)) (lo : h.objs.size = h.objs.size), (∀ z d, (z, d) ∈ acc → h.objs.size ≤ d → h.IsCell d none) → ∀ (y : Str) (c : Addr), (y, c) ∈ cellsFrom h.objs.size names acc → h.objs.size ≤ c → (pushCells h names).IsCell c none := by
  have gen : ∀ (names : List (Str × NameKind)) (m : Nat) (h : Heap) (acc : List (Str × Addr)), m ≤ h.objs.size → (∀ z d, (z, d) ∈ acc → m ≤ d → h.IsCell d none) → ∀ (y : Str) (c : Addr), (y, c) ∈ cellsFrom h.objs.size names acc → m ≤ c → (pushCells h names).IsCell c none := by
    intro names
    induction names with
    | nil => intro m h acc _ ha y c hy hc; exact ha y c hy hc
    | cons p r ih =>
      obtain ⟨z, k⟩ := p
      intro m h acc hm ha y c hy hc
      unfold cellsFrom at hy
      unfold pushCells
      split at hy
      · rename_i hk
        rw [if_pos hk]
        have hz : (h.push { cls := .type "cell", data := .cell none }).objs.size = h.objs.size + 1 := Heap.size_push ..
        refine ih m (h.push { cls := .type "cell", data := .cell none }) ((z, h.objs.size) :: acc) (by rw [hz]; exact Nat.le_trans hm (Nat.le_succ _)) (fun a d hd hmd => ?_) y c (by rw [hz]; exact hy) hc
        rcases List.mem_cons.mp hd with q | q
        · cases q; exact ⟨_, Heap.get?_push_size _ rfl, rfl⟩
        · exact (ha a d q hmd).keeps fun b o e => Heap.get?_push_of_some _ e
      · rename_i hk
        rw [if_neg hk]
        exact ih m h acc hm ha y c hy hc
  intro names h acc _ ha y c hy hc
  exact gen names h.objs.size h acc (Nat.le_refl _) ha y c hy hc
theorem newEnv_cells {M : Model} {A : Around} {E : Value → Shared → Prop} {s : Shared} {scope : Scope} {globals : Addr} {closure : List (Str × Addr)} {qual : Str} {func : Option Addr} {code : Value} {outer : Env} {builtins : Addr} {Q : Env → Shared → Prop}
    (hQ : Q (newEnv scope s.heap.objs.size globals (cellsFrom (s.heap.objs.size + 1) scope.names closure) qual func code (some outer) builtins) { s with heap := pushCells (s.heap.push { cls := .type "dict", data := .dict #[] }) scope.names }) :
    wpAny M A (newFunctionEnv scope globals closure [] qual func code (some outer) builtins) Q E s := by
  simp only [newFunctionEnv, Option.isSome_some, if_true]
  refine wpAny_bind (wpAny_alloc ?_)
  refine wpAny_bind (wpAny_layCells _ (fun name kind cells => by cases hkc : kind == NameKind.cell <;> simp [hkc]) _ _ _ _ ?_)
  rw [show ({ s with heap := s.heap.push { cls := .type "dict", data := .dict #[] } } : Shared).heap.objs.size = s.heap.objs.size + 1 from Heap.size_push ..]
  rw [List.forIn_nil]
  refine wpAny_bind (wpAny_pure ?_)
  exact wpAny_pure hQ
def cxLcC (X : Cx) (N' : List Str) (scope : Scope) (cl : List (Str × Addr)) (C : Addr) (s : Shared) (H : Hp) (fp : List Addr) : Cx :=
  { X with N := N', s₀ := s, H₀ := H, env := compEnvC scope cl C X.env, outer := X.stack, stack := X.stack, ex := fp, fn := fun x => scope.names.lookup x == some NameKind.cell, pn := [], xe := fun _ _ => False }
structure LcScC (N N' : List Str) (M : List (Option Nat)) (sc osc : Scope) : Prop where
  kind : sc.kind = .function
  len : N'.length = M.length
  uni : ∀ y ∈ sc.names, y.2 = NameKind.cell → sc.names.lookup y.1 = some NameKind.cell
  own : ∀ y ∈ sc.names, y.2 = NameKind.local → sc.names.lookup y.1 = some NameKind.local
  fre : ∀ y ∈ sc.names, y.2 = NameKind.free → osc.names.lookup y.1 = some NameKind.cell ∨ osc.names.lookup y.1 = some NameKind.free
  at_ : ∀ (i j : Nat), M[i]? = some (some j) → ∃ y, N'[i]? = some y ∧ N[j]? = some y ∧ sc.names.lookup y = some NameKind.free
theorem nko_eq0 {a : Option NameKind} {b : NameKind} (h : (a == some b) = true) : a = some b := nko_eq h
theorem lc_blockC {X : Cx} {N' : List Str} {M : List (Option Nat)} {scope : Scope} {cl : List (Str × Addr)} {tg elt iter : Expr} {ifs : List Expr} {pos : Pos} {g : TG} {tc : TT} {te : TE} {pins : List (Addr × Obj)} {σ : St} {H2 : Hp} {s2 : Shared}
    {it : Addr} {fp : List Addr} {tn : Nat → Heap → Prop} {J : It} {F : List V → Hp → Prop} {RR : Value → Addr → Result → Shared → Prop} {E : Value → Shared → Prop}
    (S : LcScC X.N N' M scope X.env.scope) (hc : X.calm = true) (q0 : ∀ y c, (y, c) ∈ cl → X.env.cells.lookup y = some c) (q1 : ∀ y c, cl.lookup y = some c → X.env.cells.lookup y = some c) (q2 : ∀ y, (y, NameKind.free) ∈ scope.names → ∃ c, cl.lookup y = some c)
    (hg : ∀ cl C s H fp, PG (cxLcC X N' scope cl C s H fp) tg g) (hf : Frm M g) (ht : ∀ cl C s H fp, PTs (cxLcC X N' scope cl C s H fp) ifs tc) (he : ∀ cl C s H fp, PE (cxLcC X N' scope cl C s H fp) elt te)
    (I2 : Inv X pins σ H2 s2) (T : Turn X.prog X.w X.K tg J fp it tn) (st2 : tn 0 s2.heap) (f2 : ∀ b ∈ fp, FpOk X pins H2 b)
    (hw : ∃ W : Nat → Nat → List V → Hp → Prop, (∃ m, W 0 m [] H2) ∧ ∀ i m ys H, W i m ys H → ys.length ≤ sizeLine ∧
      ((J.stop i H ∧ F ys H) ∨ (J.go i H ∧ ys.length < sizeLine ∧ ∃ N : List V → Hp → Prop, (∀ ys' H', N ys' H' → ∃ m', m' < m ∧ W (i + 1) m' ys' H') ∧ ∀ x H', J.yld i H x H' → g x (inSt M σ) H' fun σ2 H2 => tc σ2 H2 fun b H3 =>
        if b = true then te σ2 H3 fun v H4 => N (ys ++ [v]) H4 else N ys H3)))
    (hend : ∀ (D C : Addr) (s' : Shared) (H' : Hp) (ys : List V), Inv X pins σ (upd H' D (.lst ys)) s' → H' D = none → s2.heap.objs.size ≤ D → s2.heap.objs.size < C → (∃ m, s'.heap.Ns C m) → (upd H' D (.lst ys)) C = none → F ys H' → RR (.ref D) C (.ok .next) s') :
    wpAny (model X.prog X.w) X.A (newList []) (fun acc s₃ => wpAny (model X.prog X.w) X.A (newFunctionEnv scope X.env.globals cl [] X.env.qual none .none (some X.env)) (fun cenv s₄ =>
      codeAny (model X.prog X.w) X.A (.compStart (.ListComp elt [⟨tg, iter, ifs, 0⟩] scope pos) 0 (.ref it) acc { cenv with scope := relabel scope X.env }) (RR acc cenv.locals) s₄) E s₃) E s2 := by
  obtain ⟨W, ⟨m0, w0⟩, turn⟩ := hw
  refine wpAny_newObj_type (newEnv_cells ?_)
  dsimp only
  generalize hG : s2.heap.push { cls := .type "list", dict := none, data := .seq ([] : List Value).toArray } = G
  generalize hD : s2.heap.objs.size = D at *
  have cel0 : ∀ y c, (y, c) ∈ cl → c < D := fun y c hm => by
    obtain ⟨v, z⟩ := I2.cell y c (q0 y c hm)
    exact hD ▸ z.lt
  have hC : G.objs.size = D + 1 := by rw [← hG, Heap.size_push, hD]
  generalize hCC : G.objs.size = C at *
  have DC : D < C := by rw [hC]; exact Nat.lt_succ_self _
  have hpush : (G.push { cls := .type "dict", data := .dict #[] }).objs.size = C + 1 := by rw [Heap.size_push, hCC]
  generalize hh₁ : pushCells (G.push { cls := .type "dict", data := .dict #[] }) scope.names = h₁
  have hns₁ : h₁.Ns C (fun _ => none) := by
    rw [← hh₁, ← hCC]
    exact (Heap.Ns.new G (.type "dict")).keeps (pushCells_keeps _ _)
  have keepG : ∀ b o, G.get? b = some o → h₁.get? b = some o := fun b o e => by rw [← hh₁]; exact pushCells_keeps _ _ b o (Heap.get?_push_of_some _ e)
  have newCell : ∀ y c, (y, c) ∈ cellsFrom (C + 1) scope.names cl → C + 1 ≤ c → h₁.IsCell c none := fun y c hm hc => by
    rw [← hh₁]
    exact cf_cell scope.names _ cl (by rw [hpush]) (fun z d hz hd => by
      rw [hpush] at hd
      exact absurd (Nat.lt_trans (cel0 z d hz) DC) (Nat.not_lt.mpr (Nat.le_trans (Nat.le_succ _) hd))) y c (by rw [hpush]; exact hm) (by rw [hpush]; exact hc)
  have lo : ∀ b o, s2.heap.get? b = some o → b < D := fun b o e => hD ▸ Heap.lt_size e
  have old : ∀ b o, s2.heap.get? b = some o → h₁.get? b = some o := fun b o e => by
    exact keepG b o (hG ▸ Heap.get?_push_of_some _ e)
  have hacc : h₁.get? D = some { cls := .type "list", data := .seq ([] : List Value).toArray } :=
    keepG _ _ (by rw [← hG, ← hD]; exact Heap.get?_push_size _ rfl)
  have fpl : ∀ b ∈ fp, b < D := fun b hb => by
    obtain ⟨o, e, _⟩ := T.obj _ _ st2 b hb
    exact lo b o e
  have cel : ∀ y c, cl.lookup y = some c → c < D := fun y c e => by
    obtain ⟨v, z⟩ := I2.cell y c (q1 y c e)
    exact hD ▸ z.lt
  generalize hcl' : cellsFrom (C + 1) scope.names cl = cl' at newCell ⊢
  have cl1 : ∀ y c, cl'.lookup y = some c → ((y, NameKind.cell) ∈ scope.names ∧ C + 1 ≤ c) ∨ cl.lookup y = some c := fun y c e => by rw [← hcl'] at e; exact cf_lookup _ _ _ _ _ e
  have cl2 : ∀ y, (y, NameKind.cell) ∈ scope.names → ∃ c, cl'.lookup y = some c := fun y hy => by rw [← hcl']; exact cf_has _ _ _ _ hy
  have cl3 : ∀ y, (y, NameKind.cell) ∉ scope.names → cl'.lookup y = cl.lookup y := fun y hy => by rw [← hcl']; exact cf_keep _ _ _ _ hy
  have cl4 : ∀ x y c, cl'.lookup x = some c → cl'.lookup y = some c → C + 1 ≤ c → x = y := fun x y c e1 e2 hc => by
    rw [← hcl'] at e1 e2
    exact cf_inj _ _ _ (fun z d hz => Nat.lt_succ_of_lt (Nat.lt_trans (cel0 z d hz) DC)) _ _ _ (PySem.mem_of_lookup e1) (PySem.mem_of_lookup e2) hc
  have cl5 : ∀ y c, cl'.lookup y = some c → c ≠ D ∧ c ≠ C ∧ (C + 1 ≤ c ∨ c < D) := fun y c e => by
    rcases cl1 y c e with ⟨_, h⟩ | h
    · exact ⟨by intro z; subst z; exact absurd DC (Nat.not_lt.mpr (Nat.le_trans (Nat.le_succ _) h)), by intro z; subst z; exact absurd h (Nat.not_succ_le_self _), .inl h⟩
    · have := cel y c h
      exact ⟨Nat.ne_of_lt this, Nat.ne_of_lt (Nat.lt_trans this DC), .inr this⟩
  generalize hX' : cxLcC X N' scope cl' C s2 H2 fp = X'
  have envE : X'.env = compEnvC scope cl' C X.env := by rw [← hX']; rfl
  have locE : X'.env.locals = C := by rw [envE]; rfl
  have fsE : X'.fs = frs X.stack := by rw [← hX']; rfl
  have fsl : ∀ b ∈ frs X.stack, b < D := fun b hb => by
    rcases List.mem_cons.mp (I2.stkSub b hb) with z | z
    · rw [z]; exact hD ▸ I2.lt
    · exact Nat.lt_of_not_le fun q => I2.nofs (hD ▸ q) z
  have relS : ∀ x k, scope.names.lookup x = some k → ∃ k', X'.env.kindOf x = some k' ∧ (k' = k ∨ (k = .free ∧ k' = .cell)) := fun x k e => by
    obtain ⟨k', e', q⟩ := relabel_some (env := X.env) e
    exact ⟨k', by rw [envE]; exact e', q⟩
  have relN : ∀ x, scope.names.lookup x = none → X'.env.kindOf x = none := fun x e => by
    rw [envE]; exact relabel_none (env := X.env) e
  have cellsE : X'.env.cells = cl' := by rw [envE]; rfl
  have s0E0 : X'.s₀ = s2 := by rw [← hX']; rfl
  have ok' : X'.Ok := by
    refine ⟨?mod, ?kind, ?glob, ?blt, ?above, ?inj, ?has, ?cab, ?hd, ?frames, ?stk, ?exf, ?bs, ?bsz, ?noex, ?exfs, ?funs, ?frf⟩
    case mod => rw [← hX']; exact I2.ok.mod
    case kind => rw [envE]; exact S.kind
    case glob => rw [envE]; exact I2.ok.glob
    case blt => rw [envE]; exact I2.ok.blt
    case above => rw [locE, ← hX']; show s2.heap.objs.size ≤ C; rw [hD]; exact Nat.le_of_lt DC
    case inj =>
      intro x y c e1 e2
      rw [cellsE] at e1 e2
      rcases (cl5 x c e1).2.2 with h | h
      · exact cl4 x y c e1 e2 h
      · have f : ∀ z, cl'.lookup z = some c → cl.lookup z = some c := fun z ez => by
          rcases cl1 z c ez with ⟨_, h'⟩ | h'
          · exact absurd (Nat.lt_of_lt_of_le (Nat.lt_trans h DC) (Nat.le_trans (Nat.le_succ _) h')) (Nat.lt_irrefl _)
          · exact h'
        exact I2.ok.inj x y c (q1 x c (f x e1)) (q1 y c (f y e2))
    case has =>
      intro x hx
      rw [cellsE]
      cases e : scope.names.lookup x with
      | none => rw [relN x e] at hx; rcases hx with z | z <;> cases z
      | some k =>
        obtain ⟨k', e', q⟩ := relS x k e
        rw [e'] at hx
        by_cases hcx : (x, NameKind.cell) ∈ scope.names
        · exact cl2 x hcx
        rw [cl3 x hcx]
        have kf : k = .free := by
          rcases q with q | q
          · rcases hx with z | z
            · cases z; exact absurd (PySem.mem_of_lookup (q ▸ e)) hcx
            · cases z; exact q.symm
          · exact q.1
        subst kf
        exact q2 x (PySem.mem_of_lookup e)
    case cab =>
      intro x c h e
      rw [← hX'] at h
      rw [cellsE] at e
      have hx : scope.names.lookup x = some NameKind.cell := nko_eq0 h
      rw [s0E0, hD]
      rcases cl1 x c e with ⟨_, h'⟩ | h'
      · exact Nat.le_trans (Nat.le_of_lt DC) (Nat.le_trans (Nat.le_succ _) h')
      · obtain ⟨c2, e2⟩ := cl2 x (PySem.mem_of_lookup hx)
        rw [e] at e2; cases e2
        rw [← hcl'] at e
        exact absurd (cf_own _ _ _ _ _ (PySem.mem_of_lookup hx) e) (Nat.not_le.mpr (Nat.lt_succ_of_lt (Nat.lt_trans (cel x c h') DC)))
    case hd => rw [← hX']; exact I2.ok.hd
    case frames => rw [← hX']; exact I2.ok.frames
    case stk => rw [← hX']; exact .inl rfl
    case exf =>
      intro b hb
      have hb' : b ∈ fp := by rw [← hX'] at hb; exact hb
      refine ⟨by rw [locE]; exact Nat.ne_of_lt (Nat.lt_trans (fpl b hb') DC), fun x c e => ?_⟩
      rw [cellsE] at e
      rcases cl1 x c e with ⟨_, h'⟩ | h'
      · intro z; subst z; exact absurd (fpl _ hb') (Nat.not_lt.mpr (Nat.le_trans (Nat.le_of_lt DC) (Nat.le_trans (Nat.le_succ _) h')))
      · exact (f2 b hb').2.2.2.2.1 x c (q1 x c h')
    case bs => rw [← hX']; exact I2.bs
    case bsz => rw [← hX']; exact Nat.le_trans I2.ok.bsz I2.sz
    case noex =>
      intro b o e hb
      have hb' : b ∈ fp := by rw [← hX'] at hb; exact hb
      have e' : X.base.get? b = some o := by rw [← hX'] at e; exact e
      rcases (f2 b hb').2.2.2.1 with z | z
      · exact I2.ok.noex b o e' z
      · exact absurd (Nat.lt_of_lt_of_le (Heap.lt_size e') (Nat.le_trans I2.ok.bsz z)) (Nat.lt_irrefl _)
    case exfs =>
      intro b hb
      have hb' : b ∈ fp := by rw [← hX'] at hb; exact hb
      rw [fsE]
      intro z
      rcases List.mem_cons.mp (I2.stkSub b z) with q | q
      · exact (f2 b hb').2.1 q
      · exact (f2 b hb').2.2.1 q
    case funs => rw [← hX']; exact I2.stack
    case frf => rw [fsE, ← hX']; exact I2.stkFree
  have c0 : H2 C = none := I2.hok.fresh (by rw [hD]; exact Nat.le_of_lt DC)
  have d0 : H2 D = none := I2.hok.fresh (by rw [hD]; exact Nat.le_refl _)
  have I3 : Inv X' [] (inSt M σ) H2 { s2 with heap := h₁, toks := s2.toks } := by
    refine ⟨ok', ?os, ?bare, ?base, ?loc, ?cell, ?free, ?freeC, ?pin, ?hok, ?len⟩
    case os => rw [← hX']; rfl
    case bare => exact I2.bare
    case base => rw [fsE, ← hX']; exact Un.kept old
    case loc =>
      refine ⟨_, by rw [locE]; exact hns₁, fun i x v e1 e2 _ => ?_⟩
      obtain ⟨j, eM, eσ⟩ := inSt_get e2
      obtain ⟨y, n1, n2, n3⟩ := S.at_ i j eM
      have e1' : N'[i]? = some x := by rw [← hX'] at e1; exact e1
      rw [n1] at e1'; cases e1'
      have hyf : (x, NameKind.free) ∈ scope.names := PySem.mem_of_lookup n3
      have kd := S.fre _ hyf rfl
      obtain ⟨m, hn, hl⟩ := id I2.loc
      obtain ⟨u, ru, lk⟩ := hl j x v n2 eσ (kd.elim (fun z => .inr (.inl z)) fun z => .inr (.inr z))
      refine ⟨u, ru, ?_⟩
      rcases lk with ⟨k, _⟩ | ⟨k, c, ec, z⟩
      · have k' : X.env.scope.names.lookup x = some NameKind.local := k
        rcases kd with q | q <;> (rw [k'] at q; cases q)
      · obtain ⟨c', ec'⟩ := q2 x hyf
        have hcc := q1 x c' ec'
        rw [ec] at hcc; cases hcc
        obtain ⟨k', e', q⟩ := relS x _ n3
        refine .inr ⟨?_, c, by rw [cellsE, cl3 x (fun z => by have := S.uni _ z rfl; rw [n3] at this; cases this)]; exact ec', ?_⟩
        · rw [e']; rcases q with q | q
          · right; rw [q]
          · left; rw [q.2]
        · obtain ⟨o, ho, hd'⟩ := z
          exact ⟨o, old _ _ ho, hd'⟩
    case cell =>
      intro x c e
      rw [cellsE] at e
      rcases cl1 x c e with ⟨_, h'⟩ | h'
      · exact ⟨none, newCell x c (PySem.mem_of_lookup e) h'⟩
      · obtain ⟨v, o, ho, hd'⟩ := I2.cell x c (q1 x c h')
        exact ⟨v, o, old _ _ ho, hd'⟩
    case free => rw [locE]; exact c0
    case freeC =>
      intro x c e
      rw [cellsE] at e
      rcases cl1 x c e with ⟨_, h'⟩ | h'
      · exact I2.hok.fresh (by rw [hD]; exact Nat.le_trans (Nat.le_of_lt DC) (Nat.le_trans (Nat.le_succ _) h'))
      · exact I2.freeC x c (q1 x c h')
    case pin => intro p hp; rw [← hX'] at hp; exact absurd (show p ∈ ([] : List (Addr × Obj)) from hp) (by simp)
    case hok => rw [← hX']; exact I2.hok.kept old
    case len => rw [inSt_length, ← hX']; exact S.len.symm
  have xE : ∀ (e : Value) (s' : Shared), ¬ X'.xe e s' := fun e s' z => by rw [← hX'] at z; exact z
  have progE : X'.prog = X.prog := by rw [← hX']; rfl
  have wE : X'.w = X.w := by rw [← hX']; rfl
  have KE' : X'.K = X.K := by rw [← hX']; rfl
  have AE : X'.A = X.A := by rw [← hX']; rfl
  have cE : X'.calm = true := by rw [← hX']; exact hc
  have exE : X'.ex = fp := by rw [← hX']; rfl
  have s0E : X'.s₀ = s2 := by rw [← hX']; rfl
  have pnE : X'.pn = [] := by rw [← hX']; rfl
  have hgX : PG X' tg g := by rw [← hX']; exact hg cl' C s2 H2 fp
  have htX : PTs X' ifs tc := by rw [← hX']; exact ht cl' C s2 H2 fp
  have heX : PE X' elt te := by rw [← hX']; exact he cl' C s2 H2 fp
  have Dfp : D ∉ fp := fun z => Nat.lt_irrefl _ (fpl D z)
  have Dcl : ∀ x c, X'.env.cells.lookup x = some c → c ≠ D := fun x c e => by rw [cellsE] at e; exact (cl5 x c e).1
  have Dloc : D ≠ X'.env.locals := by rw [locE]; exact Nat.ne_of_lt DC
  have Dfs : D ∉ X'.fs := by rw [fsE]; exact fun z => Nat.lt_irrefl _ (fsl D z)
  have D0 : D ∈ X'.ex ∨ X'.s₀.heap.objs.size ≤ D := .inr (by rw [s0E, hD]; exact Nat.le_refl _)
  have stat : ∀ {pl : List (Addr × Obj)} {H' : Hp}, (∀ p ∈ pl, p.1 = D) → (∀ b ∈ fp, H' b = none) → ∀ b ∈ fp, FpOk X' pl H' b := fun {pl H'} hpl hn b hb => by
    refine ⟨hn b hb, by rw [locE]; exact Nat.ne_of_lt (Nat.lt_trans (fpl b hb) DC), ?_, .inl (by rw [exE]; exact hb), fun x c e => ?_, fun p hp => ?_⟩
    · exact ok'.exfs b (by rw [exE]; exact hb)
    · rw [cellsE] at e
      rcases cl1 x c e with ⟨_, h'⟩ | h'
      · intro z; subst z; exact absurd (fpl _ hb) (Nat.not_lt.mpr (Nat.le_trans (Nat.le_of_lt DC) (Nat.le_trans (Nat.le_succ _) h')))
      · exact (f2 b hb).2.2.2.2.1 x c (q1 x c h')
    · rw [pnE, List.nil_append] at hp
      rw [hpl p hp]; exact (Nat.ne_of_lt (fpl b hb)).symm
  have loop : codeAny (model X.prog X.w) X.A (.compLoop (.ListComp elt [⟨tg, iter, ifs, 0⟩] scope pos) 0 (.ref it) (.ref D) X'.env) (RR (.ref D) C) { s2 with heap := h₁, toks := s2.toks } := by
    refine compLoop_gen (fun n s' => ∃ i ys H', Inv X' [] (inSt M σ) H' s' ∧ tn i s'.heap ∧ (∀ b ∈ fp, H' b = none) ∧ (∃ (its : List Value) (k : Nat), Vals ys its ∧ s'.heap.get? D = some { cls := .type "list", data := .seq its.toArray k }) ∧ H' D = none ∧ W i n ys H') ?_ m0
      ⟨0, [], H2, I3, T.keep _ _ _ st2 fun b hb o e => old b o e, fun b hb => (f2 b hb).1, ⟨[], 0, .nil, hacc⟩, d0, w0⟩
    rintro n s3 ⟨i, ys, H3, J3, st3, fr3, ⟨its, k, rv, hDs⟩, dn, w3⟩
    obtain ⟨hsz, hcase⟩ := turn i n ys H3 w3
    -- the list's record is pinned
    have J3' : Inv X' [(D, { cls := .type "list", data := .seq its.toArray k })] (inSt M σ) H3 s3 := J3.pins_of fun p hp => by
      have e : p = (D, { cls := .type "list", data := .seq its.toArray k }) := by simpa using hp
      subst e
      exact ⟨hDs, dn, Dloc, Dfs, fun v z => by cases z⟩
    have hpl : ∀ p ∈ [((D, { cls := .type "list", data := .seq its.toArray k }) : Addr × Obj)], p.1 = D := fun p hp => by
      have e : p = (D, { cls := .type "list", data := .seq its.toArray k }) := by simpa using hp
      rw [e]
    rcases hcase with ⟨stop, qF⟩ | ⟨go, hlt, N, hN, step⟩
    · have q := T.done X' progE wE KE' cE i _ s3 _ H3 (fun _ _ => False) J3' (stat hpl fr3) st3 stop
      rw [AE] at q
      refine thn q fun r s4 ⟨hr, J4⟩ => ?_
      subst hr
      have hD4 : s4.heap.get? D = some { cls := .type "list", data := .seq its.toArray k } := (J4.pin _ (List.mem_append_right _ (List.mem_singleton.mpr rfl))).1
      obtain ⟨mC, hnC, _⟩ := id J4.loc
      rw [locE] at hnC
      have b4 := J4.base
      rw [fsE, exE, s0E, show X'.H₀ = H2 by rw [← hX']; rfl] at b4
      refine hend D C s4 H3 ys ?_ dn (Nat.le_refl _) DC ⟨mC, hnC⟩ (by rw [upd_ne (Nat.ne_of_gt DC)]; have := J4.free; rw [locE] at this; exact this) qF
      have hok4 := J4.hok
      rw [progE, wE] at hok4
      refine I2.call' (ch := fp) (H' := upd H3 D (.lst ys)) (by rw [J4.os, s0E]) ⟨b4.keep, b4.slot, fun b o e nn hb => ?_, b4.there, fun b xs e => ?_, fun b o u e => ?_, fun b ps e => ?_⟩ ?_ J4.bare fun b hb => ?_
      · rw [upd_ne (Nat.ne_of_lt (lo b o e))]; exact b4.free b o e nn hb
      · rw [upd_ne (ne_of_none (b4.tups b xs e) dn)]; exact b4.tups b xs e
      · rw [upd_ne (ne_of_none (b4.frzs b o u e) dn)]; exact b4.frzs b o u e
      · obtain ⟨more, e'⟩ := b4.tbls b ps e
        exact ⟨more, by rw [upd_ne (ne_of_none e' dn)]; exact e'⟩
      · intro b u e
        by_cases hb : b = D
        · subst hb
          rw [upd_same] at e; cases e
          exact ⟨hsz, its, k, rv, hD4⟩
        · rw [upd_ne hb] at e
          exact (hok4 b u e).stay (fun c v _ q => q) (fun c q => by rw [upd_ne (ne_of_none q dn)]; exact q) fun c xs q => by rw [upd_ne (ne_of_none q dn)]; exact q
      · obtain ⟨f0, f1, f3, f4, f5, f6⟩ := f2 b hb
        exact ⟨f4, f1, f5, f6⟩
    · have q := T.item X' progE wE KE' cE i _ s3 _ H3 (fun _ _ => False) J3' (stat hpl fr3) st3 go
      rw [AE] at q
      refine thn q fun r s4 ⟨u, hr, h4⟩ => ?_
      subst hr
      dsimp only
      refine thn h4 fun _ s5 ⟨x, H5, J5, r5, y5, st5, fr5⟩ => ?_
      have J5' := J5.pinned (stat hpl fr5) (T.obj _ _ st5)
      have qg := hgX _ s5 (inSt M σ) H5 x u _ J5' r5 (hf _ _ _ _ (step x H5 y5))
      rw [progE, wE, AE] at qg
      refine wpAny_mono qg (fun _ s6 h6 => ?_) fun e s' z => xE e s' z
      obtain ⟨σ6, H6, J6, q6, l6, k6⟩ := h6
      have qt := htX _ s6 σ6 H6 _ J6 q6
      rw [progE, wE, AE] at qt
      refine wpAny_mono qt (fun b s7 h7 => ?_) fun e s' z => xE e s' z
      obtain ⟨H7, J7, q7⟩ := h7
      have fin : ∀ {ys' : List V} {σ8 : St} {H8 : Hp} {s8 : Shared}, σ8 = σ6 → Inv X' ([(D, { cls := .type "list", data := .seq its.toArray k })] ++ pinsAt fp s5.heap) σ8 H8 s8 →
          s8.heap.get? D = some { cls := .type "list", data := .seq its.toArray k } ∧ H8 D = none ∧ tn (i + 1) s8.heap ∧ (∀ b ∈ fp, H8 b = none) ∧ Inv X' [] (inSt M σ) H8 s8 := fun {ys' σ8 H8 s8} e8 J8 => by
        subst e8
        obtain ⟨p1, p2, _⟩ := J8.pin _ (List.mem_append_right _ (List.mem_append_left _ (List.mem_singleton.mpr rfl)))
        refine ⟨p1, p2, T.keep _ _ _ st5 fun b hb o e => (J8.pin (b, o) (List.mem_append_right _ (List.mem_append_right _ (mem_pinsAt hb e)))).1, fun b hb => ?_, ?_⟩
        · obtain ⟨o, e, d⟩ := T.obj _ _ st5 b hb
          exact (J8.pin (b, o) (List.mem_append_right _ (List.mem_append_right _ (mem_pinsAt hb e)))).2.1
        · have J9 : Inv X' [] σ8 H8 s8 := J8.pins_of fun p hp => absurd hp (by simp)
          refine J9.weak (l6.symm) fun a v e => ?_
          obtain ⟨j, eM, _⟩ := inSt_get e
          rw [k6 a j eM]; exact e
      cases b with
      | false =>
        rw [if_neg (by decide)] at q7
        rw [if_neg (by decide)]
        obtain ⟨m', hm, w7⟩ := hN _ _ q7
        obtain ⟨a1, a2, a3, a4, a5⟩ := fin (ys' := ys) rfl J7
        exact ⟨m', hm, i + 1, ys, H7, a5, a3, a4, ⟨its, k, rv, a1⟩, a2, w7⟩
      | true =>
        rw [if_pos rfl] at q7
        rw [if_pos rfl]
        have qe := heX _ s7 σ6 H7 _ J7 q7
        rw [progE, wE, AE] at qe
        refine wpAny_mono qe (fun v8 s8 h8 => ?_) fun e s' z => xE e s' z
        obtain ⟨y8, H8, J8, r8, n8⟩ := h8
        obtain ⟨m', hm, w8⟩ := hN _ _ n8
        obtain ⟨a1, a2, a3, a4, a5⟩ := fin (ys' := ys) rfl J8
        refine wpAny_list_append_plain (items := its.toArray) ⟨k, a1⟩ (fun h9 hl9 hs9 => ?_) (by have := rv.length; rw [List.size_toArray, ← this]; exact hsz)
        have J9 : Inv X' [] (inSt M σ) H8 { s8 with heap := h9 } := a5.turned (t' := s8.toks) (fun b o hb e => (hs9.2 b hb).trans e) a2 Dloc D0 Dcl fun p hp => by rw [pnE] at hp; exact absurd hp (by simp)
        obtain ⟨k9, e9⟩ := hl9
        refine ⟨m', hm, i + 1, ys ++ [y8], H8, J9, T.keep _ _ _ a3 fun b hb o e => (hs9.2 b (fun z => Dfp (z ▸ hb))).trans e, a4, ⟨its ++ [v8], k9, rv.append (.cons r8 .nil), ?_⟩, a2, w8⟩
        rw [show (its ++ [v8]).toArray = its.toArray.push v8 by simp]
        exact e9
  have loop' : codeAny (model X.prog X.w) X.A (.compLoop (.ListComp elt [⟨tg, iter, ifs, 0⟩] scope pos) 0 (.ref it) (.ref D) (compEnvC scope cl' C X.env)) (RR (.ref D) C) { s2 with heap := h₁, toks := s2.toks } := envE ▸ loop
  exact codeAny_compStart_list loop' (T.self _ 0 _ _ _ (T.keep _ _ _ st2 fun b hb o e => old b o e) loop')
end L2
set_option Elab.async false
set_option linter.all false
set_option maxRecDepth 100000
namespace L2
open PySem PySem.Spec PyProof.Rows
theorem closure_mem {env : Env} : ∀ (names : List (Str × NameKind)) (cs : List (Str × Addr)), (∀ y ∈ names, y.2 = NameKind.free → ∃ c, env.cells.lookup y.1 = some c) → (∀ y c, (y, c) ∈ cs → env.cells.lookup y = some c) →
    ∀ cl, (forIn names cs fun x r => (match x with
      | (name, kind) => if (kind == NameKind.free) = true then (do let a ← cellOf env name; pure (ForInStep.yield ((name, a) :: r))) else pure (ForInStep.yield r)) : Sem (List (Str × Addr))) = pure cl → ∃ cl2, (forIn names cs fun x r => (match x with
      | (name, kind) => if (kind == NameKind.free) = true then (do let a ← cellOf env name; pure (ForInStep.yield ((name, a) :: r))) else pure (ForInStep.yield r)) : Sem (List (Str × Addr))) = pure cl2 ∧ ∀ y c, (y, c) ∈ cl2 → env.cells.lookup y = some c
  | [], cs, _, h, cl, _ => ⟨cs, by rw [List.forIn_nil], h⟩
  | (n, k) :: r, cs, hf, h, cl, e => by
    rw [List.forIn_cons] at e ⊢
    by_cases hk : (k == NameKind.free) = true
    · obtain ⟨c, hc⟩ := hf (n, k) List.mem_cons_self (nk_eq hk)
      have ec : cellOf env n = pure c := by unfold cellOf; rw [hc]
      simp only [hk, if_true, ec, pure_bind] at e ⊢
      refine closure_mem r ((n, c) :: cs) (fun y hy => hf y (List.mem_cons_of_mem _ hy)) (fun y c' hm => ?_) cl e
      rcases List.mem_cons.mp hm with q | q
      · cases q; exact hc
      · exact h y c' q
    · simp only [hk, if_false, pure_bind] at e ⊢
      exact closure_mem r cs (fun y hy => hf y (List.mem_cons_of_mem _ hy)) h cl e
theorem pure_inj_sem {α : Type} {a b : α} (h : (pure a : Sem α) = pure b) : a = b := by
  injection h
section
variable {X : Cx} {N' : List Str} {M : List (Option Nat)} {scope : Scope} {tg elt iter : Expr} {ifs : List Expr} {pos : Pos} {g : TG} {tc : TT} {te : TE} {wi : TI}
theorem lc_closC {pins : List (Addr × Obj)} {σ : St} {H : Hp} {s : Shared} (S : LcScC X.N N' M scope X.env.scope) (I : Inv X pins σ H s) :
    ∃ cl, closureFor scope X.env = pure cl ∧ (∀ y c, (y, c) ∈ cl → X.env.cells.lookup y = some c) ∧ (∀ y c, cl.lookup y = some c → X.env.cells.lookup y = some c) ∧ (∀ y, (y, NameKind.free) ∈ scope.names → ∃ c, cl.lookup y = some c) := by
  have hh : ∀ y ∈ scope.names, y.2 = NameKind.free → ∃ c, X.env.cells.lookup y.1 = some c := fun y hy hk => I.ok.has y.1 (S.fre y hy hk)
  obtain ⟨cl, e, q1, q2⟩ := closure_go (env := X.env) scope.names [] hh (fun y c e => by simp at e)
  obtain ⟨cl2, e2, q0⟩ := closure_mem (env := X.env) scope.names [] hh (fun y c h => by simp at h) cl e
  have ecl : cl = cl2 := pure_inj_sem (e.symm.trans e2)
  subst ecl
  refine ⟨cl, ?_, q0, q1, fun y hy => q2 y (.inr hy)⟩
  unfold closureFor
  dsimp only
  rw [show (forIn scope.names ([] : List (Str × Addr)) fun x r => (match x with
      | (name, kind) => if (kind == NameKind.free) = true then (do let a ← cellOf X.env name; pure (ForInStep.yield ((name, a) :: r))) else pure (ForInStep.yield r)) : Sem (List (Str × Addr))) = pure cl from e]
  rfl
theorem pe_lcC (S : LcScC X.N N' M scope X.env.scope) (hc : X.calm = true) (hi : PI X tg iter wi) (hg : ∀ cl C s H fp, PG (cxLcC X N' scope cl C s H fp) tg g) (hf : Frm M g)
    (ht : ∀ cl C s H fp, PTs (cxLcC X N' scope cl C s H fp) ifs tc) (he : ∀ cl C s H fp, PE (cxLcC X N' scope cl C s H fp) elt te)
    (hs : ∀ x, foldedSetIterable iter X.env x = pure x := by intro _; rfl) :
    PE X (.ListComp elt [⟨tg, iter, ifs, 0⟩] scope pos) (fun σ H Q => tLc wi M g tc te σ H fun ys H' => ∀ p, H' p = none → Q (.ref p) (upd H' p (.lst ys))) := by
  intro pins s σ H Q I h
  obtain ⟨cl, hclos, q0, q1, q2⟩ := lc_closC S I
  rw [eval_ListComp]
  refine wpAny_comprehension_free (use := none) rfl hs hclos S.kind S.own (thn (hi pins s σ H _ I h) fun v s1 h1 => thn h1 fun itv s2 h2 => ?_)
  obtain ⟨it, fp, tn, J, H2, e, I2, T, st2, f2, hw⟩ := h2
  subst e
  refine lc_blockC (RR := fun acc C => compPost (model X.prog X.w) X.A X.xe none (EP X pins σ Q) acc C) S hc q0 q1 q2 hg hf ht he I2 T st2 f2 hw ?_
  intro D C s' H' ys I' dn hD hC ⟨m, hn⟩ hCn q
  obtain ⟨y1, y2, y3, y4⟩ := I2.young (Nat.le_of_lt hC)
  exact ⟨m, hn, fun h' hs' => ⟨.ref D, _, I'.gone (s' := s') hs' hCn y1 y2 y3 y4, rfl, q D dn⟩⟩
end
def lcChkC (N N' : List Str) (M : List (Option Nat)) (sc osc : Scope) : Bool :=
  (sc.kind == .function) && (N'.length == M.length) && (sc.names.all fun y => y.2 != NameKind.cell || sc.names.lookup y.1 == some NameKind.cell) && (sc.names.all fun y => y.2 != NameKind.local || sc.names.lookup y.1 == some NameKind.local) &&
  (sc.names.all fun y => y.2 != NameKind.free || (osc.names.lookup y.1 == some NameKind.cell || osc.names.lookup y.1 == some NameKind.free)) &&
  ((N'.zip M).all fun p => match p.2 with | none => true | some j => N[j]? == some p.1 && sc.names.lookup p.1 == some NameKind.free)
theorem lcScC_of {N N' : List Str} {M : List (Option Nat)} {sc osc : Scope} (h : lcChkC N N' M sc osc = true) : LcScC N N' M sc osc := by
  unfold lcChkC at h
  simp only [Bool.and_eq_true] at h
  obtain ⟨⟨⟨⟨⟨h1, h2⟩, h3⟩, h4⟩, h5⟩, h6⟩ := h
  have hl : N'.length = M.length := by simpa using h2
  have one : ∀ {k : NameKind} (hh : (sc.names.all fun y => y.2 != k || sc.names.lookup y.1 == some k) = true), ∀ y ∈ sc.names, y.2 = k → sc.names.lookup y.1 = some k := fun {k} hh y hy hk => by
    have q := List.all_eq_true.mp hh y hy
    rw [Bool.or_eq_true] at q
    rcases q with q | q
    · exact absurd hk (nk_ne q)
    · exact nko_eq q
  refine ⟨?_, hl, one h3, one h4, fun y hy hk => ?_, fun i j e => ?_⟩
  · revert h1; cases sc.kind <;> intro h1 <;> first | rfl | exact absurd h1 (by decide)
  · have q := List.all_eq_true.mp h5 y hy
    rw [Bool.or_eq_true, Bool.or_eq_true] at q
    rcases q with q | q | q
    · exact absurd hk (nk_ne q)
    · exact .inl (nko_eq q)
    · exact .inr (nko_eq q)
  · have hi : i < M.length := (List.getElem?_eq_some_iff.mp e).1
    have hi' : i < N'.length := by rw [hl]; exact hi
    have em : (N'[i], some j) ∈ N'.zip M := by
      refine List.mem_iff_getElem?.mpr ⟨i, ?_⟩
      rw [List.getElem?_zip_eq_some]
      exact ⟨List.getElem?_eq_getElem hi', e⟩
    have q := List.all_eq_true.mp h6 _ em
    simp only [Bool.and_eq_true] at q
    exact ⟨N'[i], List.getElem?_eq_getElem hi', by simpa using q.1, nko_eq q.2⟩
def tLcV (wi : TI) (M : List (Option Nat)) (g : TG) (tc : TT) (te : TE) : TE := fun σ H Q => tLc wi M g tc te σ H fun ys H' => ∀ p, H' p = none → Q (.ref p) (upd H' p (.lst ys))
theorem pe_lcV {X : Cx} {N' : List Str} {M : List (Option Nat)} {scope : Scope} {tg elt iter : Expr} {ifs : List Expr} {pos : Pos} {g : TG} {tc : TT} {te : TE} {wi : TI} (S : LcSc X.N N' M scope X.env.scope) (hc : X.calm = true) (hi : PI X tg iter wi) (hg : ∀ cl C s H fp, PG (cxLc X N' scope cl C s H fp) tg g) (hf : Frm M g)
    (ht : ∀ cl C s H fp, PTs (cxLc X N' scope cl C s H fp) ifs tc) (he : ∀ cl C s H fp, PE (cxLc X N' scope cl C s H fp) elt te)
    (hs : ∀ x, foldedSetIterable iter X.env x = pure x := by intro _; rfl) : PE X (.ListComp elt [⟨tg, iter, ifs, 0⟩] scope pos) (tLcV wi M g tc te) := pe_lc S hc hi hg hf ht he hs
theorem pe_lcCV {X : Cx} {N' : List Str} {M : List (Option Nat)} {scope : Scope} {tg elt iter : Expr} {ifs : List Expr} {pos : Pos} {g : TG} {tc : TT} {te : TE} {wi : TI} (S : LcScC X.N N' M scope X.env.scope) (hc : X.calm = true) (hi : PI X tg iter wi) (hg : ∀ cl C s H fp, PG (cxLcC X N' scope cl C s H fp) tg g) (hf : Frm M g)
    (ht : ∀ cl C s H fp, PTs (cxLcC X N' scope cl C s H fp) ifs tc) (he : ∀ cl C s H fp, PE (cxLcC X N' scope cl C s H fp) elt te)
    (hs : ∀ x, foldedSetIterable iter X.env x = pure x := by intro _; rfl) : PE X (.ListComp elt [⟨tg, iter, ifs, 0⟩] scope pos) (tLcV wi M g tc te) := pe_lcC S hc hi hg hf ht he hs
end L2
set_option Elab.async false
set_option linter.all false
namespace L2
open PySem
theorem getD_lt {α : Type} {l : List α} {i : Nat} (h : i < l.length) (d : α) : l.getD i d = l[i] := by rw [List.getD_eq_getElem?_getD, List.getElem?_eq_getElem h]; rfl
theorem getD_app1 {α : Type} {l m : List α} {i : Nat} (h : i < l.length) (d : α) : (l ++ m).getD i d = l.getD i d := by
  rw [List.getD_eq_getElem?_getD, List.getElem?_append_left h, List.getD_eq_getElem?_getD]
theorem getD_app2 {α : Type} (l : List α) (x : α) (d : α) : (l ++ [x]).getD l.length d = x := by
  rw [List.getD_eq_getElem?_getD, List.getElem?_append_right (Nat.le_refl _), Nat.sub_self]; rfl
theorem mem_getD {l : List Int} {z : Int} : z ∈ l ↔ ∃ i, i < l.length ∧ l.getD i 0 = z := by
  constructor
  · intro h
    obtain ⟨i, hi, e⟩ := List.getElem_of_mem h
    exact ⟨i, hi, by rw [getD_lt hi]; exact e⟩
  · rintro ⟨i, hi, e⟩
    rw [getD_lt hi] at e
    exact e ▸ List.getElem_mem hi
theorem numRow_at {xs : List Int} {i : Nat} (h : i < xs.length) : (numRow xs).getD i 0 = ((seen xs).idxOf (xs.getD i 0) : Int) := by
  unfold numRow
  rw [List.getD_eq_getElem?_getD, List.getElem?_map, getD_lt h, List.getElem?_eq_getElem h]; rfl
theorem numRow_pat {xs : List Int} {i j : Nat} (hi : i < xs.length) (hj : j < xs.length) : (numRow xs).getD i 0 = (numRow xs).getD j 0 ↔ xs.getD i 0 = xs.getD j 0 := by
  rw [numRow_at hi, numRow_at hj]
  have mi : xs.getD i 0 ∈ seen xs := (mem_seen xs _).mpr (mem_getD.mpr ⟨i, hi, rfl⟩)
  have mj : xs.getD j 0 ∈ seen xs := (mem_seen xs _).mpr (mem_getD.mpr ⟨j, hj, rfl⟩)
  refine ⟨fun e => ?_, fun e => by rw [e]⟩
  have e : (seen xs).idxOf (xs.getD i 0) = (seen xs).idxOf (xs.getD j 0) := Int.ofNat.inj e
  have a := List.getElem_idxOf (List.idxOf_lt_length_of_mem mi)
  have b := List.getElem_idxOf (List.idxOf_lt_length_of_mem mj)
  rw [← a, ← b]
  congr 1
theorem pat_numRow : ∀ (n : Nat) (xs ys : List Int), xs.length = n → ys.length = n → (∀ i j, i < n → j < n → (xs.getD i 0 = xs.getD j 0 ↔ ys.getD i 0 = ys.getD j 0)) → numRow xs = numRow ys
  | 0, xs, ys, hx, hy, _ => by rw [List.length_eq_zero_iff.mp hx, List.length_eq_zero_iff.mp hy]
  | n + 1, xs, ys, hx, hy, h => by
    have nx : xs ≠ [] := by intro e; rw [e] at hx; simp at hx
    have ny : ys ≠ [] := by intro e; rw [e] at hy; simp at hy
    have ex := (List.dropLast_concat_getLast nx).symm
    have ey := (List.dropLast_concat_getLast ny).symm
    generalize xs.dropLast = x' at ex
    generalize ys.dropLast = y' at ey
    generalize xs.getLast nx = x at ex
    generalize ys.getLast ny = y at ey
    subst ex ey
    have lx : x'.length = n := by simpa using hx
    have ly : y'.length = n := by simpa using hy
    have ih := pat_numRow n x' y' lx ly (fun i j hi hj => by
      have := h i j (by omega) (by omega)
      rw [getD_app1 (by omega), getD_app1 (by omega), getD_app1 (by omega), getD_app1 (by omega)] at this
      exact this)
    have last : ∀ i, i < n → (x'.getD i 0 = x ↔ y'.getD i 0 = y) := fun i hi => by
      have := h i n (by omega) (by omega)
      rw [getD_app1 (l := x') (i := i) (by omega), getD_app1 (l := y') (i := i) (by omega)] at this
      have e1 : (x' ++ [x]).getD n 0 = x := by rw [← lx]; exact getD_app2 x' x 0
      have e2 : (y' ++ [y]).getD n 0 = y := by rw [← ly]; exact getD_app2 y' y 0
      rw [e1, e2] at this
      exact this
    rw [numRow_snoc, numRow_snoc, ih]
    congr 3
    by_cases hm : x ∈ x'
    · obtain ⟨i, hi, e⟩ := mem_getD.mp hm
      have e2 := (last i (by omega)).mp e
      have hm2 : y ∈ y' := mem_getD.mpr ⟨i, by omega, e2⟩
      rw [seenP_idx ((mem_seen x' x).mpr hm), seenP_idx ((mem_seen y' y).mpr hm2)]
      have a := numRow_at (xs := x') (i := i) hi
      have b := numRow_at (xs := y') (i := i) (by omega)
      rw [ih, b, e, e2] at a
      exact (Int.ofNat.inj a).symm
    · have hm2 : y ∉ y' := fun z => by
        obtain ⟨i, hi, e⟩ := mem_getD.mp z
        exact hm (mem_getD.mpr ⟨i, by omega, (last i (by omega)).mpr e⟩)
      rw [seenP_new (fun z => hm ((mem_seen x' x).mp z)), seenP_new (fun z => hm2 ((mem_seen y' y).mp z))]
      have a := (numRow_way x').2
      have b := (numRow_way y').2
      rw [ih, b] at a
      exact (Int.ofNat.inj a).symm
theorem way_pat {ws xs : List Int} {n : Nat} (hw : wayGo 0 ws = true) (hl : ws.length = n) (hx : xs.length = n) (h : ∀ i j, i < n → j < n → (xs.getD i 0 = xs.getD j 0 ↔ ws.getD i 0 = ws.getD j 0)) : numRow xs = ws := by
  rw [pat_numRow n xs ws hx hl h]
  exact (numRow_self ws hw).1
def Within (n : Nat) (xs ys : List Int) : Prop := ∀ i j, i < n → j < n → xs.getD i 0 = xs.getD j 0 → ys.getD i 0 = ys.getD j 0
theorem way_memJ (ws : List Int) : wayGo 0 ws = true → ∀ z, z ∈ ws ↔ 0 ≤ z ∧ z < fresh 0 ws := by
  refine snoc_ind (P := fun ws => wayGo 0 ws = true → ∀ z, z ∈ ws ↔ 0 ≤ z ∧ z < fresh 0 ws) (fun _ z => by simp [fresh] <;> omega) (fun ws y ih h z => ?_) ws
  rw [wayGo_snoc, Bool.and_eq_true, Bool.and_eq_true] at h
  obtain ⟨h1, h2, h3⟩ := h
  have h2 := of_decide_eq_true h2
  have h3 := of_decide_eq_true h3
  have ih := ih h1 z
  have f0 : 0 ≤ fresh 0 ws := by have := (fresh_max ws h1).2 (-1) List.mem_cons_self; omega
  rw [List.mem_append, List.mem_singleton, ih, fresh_snoc]
  split <;> omega
theorem fresh_le (ws : List Int) : fresh 0 ws ≤ ws.length := by
  refine snoc_ind (P := fun ws => fresh 0 ws ≤ (ws.length : Int)) (by show (0 : Int) ≤ _; simp) (fun xs z ih => ?_) ws
  rw [fresh_snoc, List.length_append]
  show _ ≤ ((xs.length + 1 : Nat) : Int)
  split <;> omega
theorem way_small {ws : List Int} (hw : isWay ws = true) {i : Nat} (h : i < ws.length) : 0 ≤ ws.getD i 0 ∧ ws.getD i 0 < 9 ∧ ws.getD i 0 < fresh 0 ws := by
  obtain ⟨w1, w9, w0⟩ := isWay_iff.mp hw
  have hf := (way_memJ ws w0 (ws.getD i 0)).mp (mem_getD.mpr ⟨i, h, rfl⟩)
  have := fresh_le ws
  exact ⟨hf.1, by omega, hf.2⟩
theorem within_anti {ws vs : List Int} {n : Nat} (hw : isWay ws = true) (hv : isWay vs = true) (e1 : ws.length = n) (e2 : vs.length = n) (h1 : Within n ws vs) (h2 : Within n vs ws) : ws = vs := by
  have := way_pat (isWay_iff.mp hv).2.2 e2 e1 fun i j hi hj => ⟨fun e => h1 i j hi hj e, fun e => h2 i j hi hj e⟩
  rw [← this]
  exact ((numRow_self ws (isWay_iff.mp hw).2.2).1).symm
def relab (L : List Int) (old new : Int) : List Int := L.map fun l => if l = old then new else l
def mg (L : List Int) (p : Nat × Nat) : List Int := relab L (L.getD p.2 0) (L.getD p.1 0)
def lotN (ws : List Int) (k : Int) (i : Nat) : List Nat := (List.range i).filter fun j => decide (ws.getD j 0 = k)
def lotL (ws : List Int) (k : Int) (i : Nat) : List Int := (lotN ws k i).map fun (j : Nat) => (j : Int)
theorem lotN_succ (ws : List Int) (k : Int) (i : Nat) : lotN ws k (i + 1) = if ws.getD i 0 = k then lotN ws k i ++ [i] else lotN ws k i := by
  unfold lotN
  rw [List.range_succ, List.filter_append]
  by_cases h : ws.getD i 0 = k
  · rw [if_pos h]; rw [List.getD_eq_getElem?_getD] at h; simp [h]
  · rw [if_neg h]; rw [List.getD_eq_getElem?_getD] at h; simp [h]
theorem lotL_succ (ws : List Int) (k : Int) (i : Nat) : lotL ws k (i + 1) = if ws.getD i 0 = k then lotL ws k i ++ [(i : Int)] else lotL ws k i := by
  unfold lotL
  rw [lotN_succ]
  split <;> simp
theorem mem_lotN {ws : List Int} {k : Int} {i j : Nat} : j ∈ lotN ws k i ↔ j < i ∧ ws.getD j 0 = k := by
  unfold lotN; simp
theorem lotN_length_le (ws : List Int) (k : Int) (i : Nat) : (lotN ws k i).length ≤ i := by
  unfold lotN
  have := List.length_filter_le (fun j => decide (ws.getD j 0 = k)) (List.range i)
  simpa using this
theorem lotL_length (ws : List Int) (k : Int) (i : Nat) : (lotL ws k i).length = (lotN ws k i).length := by unfold lotL; simp
end L2
set_option Elab.async false
set_option linter.all false
namespace L2
open PySem
theorem getRef {qs : List Addr} {j : Nat} {y : V} (h : (qs.map V.ref)[j]? = some y) : ∃ q, y = V.ref q ∧ qs[j]? = some q ∧ j < qs.length := by
  rw [List.getElem?_map] at h
  cases e : qs[j]? with
  | none => rw [e] at h; cases h
  | some q => rw [e] at h; exact ⟨q, (Option.some.inj h).symm, rfl, (List.getElem?_eq_some_iff.mp e).1⟩
theorem atI_ref {qs : List Addr} {j : Nat} {q : Addr} (h : qs[j]? = some q) : atI (qs.map V.ref) (j : Int) = some (V.ref q) := atI_nat (by rw [List.getElem?_map, h]; rfl)
theorem nodup_get : ∀ {qs : List Addr}, qs.Nodup → ∀ {i j : Nat} {q : Addr}, qs[i]? = some q → qs[j]? = some q → i = j
  | [], _, i, j, q, a, b => by simp at a
  | x :: qs, h, 0, 0, q, a, b => rfl
  | x :: qs, h, 0, j + 1, q, a, b => by
    have a : x = q := by simpa using a
    have b : qs[j]? = some q := by simpa using b
    exact absurd (List.mem_of_getElem? b) (a ▸ (List.nodup_cons.mp h).1)
  | x :: qs, h, i + 1, 0, q, a, b => by
    have b : x = q := by simpa using b
    have a : qs[i]? = some q := by simpa using a
    exact absurd (List.mem_of_getElem? a) (b ▸ (List.nodup_cons.mp h).1)
  | x :: qs, h, i + 1, j + 1, q, a, b => by
    rw [nodup_get (List.nodup_cons.mp h).2 (i := i) (j := j) (by simpa using a) (by simpa using b)]
end L2
namespace L2
open PySem
end L2
namespace L2
open PySem PySem.Spec PyProof.Rows
section
variable {X : Cx} {K : PySem.W.Frag} {pos : Pos}
theorem kpg_tup {es : List Expr} {k : Nat} {t : TGs} {n : Nat} (hc : X.calm = true) (h : PGs X es t)
    (hn : (assignEach es X.env).length = n := by rfl) (hst : (assignEach es X.env).findIdx? (·.1) = none := by rfl) (hK : X.K = K := by rfl) : PG X (.Tuple es k pos) (gTup K n t) := by
  subst hK; exact pg_tup hc h hn hst
theorem frm_two {M : List (Option Nat)} {n : Nat} (h0 : M[0]? = some none := by rfl) (h1 : M[1]? = some none := by rfl) : Frm M (gTup K n (gCons (gName 0) (gCons (gName 1) gNil))) := fun v σ H Q q => by
  obtain ⟨a, xs, e, hq, hl, v1, r, e1, v2, r2, e2, e3, q⟩ := q
  refine ⟨a, xs, e, hq, hl, v1, r, e1, v2, r2, e2, e3, q, by rw [List.length_set, List.length_set], fun k j ek => ?_⟩
  have n0 : 0 ≠ k := by rintro rfl; rw [h0] at ek; cases ek
  have n1 : 1 ≠ k := by rintro rfl; rw [h1] at ek; cases ek
  rw [List.getElem?_set_ne n1, List.getElem?_set_ne n0]
end
end L2
namespace L2
open PySem
theorem lcY {te : TE} {σ : St} {H : Hp} {N : V → Hp → Prop} {N' : Hp → Prop} (h : te σ H N) : tYes σ H (fun b H3 => if b = true then te σ H3 N else N' H3) := by
  unfold tYes
  exact iteT h
end L2
set_option Elab.async false
set_option linter.all false
set_option maxRecDepth 100000
namespace L2
open PySem PySem.Spec PyProof.Rows
section
variable {prog : Program} {w : World} {A : Around} {R : Result → Shared → Prop} {s : Shared}
end
def Acc (h : Heap) (D : Addr) (ys : List V) : Prop := ∃ (its : List Value) (k : Nat), Vals ys its ∧ h.get? D = some { cls := .type "list", data := .seq its.toArray k }
section
variable {X : Cx}
theorem Acc.pin {pins : List (Addr × Obj)} {σ : St} {H : Hp} {s : Shared} {D : Addr} {its : List Value} {k : Nat} (I : Inv X pins σ H s) (f : FpOk X pins H D) (e : s.heap.get? D = some { cls := .type "list", data := .seq its.toArray k }) : Inv X (pins ++ [(D, { cls := .type "list", data := .seq its.toArray k })]) σ H s :=
  I.pins_of fun p hp => (List.mem_append.mp hp).elim (fun z => I.pin p (List.mem_append_right _ z)) fun z => by
    have e' : p = (D, { cls := .type "list", data := .seq its.toArray k }) := by simpa using z
    subst e'
    exact ⟨e, f.1, f.2.1, f.2.2.1, fun v z => by cases z⟩
end
end L2
set_option Elab.async false
set_option linter.all false
set_option maxRecDepth 100000
namespace L2
open PySem PySem.Spec PyProof.Rows
section
variable {X : Cx} {N' : List Str} {M : List (Option Nat)} {scope : Scope} {tg elt iter tg2 iter2 : Expr} {ifs ifs2 : List Expr} {ks ks2 : List Nat} {pos : Pos} {g g2 : TG} {tc tc2 : TT} {te : TE} {wi wi2 : TI}
end
end L2
set_option Elab.async false
set_option linter.all false
set_option maxRecDepth 100000
namespace L2
open PySem PySem.W PyProof.Rows
def kRun {α : Type} (lt : Nat → Nat → Bool) : KasT α → α
  | .ret a => a
  | .ask i j k => kRun lt (k (lt i j))
theorem kRun_bind {α β : Type} (lt : Nat → Nat → Bool) (f : α → KasT β) : ∀ t : KasT α, kRun lt (t.bind f) = kRun lt (f (kRun lt t))
  | .ret a => rfl
  | .ask i j k => kRun_bind lt f (k (lt i j))
section
variable {r : Nat → Int}
def ltR (r : Nat → Int) (i j : Nat) : Bool := decide (r i < r j)
def ky (r : Nat → Int) (p : Array Nat) (k : Nat) : Int := r (p.getD k 0)
def UpTo (r : Nat → Int) (p : Array Nat) (k : Nat) : Prop := ∀ i j, i ≤ j → j < k → ky r p i ≤ ky r p j
def DnTo (r : Nat → Int) (p : Array Nat) (k : Nat) : Prop := ∀ i j, i ≤ j → j < k → ky r p j ≤ ky r p i
theorem gd {p : Array Nat} {k : Nat} : p.getD k 0 = (p[k]?).getD 0 := by rw [Array.getD_eq_getD_getElem?]
theorem ky_of {p q : Array Nat} {k j : Nat} (h : q[k]? = p[j]?) : ky r q k = ky r p j := by unfold ky; rw [gd, gd, h]
theorem ky_mirror {p : Array Nat} {i j : Nat} (hj : j ≤ p.size) (k : Nat) : ky r (kas_rev p i j) k = if i ≤ k ∧ k < j then ky r p (i + j - 1 - k) else ky r p k := by
  have e : (kas_rev p i j)[k]? = _ := getElem?_mirror_all (i := i) hj k
  by_cases h1 : i ≤ k ∧ k < j
  · rw [if_pos h1] at e ⊢; exact ky_of e
  · rw [if_neg h1] at e ⊢; exact ky_of e
theorem ky_bubble {p : Array Nat} {src d : Nat} (hs : src < p.size) (hd : d ≤ src) (k : Nat) : ky r (bubble p src d) k = if k = src - d then ky r p src else if src - d < k ∧ k ≤ src then ky r p (k - 1) else ky r p k := by
  have e := getElem?_bubble hs d hd k
  by_cases h1 : k = src - d
  · rw [if_pos h1] at e ⊢; exact ky_of e
  · rw [if_neg h1] at e ⊢
    by_cases h2 : src - d < k ∧ k ≤ src
    · rw [if_pos h2] at e ⊢; exact ky_of e
    · rw [if_neg h2] at e ⊢; exact ky_of e
theorem rev_size {p : Array Nat} {i j : Nat} : (kas_rev p i j).size = p.size := mirror_size _ _ _ _
theorem asc_spec {p : Array Nat} : ∀ (f n : Nat), 1 ≤ n → UpTo r p n → n ≤ kRun (ltR r) (kas_asc p f n) ∧ kRun (ltR r) (kas_asc p f n) ≤ n + f ∧ UpTo r p (kRun (ltR r) (kas_asc p f n)) ∧ (kRun (ltR r) (kas_asc p f n) = n + f ∨ ky r p (kRun (ltR r) (kas_asc p f n)) < ky r p (kRun (ltR r) (kas_asc p f n) - 1))
  | 0, n, h1, hu => ⟨Nat.le_refl _, Nat.le_refl _, hu, .inl rfl⟩
  | f + 1, n, h1, hu => by
    have e : kRun (ltR r) (kas_asc p (f + 1) n) = kRun (ltR r) (if ltR r (p.getD n 0) (p.getD (n - 1) 0) = true then .ret n else kas_asc p f (n + 1)) := rfl
    rw [e]
    by_cases c : ltR r (p.getD n 0) (p.getD (n - 1) 0) = true
    · rw [if_pos c]
      exact ⟨Nat.le_refl _, by show n ≤ n + (f + 1); omega, hu, .inr (of_decide_eq_true c)⟩
    · rw [if_neg c]
      have c' : ky r p (n - 1) ≤ ky r p n := Int.not_lt.mp fun z => c (decide_eq_true z)
      have hu' : UpTo r p (n + 1) := fun i j hij hj => by
        by_cases e : j = n
        · subst e
          by_cases e2 : i = j
          · subst e2; exact Int.le_refl _
          · exact Int.le_trans (hu i (j - 1) (by omega) (by omega)) c'
        · exact hu i j hij (by omega)
      obtain ⟨a, b, c1, d⟩ := asc_spec f (n + 1) (by omega) hu'
      refine ⟨by omega, by omega, c1, ?_⟩
      rcases d with d | d
      · exact .inl (by omega)
      · exact .inr d
theorem ky_rev_eq {p : Array Nat} {i j : Nat} (hj : j ≤ p.size) (he : ∀ k, i ≤ k → k < j → ky r p k = ky r p (j - 1)) (k : Nat) : ky r (kas_rev p i j) k = ky r p k := by
  rw [ky_mirror hj]
  split
  · rw [he _ (by omega) (by omega), he k (by omega) (by omega)]
  · rfl
theorem DnTo.congr {p q : Array Nat} {n : Nat} (h : DnTo r p n) (e : ∀ k, ky r q k = ky r p k) : DnTo r q n := fun i j a b => by rw [e, e]; exact h i j a b
theorem desc_spec : ∀ (f : Nat) (p : Array Nat) (n q : Nat), 1 ≤ n → n + f ≤ p.size → q + 1 ≤ n → DnTo r p n → (∀ k, n - (q + 1) ≤ k → k < n → ky r p k = ky r p (n - 1)) →
    let o := kRun (ltR r) (kas_desc f p n q)
    o.1.Perm p ∧ n ≤ o.2.1 ∧ o.2.1 ≤ n + f ∧ DnTo r o.1 o.2.1 ∧ o.2.2 + 1 ≤ o.2.1 ∧ (∀ k, o.2.1 - (o.2.2 + 1) ≤ k → k < o.2.1 → ky r o.1 k = ky r o.1 (o.2.1 - 1))
  | 0, p, n, q, h1, hn, hq, hd, he => ⟨Array.Perm.refl _, Nat.le_refl _, Nat.le_refl _, hd, hq, he⟩
  | f + 1, p, n, q, h1, hn, hq, hd, he => by
    have e : kRun (ltR r) (kas_desc (f + 1) p n q) = kRun (ltR r) (if ltR r (p.getD n 0) (p.getD (n - 1) 0) = true then (if q > 0 then kas_desc f (kas_rev p (n - (q + 1)) n) (n + 1) 0 else kas_desc f p (n + 1) 0)
      else .ask (p.getD (n - 1) 0) (p.getD n 0) fun d => if d = true then .ret (p, n, q) else kas_desc f p (n + 1) (q + 1)) := rfl
    intro o
    have eo : o = kRun (ltR r) (kas_desc (f + 1) p n q) := rfl
    rw [e] at eo
    by_cases c : ltR r (p.getD n 0) (p.getD (n - 1) 0) = true
    · rw [if_pos c] at eo
      have c' : ky r p n < ky r p (n - 1) := of_decide_eq_true c
      have dn : DnTo r p (n + 1) := fun i j hij hj => by
        by_cases e : j = n
        · subst e
          by_cases e2 : i = j
          · subst e2; exact Int.le_refl _
          · exact Int.le_trans (Int.le_of_lt c') (hd i (j - 1) (by omega) (by omega))
        · exact hd i j hij (by omega)
      by_cases hq0 : q > 0
      · rw [if_pos hq0] at eo
        have ek := ky_rev_eq (r := r) (p := p) (i := n - (q + 1)) (j := n) (by omega) he
        have := desc_spec f (kas_rev p (n - (q + 1)) n) (n + 1) 0 (by omega) (by rw [rev_size]; omega) (by omega) (dn.congr ek) (fun k a b => by rw [show k = n + 1 - 1 by omega])
        rw [eo]
        obtain ⟨a1, a2, a3, a4, a5, a6⟩ := this
        exact ⟨a1.trans (mirror_perm _ _ _ _), by omega, by omega, a4, a5, a6⟩
      · rw [if_neg hq0] at eo
        have := desc_spec f p (n + 1) 0 (by omega) (by omega) (by omega) dn (fun k a b => by rw [show k = n + 1 - 1 by omega])
        rw [eo]
        obtain ⟨a1, a2, a3, a4, a5, a6⟩ := this
        exact ⟨a1, by omega, by omega, a4, a5, a6⟩
    · rw [if_neg c] at eo
      have c' : ky r p (n - 1) ≤ ky r p n := Int.not_lt.mp fun z => c (decide_eq_true z)
      have e2 : kRun (ltR r) (.ask (p.getD (n - 1) 0) (p.getD n 0) fun d => if d = true then .ret (p, n, q) else kas_desc f p (n + 1) (q + 1)) = kRun (ltR r) (if ltR r (p.getD (n - 1) 0) (p.getD n 0) = true then .ret (p, n, q) else kas_desc f p (n + 1) (q + 1)) := rfl
      rw [e2] at eo
      by_cases d : ltR r (p.getD (n - 1) 0) (p.getD n 0) = true
      · rw [if_pos d] at eo
        rw [eo]
        exact ⟨Array.Perm.refl _, Nat.le_refl _, by show n ≤ n + (f + 1); omega, hd, hq, he⟩
      · rw [if_neg d] at eo
        have d' : ky r p n ≤ ky r p (n - 1) := Int.not_lt.mp fun z => d (decide_eq_true z)
        have ee : ky r p n = ky r p (n - 1) := Int.le_antisymm d' c'
        have dn : DnTo r p (n + 1) := fun i j hij hj => by
          by_cases e : j = n
          · subst e
            by_cases e2 : i = j
            · subst e2; exact Int.le_refl _
            · rw [ee]; exact hd i (j - 1) (by omega) (by omega)
          · exact hd i j hij (by omega)
        have := desc_spec f p (n + 1) (q + 1) (by omega) (by omega) (by omega) dn (fun k a b => by
          show ky r p k = ky r p n
          by_cases e : k = n
          · rw [e]
          · rw [he k (by omega) (by omega), ee])
        rw [eo]
        obtain ⟨a1, a2, a3, a4, a5, a6⟩ := this
        exact ⟨a1, by omega, by omega, a4, a5, a6⟩
theorem tail3_spec {p : Array Nat} {n nrem : Nat} (h1 : 1 ≤ n) (hn : n ≤ nrem) (hz : nrem ≤ p.size) (hd : DnTo r p n) :
    let o := kRun (ltR r) (kas_tail3 n nrem p)
    o.2.Perm p ∧ 1 ≤ o.1 ∧ o.1 ≤ nrem ∧ UpTo r o.2 o.1 := by
  intro o
  have eo : o = (kRun (ltR r) (kas_asc (kas_rev p 0 n) (nrem - n) n), kas_rev p 0 n) := by
    show kRun (ltR r) (kas_tail3 n nrem p) = _
    unfold kas_tail3
    rw [kRun_bind]; rfl
  have up : UpTo r (kas_rev p 0 n) n := fun i j hij hj => by
    rw [ky_mirror (by omega), ky_mirror (by omega), if_pos ⟨Nat.zero_le _, by omega⟩, if_pos ⟨Nat.zero_le _, hj⟩]
    exact hd _ _ (by omega) (by omega)
  obtain ⟨a, b, c, _⟩ := asc_spec (nrem - n) n h1 up
  rw [eo]
  exact ⟨mirror_perm _ _ _ _, by show 1 ≤ kRun _ _; omega, by show kRun _ _ ≤ nrem; omega, c⟩
theorem descPart_spec {p : Array Nat} {n nrem : Nat} (hn : n + 1 ≤ nrem) (hz : nrem ≤ p.size) (hd : DnTo r p (n + 1)) :
    let o := kRun (ltR r) (kas_descPart n nrem p)
    o.2.Perm p ∧ 1 ≤ o.1 ∧ o.1 ≤ nrem ∧ UpTo r o.2 o.1 := by
  intro o
  obtain ⟨a1, a2, a3, a4, a5, a6⟩ := desc_spec (r := r) (nrem - (n + 1)) p (n + 1) 0 (by omega) (by omega) (by omega) hd (fun k a b => by rw [show k = n + 1 - 1 by omega])
  have eo : o = kRun (ltR r) (let rr := kRun (ltR r) (kas_desc (nrem - (n + 1)) p (n + 1) 0); if rr.2.2 > 0 then kas_tail3 rr.2.1 nrem (kas_rev rr.1 (rr.2.1 - (rr.2.2 + 1)) rr.2.1) else kas_tail3 rr.2.1 nrem rr.1) := by
    show kRun (ltR r) (kas_descPart n nrem p) = _
    unfold kas_descPart
    rw [kRun_bind]
  dsimp only at eo
  generalize kRun (ltR r) (kas_desc (nrem - (n + 1)) p (n + 1) 0) = rr at eo a1 a2 a3 a4 a5 a6
  have hsz : rr.1.size = p.size := a1.size_eq
  by_cases hq : rr.2.2 > 0
  · rw [if_pos hq] at eo
    have ek := ky_rev_eq (r := r) (p := rr.1) (i := rr.2.1 - (rr.2.2 + 1)) (j := rr.2.1) (by omega) a6
    have := tail3_spec (r := r) (p := kas_rev rr.1 (rr.2.1 - (rr.2.2 + 1)) rr.2.1) (n := rr.2.1) (nrem := nrem) (by omega) (by omega) (by rw [rev_size]; omega) (a4.congr ek)
    rw [eo]
    exact ⟨(this.1.trans (mirror_perm _ _ _ _)).trans a1, this.2⟩
  · rw [if_neg hq] at eo
    have := tail3_spec (r := r) (p := rr.1) (n := rr.2.1) (nrem := nrem) (by omega) (by omega) (by omega) a4
    rw [eo]
    exact ⟨this.1.trans a1, this.2⟩
theorem count_spec {p : Array Nat} {nrem : Nat} (h1 : 1 ≤ nrem) (hz : nrem ≤ p.size) :
    let o := kRun (ltR r) (kas_count nrem p)
    o.2.Perm p ∧ 1 ≤ o.1 ∧ o.1 ≤ nrem ∧ UpTo r o.2 o.1 := by
  intro o
  have u1 : UpTo r p 1 := fun i j hij hj => by
    have : i = j := by omega
    rw [this]; exact Int.le_refl _
  obtain ⟨b1, b2, b3, b4⟩ := asc_spec (r := r) (p := p) (nrem - 1) 1 (Nat.le_refl _) u1
  have eo : o = kRun (ltR r) (let n := kRun (ltR r) (kas_asc p (nrem - 1) 1); if (n == nrem) = true then .ret (n, p) else if n > 1 then .ask (p.getD 0 0) (p.getD (n - 1) 0) fun c => if c = true then .ret (n, p) else kas_descPart n nrem (kas_rev p 0 n)
    else kas_descPart n nrem p) := by
    show kRun (ltR r) (kas_count nrem p) = _
    unfold kas_count
    rw [kRun_bind]
  dsimp only at eo
  generalize kRun (ltR r) (kas_asc p (nrem - 1) 1) = n at eo b1 b2 b3 b4
  by_cases e : (n == nrem) = true
  · rw [if_pos e] at eo
    rw [eo]
    exact ⟨Array.Perm.refl _, b1, by show n ≤ nrem; omega, b3⟩
  · rw [if_neg e] at eo
    have hne : n ≠ nrem := by simpa using e
    have hlt : ky r p n < ky r p (n - 1) := b4.resolve_left (by omega)
    have step : ∀ q : Array Nat, (∀ k, ky r q k = ky r p k) → (∀ k, k < n → ky r p k = ky r p (n - 1)) → DnTo r q (n + 1) := fun q hq he i j hij hj => by
      rw [hq, hq]
      by_cases e : j = n
      · subst e
        by_cases e2 : i = j
        · subst e2; exact Int.le_refl _
        · rw [he i (by omega)]; exact Int.le_of_lt hlt
      · rw [he i (by omega), he j (by omega)]; exact Int.le_refl _
    by_cases h2 : n > 1
    · rw [if_pos h2] at eo
      have e2 : kRun (ltR r) (.ask (p.getD 0 0) (p.getD (n - 1) 0) fun c => if c = true then .ret (n, p) else kas_descPart n nrem (kas_rev p 0 n)) = kRun (ltR r) (if ltR r (p.getD 0 0) (p.getD (n - 1) 0) = true then .ret (n, p) else kas_descPart n nrem (kas_rev p 0 n)) := rfl
      rw [e2] at eo
      by_cases c : ltR r (p.getD 0 0) (p.getD (n - 1) 0) = true
      · rw [if_pos c] at eo
        rw [eo]
        exact ⟨Array.Perm.refl _, b1, by show n ≤ nrem; omega, b3⟩
      · rw [if_neg c] at eo
        have c' : ky r p (n - 1) ≤ ky r p 0 := Int.not_lt.mp fun z => c (decide_eq_true z)
        have he : ∀ k, k < n → ky r p k = ky r p (n - 1) := fun k hk => Int.le_antisymm (b3 k (n - 1) (by omega) (by omega)) (Int.le_trans c' (b3 0 k (Nat.zero_le _) hk))
        have ek := ky_rev_eq (r := r) (p := p) (i := 0) (j := n) (by omega) (fun k _ hk => he k hk)
        have := descPart_spec (r := r) (p := kas_rev p 0 n) (n := n) (nrem := nrem) (by omega) (by rw [rev_size]; exact hz) (step _ ek he)
        rw [eo]
        exact ⟨this.1.trans (mirror_perm _ _ _ _), this.2⟩
    · rw [if_neg h2] at eo
      have := descPart_spec (r := r) (p := p) (n := n) (nrem := nrem) (by omega) hz (step p (fun _ => rfl) fun k hk => by rw [show k = n - 1 by omega])
      rw [eo]
      exact this
theorem place_spec {p : Array Nat} {k : Nat} (hu : UpTo r p k) : ∀ (f l rr : Nat), l ≤ rr → rr ≤ k → rr - l ≤ f → (∀ i, i < l → ky r p i ≤ ky r p k) → (∀ i, rr ≤ i → i < k → ky r p k < ky r p i) →
    let o := kRun (ltR r) (kas_place p k f l rr)
    o ≤ k ∧ (∀ i, i < o → ky r p i ≤ ky r p k) ∧ (∀ i, o ≤ i → i < k → ky r p k < ky r p i)
  | 0, l, rr, hl, hr, hf, h1, h2 => ⟨by show l ≤ k; omega, h1, fun i a b => h2 i (by have : l ≤ i := a; omega) b⟩
  | f + 1, l, rr, hl, hr, hf, h1, h2 => by
    intro o
    have eo : o = kRun (ltR r) (if l ≥ rr then .ret l else .ask (p.getD k 0) (p.getD ((l + rr) / 2) 0) fun c => if c = true then kas_place p k f l ((l + rr) / 2) else kas_place p k f ((l + rr) / 2 + 1) rr) := rfl
    by_cases e : l ≥ rr
    · rw [if_pos e] at eo
      have eo : o = l := eo
      rw [eo]
      exact ⟨by omega, h1, fun i a b => h2 i (by omega) b⟩
    · rw [if_neg e] at eo
      have e2 : o = kRun (ltR r) (if ltR r (p.getD k 0) (p.getD ((l + rr) / 2) 0) = true then kas_place p k f l ((l + rr) / 2) else kas_place p k f ((l + rr) / 2 + 1) rr) := eo
      by_cases c : ltR r (p.getD k 0) (p.getD ((l + rr) / 2) 0) = true
      · rw [if_pos c] at e2
        have c' : ky r p k < ky r p ((l + rr) / 2) := of_decide_eq_true c
        rw [e2]
        refine place_spec hu f l ((l + rr) / 2) (by omega) (by omega) (by omega) h1 fun i a b => ?_
        exact Int.lt_of_lt_of_le c' (hu _ _ a b)
      · rw [if_neg c] at e2
        have c' : ky r p ((l + rr) / 2) ≤ ky r p k := Int.not_lt.mp fun z => c (decide_eq_true z)
        rw [e2]
        refine place_spec hu f ((l + rr) / 2 + 1) rr (by omega) (by omega) (by omega) (fun i a => ?_) h2
        exact Int.le_trans (hu _ _ (by omega) (by omega)) c'
theorem bin_spec : ∀ (f : Nat) (p : Array Nat) (k : Nat), k + f ≤ p.size → UpTo r p k →
    let o := kRun (ltR r) (kas_bin f p k)
    o.Perm p ∧ UpTo r o (k + f)
  | 0, p, k, hz, hu => ⟨Array.Perm.refl _, hu⟩
  | f + 1, p, k, hz, hu => by
    intro o
    have eo : o = kRun (ltR r) (kas_bin f (bubble p k (k - kRun (ltR r) (kas_place p k k 0 k))) (k + 1)) := by
      show kRun (ltR r) ((kas_place p k k 0 k).bind fun l => kas_bin f (bubble p k (k - l)) (k + 1)) = _
      rw [kRun_bind]
    obtain ⟨l0, l1, l2⟩ := place_spec (r := r) (p := p) (k := k) hu k 0 k (Nat.zero_le _) (Nat.le_refl _) (by omega) (fun i a => absurd a (by omega)) (fun i a b => absurd a (by omega))
    generalize kRun (ltR r) (kas_place p k k 0 k) = l at eo l0 l1 l2
    have kb := ky_bubble (r := r) (p := p) (src := k) (d := k - l) (by omega) (by omega)
    rw [show k - (k - l) = l by omega] at kb
    have up : UpTo r (bubble p k (k - l)) (k + 1) := fun i j hij hj => by
      rw [kb, kb]
      by_cases ei : i = l
      · rw [if_pos ei]
        by_cases ej : j = l
        · rw [if_pos ej]; exact Int.le_refl _
        · rw [if_neg ej, if_pos ⟨by omega, by omega⟩]
          exact Int.le_of_lt (l2 _ (by omega) (by omega))
      · rw [if_neg ei]
        by_cases hi : l < i ∧ i ≤ k
        · rw [if_pos hi, if_neg (by omega), if_pos ⟨by omega, by omega⟩]
          exact hu _ _ (by omega) (by omega)
        · rw [if_neg hi]
          have hil : i < l := by omega
          by_cases ej : j = l
          · rw [if_pos ej]; exact l1 i hil
          · rw [if_neg ej]
            by_cases hj2 : l < j ∧ j ≤ k
            · rw [if_pos hj2]; exact hu _ _ (by omega) (by omega)
            · rw [if_neg hj2]; exact hu _ _ hij (by omega)
    obtain ⟨q1, q2⟩ := bin_spec f (bubble p k (k - l)) (k + 1) (by rw [bubble_size]; omega) up
    rw [eo]
    exact ⟨q1.trans (bubble_perm _ _ _), by rw [show k + (f + 1) = k + 1 + f by omega]; exact q2⟩
theorem sort_spec {n : Nat} (h1 : 1 ≤ n) :
    let o := kRun (ltR r) (kas_sort n)
    o.Perm (List.toArray (List.range n)) ∧ UpTo r o n := by
  intro o
  obtain ⟨a1, a2, a3, a4⟩ := count_spec (r := r) (p := List.toArray (List.range n)) (nrem := n) h1 (by simp)
  have eo : o = kRun (ltR r) (let rr := kRun (ltR r) (kas_count n (List.toArray (List.range n))); if rr.1 < n then kas_bin (n - max rr.1 1) rr.2 (max rr.1 1) else .ret rr.2) := by
    show kRun (ltR r) (kas_sort n) = _
    unfold kas_sort
    rw [kRun_bind]
  dsimp only at eo
  generalize kRun (ltR r) (kas_count n (List.toArray (List.range n))) = rr at eo a1 a2 a3 a4
  have hsz : rr.2.size = n := by rw [a1.size_eq]; simp
  by_cases h : rr.1 < n
  · rw [if_pos h] at eo
    have em : max rr.1 1 = rr.1 := by omega
    rw [em] at eo
    have := bin_spec (r := r) (n - rr.1) rr.2 rr.1 (by omega) a4
    rw [eo]
    exact ⟨this.1.trans a1, by have := this.2; rw [show rr.1 + (n - rr.1) = n by omega] at this; exact this⟩
  · rw [if_neg h] at eo
    rw [eo]
    exact ⟨a1, by have : rr.1 = n := by omega
                  rw [this] at a4; exact a4⟩
end
end L2
set_option Elab.async false
set_option linter.all false
set_option maxRecDepth 100000
namespace L2
open PySem PySem.Spec PyProof.Rows
structure Door (P : Program) (w : World) (K : PySem.W.Frag) (mg : Str → Option Value) (base : Heap) (k : Nat) (f : Addr) (sp : Sp) : Prop where
  ex : ∃ fd ps, FnOk P w K mg base (CXE P w) k f fd ps sp ∧ PySem.W.keepIn K (.ref f) = true ∧ Binds K fd ps []
end L2
set_option Elab.async false
set_option linter.all false
namespace L2
open PySem
end L2
set_option Elab.async false
set_option linter.all false
namespace L2
open PySem
end L2
namespace L2
open PySem
end L2
set_option Elab.async false
set_option linter.all false
namespace L2
open PySem
def hdL (ws : List Int) (k : Nat) : Int := (((lotN ws (k : Int) ws.length).headD 0 : Nat) : Int)
def tlL (ws : List Int) (k : Nat) : Int := (((lotN ws (k : Int) ws.length).getLastD 0 : Nat) : Int)
def lieS (a0 a1 b0 b1 : Int) : Str := if a0 = b0 ∧ a1 = b1 then "same" else if a1 < b0 ∨ b1 < a0 then "apart" else if b0 < a0 ∧ a1 < b1 then "inside" else if a0 < b0 ∧ b1 < a1 then "around" else "crossing"
end L2
set_option Elab.async false
set_option linter.all false
set_option maxRecDepth 100000
namespace L2
open PySem PySem.Spec PyProof.Rows
section
variable {X : Cx} {K : PySem.W.Frag}
end
end L2
set_option Elab.async false
set_option linter.all false
namespace L2
open PySem
def ovRow (ws vs : List Int) (k : Nat) : List Int := (List.range (fresh 0 vs).toNat).map fun (m : Nat) => (((lotN ws (k : Int) ws.length).filter fun j => decide (vs.getD j 0 = (m : Int))).length : Int)
def ovT (ws vs : List Int) : List (List Int) := (List.range (fresh 0 ws).toNat).map fun k => ovRow ws vs k
theorem ovT_length (ws vs : List Int) : (ovT ws vs).length = (fresh 0 ws).toNat := by unfold ovT; simp
theorem ovRow_length (ws vs : List Int) (k : Nat) : (ovRow ws vs k).length = (fresh 0 vs).toNat := by unfold ovRow; simp
theorem ovT_at {ws vs : List Int} {k : Nat} (h : k < (fresh 0 ws).toNat) : (ovT ws vs)[k]? = some (ovRow ws vs k) := by unfold ovT; rw [List.getElem?_map, List.getElem?_range h]; rfl
theorem ovRow_at {ws vs : List Int} {k m : Nat} (h : m < (fresh 0 vs).toNat) : (ovRow ws vs k)[m]? = some (((lotN ws (k : Int) ws.length).filter fun j => decide (vs.getD j 0 = (m : Int))).length : Int) := by unfold ovRow; rw [List.getElem?_map, List.getElem?_range h]; rfl
theorem ov_in {vs : List Int} {m z : Nat} (hz : z < vs.length) : inV (V.int (z : Int)) ((lotL vs (m : Int) vs.length).map V.int) = decide (vs.getD z 0 = (m : Int)) := by
  unfold inV
  rw [List.any_map, Bool.eq_iff_iff, List.any_eq_true, decide_eq_true_iff]
  unfold lotL
  constructor
  · rintro ⟨y, hy, e⟩
    obtain ⟨j, hj, rfl⟩ := List.mem_map.mp hy
    have : j = z := by
      have : ((j : Int) == (z : Int)) = true := e
      have := beq_iff_eq.mp this
      omega
    subst this
    exact (mem_lotN.mp hj).2
  · intro h
    exact ⟨(z : Int), List.mem_map.mpr ⟨z, mem_lotN.mpr ⟨hz, h⟩, rfl⟩, by show ((z : Int) == (z : Int)) = true; simp⟩
theorem flat_ints (s : List Int) : (s.map V.int).all flatV = true := by rw [List.all_map]; exact List.all_eq_true.mpr fun _ _ => rfl
theorem paired_snoc_take {R : Addr → List Int → Prop} {rs : List Addr} {t : List (List Int)} {j : Nat} {r : Addr} {xs : List Int} (h : Paired R rs (t.take j)) (ht : t[j]? = some xs) (hr : R r xs) : Paired R (rs ++ [r]) (t.take (j + 1)) := by
  rw [take_snoc ht]; exact Paired.snoc h hr
end L2
namespace L2
theorem ixN_pos {n : Nat} {i : Int} (h0 : 0 ≤ i) (h1 : i < n) : ixN n i = some i.toNat := by unfold ixN; rw [if_pos h0, if_pos h1]
end L2
set_option Elab.async false
set_option linter.all false
set_option maxRecDepth 100000
namespace L2
open PySem PySem.Spec PyProof.Rows
section
variable {X : Cx} {K : PySem.W.Frag}
abbrev TsAt (K : PySem.W.Frag) (H : Hp) (ps : List Addr) (xss : List (List Int)) : Prop := Paired (fun a (xs : List Int) => SqT K H a (xs.map V.int)) ps xss
theorem ts_get {H : Hp} : ∀ {l1 : List Addr} {l2 : List (List Int)} {j : Nat} {a : Addr}, TsAt K H l1 l2 → l1[j]? = some a → ∃ b, SqT K H a (b.map V.int) ∧ l2[j]? = some b := by
  intro l1 l2 j a h e
  induction h generalizing j with
  | nil => simp at e
  | cons r t ih =>
    cases j with
    | zero => simp at e; subst e; exact ⟨_, r, rfl⟩
    | succ j => obtain ⟨b, q, e2⟩ := ih (by simpa using e); exact ⟨b, q, by simpa using e2⟩
end
end L2
set_option Elab.async false
set_option linter.all false
set_option maxRecDepth 100000
namespace L2
open PySem
end L2
set_option Elab.async false
set_option linter.all false
set_option maxRecDepth 100000
namespace L2
open PySem PySem.Spec PyProof.Rows
section
variable {X : Cx} {K : PySem.W.Frag}
end
end L2
set_option Elab.async false
set_option linter.all false
set_option maxRecDepth 100000
namespace L2
open PySem
end L2
set_option Elab.async false
set_option linter.all false
set_option maxRecDepth 100000
namespace L2
open PySem PySem.Spec PyProof.Rows
section
variable {X : Cx}
def PlT (H : Hp) (a : Addr) (xs : List V) : Prop := ∃ ob : Obj, ob.dict = none ∧ H a = some (.frz ob (.tup xs))
theorem PlT.sq {K : PySem.W.Frag} {H : Hp} {a : Addr} {xs : List V} (h : PlT H a xs) : SqT K H a xs := by
  obtain ⟨ob, _, h⟩ := h
  exact .inl (.inr ⟨ob, h⟩)
theorem PlT.same {H H' : Hp} {a : Addr} {xs : List V} (h : PlT H a xs) (s : Same H H') : PlT H' a xs := by
  obtain ⟨ob, h1, h⟩ := h
  exact ⟨ob, h1, s a _ h⟩
end
abbrev TuAt (H : Hp) (ps : List Addr) (xss : List (List Int)) : Prop := Paired (fun a (xs : List Int) => H a = some (.tup (xs.map V.int))) ps xss
theorem tu_get {H : Hp} : ∀ {l1 : List Addr} {l2 : List (List Int)} {j : Nat} {a : Addr}, TuAt H l1 l2 → l1[j]? = some a → ∃ b, H a = some (.tup (b.map V.int)) ∧ l2[j]? = some b := by
  intro l1 l2 j a h e
  induction h generalizing j with
  | nil => simp at e
  | cons r t ih =>
    cases j with
    | zero => simp at e; subst e; exact ⟨_, r, rfl⟩
    | succ j => obtain ⟨b, q, e2⟩ := ih (by simpa using e); exact ⟨b, q, by simpa using e2⟩
end L2
set_option Elab.async false
set_option linter.all false
set_option maxRecDepth 100000
namespace L2
open PySem
def suitsB (ar cr : Nat → Nat → Bool) (C : List Int) (h : Int) : Bool :=
  (List.range C.length).all fun k => !(ar k C.length && decide (C.getD k 0 ≤ h)) && !(cr k C.length && decide (C.getD k 0 = h))
def comp (ar cr : Nat → Nat → Bool) (n g : Nat) : Nat → List Int → Option (List Int)
  | 0, _ => none
  | d + 1, C => if C.length = n then some C else
      (List.range g).findSome? fun (h : Nat) => if suitsB ar cr C ((h : Int) + 1) then comp ar cr n g d (C ++ [(h : Int) + 1]) else none
variable {ar cr : Nat → Nat → Bool} {n g : Nat}
def IsH (ar cr : Nat → Nat → Bool) (n : Nat) (F : List Int) : Prop := ∃ g, 1 ≤ g ∧ comp ar cr n g (n + 1) [] = some F ∧ ∀ g', 1 ≤ g' → g' < g → comp ar cr n g' (n + 1) [] = none
theorem IsH.uniq {F G : List Int} (a : IsH ar cr n F) (b : IsH ar cr n G) : F = G := by
  obtain ⟨g, g1, e1, l1⟩ := a
  obtain ⟨h, h1, e2, l2⟩ := b
  rcases Nat.lt_trichotomy g h with z | z | z
  · rw [l2 g g1 z] at e1; cases e1
  · subst z; rw [e1] at e2; exact Option.some.inj e2
  · rw [l1 h h1 z] at e2; cases e2
def arW (ws : List Int) (k j : Nat) : Bool := decide (lieS (hdL ws k) (tlL ws k) (hdL ws j) (tlL ws j) = "around")
def crW (ws : List Int) (k j : Nat) : Bool := decide (lieS (hdL ws k) (tlL ws k) (hdL ws j) (tlL ws j) = "crossing")
def SpanAt (H : Hp) (p : Addr) (ps : List Addr) (ws : List Int) : Prop := H p = some (.lst (ps.map V.ref)) ∧ ps.length = (fresh 0 ws).toNat ∧ ∀ (k : Nat) q, ps[k]? = some q → H q = some (.tup [.int (hdL ws k), .int (tlL ws k)])
theorem SpanAt.same {H H' : Hp} {p : Addr} {ps : List Addr} {ws : List Int} (h : SpanAt H p ps ws) (s : Same H H') : SpanAt H' p ps ws := ⟨s p _ h.1, h.2.1, fun k q e => s q _ (h.2.2 k q e)⟩
theorem SpanAt.at {H : Hp} {p : Addr} {ps : List Addr} {ws : List Int} (h : SpanAt H p ps ws) {k : Nat} (hk : k < (fresh 0 ws).toNat) : ∃ q, ps[k]? = some q ∧ H q = some (.tup [.int (hdL ws k), .int (tlL ws k)]) := by
  have hl := h.2.1
  have e := List.getElem?_eq_getElem (show k < ps.length by omega)
  exact ⟨_, e, h.2.2 k _ e⟩
end L2
namespace L2
open PySem PySem.Spec PyProof.Rows
section
variable {X : Cx} {K : PySem.W.Frag}
end
end L2
set_option Elab.async false
set_option linter.all false
set_option maxRecDepth 100000
namespace L2
open PySem
variable {ar cr : Nat → Nat → Bool} {n g : Nat}
theorem filt_lt {p q : Nat → Bool} : ∀ (l : List Nat), (∀ x ∈ l, q x = true → p x = true) → ∀ k ∈ l, p k = true → q k = false → (l.filter q).length + 1 ≤ (l.filter p).length
  | [], _, k, hk, _, _ => by simp at hk
  | a :: l, h, k, hk, hp, hq => by
    have le : ∀ (l : List Nat), (∀ x ∈ l, q x = true → p x = true) → (l.filter q).length ≤ (l.filter p).length := by
      intro l
      induction l with
      | nil => intro _; simp
      | cons b l ih =>
        intro h
        have := ih fun x hx => h x (List.mem_cons_of_mem _ hx)
        rw [List.filter_cons, List.filter_cons]
        by_cases hb : q b = true
        · rw [if_pos hb, if_pos (h b List.mem_cons_self hb)]; simpa using this
        · rw [if_neg hb]; split
          · rw [List.length_cons]; omega
          · exact this
    rw [List.filter_cons, List.filter_cons]
    rcases List.mem_cons.mp hk with e | hk
    · subst e
      rw [if_pos hp, hq, if_neg (by simp), List.length_cons]
      have := le l fun x hx => h x (List.mem_cons_of_mem _ hx)
      omega
    · have := filt_lt l (fun x hx => h x (List.mem_cons_of_mem _ hx)) k hk hp hq
      by_cases hb : q a = true
      · rw [if_pos hb, if_pos (h a List.mem_cons_self hb), List.length_cons, List.length_cons]; omega
      · rw [if_neg hb]; split
        · rw [List.length_cons]; omega
        · exact this
abbrev LhAt (H : Hp) (ps : List Addr) (xss : List (List Int)) : Prop := Paired (fun a (xs : List Int) => H a = some (.lst (xs.map V.int))) ps xss
theorem LhAt.same {H H' : Hp} {ps : List Addr} {xss : List (List Int)} (h : LhAt H ps xss) (s : Same H H') : LhAt H' ps xss := L2.Paired.mapP h fun a xs z => s a _ z
end L2
set_option Elab.async false
set_option linter.all false
set_option maxRecDepth 100000
namespace L2
open PySem PySem.W PyProof.Rows
def KIn {α : Type} (n : Nat) (P : α → Prop) : KasT α → Prop
  | .ret a => P a
  | .ask i j k => i < n ∧ j < n ∧ ∀ b, KIn n P (k b)
theorem KIn.bind {α β : Type} {n : Nat} {P : α → Prop} {Q : β → Prop} {f : α → KasT β} : ∀ {t : KasT α}, KIn n P t → (∀ a, P a → KIn n Q (f a)) → KIn n Q (t.bind f)
  | .ret a, h, hf => hf a h
  | .ask i j k, h, hf => ⟨h.1, h.2.1, fun b => KIn.bind (h.2.2 b) hf⟩
def AllIn (n : Nat) (p : Array Nat) : Prop := ∀ k, p.getD k 0 < n
theorem AllIn.perm {n : Nat} {p q : Array Nat} (h : AllIn n p) (e : q.Perm p) (hn : 0 < n) : AllIn n q := fun k => by
  rw [gd]
  cases hk : q[k]? with
  | none => exact hn
  | some x =>
    have hx : x ∈ q := Array.mem_of_getElem? hk
    have hx' : x ∈ p := e.mem_iff.mp hx
    obtain ⟨j, hj⟩ := Array.mem_iff_getElem?.mp hx'
    have := h j
    rw [gd, hj] at this
    exact this
variable {n : Nat}
theorem kin_asc {p : Array Nat} (h : AllIn n p) : ∀ (f m : Nat), KIn n (fun _ => True) (kas_asc p f m)
  | 0, m => trivial
  | f + 1, m => ⟨h _, h _, fun b => by
      show KIn n _ (if b = true then _ else _)
      split
      · trivial
      · exact kin_asc h f (m + 1)⟩
theorem kin_desc (hn : 0 < n) : ∀ (f : Nat) (p : Array Nat) (m q : Nat), AllIn n p → KIn n (fun o => AllIn n o.1) (kas_desc f p m q)
  | 0, p, m, q, h => h
  | f + 1, p, m, q, h => ⟨h _, h _, fun b => by
      show KIn n _ (if b = true then _ else _)
      split
      · split
        · exact kin_desc hn f _ _ _ (h.perm (mirror_perm _ _ _ _) hn)
        · exact kin_desc hn f _ _ _ h
      · refine ⟨h _, h _, fun d => ?_⟩
        show KIn n _ (if d = true then _ else _)
        split
        · exact h
        · exact kin_desc hn f _ _ _ h⟩
theorem kin_tail3 (hn : 0 < n) {p : Array Nat} {m nrem : Nat} (h : AllIn n p) : KIn n (fun o => AllIn n o.2) (kas_tail3 m nrem p) := by
  have h' : AllIn n (kas_rev p 0 m) := h.perm (mirror_perm _ _ _ _) hn
  exact (kin_asc h' _ _).bind fun a _ => h'
theorem kin_descPart (hn : 0 < n) {p : Array Nat} {m nrem : Nat} (h : AllIn n p) : KIn n (fun o => AllIn n o.2) (kas_descPart m nrem p) :=
  (kin_desc hn _ p _ _ h).bind fun a ha => by
    split
    · exact kin_tail3 hn (ha.perm (mirror_perm _ _ _ _) hn)
    · exact kin_tail3 hn ha
theorem kin_count (hn : 0 < n) {p : Array Nat} {nrem : Nat} (h : AllIn n p) : KIn n (fun o => AllIn n o.2) (kas_count nrem p) :=
  (kin_asc h _ _).bind fun a _ => by
    split
    · exact h
    · split
      · refine ⟨h _, h _, fun b => ?_⟩
        show KIn n _ (if b = true then _ else _)
        split
        · exact h
        · exact kin_descPart hn (h.perm (mirror_perm _ _ _ _) hn)
      · exact kin_descPart hn h
theorem kin_place {p : Array Nat} {k : Nat} (h : AllIn n p) : ∀ (f l r : Nat), KIn n (fun _ => True) (kas_place p k f l r)
  | 0, l, r => trivial
  | f + 1, l, r => by
    show KIn n _ (if l ≥ r then _ else _)
    split
    · trivial
    · refine ⟨h _, h _, fun b => ?_⟩
      show KIn n _ (if b = true then _ else _)
      split
      · exact kin_place h f _ _
      · exact kin_place h f _ _
theorem kin_bin (hn : 0 < n) : ∀ (f : Nat) (p : Array Nat) (k : Nat), AllIn n p → KIn n (fun _ => True) (kas_bin f p k)
  | 0, p, k, h => trivial
  | f + 1, p, k, h => (kin_place h _ _ _).bind fun l _ => kin_bin hn f _ _ (h.perm (bubble_perm _ _ _) hn)
theorem kin_sort (hn : 0 < n) : KIn n (fun _ => True) (kas_sort n) := by
  have h : AllIn n (List.toArray (List.range n)) := fun k => by
    rw [gd]
    by_cases hk : k < n
    · rw [List.getElem?_toArray, List.getElem?_range hk]; exact hk
    · rw [List.getElem?_toArray, List.getElem?_eq_none (by simpa using hk)]; exact hn
  exact (kin_count hn h).bind fun a ha => by
    split
    · exact kin_bin hn _ _ _ ha
    · trivial
theorem kWp_runIn {α : Type} {P : α → Prop} {cmp : Nat → Nat → (Bool → Shared → Prop) → Shared → Prop} {lt : Nat → Nat → Bool} {s : Shared} {Q : α → Shared → Prop} (hc : ∀ i j (C : Bool → Shared → Prop), i < n → j < n → C (lt i j) s → cmp i j C s) : ∀ t : KasT α, KIn n P t → Q (kRun lt t) s → t.kasWp cmp Q s
  | .ret a, _, h => h
  | .ask i j k, hi, h => hc i j _ hi.1 hi.2.1 (kWp_runIn hc (k (lt i j)) (hi.2.2 _) h)
theorem lexLt_irrefl : ∀ xs : List Int, HT.lexLt xs xs = false
  | [] => rfl
  | x :: xs => by rw [HT.lexLt_cons, if_pos rfl]; exact lexLt_irrefl xs
theorem lexLt_trans : ∀ xs ys zs : List Int, HT.lexLt xs ys = true → HT.lexLt ys zs = true → HT.lexLt xs zs = true
  | [], [], zs, h, _ => by rw [HT.lexLt_nil_nil] at h; cases h
  | [], y :: ys, [], _, h => by rw [HT.lexLt_cons_nil] at h; cases h
  | [], y :: ys, z :: zs, _, _ => HT.lexLt_nil_cons _ _
  | x :: xs, [], zs, h, _ => by rw [HT.lexLt_cons_nil] at h; cases h
  | x :: xs, y :: ys, [], _, h => by rw [HT.lexLt_cons_nil] at h; cases h
  | x :: xs, y :: ys, z :: zs, h1, h2 => by
    rw [HT.lexLt_cons] at h1 h2 ⊢
    by_cases e1 : x = y
    · subst e1
      rw [if_pos rfl] at h1
      by_cases e2 : x = z
      · rw [if_pos e2] at h2 ⊢; exact lexLt_trans _ _ _ h1 h2
      · rw [if_neg e2] at h2 ⊢; exact h2
    · rw [if_neg e1] at h1
      have h1 := of_decide_eq_true h1
      by_cases e2 : y = z
      · subst e2
        rw [if_neg e1]; exact decide_eq_true h1
      · rw [if_neg e2] at h2
        have h2 := of_decide_eq_true h2
        rw [if_neg (by omega)]; exact decide_eq_true (by omega)
theorem lexLt_total : ∀ xs ys : List Int, HT.lexLt xs ys = false → HT.lexLt ys xs = false → xs = ys
  | [], [], _, _ => rfl
  | [], y :: ys, h, _ => by rw [HT.lexLt_nil_cons] at h; cases h
  | x :: xs, [], _, h => by rw [HT.lexLt_nil_cons] at h; cases h
  | x :: xs, y :: ys, h1, h2 => by
    rw [HT.lexLt_cons] at h1 h2
    by_cases e : x = y
    · subst e
      rw [if_pos rfl] at h1 h2
      rw [lexLt_total _ _ h1 h2]
    · rw [if_neg e] at h1
      rw [if_neg (fun z => e z.symm)] at h2
      have h1 := of_decide_eq_false h1
      have h2 := of_decide_eq_false h2
      omega
def lexRk (xss : List (List Int)) (i : Nat) : Int := (((List.range xss.length).filter fun k => HT.lexLt (xss.getD k []) (xss.getD i [])).length : Int)
theorem lexRk_lt {xss : List (List Int)} {i j : Nat} (hi : i < xss.length) : decide (lexRk xss i < lexRk xss j) = HT.lexLt (xss.getD i []) (xss.getD j []) := by
  cases h : HT.lexLt (xss.getD i []) (xss.getD j []) with
  | true =>
    refine decide_eq_true ?_
    have := filt_lt (p := fun k => HT.lexLt (xss.getD k []) (xss.getD j [])) (q := fun k => HT.lexLt (xss.getD k []) (xss.getD i [])) (List.range xss.length) (fun x _ hx => lexLt_trans _ _ _ hx h) i (List.mem_range.mpr hi) h (lexLt_irrefl _)
    unfold lexRk
    omega
  | false =>
    refine decide_eq_false (Int.not_lt.mpr ?_)
    unfold lexRk
    refine Int.ofNat_le.mpr ?_
    have le : ∀ (l : List Nat) (p q : Nat → Bool), (∀ x ∈ l, q x = true → p x = true) → (l.filter q).length ≤ (l.filter p).length := by
      intro l p q
      induction l with
      | nil => intro _; simp
      | cons b l ih =>
        intro h
        have := ih fun x hx => h x (List.mem_cons_of_mem _ hx)
        rw [List.filter_cons, List.filter_cons]
        by_cases hb : q b = true
        · rw [if_pos hb, if_pos (h b List.mem_cons_self hb)]; simpa using this
        · rw [if_neg hb]; split
          · rw [List.length_cons]; omega
          · exact this
    refine le _ _ _ fun x _ hx => ?_
    cases h2 : HT.lexLt (xss.getD x []) (xss.getD i []) with
    | true => rfl
    | false =>
      cases h3 : HT.lexLt (xss.getD i []) (xss.getD x []) with
      | true => rw [lexLt_trans _ _ _ h3 hx] at h; cases h
      | false =>
        have e := lexLt_total _ _ h2 h3
        rw [e] at hx
        rw [hx] at h; cases h
def RowsUp (yss : List (List Int)) : Prop := yss.Pairwise fun a b => HT.lexLt b a = false
theorem rows_sorted {xss : List (List Int)} (h1 : 1 ≤ xss.length) : let o := (kRun (ltR (lexRk xss)) (kas_sort xss.length)).toList
    o.Perm (List.range xss.length) ∧ RowsUp (o.map fun i => xss.getD i []) := by
  intro o
  obtain ⟨hp, hu⟩ := sort_spec (r := lexRk xss) h1
  have hp' : o.Perm (List.range xss.length) := by
    have := hp.toList
    simpa using this
  refine ⟨hp', ?_⟩
  unfold RowsUp
  rw [List.pairwise_map, List.pairwise_iff_getElem]
  intro i j hi hj hij
  have hlen : o.length = xss.length := by rw [hp'.length_eq, List.length_range]
  have mem : ∀ k (hk : k < o.length), o[k] < xss.length := fun k hk => List.mem_range.mp (hp'.mem_iff.mp (List.getElem_mem hk))
  have ek : ∀ k (hk : k < o.length), ky (lexRk xss) (kRun (ltR (lexRk xss)) (kas_sort xss.length)) k = lexRk xss o[k] := fun k hk => by
    unfold ky
    rw [gd, ← Array.getElem?_toList, List.getElem?_eq_getElem hk]; rfl
  have := hu i j (by omega) (by omega)
  rw [ek i hi, ek j hj] at this
  rw [← lexRk_lt (mem j hj)]
  exact decide_eq_false (Int.not_lt.mpr this)
end L2
set_option Elab.async false
set_option linter.all false
set_option maxRecDepth 100000
namespace L2
open PySem PySem.Spec PyProof.Rows
section
variable {X : Cx} {K : PySem.W.Frag}
theorem Inv.layK {pins : List (Addr × Obj)} {σ : St} {H : Hp} {s : Shared} {h' : Heap} {m : Str → Option Value} {D : Addr} {ys : List V} {out : List Value} {c t' : Nat} (I : Inv X pins σ H s) (hm : s.heap.Ns X.env.locals m) (F' : Fr X.base X.env.locals h' m)
    (N' : News X.base X.env.locals h' ((D, { cls := .type "list", data := .seq out.toArray c }) :: allNews X.base s.heap X.env.locals)) (hD : ∀ q ∈ allNews X.base s.heap X.env.locals, q.1 < D) (hv : Vals ys out) (hz : ys.length ≤ sizeLine) :
    H D = none ∧ Inv X pins σ (upd H D (.lst ys)) { s with heap := h', toks := t' } := by
  obtain ⟨eD, nD, bD⟩ := N' _ List.mem_cons_self
  have keep : ∀ b o, b ≠ X.env.locals → s.heap.get? b = some o → h'.get? b = some o := fun b o hb e => by
    cases q : X.base.get? b with
    | some u =>
      have := I.bk b u q
      rw [e] at this; cases this
      exact F'.keep b _ q
    | none => exact (N' (b, o) (List.mem_cons_of_mem _ (mem_allNews hb q e))).1
  have newD : ∀ o, s.heap.get? D ≠ some o := fun o e => absurd (hD (D, o) (mem_allNews nD bD e)) (Nat.lt_irrefl _)
  have hDn : H D = none := by
    cases q : H D with
    | none => rfl
    | some u => obtain ⟨ob, e⟩ := (I.hok D u q).get; exact absurd e (newD ob)
  have hL : ∀ b u, H b = some u → b ≠ X.env.locals := fun b u e z => by rw [z, I.free] at e; cases e
  refine ⟨hDn, I.step (g' := s.gens) (d' := s.drawn) (ch := []) (fun _ z => nomatch z) (fun b o hb _ _ e _ => keep b o hb e) (fun b o hb _ _ e _ => ⟨o.slots, keep b o hb e⟩) (fun b o _ e n => ?_) (fun b o _ e => ?_) (fun b xs e => ?_) (fun b o u e => ?_) (fun b ps e => ?_) (fun m' hm' => ?_) (fun b u e => ?_) I.bare⟩
  · rw [upd_ne (fun z => newD o (by rw [← z]; exact e))]; exact n
  · by_cases hb : b = X.env.locals
    · obtain ⟨o', _, _, e', _⟩ := F'.ns
      exact ⟨o', hb ▸ e'⟩
    · exact ⟨o, keep b o hb e⟩
  · rw [upd_ne (ne_of_none e hDn)]; exact e
  · rw [upd_ne (ne_of_none e hDn)]; exact e
  · exact ⟨#[], by rw [upd_ne (ne_of_none e hDn), Array.append_empty]; exact e⟩
  · have e1 := Heap.Ns.eq_nsMap hm
    have e2 := Heap.Ns.eq_nsMap hm'
    rw [e2, ← e1]; exact F'.ns
  · by_cases hb : b = D
    · subst hb
      rw [upd_same] at e; cases e
      exact ⟨hz, out, c, hv, eD⟩
    · rw [upd_ne hb] at e
      refine (I.hok b u e).stay (fun d v hd q => ?_) (fun d q => by rw [upd_ne (ne_of_none q hDn)]; exact q) fun d xs q => by rw [upd_ne (ne_of_none q hDn)]; exact q
      rcases hd with z | z
      · exact keep d v (z ▸ hL b u e) q
      · exact keep d v (hL d _ z) q
theorem lex_ask {prog : Program} {w : World} {A : Around} {b fin : Bool} {Q : Bool → Shared → Prop} {s : Shared} : ∀ {xs ys : List Int} {us vs : List Value} (i : Nat), Vals (xs.map V.int) us → Vals (ys.map V.int) vs →
    (fin = decide (us.length < vs.length)) → Q (HT.lexLt xs ys) s → PySem.W.KatLex prog w A b fin Q (us.zip vs) i s
  | [], [], _, _, i, .nil, .nil, hf, h => by
    rw [HT.lexLt_nil_nil] at h
    show Q fin s
    rw [hf]; exact h
  | [], y :: ys, _, _, i, .nil, .cons r1 r2, hf, h => by
    rw [HT.lexLt_nil_cons] at h
    show Q fin s
    rw [hf]; simpa using h
  | x :: xs, [], _, _, i, .cons r1 r2, .nil, hf, h => by
    rw [HT.lexLt_cons_nil] at h
    show Q fin s
    rw [hf]; simpa using h
  | x :: xs, y :: ys, _, _, i, .cons (l₂ := us) ⟨t, e1⟩ r1, .cons (l₂ := vs) ⟨t2, e2⟩ r2, hf, h => by
    subst e1 e2
    rw [HT.lexLt_cons] at h
    refine PySem.W.kat_cons (eqAt_V (y := .int x) (x := .int y) ⟨t, rfl⟩ ⟨t2, rfl⟩ rfl rfl prog w _ _ ?_)
    show PySem.W.KatGo prog w A b fin Q _ _ _ i (x == y) s
    by_cases e : x = y
    · rw [if_pos e] at h
      rw [show (x == y) = true by simpa using e]
      refine PySem.W.kat_yes (lex_ask (i + 1) r1 r2 ?_ h)
      rw [hf]; simp
    · rw [if_neg e] at h
      rw [show (x == y) = false by simpa using e]
      refine PySem.W.kat_no ?_
      cases hb : (b && i == 0) with
      | true => exact oneLt_int h
      | false => exact PySem.W.kat_one _ _ (lt_int h)
theorem vals_refs {ps : List Addr} : ∀ {its : List Value}, Vals (ps.map V.ref) its → its = ps.map Value.ref := by
  induction ps with
  | nil => intro its r; cases r; rfl
  | cons a ps ih =>
    intro its r
    cases r with
    | cons r1 r2 => rw [ih r2]; cases r1; rfl
theorem refs_vals (ps : List Addr) : Vals (ps.map V.ref) (ps.map Value.ref) := by
  induction ps with
  | nil => exact .nil
  | cons a ps ih => exact .cons rfl ih
theorem sorted_few {prog : Program} {w : World} {A : Around} {E : Value → Shared → Prop} {s : Shared} {l : Addr} {vs : List Value} {Q : Value → Shared → Prop} (hl : s.heap.IsList l vs.toArray) (h2 : vs.length < 2)
    (h : Q (.ref (s.heap.objs.size + 1)) { s with heap := sortedAll s.heap vs vs.toArray }) :
    wpAny (model prog w) A (call (.builtin "sorted") [.ref l]) Q E s := by
  refine Calls.call_function_entry kind_sorted plain_sorted entry_sorted (args_sorted1 _) ?_
  unfold Builtin.«sorted»
  refine wpAny_bind (m := checkCount "sorted" 1 1 _) (wpAny_pure ?_)
  refine wpAny_bind (collect_list hl ?_ (by rw [sizeLine_eq]; omega))
  refine wpAny_bind (wpAny_newList ?_ (by rw [sizeLine_eq]; omega))
  have hsz : ((s.heap.push (seqObj "list" #[] 0)).update s.heap.objs.size (Obj.mapSeq (· ++ vs.toArray))).objs.size = s.heap.objs.size + 1 := by
    rw [Heap.size_update, size_push']
  have hoL : (((s.heap.push (seqObj "list" #[] 0)).update s.heap.objs.size (Obj.mapSeq (· ++ vs.toArray))).push (seqObj "list" vs.toArray 0)).get? (s.heap.objs.size + 1) = some (seqObj "list" vs.toArray 0) := by
    rw [← hsz]; exact Heap.get?_push_size _ rfl
  show wpAny _ _ _ _ _ { s with heap := ((s.heap.push (seqObj "list" #[] 0)).update s.heap.objs.size (Obj.mapSeq (· ++ vs.toArray))).push (seqObj "list" vs.toArray 0) }
  rw [hsz]
  have small : ∀ {P : Fin → Shared → Prop} {A : Around} {E : Value → Shared → Prop} {s : Shared} {a : Addr} {n : Nat}, s.heap.get? a = some (seqObj "list" vs.toArray n) → P (.done (.ret .none)) { s with heap := sortedHeap s.heap a vs vs.toArray } → wpAny (model prog w) A (Builtin.«list.sort» ⟨[.ref a], []⟩) P E s := fun {P A E s a n} ho hP => by
    rw [list_sort_plain]
    have ha : a < s.heap.objs.size := Heap.lt_size ho
    refine wpAny_bind (listItems_at ho rfl ?_)
    refine wpAny_bind (listUpdate_at ho rfl ?_ (by rw [List.size_toArray, sizeLine_eq]; omega) (Nat.zero_le _))
    obtain ⟨e1, ho1⟩ : ∃ e1, (s.heap.update a (Obj.mapSeq fun _ => #[])).get? a = some (seqObj "list" #[] e1) := ⟨_, get?_update_seq ho (fun _ => #[])⟩
    refine wpAny_bind (seqEpoch_at ho1 rfl ?_)
    refine wpAny_bind (wpAny_newTuple ?_ (by show vs.length ≤ _; rw [sizeLine_eq]; omega))
    refine wpAny_bind (wpAny_newList ?_ (Nat.zero_le _))
    refine wpAny_holding ?_
    have ho6 : (((s.heap.update a (Obj.mapSeq fun _ => #[])).push (seqObj "tuple" vs.toArray 0)).push (seqObj "list" #[] 0)).get? a = some (seqObj "list" #[] e1) := by
      rw [Heap.get?_push_ne _ _ _ (by rw [size_push', Heap.size_update]; exact Nat.ne_of_lt (Nat.lt_succ_of_lt ha)), Heap.get?_push_ne _ _ _ (by rw [Heap.size_update]; exact Nat.ne_of_lt ha)]
      exact ho1
    show wpAny (model prog w) A _ P E { s with heap := ((s.heap.update a (Obj.mapSeq fun _ => #[])).push (seqObj "tuple" vs.toArray 0)).push (seqObj "list" #[] 0) }
    dsimp only
    have h2' : vs.toArray.size < 2 := by simpa using h2
    rw [if_pos h2', if_pos h2']
    refine wpAny_bind (wpAny_pure ?_)
    rw [StateT.run_pure]
    refine wpAny_bind (wpAny_pure ?_)
    dsimp only
    have em : (arrOf (SortSt.mk' general' (vs.toArray.zip vs.toArray) #[] 7 none)).map (·.2) = vs.toArray := by
      show (vs.toArray.zip vs.toArray).map (·.2) = vs.toArray
      apply Array.ext <;> simp
    refine wpAny_bind (seqEpoch_at ho6 rfl ?_)
    refine wpAny_bind (listUpdate_at ho6 rfl ?_ (Nat.zero_le _) (hsz2 := by rw [Array.size_map]; show (pairsOf vs).size ≤ _; rw [pairsOf_size, sizeLine_eq]; omega))
    simp only [bne_self_eq_false, Bool.false_eq_true, if_false]
    refine wpAny_pure ?_
    show P (.done (.ret .none)) { s with heap := (((s.heap.update a (Obj.mapSeq fun _ => #[])).push (seqObj "tuple" vs.toArray 0)).push (seqObj "list" #[] 0)).update a (Obj.mapSeq fun _ => (arrOf (SortSt.mk' general' (vs.toArray.zip vs.toArray) #[] 7 none)).map (·.2)) }
    rw [em]
    exact hP
  refine wpAny_bind (wpAny_holding (wpAny_call_entry slot_list_sort ⟨_, hoL, rfl⟩ entry_list_sort (small hoL ⟨_, rfl, ?_⟩) (args_list_sort _)))
  exact wpAny_pure ⟨_, rfl, h⟩
theorem ts_getD {H : Hp} : ∀ {ps : List Addr} {xss : List (List Int)} {i : Nat}, TsAt K H ps xss → i < ps.length → SqT K H (ps.getD i 0) ((xss.getD i []).map V.int) := by
  intro ps xss i h hi
  obtain ⟨xs, h1, h2⟩ := ts_get h (List.getElem?_eq_getElem hi)
  rw [List.getD_eq_getElem?_getD, List.getElem?_eq_getElem hi, List.getD_eq_getElem?_getD, h2]
  exact h1
theorem ts_pick {H : Hp} {ps : List Addr} {xss : List (List Int)} (h : TsAt K H ps xss) : ∀ {o : List Nat}, (∀ i ∈ o, i < ps.length) → TsAt K H (o.map fun i => ps.getD i 0) (o.map fun i => xss.getD i [])
  | [], _ => .nil
  | i :: o, hi => .cons (ts_getD h (hi i List.mem_cons_self)) (ts_pick h fun j hj => hi j (List.mem_cons_of_mem _ hj))
theorem tu_getD {H : Hp} : ∀ {ps : List Addr} {xss : List (List Int)} {i : Nat}, TuAt H ps xss → i < ps.length → H (ps.getD i 0) = some (.tup ((xss.getD i []).map V.int)) := by
  intro ps xss i h hi
  obtain ⟨xs, h1, h2⟩ := tu_get h (List.getElem?_eq_getElem hi)
  rw [List.getD_eq_getElem?_getD, List.getElem?_eq_getElem hi, List.getD_eq_getElem?_getD, h2]
  exact h1
theorem tu_pick {H : Hp} {ps : List Addr} {xss : List (List Int)} (h : TuAt H ps xss) : ∀ {o : List Nat}, (∀ i ∈ o, i < ps.length) → TuAt H (o.map fun i => ps.getD i 0) (o.map fun i => xss.getD i [])
  | [], _ => .nil
  | i :: o, hi => .cons (tu_getD h (hi i List.mem_cons_self)) (tu_pick h fun j hj => hi j (List.mem_cons_of_mem _ hj))
theorem range_getD {α : Type} (l : List α) (d : α) : (List.range l.length).map (fun i => l.getD i d) = l := by
  refine List.ext_getElem (by simp) fun i h1 h2 => ?_
  rw [List.getElem_map, List.getElem_range, getD_lt h2]
theorem call_sortedT (h : X.K = K := by rfl) : CallR X (.builtin "sorted") (fun xs H Q => ∃ (p : Addr) (ps : List Addr) (xss : List (List Int)), xs = [.ref p] ∧ SqL K H p (ps.map V.ref) ∧ TuAt H ps xss ∧ ps.length < 64 ∧ (∀ x ∈ xss, x ≠ []) ∧
    ∀ (l : Addr) (qs : List Addr) (yss : List (List Int)), TuAt H qs yss → yss.Perm xss → RowsUp yss → H l = none → Q (.ref l) (upd H l (.lst (qs.map V.ref)))) := by
  subst h
  intro pins s σ H xs us Q I r h
  obtain ⟨p, ps, xss, rfl, hq, hU, h64, hne, q⟩ := h
  have hP : TsAt X.K H ps xss := L2.Paired.mapP hU fun a xs z => SqT.of z
  obtain ⟨u, rfl, ru⟩ := vals1 r
  cases ru
  obtain ⟨its, r', pl, hz⟩ := I.list hq
  have eits := vals_refs r'
  subst eits
  have hlen : (ps.map Value.ref).length = ps.length := List.length_map ..
  have hxl := hP.length
  by_cases h2 : 2 ≤ ps.length
  · obtain ⟨m, F⟩ := I.fr
    refine PySem.W.kat_sorted F news_all pl.isList (by omega) (by omega) fun D e1 h' F' N' hD => ?_
    have keep : ∀ b o, b ≠ X.env.locals → s.heap.get? b = some o → h'.get? b = some o := fun b o hb e => by
      cases q : X.base.get? b with
      | some u =>
        have := I.bk b u q
        rw [e] at this; cases this
        exact F'.keep b _ q
      | none => exact (N' (b, o) (List.mem_cons_of_mem _ (mem_allNews hb q e))).1
    have tup : ∀ i, i < ps.length → ∃ o its n, h'.get? (ps.getD i 0) = some o ∧ o.cls = .type "tuple" ∧ o.data = .seq its n ∧ Vals ((xss.getD i []).map V.int) its.toList := fun i hi => by
      obtain ⟨its, rv, ⟨o, ho, hc, n, hd⟩, _⟩ := I.tuple (ts_getD hP hi)
      have hb : ps.getD i 0 ≠ X.env.locals := fun z => by
        obtain ⟨m', ⟨o', es, ep, e', d', _⟩, _⟩ := I.loc
        rw [z, e'] at ho; cases ho
        rw [hd] at d'; cases d'
      exact ⟨o, its.toArray, n, keep _ o hb ho, hc, hd, rv⟩
    have first : ∀ i, i < ps.length → ∃ o its n t, h'.get? (ps.getD i 0) = some o ∧ o.cls = .type "tuple" ∧ o.data = .seq its n ∧ its[0]? = some (Value.int ((xss.getD i []).headD 0) t) := fun i hi => by
      obtain ⟨o, its, n, ho, hc, hd, rv⟩ := tup i hi
      have hx : xss.getD i [] ≠ [] := hne _ (by rw [getD_lt (by omega)]; exact List.getElem_mem _)
      cases e : xss.getD i [] with
      | nil => exact absurd e hx
      | cons z zs =>
        rw [e] at rv
        obtain ⟨v0, vr, ev⟩ : ∃ v0 vr, its.toList = v0 :: vr := by
          cases e2 : its.toList with
          | nil => rw [e2] at rv; cases rv
          | cons a b => exact ⟨a, b, rfl⟩
        rw [ev] at rv
        cases rv with
        | cons r1 r2 =>
          obtain ⟨t, rfl⟩ := r1
          exact ⟨o, its, n, t, ho, hc, hd, by rw [← Array.getElem?_toList, ev]; rfl⟩
    have tups : ∀ (l : List Addr) (k : Nat), (∀ i, i < l.length → l.getD i 0 = ps.getD (k + i) 0) → k + l.length ≤ ps.length → ∃ fs : List Value, PySem.W.KatTups h' (l.map Value.ref) fs ∧ fs.length = l.length ∧ ∀ v ∈ fs, ∃ i t, v = Value.int i t := by
      intro l
      induction l with
      | nil => intro k _ _; exact ⟨[], PySem.W.KatTups.nil, rfl, fun v hv => by simp at hv⟩
      | cons a l ih =>
        intro k hk hl
        rw [List.length_cons] at hl
        obtain ⟨fs, f1, f2, f3⟩ := ih (k + 1) (fun i hi => by
          have := hk (i + 1) (by rw [List.length_cons]; omega)
          rw [show k + 1 + i = k + (i + 1) by omega, ← this]; rfl) (by omega)
        obtain ⟨o, its, n, t, ho, hc, hd, h0⟩ := first k (by omega)
        have ea : a = ps.getD k 0 := hk 0 (by rw [List.length_cons]; omega)
        rw [← ea] at ho
        refine ⟨_ :: fs, PySem.W.KatTups.cons ho hc hd h0 f1, by rw [List.length_cons, f2]; rfl, fun v hv => ?_⟩
        rcases List.mem_cons.mp hv with e | e
        · exact ⟨_, _, e⟩
        · exact f3 v e
    obtain ⟨fs, f1, f2, f3⟩ := tups ps 0 (fun i _ => by rw [Nat.zero_add]) (by omega)
    refine PySem.W.kat_kind (T := .type "int") f1 (by omega) (fun v hv => ?_) (by decide) ?_
    · obtain ⟨i, t, rfl⟩ := f3 v hv
      exact PySem.W.Looks.of_pure rfl
    · rw [hlen]
      obtain ⟨o1, o2⟩ := rows_sorted (xss := xss) (by omega)
      have hin : ∀ i ∈ (kRun (ltR (lexRk xss)) (PySem.W.kas_sort xss.length)).toList, i < ps.length := fun i hi => by
        have := List.mem_range.mp (o1.mem_iff.mp hi); omega
      rw [hxl]
      refine kWp_runIn (n := xss.length) (lt := ltR (lexRk xss)) (fun i j C hi hj hC => ?_) _ (kin_sort (by omega)) ?_
      · unfold PySem.W.kas_ask
        have gi : (ps.map Value.ref).getD i Value.none = .ref (ps.getD i 0) := by
          rw [List.getD_eq_getElem?_getD, List.getElem?_map, List.getElem?_eq_getElem (by omega), List.getD_eq_getElem?_getD, List.getElem?_eq_getElem (by omega)]; rfl
        have gj : (ps.map Value.ref).getD j Value.none = .ref (ps.getD j 0) := by
          rw [List.getD_eq_getElem?_getD, List.getElem?_map, List.getElem?_eq_getElem (by omega), List.getD_eq_getElem?_getD, List.getElem?_eq_getElem (by omega)]; rfl
        rw [gi, gj]
        obtain ⟨oi, vi, ni, ho1, _, hd1, rv1⟩ := tup i (by omega)
        obtain ⟨oj, vj, nj, ho2, _, hd2, rv2⟩ := tup j (by omega)
        refine PySem.W.kat_lt ho1 hd1 ho2 hd2 (lex_ask 0 rv1 rv2 rfl ?_)
        rw [← lexRk_lt hi]; exact hC
      · refine PySem.W.KasFin.intro F' N' (.head fun q hq => Nat.ne_of_lt (hD q hq)) fun h2' c F2 N2 => ?_
        generalize kRun (ltR (lexRk xss)) (PySem.W.kas_sort xss.length) = oo at o1 o2 hin N2
        have eout : (oo.toList.map fun i => (ps.map Value.ref).getD i Value.none) = (oo.toList.map fun i => ps.getD i 0).map Value.ref := by
          rw [List.map_map]
          refine List.map_congr_left fun i hi => ?_
          have := hin i hi
          rw [List.getD_eq_getElem?_getD, List.getElem?_map, List.getElem?_eq_getElem this]
          show _ = Value.ref (ps.getD i 0)
          rw [List.getD_eq_getElem?_getD, List.getElem?_eq_getElem this]; rfl
        rw [eout] at N2
        have hol : oo.toList.length = xss.length := by rw [o1.length_eq, List.length_range]
        obtain ⟨hDn, J⟩ := I.layK (t' := s.toks) F.ns F2 N2 hD (refs_vals (oo.toList.map fun i => ps.getD i 0)) (le_line (by rw [List.length_map, List.length_map]; omega))
        refine ⟨.ref D, _, J, rfl, q D _ _ (tu_pick hU hin) ?_ o2 hDn⟩
        have := o1.map fun i => xss.getD i []
        rw [range_getD] at this
        exact this
  · refine sorted_few pl.isList (by omega) ?_
    obtain ⟨e, he⟩ := sortedAll_at s.heap (ps.map Value.ref) (ps.map Value.ref).toArray
    have up : RowsUp xss := by
      unfold RowsUp
      match xss, hxl with
      | [], _ => exact .nil
      | [x], _ => exact List.pairwise_singleton _ _
      | x :: y :: t, hxl => simp at hxl; omega
    exact ⟨.ref (s.heap.objs.size + 1), _, I.laid (t' := s.toks) (fun _ _ => sortedAll_old) (Nat.le_succ _) (show ObjOk X.prog X.w _ _ _ (.lst (ps.map V.ref)) from ⟨le_line (by rw [List.length_map]; omega), ps.map Value.ref, e, refs_vals ps, he⟩), rfl, q _ ps xss hU (.refl _) up (I.hok.fresh (Nat.le_succ _))⟩
end
end L2
set_option Elab.async false
set_option linter.all false
set_option maxRecDepth 100000
namespace PySem
open Sem (wp)
def Heap.DictE (h : Heap) (a : Addr) (kvs : List (Value × Value)) (ep : Nat) : Prop := ∃ o es, h.get? a = some o ∧ o.ExactDict ∧ o.data = .dict es ep ∧ es.toList.map (fun e => (e.key, e.val)) = kvs
theorem Heap.DictE.typeIs {s : Shared} {a : Addr} {kvs : List (Value × Value)} {ep : Nat} (x : s.heap.DictE a kvs ep) : s.TypeIs (.ref a) "dict" := let ⟨o, _, ho, hc, _⟩ := x; ⟨o, ho, hc.1⟩
theorem Heap.DictE.extBut {h h' : Heap} {a b kvs ep} (x : h.DictE a kvs ep) (hs : Heap.ExtBut b h h') (hab : a ≠ b) : h'.DictE a kvs ep := let ⟨o, es, ho, r⟩ := x; ⟨o, es, hs a o hab ho, r⟩
theorem Heap.DictE.lt_size {h : Heap} {a kvs ep} (x : h.DictE a kvs ep) : a < h.objs.size := let ⟨_, _, ho, _⟩ := x; Heap.lt_size ho
theorem Heap.DictE.push {h : Heap} {a kvs ep} (x : h.DictE a kvs ep) (o : Obj) : (h.push o).DictE a kvs ep := let ⟨o', es, ho, r⟩ := x; ⟨o', es, Heap.get?_push_of_some o ho, r⟩
section
variable {prog : Program} {w : World} {A : Around} {E : Value → Shared → Prop} {s : Shared}
end
end PySem
namespace PySem.W
open PySem PySem.Calls PyProof.Rows PyProof.V PySem.Spec
section
variable {prog : Program} {w : World} {d r : Addr} {kvs : List (Value × Value)} {ep : Nat}
end
end PySem.W
namespace L2
open PySem PySem.Spec PyProof.Rows
section
variable {X : Cx} {K : PySem.W.Frag}
end
end L2
set_option Elab.async false
set_option linter.all false
set_option maxRecDepth 100000
namespace L2
open PySem PySem.Spec PyProof.Rows
inductive Dd where
  | non | bl (b : Bool) | int (i : Int) | str (x : Str) | lst (l : List Dd) | tup (l : List Dd)
mutual
def DAt (K : PySem.W.Frag) (H : Hp) : Dd → V → Prop
  | .non, v => v = .non
  | .bl b, v => v = .bl b
  | .int i, v => v = .int i
  | .str x, v => v = .str x
  | .lst l, v => ∃ (a : Addr) (vs : List V), v = .ref a ∧ SqL K H a vs ∧ DAts K H l vs
  | .tup l, v => ∃ (a : Addr) (vs : List V), v = .ref a ∧ SqT K H a vs ∧ DAts K H l vs
def DAts (K : PySem.W.Frag) (H : Hp) : List Dd → List V → Prop
  | [], vs => vs = []
  | d :: l, vs => ∃ (v : V) (r : List V), vs = v :: r ∧ DAt K H d v ∧ DAts K H l r
end
theorem DAts.length {K : PySem.W.Frag} {H : Hp} : ∀ {l : List Dd} {vs : List V}, DAts K H l vs → vs.length = l.length
  | [], vs, h => by rw [DAts] at h; rw [h]; rfl
  | d :: l, vs, h => by
    rw [DAts] at h
    obtain ⟨v, r, rfl, _, h2⟩ := h
    rw [List.length_cons, List.length_cons, DAts.length h2]
theorem DAts.get {K : PySem.W.Frag} {H : Hp} : ∀ {l : List Dd} {vs : List V} {j : Nat}, DAts K H l vs → j < l.length → ∃ v, vs[j]? = some v ∧ DAt K H (l.getD j .non) v
  | [], vs, j, h, hj => by simp at hj
  | d :: l, vs, j, h, hj => by
    rw [DAts] at h
    obtain ⟨v, r, rfl, h1, h2⟩ := h
    cases j with
    | zero => exact ⟨v, rfl, h1⟩
    | succ j =>
      obtain ⟨v', e, h3⟩ := DAts.get h2 (by simpa using hj)
      exact ⟨v', by simpa using e, by simpa using h3⟩
section
variable {X : Cx} {K : PySem.W.Frag} {pins : List (Addr × Obj)} {σ : St} {H : Hp} {s : Shared}
end
end L2
set_option Elab.async false
set_option linter.all false
set_option maxRecDepth 100000
namespace L2
open PySem PySem.Spec PyProof.Rows
section
variable {X : Cx} {K : PySem.W.Frag}
end
end L2
set_option Elab.async false
set_option linter.all false
set_option maxRecDepth 100000
namespace L2
open PySem
theorem paired_getM {α β : Type} {F : α → β → Prop} : ∀ {l1 : List α} {l2 : List β} {j : Nat} {a : α}, Paired F l1 l2 → l1[j]? = some a → ∃ b, F a b ∧ l2[j]? = some b := by
  intro l1 l2 j a h e
  induction h generalizing j with
  | nil => simp at e
  | cons r t ih =>
    cases j with
    | zero => simp at e; subst e; exact ⟨_, r, rfl⟩
    | succ j => obtain ⟨b, q, e2⟩ := ih (by simpa using e); exact ⟨b, q, by simpa using e2⟩
end L2
set_option Elab.async false
set_option linter.all false
set_option maxRecDepth 100000
namespace L2
open PySem PySem.Spec PyProof.Rows
open PySem.StrLaws (occBody occ_eq subAt_one partsFrom partsBetween_eq strSub_toList)
section
variable {X : Cx} {K : PySem.W.Frag}
end
end L2
set_option Elab.async false
set_option linter.all false
set_option maxRecDepth 100000
namespace L2
open PySem
end L2
set_option Elab.async false
set_option linter.all false
set_option maxRecDepth 100000
namespace L2
open PySem PySem.Spec PyProof.Rows
section
variable {X : Cx} {K : PySem.W.Frag}
end
end L2
set_option Elab.async false
set_option linter.all false
set_option maxRecDepth 100000
namespace L2
open PySem
def neL (L : List (List Int)) : List (List Int) := L.filter fun l => decide (0 < l.length)
section
variable {ws F : List Int} (hw : isWay ws = true) (hH : IsH (arW ws) (crW ws) (fresh 0 ws).toNat F)
include hw hH in
include hw hH in
include hw hH in
include hw hH in
include hw hH in
end
end L2
set_option Elab.async false
set_option linter.all false
set_option maxRecDepth 100000
namespace L2
open PySem PySem.Spec PyProof.Rows
section
variable {prog : Program} {w : World} {A : Around} {E : Value → Shared → Prop} {s : Shared}
end
section
variable {X : Cx} {K : PySem.W.Frag}
end
end L2
set_option Elab.async false
set_option linter.all false
set_option maxRecDepth 100000
namespace L2
open PySem PySem.Spec PyProof.Rows
section
variable {X : Cx}
end
theorem way_mem (ws : List Int) : wayGo 0 ws = true → ∀ z, z ∈ ws ↔ 0 ≤ z ∧ z < fresh 0 ws := by
  refine snoc_ind (P := fun ws => wayGo 0 ws = true → ∀ z, z ∈ ws ↔ 0 ≤ z ∧ z < fresh 0 ws) (fun _ z => by simp [fresh] <;> omega) (fun ws y ih h z => ?_) ws
  rw [wayGo_snoc, Bool.and_eq_true, Bool.and_eq_true] at h
  obtain ⟨h1, h2, h3⟩ := h
  have h2 := of_decide_eq_true h2
  have h3 := of_decide_eq_true h3
  have ih := ih h1 z
  have f0 : 0 ≤ fresh 0 ws := by have := (fresh_max ws h1).2 (-1) List.mem_cons_self; omega
  rw [List.mem_append, List.mem_singleton, ih, fresh_snoc]
  split <;> omega
end L2
set_option Elab.async false
set_option linter.all false
set_option maxRecDepth 100000
namespace L2
open PySem PySem.Spec PyProof.Rows
section
variable {X : Cx} {K : PySem.W.Frag}
end
end L2
set_option Elab.async false
set_option linter.all false
set_option maxRecDepth 100000
namespace L2
open PySem PySem.Spec PyProof.Rows
theorem seq_a {te : TE} {i : Nat} {B : TS} {D : Ends} {σ : St} {H : Hp} (h : te σ H fun x H1 => B D (σ.set i (some x)) H1) : tSeq (tAsg te (gName i)) B D σ H := h
end L2
set_option Elab.async false
set_option linter.all false
set_option maxRecDepth 100000
namespace L2
open PySem PySem.Spec PyProof.Rows
structure CalM (P : Program) (w : World) (K : PySem.W.Frag) (mg : Str → Option Value) (base : Heap) (C : Addr) (k : Nat) (m : Str) (sp : Sp) : Prop where
  ex : ∃ f fd ps, FnOk P w K mg base CX0 k f fd ps sp ∧ Meth K C m f ∧ Binds K fd ps []
structure CalK (P : Program) (w : World) (K : PySem.W.Frag) (mg : Str → Option Value) (base : Heap) (C : Addr) (k : Nat) (x : Str) (sp : Sp) : Prop where
  ex : ∃ f fd ps, FnOk P w K mg base CX0 k f fd ps sp ∧ Mk K C f ∧ mg x = some (.ref C) ∧ Binds K fd ps []
section
variable {X : Cx} {k : Nat} {C : Addr} {x m : Str} {sp : Sp} {E : XK} {e o : Expr} {es : List Expr} {ta : TE} {t : TA} {p pos apos : Pos}
theorem pe_calM {pl : Sem Bool} (c : CalM X.prog X.w X.K X.mg X.base C k m sp) (cl : Cls X.K C) (hr : Room k X.A) (he : PE X o ta) (ha : PA X (e :: es) t)
    (hst : starEach (e :: es) X.env = (false, eval e X.env) :: starEach es X.env := by rfl) (hpl : (backTo pos (starEach es X.env)).any (·.1) = false := by rfl)
    (ht : eval (.Call (.Attribute o m apos) (e :: es) [] pos) X.env = (do
      let ov ← eval o X.env
      standAt apos.atName
      let (f, first) ← holding [ov] (getMethod ov m pl)
      callWith pos f first (backTo pos (starEach (e :: es) X.env)) (backToKw pos (keywordEach [] X.env))) := by rfl) :
    PE X (.Call (.Attribute o m apos) (e :: es) [] pos) (tMeth C m sp [] E0 ta t) := by
  obtain ⟨f, fd, ps, F, hm, hb⟩ := c.ex
  exact pe_meth (pl := pl) he cl hm F hr hb .nil pass0 ha hst hpl ht
theorem pe_calK (c : CalK X.prog X.w X.K X.mg X.base C k x sp) (hr : Room (k + 1) X.A) (hg : Gl X x) (ha : PA X (e :: es) t) (hdb : (x == ("__debug__" : Str)) = false := by decide)
    (he : starEach (e :: es) X.env = (false, eval e X.env) :: starEach es X.env := by rfl) (hpl : (backTo pos (starEach es X.env)).any (·.1) = false := by rfl) :
    PE X (.Call (.Name x p) (e :: es) [] pos) (tMake C sp [] E0 t) := by
  obtain ⟨f, fd, ps, F, M, hm, hb⟩ := c.ex
  exact pe_make M F hr hg hm hb .nil pass0 ha hdb he hpl
end
end L2
set_option Elab.async false
set_option linter.all false
set_option maxRecDepth 100000
namespace L2
open PySem PySem.Spec PyProof.Rows
section
variable {X : Cx} {K : PySem.W.Frag} {tg : Expr}
theorem kc_intB : CallR X (.type "int") (fun xs H Q => ∃ b : Bool, xs = [.bl b] ∧ Q (.int (if b then 1 else 0)) H) := by
  intro pins s σ H xs us Q I r h
  obtain ⟨b, rfl, q⟩ := h
  obtain ⟨u, rfl, ru⟩ := vals1 r
  cases ru
  exact call_int_bool ⟨.int (if b then 1 else 0), H, I.tok _, ⟨_, rfl⟩, q⟩
end
end L2
set_option Elab.async false
set_option linter.all false
set_option maxRecDepth 100000
namespace L2
open PySem PySem.Spec PyProof.Rows
section
variable {prog : Program} {w : World} {A : Around} {R : Result → Shared → Prop} {I : Addr} {fp wr : List Addr} {G : Array GenState → Array GenState → Prop} {n : Nat} {P : Nat → Value → Prop} {St : Nat → Shared → Prop}
end
section
variable {prog : Program} {w : World} {A : Around} {E : Value → Shared → Prop} {s : Shared}
end
section
variable {X : Cx} {K : PySem.W.Frag}
end
end L2
set_option Elab.async false
set_option linter.all false
set_option maxRecDepth 100000
namespace L2
open PySem PySem.Spec PyProof.Rows
abbrev Wds := List (Str × Int)
def wT (w : Str × Int) : HO := .tup [.str w.1, .int w.2]
def WAt (H : Hp) (as : List Addr) (W : Wds) : Prop := Paired (fun (a : Addr) (w : Str × Int) => H a = some (wT w)) as W
theorem WAt.same {H H' : Hp} {as : List Addr} {W : Wds} (h : WAt H as W) (s : Same H H') : WAt H' as W := L2.Paired.mapP h fun a w e => s a _ e
def letN (c : Nat) : Bool := decide (97 ≤ c) && decide (c ≤ 122)
def isNm (z : Str) : Bool := (decide (1 ≤ (z.length : Int)) && decide ((z.length : Int) ≤ 12)) && z.cps.toList.all letN
def NmL (k : Nat) (c : Int) (S : List Str) : Prop := ∀ j, j < S.length → isNm (S.getD j "") = true ∧ (S.getD j "").cps.toList.getD k 0 = 97 + ((c + 5 * j) % 26).toNat
theorem NmL.snoc {k : Nat} {c : Int} {S : List Str} {z : Str} (h : NmL k c S) (h1 : isNm z = true) (h2 : z.cps.toList.getD k 0 = 97 + ((c + 5 * S.length) % 26).toNat) : NmL k c (S ++ [z]) := by
  intro j hj
  rw [List.length_append, List.length_singleton] at hj
  rw [List.getD_eq_getElem?_getD, List.getElem?_append]
  by_cases e : j < S.length
  · rw [if_pos e, ← List.getD_eq_getElem?_getD]
    exact h j e
  · rw [if_neg e, show j - S.length = 0 by omega, show j = S.length by omega]
    exact ⟨h1, h2⟩
theorem NmL.ok {k : Nat} {c : Int} {S : List Str} (h : NmL k c S) (hl : S.length ≤ 9) : S.Nodup ∧ ∀ z ∈ S, isNm z = true := by
  constructor
  · rw [List.nodup_iff_pairwise_ne, List.pairwise_iff_getElem]
    intro i j hi hj hij e
    have a := (h i hi).2
    have b := (h j hj).2
    have q : ∀ m (hm : m < S.length), S.getD m "" = S[m] := fun m hm => by rw [List.getD_eq_getElem?_getD, List.getElem?_eq_getElem hm]; rfl
    rw [q i hi] at a
    rw [q j hj, ← show S[i] = S[j] from e] at b
    rw [a] at b
    omega
  · intro z hz
    obtain ⟨i, hi, rfl⟩ := List.getElem_of_mem hz
    have := (h i hi).1
    rw [List.getD_eq_getElem?_getD, List.getElem?_eq_getElem hi] at this
    exact this
def stkF (l : Addr) : List (Str × V) := putF "stock" (.ref l) []
def TrayAt (C : Addr) (H : Hp) (p : Addr) (W : Wds) : Prop := ∃ (dx l : Addr) (as : List Addr), H p = some (.ins C dx (stkF l)) ∧ H l = some (.lst (as.map V.ref)) ∧ WAt H as W
theorem TrayAt.same {C : Addr} {H H' : Hp} {p : Addr} {W : Wds} (h : TrayAt C H p W) (s : Same H H') : TrayAt C H' p W := by
  obtain ⟨dx, l, as, h1, h2, h3⟩ := h
  exact ⟨dx, l, as, s _ _ h1, s _ _ h2, h3.same s⟩
end L2
set_option Elab.async false
set_option linter.all false
set_option maxRecDepth 100000
namespace L2
open PySem PySem.Spec PyProof.Rows
section
variable {c : TT} {t u B : TS} {D : Ends} {σ : St} {H H' : Hp}
theorem if_P (b : Bool) (P : Hp → Prop) (hc : ∀ N : Bool → Hp → Prop, (∀ H', P H' → N b H') → c σ H N) (ht : b = true → ∀ H', P H' → t D σ H') (hu : b = false → ∀ H', P H' → u D σ H') : tIfS c t u D σ H := by
  refine hc _ fun H' p => ?_
  cases b
  · exact iteF (hu rfl H' p)
  · exact iteT (ht rfl H' p)
theorem if_N (b : Bool) (P : Hp → Prop) (hc : ∀ N : Bool → Hp → Prop, (∀ H', P H' → N b H') → c σ H N) (ht : b = true → ∀ H', P H' → t D σ H') (hu : b = false → ∀ H', P H' → D.nx σ H') : tIfS c t tNext D σ H := if_P b P hc ht hu
theorem seq_ifN (b : Bool) (P : Hp → Prop) (hc : ∀ N : Bool → Hp → Prop, (∀ H', P H' → N b H') → c σ H N) (ht : b = true → ∀ H', P H' → t { D with nx := B D } σ H') (hu : b = false → ∀ H', P H' → B D σ H') : tSeq (tIfS c t tNext) B D σ H := if_P b P hc ht hu
end
theorem ref_snoc {l : List Addr} {z : Addr} : l.map V.ref ++ [V.ref z] = (l ++ [z]).map V.ref := by rw [List.map_append]; rfl
theorem map_take_snoc {α β : Type} {l : List α} {i : Nat} {x : α} (h : l[i]? = some x) (f : α → β) : (l.take (i + 1)).map f = (l.take i).map f ++ [f x] := by rw [take_snoc h, List.map_append]; rfl
theorem paired_getR {α β : Type} {F : α → β → Prop} : ∀ {l1 : List α} {l2 : List β} {j : Nat} {b : β}, Paired F l1 l2 → l2[j]? = some b → ∃ a, F a b ∧ l1[j]? = some a
  | _, _, j, b, .nil, e => by simp at e
  | a :: _, _ :: _, 0, b, .cons r t, e => by simp at e; subst e; exact ⟨a, r, rfl⟩
  | _ :: _, _ :: _, j + 1, b, .cons r t, e => by
    obtain ⟨a, h1, h2⟩ := paired_getR t (show _ = some b by simpa using e)
    exact ⟨a, h1, by simpa using h2⟩
theorem made_same {C : Addr} {H1 H' : Hp} {x dx : Addr} (hx : H1 x = none) (hdx : H1 dx = none) (kp : ∀ b o, upd (upd H1 dx (.own x)) x (.ins C dx []) b = some o → b ≠ x → H' b = some o) : Same H1 H' := fun b o e =>
  kp b o (by rw [upd_ne (ne_of_none e hx), upd_ne (ne_of_none e hdx)]; exact e) (ne_of_none e hx)
theorem made_start {C : Addr} {H1 : Hp} {x dx : Addr} (hx : H1 x = none) (hdx : H1 dx = none) : Same H1 (upd (upd H1 dx (.own x)) x (.ins C dx [])) := fun b o e => by rw [upd_ne (ne_of_none e hx), upd_ne (ne_of_none e hdx)]; exact e
theorem iteD {c A B : Prop} [Decidable c] (hc : c) (h : A) : if decide c = true then A else B := by rw [if_pos (decide_eq_true hc)]; exact h
theorem iteDF {c A B : Prop} [Decidable c] (hc : ¬ c) (h : B) : if decide c = true then A else B := by rw [if_neg (fun e => hc (of_decide_eq_true e))]; exact h
theorem atI_nt {rs : List Int} {j : Nat} {r : Int} (h : rs[j]? = some r) : atI (rs.map V.int) (j : Int) = some (V.int r) := atI_nat (by rw [List.getElem?_map, h]; rfl)
theorem lim_ok {ls : List Int} (h : ls.all (fun l => decide (0 < l) && decide (l.natAbs.log2 < 9000)) = true) : ∀ l ∈ ls, LimOk l := fun l hl => by
  have := List.all_eq_true.mp h l hl
  rw [Bool.and_eq_true, decide_eq_true_iff, decide_eq_true_iff] at this
  exact this
theorem gN {i : Nat} {v : V} {σ : St} {H : Hp} {Q : St → Hp → Prop} (h : Q (σ.set i (some v)) H) : gName i v σ H Q := h
theorem dInt (x y : Int) : decide (V.int x = V.int y) = decide (x = y) := decide_eq_decide.mpr ⟨fun e => V.int.inj e, fun e => congrArg V.int e⟩
theorem bF {b : Bool} (h : ¬ b = true) : b = false := by
  cases b
  · rfl
  · exact absurd rfl h
theorem nT {b : Bool} (h : (!b) = true) : b = false := by
  cases b
  · rfl
  · exact absurd h (by decide)
end L2
set_option Elab.async false
set_option linter.all false
set_option maxRecDepth 100000
namespace L2
open PySem PySem.Spec PyProof.Rows
section
variable {X : Cx} {K : PySem.W.Frag}
end
end L2
namespace L2
open PySem PySem.Spec PyProof.Rows
theorem nrm {B : TS} {D : Ends} {σ σ' : St} {H : Hp} (e : σ = σ') (h : B D σ' H) : B D σ H := e ▸ h
end L2
set_option Elab.async false
set_option linter.all false
set_option maxRecDepth 100000
namespace L2
open PySem PySem.Spec PyProof.Rows
abbrev Hol := List (Option Nat)
def hV : Option Nat → V
  | none => .non
  | some r => .int (r : Int)
def tE (T : List (List Int)) (r c : Nat) : Int := (T.getD r []).getD c 0
def tgt (T : List (List Int)) (R C : List Int) (r c : Nat) : Prop := R.getD r 0 + C.getD c 0 = tE T r c
instance {T R C r c} : Decidable (tgt T R C r c) := by unfold tgt; infer_instance
structure MRt (T : List (List Int)) (R C : List Int) (Hd : Hol) (S : List Nat) (row : Nat) (Hd' : Hol) : Prop where
  len : Hd'.length = Hd.length
  kp : ∀ c ∈ S, Hd'[c]? = Hd[c]?
  ti : ∀ c h, Hd'[c]? = some (some h) → Hd[c]? = some (some h) ∨ tgt T R C h c
  fr : ∀ c : Nat, Hd'[c]? = some none → Hd[c]? = some none
  cn : ∀ h, Hd'.count (some h) = Hd.count (some h) + if h = row then 1 else 0
structure MRl (T : List (List Int)) (R C : List Int) (k : Nat) (Hd : Hol) (S : List Nat) (row i : Nat) (S' : List Nat) : Prop where
  sub : ∀ c ∈ S, c ∈ S'
  nd : S'.Nodup
  lt : ∀ c ∈ S', c < k
  cl : ∀ c, c < i → tgt T R C row c → c ∈ S'
  hs : ∀ c ∈ S', c ∉ S → ∃ h, Hd[c]? = some (some h) ∧ ∀ c', c' < k → tgt T R C h c' → c' ∈ S'
theorem cnt_set {l : Hol} {i : Nat} {x y : Option Nat} (h : l[i]? = some x) (b : Option Nat) : (l.set i y).count b + (if x = b then 1 else 0) = l.count b + if y = b then 1 else 0 := by
  obtain ⟨hi, e⟩ := List.getElem?_eq_some_iff.mp h
  have h1 := List.count_set (a := y) (b := b) hi
  rw [e] at h1
  have hx : (x == b) = true ↔ x = b := by simp
  have hy : (y == b) = true ↔ y = b := by simp
  by_cases ex : x = b
  · have : 0 < l.count b := List.count_pos_iff.mpr (by rw [← ex, ← e]; exact List.getElem_mem hi)
    rw [if_pos ex]
    rw [if_pos (hx.mpr ex)] at h1
    by_cases ey : y = b
    · rw [if_pos ey]; rw [if_pos (hy.mpr ey)] at h1; omega
    · rw [if_neg ey]; rw [if_neg (fun z => ey (hy.mp z))] at h1; omega
  · rw [if_neg ex]
    rw [if_neg (fun z => ex (hx.mp z))] at h1
    by_cases ey : y = b
    · rw [if_pos ey]; rw [if_pos (hy.mpr ey)] at h1; omega
    · rw [if_neg ey]; rw [if_neg (fun z => ey (hy.mp z))] at h1; omega
theorem set_get {l : Hol} {i c : Nat} {x y : Option Nat} (h : l[i]? = some x) : (l.set i y)[c]? = if c = i then some y else l[c]? := by
  obtain ⟨hi, e⟩ := List.getElem?_eq_some_iff.mp h
  rw [List.getElem?_set]
  by_cases ec : i = c
  · rw [if_pos ec, if_pos hi, if_pos ec.symm]
  · rw [if_neg ec, if_neg (fun z => ec z.symm)]
section
variable {T : List (List Int)} {R C : List Int} {Hd Hd1 : Hol} {S Si : List Nat} {row i h k m : Nat}
theorem mrt_free (hi : Hd[i]? = some none) (hS : i ∉ S) (ht : tgt T R C row i) : MRt T R C Hd S row (Hd.set i (some row)) where
  len := List.length_set
  kp := fun c hc => by rw [set_get hi, if_neg (fun e => hS (by rw [← e]; exact hc))]
  ti := fun c x e => by
    rw [set_get hi] at e
    by_cases ec : c = i
    · rw [if_pos ec] at e
      have : row = x := Option.some.inj (Option.some.inj e)
      subst this; subst ec; exact .inr ht
    · rw [if_neg ec] at e; exact .inl e
  fr := fun c e => by
    rw [set_get hi] at e
    by_cases ec : c = i
    · rw [ec]; exact hi
    · rw [if_neg ec] at e; exact e
  cn := fun x => by
    have := cnt_set (y := some row) hi (some x)
    rw [if_neg (by simp)] at this
    rw [Nat.add_zero] at this
    rw [this]
    by_cases e : x = row
    · rw [if_pos (by rw [e]), if_pos e]
    · rw [if_neg (fun z => e (Option.some.inj z).symm), if_neg e]
theorem mrt_step (hi : Hd[i]? = some (some h)) (hS : i ∉ S) (hsub : ∀ c ∈ S, c ∈ Si) (ht : tgt T R C row i) (M : MRt T R C Hd (Si ++ [i]) h Hd1) : MRt T R C Hd S row (Hd1.set i (some row)) := by
  have hi1 : Hd1[i]? = some (some h) := by rw [M.kp i (by simp)]; exact hi
  refine ⟨by rw [List.length_set]; exact M.len, fun c hc => ?_, fun c x e => ?_, fun c e => ?_, fun x => ?_⟩
  · rw [set_get hi1, if_neg (fun e => hS (by rw [← e]; exact hc))]
    exact M.kp c (by simp [hsub c hc])
  · rw [set_get hi1] at e
    by_cases ec : c = i
    · rw [if_pos ec] at e
      have : row = x := Option.some.inj (Option.some.inj e)
      subst this; subst ec; exact .inr ht
    · rw [if_neg ec] at e; exact M.ti c x e
  · rw [set_get hi1] at e
    by_cases ec : c = i
    · rw [if_pos ec] at e; cases e
    · rw [if_neg ec] at e; exact M.fr c e
  · have h1 := cnt_set (y := some row) hi1 (some x)
    have h2 := M.cn x
    have e1 : (some h = some x) = (x = h) := propext ⟨fun z => (Option.some.inj z).symm, fun z => by rw [z]⟩
    have e2 : (some row = some x) = (x = row) := propext ⟨fun z => (Option.some.inj z).symm, fun z => by rw [z]⟩
    simp only [e1, e2] at h1
    omega
theorem mrl_start (hnd : S.Nodup) (hlt : ∀ c ∈ S, c < k) : MRl T R C k Hd S row 0 S := ⟨fun _ h => h, hnd, hlt, fun _ h => absurd h (by omega), fun c h1 h2 => absurd h1 h2⟩
theorem mrl_skip {S' : List Nat} (L : MRl T R C k Hd S row i S') (h : i ∈ S' ∨ ¬ tgt T R C row i) : MRl T R C k Hd S row (i + 1) S' := ⟨L.sub, L.nd, L.lt, fun c hc ht => by
  by_cases e : c = i
  · rw [e] at ht ⊢
    exact h.elim id fun q => absurd ht q
  · exact L.cl c (by omega) ht, L.hs⟩
theorem mrl_next {S' S2 : List Nat} (L : MRl T R C k Hd S row i S') (hi : Hd[i]? = some (some h)) (M : MRl T R C k Hd (S' ++ [i]) h k S2) : MRl T R C k Hd S row (i + 1) S2 := by
  have s2 : ∀ c ∈ S', c ∈ S2 := fun c hc => M.sub c (by simp [hc])
  have hi2 : i ∈ S2 := M.sub i (by simp)
  refine ⟨fun c hc => s2 c (L.sub c hc), M.nd, M.lt, fun c hc ht => ?_, fun c hc hn => ?_⟩
  · by_cases e : c = i
    · rw [e]; exact hi2
    · exact s2 c (L.cl c (by omega) ht)
  · by_cases h1 : c ∈ S'
    · obtain ⟨x, e, q⟩ := L.hs c h1 hn
      exact ⟨x, e, fun c' a b => s2 c' (q c' a b)⟩
    · by_cases h2 : c = i
      · exact ⟨h, by rw [h2]; exact hi, fun c' a b => M.cl c' a b⟩
      · exact M.hs c hc (by simp [h1, h2])
structure HInv (T : List (List Int)) (m k : Nat) (R C : List Int) (Hd : Hol) : Prop where
  lT : T.length = m
  lr : ∀ r, r < m → (T.getD r []).length = k
  lR : R.length = m
  lC : C.length = k
  lH : Hd.length = k
  t0 : ∀ r c, 0 ≤ tE T r c
  fe : ∀ r c, r < m → c < k → tE T r c ≤ R.getD r 0 + C.getD c 0
  ti : ∀ c h, Hd[c]? = some (some h) → h < m ∧ tgt T R C h c
  on : ∀ h, Hd.count (some h) ≤ 1
  c0 : ∀ c, 0 ≤ C.getD c 0
  cf : ∀ c : Nat, Hd[c]? = some none → C.getD c 0 = 0
  r0 : ∀ r, 0 ≤ R.getD r 0
theorem HInv.room {Hd' : Hol} (I : HInv T m k R C Hd) (hrow : row < m) (hc : Hd.count (some row) = 0) (M : MRt T R C Hd [] row Hd') : HInv T m k R C Hd' := by
  refine ⟨I.lT, I.lr, I.lR, I.lC, by rw [M.len]; exact I.lH, I.t0, I.fe, fun c x e => ?_, fun x => ?_, I.c0, fun c e => I.cf c (M.fr c e), I.r0⟩
  · rcases M.ti c x e with q | q
    · exact I.ti c x q
    · refine ⟨?_, q⟩
      by_cases ex : x = row
      · rw [ex]; exact hrow
      · have h1 : 0 < Hd'.count (some x) := List.count_pos_iff.mpr (List.mem_of_getElem? e)
        rw [M.cn, if_neg ex] at h1
        obtain ⟨j, hj, ej⟩ := List.getElem_of_mem (List.count_pos_iff.mp (by omega : 0 < Hd.count (some x)))
        exact (I.ti j x (by rw [List.getElem?_eq_getElem hj, ej])).1
  · rw [M.cn]
    by_cases ex : x = row
    · rw [if_pos ex, ex, hc]; exact Nat.le_refl _
    · rw [if_neg ex]; exact I.on x
theorem hol_inj {c c' x : Nat} (on : Hd.count (some x) ≤ 1) (h1 : Hd[c]? = some (some x)) (h2 : Hd[c']? = some (some x)) : c = c' := by
  apply Classical.byContradiction
  intro ne
  have e := cnt_set (y := none) h1 (some x)
  rw [if_pos rfl, if_neg (by simp)] at e
  have h3 : (Hd.set c none)[c']? = some (some x) := by rw [set_get h1, if_neg (fun z => ne z.symm)]; exact h2
  have h4 : 0 < (Hd.set c none).count (some x) := List.count_pos_iff.mpr (List.mem_of_getElem? h3)
  omega
def hOf (Hd : Hol) (c : Nat) : Nat := (Hd.getD c none).getD 0
theorem hOf_of {c x : Nat} (h : Hd[c]? = some (some x)) : hOf Hd c = x := by unfold hOf; rw [List.getD_eq_getElem?_getD, h]; rfl
theorem free_col (I : HInv T m k R C Hd) (hrow : row < m) (hc : Hd.count (some row) = 0) (hmk : m ≤ k) : ∃ c, c < k ∧ Hd[c]? = some none := by
  apply Classical.byContradiction
  intro no
  have al : ∀ c, c < k → Hd[c]? = some (some (hOf Hd c)) := fun c hck => by
    have hl : c < Hd.length := by rw [I.lH]; exact hck
    cases e : Hd[c] with
    | none => exact absurd ⟨c, hck, by rw [List.getElem?_eq_getElem hl, e]⟩ no
    | some x =>
      have q : Hd[c]? = some (some x) := by rw [List.getElem?_eq_getElem hl, e]
      rw [hOf_of q]; exact q
  have nd : (row :: (List.range k).map (hOf Hd)).Nodup := by
    rw [List.nodup_cons]
    refine ⟨fun hm => ?_, ?_⟩
    · obtain ⟨c, hcr, e⟩ := List.mem_map.mp hm
      have := al c (List.mem_range.mp hcr)
      rw [e] at this
      have : 0 < Hd.count (some row) := List.count_pos_iff.mpr (List.mem_of_getElem? this)
      omega
    · rw [List.nodup_iff_pairwise_ne, List.pairwise_map]
      refine List.Pairwise.imp_of_mem (fun {a b} ha hb hab e => ?_) (List.nodup_iff_pairwise_ne.mp (List.nodup_range (n := k)))
      have h1 := al a (List.mem_range.mp ha)
      have h2 := al b (List.mem_range.mp hb)
      rw [e] at h1
      exact hab (hol_inj (I.on _) h1 h2)
  have := nd.length_le_of_subset (l₂ := List.range m) (fun x hx => by
    rcases List.mem_cons.mp hx with e | e
    · rw [e]; exact List.mem_range.mpr hrow
    · obtain ⟨c, hcr, e⟩ := List.mem_map.mp e
      rw [← e]
      exact List.mem_range.mpr (I.ti c _ (al c (List.mem_range.mp hcr))).1)
  rw [List.length_cons, List.length_map, List.length_range, List.length_range] at this
  omega
def addA (d : Int) (R : List Int) (A : List Nat) : List Int := A.foldl (fun R a => R.set a (R.getD a 0 + d)) R
theorem addA_snoc (d : Int) (R : List Int) (A : List Nat) (a : Nat) : addA d R (A ++ [a]) = (addA d R A).set a ((addA d R A).getD a 0 + d) := by unfold addA; rw [List.foldl_append]; rfl
theorem addA_len (d : Int) (R : List Int) (A : List Nat) : (addA d R A).length = R.length := by
  refine snoc_ind (P := fun A => (addA d R A).length = R.length) rfl (fun A a ih => ?_) A
  rw [addA_snoc, List.length_set, ih]
theorem addA_get (d : Int) (R : List Int) (A : List Nat) : (∀ a ∈ A, a < R.length) → ∀ r, (addA d R A).getD r 0 = R.getD r 0 + d * (A.count r : Int) := by
  refine snoc_ind (P := fun A => (∀ a ∈ A, a < R.length) → ∀ r, (addA d R A).getD r 0 = R.getD r 0 + d * (A.count r : Int)) (fun _ r => by simp [addA]) (fun A a ih h r => ?_) A
  have ha : a < R.length := h a (by simp)
  have ih := ih (fun b hb => h b (by simp [hb]))
  rw [addA_snoc, List.getD_eq_getElem?_getD, List.getElem?_set, addA_len, List.count_append, List.count_singleton]
  by_cases e : a = r
  · rw [if_pos e, if_pos ha, if_pos (by simp [e])]
    show (addA d R A).getD a 0 + d = _
    rw [ih a, e]
    rw [show ((A.count r + 1 : Nat) : Int) = (A.count r : Int) + 1 by omega, Int.mul_add]; omega
  · rw [if_neg e, ← List.getD_eq_getElem?_getD, ih r, if_neg (by simp [e]), Nat.add_zero]
theorem HInv.pay (I : HInv T m k R C Hd) (hrow : row < m) (hc : Hd.count (some row) = 0) (hmk : m ≤ k) (F : MRl T R C k Hd [] row k S) :
    HInv T m k (addA (-1) R (row :: S.map (hOf Hd))) (addA 1 C S) Hd ∧ 1 ≤ R.getD row 0 ∧ (addA (-1) R (row :: S.map (hOf Hd))).getD row 0 = R.getD row 0 - 1 ∧ (∀ a ∈ row :: S.map (hOf Hd), a < m) := by
  have al : ∀ c ∈ S, Hd[c]? = some (some (hOf Hd c)) ∧ ∀ c', c' < k → tgt T R C (hOf Hd c) c' → c' ∈ S := fun c hcS => by
    obtain ⟨x, e, q⟩ := F.hs c hcS (by simp)
    rw [hOf_of e]; exact ⟨e, q⟩
  have nd : (row :: S.map (hOf Hd)).Nodup := by
    rw [List.nodup_cons]
    refine ⟨fun hm => ?_, ?_⟩
    · obtain ⟨c, hcr, e⟩ := List.mem_map.mp hm
      have := (al c hcr).1
      rw [e] at this
      have : 0 < Hd.count (some row) := List.count_pos_iff.mpr (List.mem_of_getElem? this)
      omega
    · rw [List.nodup_iff_pairwise_ne, List.pairwise_map]
      refine List.Pairwise.imp_of_mem (fun {a b} ha hb hab e => ?_) (List.nodup_iff_pairwise_ne.mp F.nd)
      have h1 := (al a ha).1
      have h2 := (al b hb).1
      rw [e] at h1
      exact hab (hol_inj (I.on _) h1 h2)
  have lt : ∀ a ∈ row :: S.map (hOf Hd), a < m := fun a ha => by
    rcases List.mem_cons.mp ha with e | e
    · rw [e]; exact hrow
    · obtain ⟨c, hcr, e⟩ := List.mem_map.mp e
      rw [← e]; exact (I.ti c _ (al c hcr).1).1
  have clo : ∀ a ∈ row :: S.map (hOf Hd), ∀ c, c < k → tgt T R C a c → c ∈ S := fun a ha c hck ht => by
    rcases List.mem_cons.mp ha with e | e
    · rw [e] at ht; exact F.cl c hck ht
    · obtain ⟨c', hcr, e⟩ := List.mem_map.mp e
      rw [← e] at ht; exact (al c' hcr).2 c hck ht
  have gR := addA_get (-1) R (row :: S.map (hOf Hd)) (fun a ha => by rw [I.lR]; exact lt a ha)
  have gC := addA_get 1 C S (fun a ha => by rw [I.lC]; exact F.lt a ha)
  have cR : ∀ r, (List.count r (row :: S.map (hOf Hd)) : Int) = if r ∈ row :: S.map (hOf Hd) then 1 else 0 := fun r => by rw [nd.count]; split <;> rfl
  have cC : ∀ c, (S.count c : Int) = if c ∈ S then 1 else 0 := fun c => by rw [F.nd.count]; split <;> rfl
  obtain ⟨cf, hcf, ecf⟩ := free_col I hrow hc hmk
  have cfS : cf ∉ S := fun h => by
    have := (al cf h).1
    rw [ecf] at this; cases this
  have pos : ∀ a ∈ row :: S.map (hOf Hd), 1 ≤ R.getD a 0 := fun a ha => by
    apply Classical.byContradiction
    intro q
    have h0 := I.r0 a
    have h1 := I.fe a cf (lt a ha) hcf
    have h2 := I.t0 a cf
    have h3 := I.cf cf ecf
    exact cfS (clo a ha cf hcf (by unfold tgt; omega))
  refine ⟨⟨I.lT, I.lr, by rw [addA_len]; exact I.lR, by rw [addA_len]; exact I.lC, I.lH, I.t0, fun r c hr hck => ?_, fun c x e => ?_, I.on, fun c => ?_, fun c e => ?_, fun r => ?_⟩, pos row (by simp), ?_, lt⟩
  · rw [gR, gC, cR, cC]
    have h1 := I.fe r c hr hck
    by_cases hr' : r ∈ row :: S.map (hOf Hd)
    · rw [if_pos hr']
      by_cases hcS : c ∈ S
      · rw [if_pos hcS]; omega
      · rw [if_neg hcS]
        have : ¬ tgt T R C r c := fun q => hcS (clo r hr' c hck q)
        unfold tgt at this
        omega
    · rw [if_neg hr']
      split <;> omega
  · obtain ⟨h1, h2⟩ := I.ti c x e
    refine ⟨h1, ?_⟩
    unfold tgt at h2 ⊢
    rw [gR, gC, cR, cC]
    by_cases hcS : c ∈ S
    · have : x ∈ row :: S.map (hOf Hd) := List.mem_cons_of_mem _ (by rw [← hOf_of e]; exact List.mem_map_of_mem hcS)
      rw [if_pos hcS, if_pos this]; omega
    · have : x ∉ row :: S.map (hOf Hd) := fun q => by
        rcases List.mem_cons.mp q with q | q
        · rw [q] at e
          have : 0 < Hd.count (some row) := List.count_pos_iff.mpr (List.mem_of_getElem? e)
          omega
        · obtain ⟨c', hcr, q⟩ := List.mem_map.mp q
          have h3 := (al c' hcr).1
          rw [q] at h3
          exact hcS (by rw [hol_inj (I.on _) e h3]; exact hcr)
      rw [if_neg hcS, if_neg this]; omega
  · rw [gC, cC]
    have := I.c0 c
    split <;> omega
  · rw [gC, cC, if_neg (fun q => by have := (al c q).1; rw [e] at this; cases this), I.cf c e]; rfl
  · rw [gR, cR]
    have := I.r0 r
    by_cases hr' : r ∈ row :: S.map (hOf Hd)
    · have := pos r hr'
      rw [if_pos hr']; omega
    · rw [if_neg hr']; omega
  · rw [gR, cR, if_pos (by simp)]; omega
def valC (T : List (List Int)) (Hd : Hol) (c : Nat) : Int := match Hd.getD c none with
  | none => 0
  | some r => tE T r c
def rOf (R : List Int) : Option Nat → Int
  | none => 0
  | some r => R.getD r 0
theorem sum_cnt (f : Nat → Int) : ∀ (Hd : Hol) (m : Nat), (∀ h, some h ∈ Hd → h < m) → (Hd.map fun o : Option Nat => match o with | none => 0 | some r => f r).sum = ((List.range m).map fun r => f r * (Hd.count (some r) : Int)).sum
  | [], m, _ => by
    have : ∀ l : List Nat, (l.map fun r => f r * (([] : Hol).count (some r) : Int)).sum = 0 := fun l => by
      induction l with
      | nil => rfl
      | cons a l ih => rw [List.map_cons, List.sum_cons, ih]; simp
    rw [this]; rfl
  | o :: Hd, m, h => by
    have ih := sum_cnt f Hd m (fun x hx => h x (List.mem_cons_of_mem _ hx))
    rw [List.map_cons, List.sum_cons, ih]
    cases o with
    | none =>
      have : ∀ r, (none :: Hd).count (some r) = Hd.count (some r) := fun r => by rw [List.count_cons_of_ne (by simp)]
      simp only [this]
      omega
    | some x =>
      have hx : x < m := h x List.mem_cons_self
      have key : ∀ n, ((List.range n).map fun r => f r * ((some x :: Hd).count (some r) : Int)).sum = (if x < n then f x else 0) + ((List.range n).map fun r => f r * (Hd.count (some r) : Int)).sum := fun n => by
        induction n with
        | zero => rfl
        | succ n ihn =>
          rw [List.range_succ, List.map_append, List.map_append, List.sum_append, List.sum_append, ihn]
          simp only [List.map_cons, List.map_nil, List.sum_cons, List.sum_nil]
          by_cases e : x = n
          · rw [e, List.count_cons_self, if_neg (Nat.lt_irrefl _), if_pos (Nat.lt_succ_self _)]
            rw [show ((Hd.count (some n) + 1 : Nat) : Int) = (Hd.count (some n) : Int) + 1 by omega, Int.mul_add]; omega
          · rw [List.count_cons_of_ne (by simpa using e)]
            by_cases e2 : x < n
            · rw [if_pos e2, if_pos (by omega)]; omega
            · rw [if_neg e2, if_neg (by omega)]; omega
      rw [key m, if_pos hx]
theorem sum_range_getD (R : List Int) : ((List.range R.length).map fun r => R.getD r 0).sum = R.sum := by
  have : (List.range R.length).map (fun r => R.getD r 0) = R := by
    refine List.ext_getElem (by simp) fun i h1 h2 => ?_
    simp at h1 ⊢
    rw [List.getElem?_eq_getElem h1]; rfl
  rw [this]
theorem sum_map_add (f g : Nat → Int) : ∀ l : List Nat, (l.map fun c => f c + g c).sum = (l.map f).sum + (l.map g).sum
  | [] => rfl
  | a :: l => by rw [List.map_cons, List.sum_cons, sum_map_add f g l, List.map_cons, List.map_cons, List.sum_cons, List.sum_cons]; omega
theorem sum_congr {f g : Nat → Int} : ∀ {l : List Nat}, (∀ c ∈ l, f c = g c) → (l.map f).sum = (l.map g).sum
  | [], _ => rfl
  | a :: l, h => by rw [List.map_cons, List.sum_cons, List.map_cons, List.sum_cons, h a List.mem_cons_self, sum_congr fun c hc => h c (List.mem_cons_of_mem _ hc)]
theorem HInv.sum (I : HInv T m k R C Hd) (all : ∀ h, h < m → Hd.count (some h) = 1) : ((List.range k).map (valC T Hd)).sum = R.sum + C.sum := by
  have e1 : ((List.range k).map (valC T Hd)).sum = ((List.range k).map fun c => rOf R (Hd.getD c none) + C.getD c 0).sum := sum_congr fun c hc => by
    have hl : c < Hd.length := by rw [I.lH]; exact List.mem_range.mp hc
    unfold valC
    cases e : Hd.getD c none with
    | none => rw [I.cf c (by rw [List.getElem?_eq_getElem hl]; rw [List.getD_eq_getElem?_getD, List.getElem?_eq_getElem hl] at e; exact congrArg some e)]; rfl
    | some r =>
      have := (I.ti c r (by rw [List.getElem?_eq_getElem hl]; rw [List.getD_eq_getElem?_getD, List.getElem?_eq_getElem hl] at e; exact congrArg some e)).2
      exact this.symm
  rw [e1, sum_map_add, ← I.lC, sum_range_getD]
  have e2 : ((List.range C.length).map fun c => rOf R (Hd.getD c none)).sum = (Hd.map (rOf R)).sum := by
    rw [I.lC, ← I.lH]
    have : (List.range Hd.length).map (fun c => rOf R (Hd.getD c none)) = Hd.map (rOf R) := by
      refine List.ext_getElem (by simp) fun i h1 h2 => ?_
      simp at h1 ⊢
      rw [List.getElem?_eq_getElem h1]; rfl
    rw [this]
  rw [e2]
  have e3 := sum_cnt (fun r => R.getD r 0) Hd m (fun x hx => by
    obtain ⟨j, hj, ej⟩ := List.getElem_of_mem hx
    exact (I.ti j x (by rw [List.getElem?_eq_getElem hj, ej])).1)
  have e4 : (Hd.map (rOf R)) = Hd.map fun o : Option Nat => match o with | none => 0 | some r => R.getD r 0 := List.map_congr_left fun o _ => by cases o <;> rfl
  rw [e4, e3]
  have e5 : ((List.range m).map fun r => R.getD r 0 * (Hd.count (some r) : Int)).sum = ((List.range m).map fun r => R.getD r 0).sum := sum_congr fun r hr => by
    rw [all r (List.mem_range.mp hr)]; simp
  rw [e5, ← I.lR, sum_range_getD]
end
end L2
set_option Elab.async false
set_option linter.all false
set_option maxRecDepth 100000
namespace L2
open PySem PySem.Spec PyProof.Rows
theorem for_enumL {K : PySem.W.Frag} {a : Addr} {xs : List V} {g : TG} {tb : TS} {D : Ends} {σ : St} {H : Hp} (Pv : Nat → St → Hp → Prop) (h0 : Pv 0 σ H) (hl : ∀ i σ H, i ≤ xs.length → Pv i σ H → SqL K H a xs)
    (hs : ∀ i x σ H t, xs[i]? = some x → Pv i σ H → H t = none → g (.ref t) σ (upd H t (.tup [.int (i : Int), x])) fun σ2 H2 => tb { D with nx := Pv (i + 1), ct := Pv (i + 1), bk := D.nx } σ2 H2) (hd : ∀ σ H, Pv xs.length σ H → D.nx σ H) :
    ∃ W : Nat → Nat → St → Hp → Prop, (∃ m, W 0 m σ H) ∧ ∀ i m σ H, W i m σ H →
      ((IteL K a).stop i H ∧ D.nx σ H) ∨ ((IteL K a).go i H ∧ ∃ N : St → Hp → Prop, (∀ σ' H', N σ' H' → ∃ m', m' < m ∧ W (i + 1) m' σ' H') ∧ ∀ x H', (IteL K a).yld i H x H' → g x σ H' fun σ2 H2 => tb { D with nx := N, ct := N, bk := D.nx } σ2 H2) := by
  refine ⟨fun i m σ H => m = xs.length - i ∧ i ≤ xs.length ∧ Pv i σ H, ⟨xs.length, by simp, Nat.zero_le _, h0⟩, ?_⟩
  rintro i m σ H ⟨rfl, hi, p⟩
  have q := hl i σ H hi p
  by_cases hlt : i < xs.length
  · refine .inr ⟨⟨xs, xs[i], q, by simp [hlt]⟩, Pv (i + 1), fun σ' H' p' => ⟨xs.length - (i + 1), by omega, rfl, hlt, p'⟩, fun x H' y => ?_⟩
    obtain ⟨t, y, ht, rfl, rfl, hy⟩ := y
    exact hs i y σ _ t (hy xs q) p ht
  · have e : i = xs.length := by omega
    subst e
    exact .inl ⟨⟨xs, q, Nat.le_refl _⟩, hd σ H p⟩
section
variable {X : Cx} {K : PySem.W.Frag}
theorem get_list (h : X.K = K := by rfl) : PGet X (fun x y H Q => ∃ p xs i v, x = .ref p ∧ y = .int i ∧ 0 ≤ i ∧ SqL K H p xs ∧ atI xs i = some v ∧ Q v H) := by
  subst h
  intro pins s σ H o i ov iv Q I ro ri h
  obtain ⟨p, xs, i, z, rfl, rfl, h0, hq, he, q⟩ := h
  cases ro
  obtain ⟨t, rfl⟩ := ri
  obtain ⟨its, r, pl, hz⟩ := I.list hq
  obtain ⟨j, h1, h2, h3, h4, h5⟩ := atI_get he
  obtain ⟨w, ew, rw'⟩ := r.get h2
  have hl := r.length
  have hn := line63
  have hj : i.toNat = j := by
    rw [seqIndex_of h0 h5] at h1
    exact Option.some.inj h1
  exact wpAny_getItem_list pl.isList h0 (by omega) (by rw [hj]; simpa using ew) ⟨z, H, I, rw', q⟩
end
theorem kpe_fld {X : Cx} {K : PySem.W.Frag} {e : Expr} {f : Str} {ta : TE} {pos : Pos} (he : PE X e ta) (hb : attributeBase e f X.env (eval e X.env) = eval e X.env) (h : X.K = K := by rfl) : PE X (.Attribute e f pos) (tFld K ta f) := by subst h; exact pe_fld he hb
def pF (t rp cp hd : Addr) : List (Str × V) := putF "holders" (.ref hd) (putF "column_prices" (.ref cp) (putF "row_prices" (.ref rp) (putF "table" (.ref t) [])))
theorem pF_h (t rp cp hd : Addr) : (pF t rp cp hd).lookup ("holders" : Str) = some (.ref hd) := by unfold pF; rw [lookup_putF, if_pos rfl]
theorem pF_c (t rp cp hd : Addr) : (pF t rp cp hd).lookup ("column_prices" : Str) = some (.ref cp) := by unfold pF; rw [lookup_putF, if_neg (by decide +kernel), lookup_putF, if_pos rfl]
theorem pF_r (t rp cp hd : Addr) : (pF t rp cp hd).lookup ("row_prices" : Str) = some (.ref rp) := by unfold pF; rw [lookup_putF, if_neg (by decide +kernel), lookup_putF, if_neg (by decide +kernel), lookup_putF, if_pos rfl]
theorem pF_t (t rp cp hd : Addr) : (pF t rp cp hd).lookup ("table" : Str) = some (.ref t) := by unfold pF; rw [lookup_putF, if_neg (by decide +kernel), lookup_putF, if_neg (by decide +kernel), lookup_putF, if_neg (by decide +kernel), lookup_putF, if_pos rfl]
theorem pF_no (t rp cp hd : Addr) {m : Str} (h1 : ¬ m = "holders") (h2 : ¬ m = "column_prices") (h3 : ¬ m = "row_prices") (h4 : ¬ m = "table") : (pF t rp cp hd).lookup m = none := by unfold pF; rw [lookup_putF, if_neg h1, lookup_putF, if_neg h2, lookup_putF, if_neg h3, lookup_putF, if_neg h4]; rfl
structure PrAt (C : Addr) (H : Hp) (p dx t rp cp hd : Addr) (ts : List Addr) (T : List (List Int)) (R Cc : List Int) (Hd : Hol) : Prop where
  ob : H p = some (.ins C dx (pF t rp cp hd))
  ht : H t = some (.lst (ts.map V.ref))
  hr : LhAt H ts T
  hR : H rp = some (.lst (R.map V.int))
  hC : H cp = some (.lst (Cc.map V.int))
  hH : H hd = some (.lst (Hd.map hV))
  n1 : rp ≠ cp ∧ rp ≠ hd ∧ cp ≠ hd
  n2 : t ≠ rp ∧ t ≠ cp ∧ t ≠ hd
  n3 : ∀ a ∈ ts, a ≠ rp ∧ a ≠ cp ∧ a ≠ hd
theorem lh_put {H : Hp} {g : Addr} {o : HO} : ∀ {ts : List Addr} {T : List (List Int)}, LhAt H ts T → (∀ a ∈ ts, a ≠ g) → LhAt (upd H g o) ts T
  | _, _, .nil, _ => .nil
  | a :: ts, r :: T, .cons e t, h => .cons (by rw [upd_ne (h a List.mem_cons_self)]; exact e) (lh_put t fun b hb => h b (List.mem_cons_of_mem _ hb))
theorem LhAt.sameH {H H' : Hp} {ts : List Addr} {T : List (List Int)} (h : LhAt H ts T) (s : Same H H') : LhAt H' ts T := L2.Paired.mapP h fun a r e => s a _ e
section
variable {C : Addr} {H H' : Hp} {p dx t rp cp hd g : Addr} {ts : List Addr} {T : List (List Int)} {R Cc R' : List Int} {Hd Hd' : Hol}
theorem PrAt.same (h : PrAt C H p dx t rp cp hd ts T R Cc Hd) (s : Same H H') : PrAt C H' p dx t rp cp hd ts T R Cc Hd := ⟨s _ _ h.ob, s _ _ h.ht, h.hr.sameH s, s _ _ h.hR, s _ _ h.hC, s _ _ h.hH, h.n1, h.n2, h.n3⟩
theorem ins_ne {fs : List (Str × V)} {xs : List V} {q : Addr} (h1 : H p = some (.ins C dx fs)) (h2 : H q = some (.lst xs)) : p ≠ q := ne_of h1 h2 (by intro z; cases z)
theorem PrAt.putR (h : PrAt C H p dx t rp cp hd ts T R Cc Hd) : PrAt C (upd H rp (.lst (R'.map V.int))) p dx t rp cp hd ts T R' Cc Hd :=
  ⟨by rw [upd_ne (ins_ne h.ob h.hR)]; exact h.ob, by rw [upd_ne h.n2.1]; exact h.ht, lh_put h.hr fun a ha => (h.n3 a ha).1, upd_same, by rw [upd_ne h.n1.1.symm]; exact h.hC, by rw [upd_ne h.n1.2.1.symm]; exact h.hH, h.n1, h.n2, h.n3⟩
theorem PrAt.putC (h : PrAt C H p dx t rp cp hd ts T R Cc Hd) : PrAt C (upd H cp (.lst (R'.map V.int))) p dx t rp cp hd ts T R R' Hd :=
  ⟨by rw [upd_ne (ins_ne h.ob h.hC)]; exact h.ob, by rw [upd_ne h.n2.2.1]; exact h.ht, lh_put h.hr fun a ha => (h.n3 a ha).2.1, by rw [upd_ne h.n1.1]; exact h.hR, upd_same, by rw [upd_ne h.n1.2.2.symm]; exact h.hH, h.n1, h.n2, h.n3⟩
theorem PrAt.put {o : HO} {xs : List V} (h : PrAt C H p dx t rp cp hd ts T R Cc Hd) (hg : H g = some (.lst xs)) (ng : t ≠ g ∧ rp ≠ g ∧ cp ≠ g ∧ hd ≠ g ∧ ∀ a ∈ ts, a ≠ g) : PrAt C (upd H g o) p dx t rp cp hd ts T R Cc Hd :=
  ⟨by rw [upd_ne (ins_ne h.ob hg)]; exact h.ob, by rw [upd_ne ng.1]; exact h.ht, lh_put h.hr ng.2.2.2.2, by rw [upd_ne ng.2.1]; exact h.hR, by rw [upd_ne ng.2.2.1]; exact h.hC, by rw [upd_ne ng.2.2.2.1]; exact h.hH, h.n1, h.n2, h.n3⟩
theorem PrAt.apart (h : PrAt C H p dx t rp cp hd ts T R Cc Hd) (hg : H g = none) : t ≠ g ∧ rp ≠ g ∧ cp ≠ g ∧ hd ≠ g ∧ ∀ a ∈ ts, a ≠ g :=
  ⟨ne_of_none h.ht hg, ne_of_none h.hR hg, ne_of_none h.hC hg, ne_of_none h.hH hg, fun a ha => by
    obtain ⟨j, hj, e⟩ := List.getElem_of_mem ha
    obtain ⟨r, hr, _⟩ := paired_getM h.hr (List.getElem?_eq_getElem hj)
    rw [e] at hr
    exact ne_of_none hr hg⟩
end
theorem getH {Hd : Hol} {i : Nat} {y : V} (h : (Hd.map hV)[i]? = some y) : ∃ o, y = hV o ∧ Hd[i]? = some o ∧ i < Hd.length := by
  rw [List.getElem?_map] at h
  cases e : Hd[i]? with
  | none => rw [e] at h; cases h
  | some z => rw [e] at h; exact ⟨z, (Option.some.inj h).symm, rfl, (List.getElem?_eq_some_iff.mp e).1⟩
theorem atI_H {Hd : Hol} {i : Nat} {o : Option Nat} (h : Hd[i]? = some o) : atI (Hd.map hV) (i : Int) = some (hV o) := atI_nat (by rw [List.getElem?_map, h]; rfl)
theorem getD_at {R : List Int} {i : Nat} (h : i < R.length) : R[i]? = some (R.getD i 0) := by rw [List.getD_eq_getElem?_getD, List.getElem?_eq_getElem h]; rfl
theorem mem_gD {l : List Int} {c : Nat} (h : c < l.length) : l.getD c 0 ∈ l := by rw [List.getD_eq_getElem?_getD, List.getElem?_eq_getElem h]; exact List.getElem_mem h
theorem tE_at {T : List (List Int)} {r c k : Nat} (h : r < T.length) (hk : (T.getD r []).length = k) (hc : c < k) : T[r]? = some (T.getD r []) ∧ (T.getD r [])[c]? = some (tE T r c) := by
  refine ⟨by rw [List.getD_eq_getElem?_getD, List.getElem?_eq_getElem h]; rfl, ?_⟩
  unfold tE
  exact getD_at (by omega)
theorem in_nats {S : List Nat} {i : Nat} : inV (V.int (i : Int)) ((S.map fun c : Nat => (c : Int)).map V.int) = decide (i ∈ S) := by
  unfold inV
  rw [List.map_map, List.any_map, Bool.eq_iff_iff, List.any_eq_true, decide_eq_true_iff]
  constructor
  · rintro ⟨c, hc, e⟩
    have e : eqV (V.int (c : Int)) (V.int (i : Int)) = true := e
    have : (c : Int) = (i : Int) := by simpa [eqV] using e
    rw [show i = c by omega]; exact hc
  · intro h
    exact ⟨i, h, by simp [eqV]⟩
end L2
namespace L2
open PySem PySem.Spec PyProof.Rows
def Fr2 (H H' : Hp) (a b : Addr) : Prop := ∀ x o, H x = some o → x ≠ a → x ≠ b → H' x = some o
def Fr3 (H H' : Hp) (a b c : Addr) : Prop := ∀ x o, H x = some o → x ≠ a → x ≠ b → x ≠ c → H' x = some o
def nI (S : List Nat) : List V := (S.map fun c : Nat => (c : Int)).map V.int
theorem nI_snoc (S : List Nat) (i : Nat) : nI S ++ [V.int (i : Int)] = nI (S ++ [i]) := by unfold nI; rw [List.map_append, List.map_append]; rfl
theorem nI_len (S : List Nat) : (nI S).length = S.length := by unfold nI; rw [List.length_map, List.length_map]
theorem getN {S : List Nat} {i : Nat} {y : V} (h : (nI S)[i]? = some y) : ∃ c : Nat, y = V.int (c : Int) ∧ S[i]? = some c ∧ i < S.length := by
  unfold nI at h
  rw [List.getElem?_map, List.getElem?_map] at h
  cases e : S[i]? with
  | none => rw [e] at h; cases h
  | some z => rw [e] at h; exact ⟨z, (Option.some.inj h).symm, rfl, (List.getElem?_eq_some_iff.mp e).1⟩
theorem nI_flat (S : List Nat) : (nI S).all flatV = true := flat_ints _
section
variable {C : Addr} {H H' : Hp} {p dx t rp cp hd rc : Addr} {ts : List Addr} {T : List (List Int)} {R Cc : List Int} {Hd Hd' : Hol}
theorem PrAt.fr2 {xs : List V} (h : PrAt C H p dx t rp cp hd ts T R Cc Hd) (hrc : H rc = some (.lst xs)) (ng : t ≠ rc ∧ rp ≠ rc ∧ cp ≠ rc ∧ hd ≠ rc ∧ ∀ a ∈ ts, a ≠ rc) (f : Fr2 H H' hd rc) (hh : H' hd = some (.lst (Hd'.map hV))) : PrAt C H' p dx t rp cp hd ts T R Cc Hd' := by
  refine ⟨f _ _ h.ob (ins_ne h.ob h.hH) (ins_ne h.ob hrc), f _ _ h.ht h.n2.2.2 ng.1, ?_, f _ _ h.hR h.n1.2.1 ng.2.1, f _ _ h.hC h.n1.2.2 ng.2.2.1, hh, h.n1, h.n2, h.n3⟩
  have : ∀ {ts : List Addr} {T : List (List Int)}, LhAt H ts T → (∀ a ∈ ts, a ≠ hd ∧ a ≠ rc) → LhAt H' ts T := fun {ts T} q => by
    induction q with
    | nil => intro _; exact .nil
    | cons e t ih => intro hn; exact .cons (f _ _ e (hn _ List.mem_cons_self).1 (hn _ List.mem_cons_self).2) (ih fun b hb => hn b (List.mem_cons_of_mem _ hb))
  exact this h.hr fun a ha => ⟨(h.n3 a ha).2.2, ng.2.2.2.2 a ha⟩
end
structure SzOk (T : List (List Int)) (R Cc : List Int) (Hd : Hol) (k : Nat) : Prop where
  lr : ∀ r, r < T.length → (T.getD r []).length = k
  lR : R.length = T.length
  lC : Cc.length = k
  lH : Hd.length = k
  ho : ∀ (c h : Nat), Hd[c]? = some (some h) → h < T.length
  k9 : k ≤ 9
theorem HInv.sz {T : List (List Int)} {m k : Nat} {R C : List Int} {Hd : Hol} (I : HInv T m k R C Hd) (h : k ≤ 9) : SzOk T R C Hd k := ⟨fun r hr => I.lr r (by rw [← I.lT]; exact hr), by rw [I.lR, I.lT], I.lC, I.lH, fun c x e => by rw [I.lT]; exact (I.ti c x e).1, h⟩
theorem flat_one {α : Type} (n : Nat) (x : α) : (List.replicate n [x]).flatten = List.replicate n x := by
  induction n with
  | zero => rfl
  | succ n ih => rw [List.replicate_succ, List.flatten_cons, ih, List.replicate_succ]; rfl
theorem set_map_hV (Hd : Hol) (i r : Nat) : (Hd.map hV).set i (V.int (r : Int)) = (Hd.set i (some r)).map hV := by rw [List.map_set]; rfl
end L2
set_option Elab.async false
set_option linter.all false
set_option maxRecDepth 100000
namespace L2
open PySem PySem.Spec PyProof.Rows
structure KeptOk (tab : List (List Int)) (m cols : Nat) (tot : Int) (yss : List (List Int)) (R C : List Int) : Prop where
  lR : R.length = m
  lC : C.length = cols
  r0 : ∀ x ∈ R, 0 ≤ x
  c0 : ∀ x ∈ C, 0 ≤ x
  pr : ∀ y ∈ yss, ∃ r c : Nat, y = [(r : Int), (c : Int)] ∧ r < m ∧ c < cols
  n1 : (yss.map fun y => y.getD 0 0).Nodup
  n2 : (yss.map fun y => y.getD 1 0).Nodup
  fe : ∀ r c, r < m → c < cols → tE tab r c ≤ R.getD r 0 + C.getD c 0
  s1 : tot = (yss.map fun y => tE tab (y.getD 0 0).toNat (y.getD 1 0).toNat).sum
  s2 : tot = R.sum + C.sum
theorem perm_sum {l1 l2 : List Int} (h : l1.Perm l2) : l1.sum = l2.sum := by
  induction h with
  | nil => rfl
  | cons x _ ih => rw [List.sum_cons, List.sum_cons, ih]
  | swap x y l => rw [List.sum_cons, List.sum_cons, List.sum_cons, List.sum_cons]; omega
  | trans _ _ ih1 ih2 => rw [ih1, ih2]
theorem KeptOk.perm {tab : List (List Int)} {m cols : Nat} {tot : Int} {xss yss : List (List Int)} {R C : List Int} (h : KeptOk tab m cols tot xss R C) (p : yss.Perm xss) : KeptOk tab m cols tot yss R C :=
  ⟨h.lR, h.lC, h.r0, h.c0, fun y hy => h.pr y (p.mem_iff.mp hy), ((p.map _).nodup_iff).mpr h.n1, ((p.map _).nodup_iff).mpr h.n2, h.fe, by rw [h.s1]; exact (perm_sum (p.map _)).symm, h.s2⟩
def pickC (T : List (List Int)) (Hd : Hol) (c : Nat) : Option (Nat × Nat) := match Hd.getD c none with
  | none => none
  | some r => if 0 < tE T r c then some (r, c) else none
def fndP (T : List (List Int)) (Hd : Hol) (i : Nat) : List (Nat × Nat) := (List.range i).filterMap (pickC T Hd)
def pI (q : Nat × Nat) : List Int := [(q.1 : Int), (q.2 : Int)]
theorem fndP_succ (T : List (List Int)) (Hd : Hol) (i : Nat) : fndP T Hd (i + 1) = fndP T Hd i ++ (match pickC T Hd i with | none => [] | some q => [q]) := by
  unfold fndP
  rw [List.range_succ, List.filterMap_append, List.filterMap_cons, List.filterMap_nil]
  cases pickC T Hd i <;> rfl
theorem pickC_some {T : List (List Int)} {Hd : Hol} {c : Nat} {q : Nat × Nat} (h : pickC T Hd c = some q) : Hd.getD c none = some q.1 ∧ q.2 = c ∧ 0 < tE T q.1 q.2 := by
  unfold pickC at h
  cases e : Hd.getD c none with
  | none => rw [e] at h; cases h
  | some r =>
    rw [e] at h
    dsimp only at h
    by_cases g : 0 < tE T r c
    · rw [if_pos g] at h
      cases h
      exact ⟨rfl, rfl, g⟩
    · rw [if_neg g] at h; cases h
theorem fndP_len (T : List (List Int)) (Hd : Hol) (i : Nat) : (fndP T Hd i).length ≤ i := Nat.le_trans (List.length_filterMap_le _ _) (by simp)
theorem fndP_mem {T : List (List Int)} {Hd : Hol} {i : Nat} {q : Nat × Nat} (h : q ∈ fndP T Hd i) : q.2 < i ∧ Hd.getD q.2 none = some q.1 ∧ 0 < tE T q.1 q.2 := by
  obtain ⟨c, hc, e⟩ := List.mem_filterMap.mp h
  obtain ⟨h1, h2, h3⟩ := pickC_some e
  rw [h2]
  rw [h2] at h3
  exact ⟨List.mem_range.mp hc, h1, h3⟩
theorem fndP_nd2 (T : List (List Int)) (Hd : Hol) : ∀ i, ((fndP T Hd i).map (·.2)).Nodup
  | 0 => List.nodup_nil
  | i + 1 => by
    rw [fndP_succ, List.map_append, List.nodup_append]
    refine ⟨fndP_nd2 T Hd i, ?_, fun a ha b hb e => ?_⟩
    · cases pickC T Hd i <;> simp
    · cases e2 : pickC T Hd i with
      | none => rw [e2] at hb; simp at hb
      | some q =>
        rw [e2] at hb
        simp at hb
        obtain ⟨x, hx, rfl⟩ := List.mem_map.mp ha
        have h1 := (fndP_mem hx).1
        have h2 := (pickC_some e2).2.1
        omega
theorem fndP_sum {T : List (List Int)} {Hd : Hol} (t0 : ∀ r c, 0 ≤ tE T r c) : ∀ i, ((fndP T Hd i).map fun q => tE T q.1 q.2).sum = ((List.range i).map (valC T Hd)).sum
  | 0 => rfl
  | i + 1 => by
    rw [fndP_succ, List.map_append, List.sum_append, fndP_sum t0 i, List.range_succ, List.map_append, List.sum_append]
    congr 1
    show _ = valC T Hd i + 0
    unfold valC pickC
    cases e : Hd.getD i none with
    | none => rfl
    | some r =>
      dsimp only
      by_cases g : 0 < tE T r i
      · rw [if_pos g]; rfl
      · rw [if_neg g]
        have := t0 r i
        show 0 = _
        omega
theorem padded {tab : List (List Int)} {m cols sp : Nat} (h1 : tab.length = m) (h2 : ∀ r, r < m → (tab.getD r []).length = cols) :
    let T := tab.map (· ++ List.replicate sp (0 : Int))
    T.length = m ∧ (∀ r, r < m → (T.getD r []).length = cols + sp) ∧ (∀ r c, r < m → c < cols → tE T r c = tE tab r c) ∧ (∀ r c, cols ≤ c → tE T r c = 0) := by
  intro T
  have row : ∀ r, r < m → T.getD r [] = tab.getD r [] ++ List.replicate sp 0 := fun r hr => by
    show (tab.map _).getD r [] = _
    rw [List.getD_eq_getElem?_getD, List.getElem?_map, List.getD_eq_getElem?_getD, List.getElem?_eq_getElem (show r < tab.length by omega)]; rfl
  refine ⟨by show (tab.map _).length = m; rw [List.length_map, h1], fun r hr => by rw [row r hr, List.length_append, h2 r hr, List.length_replicate], fun r c hr hc => ?_, fun r c hc => ?_⟩
  · unfold tE
    rw [row r hr, List.getD_eq_getElem?_getD, List.getElem?_append_left (by rw [h2 r hr]; exact hc), ← List.getD_eq_getElem?_getD]
  · unfold tE
    by_cases hr : r < m
    · rw [row r hr, List.getD_eq_getElem?_getD, List.getElem?_append_right (by rw [h2 r hr]; exact hc), List.getElem?_replicate]
      split <;> rfl
    · rw [show T.getD r [] = [] by rw [List.getD_eq_getElem?_getD, List.getElem?_eq_none_iff.mpr (by show (tab.map _).length ≤ r; rw [List.length_map]; omega)]; rfl]; rfl
theorem sum_take_drop (C : List Int) (n : Nat) : C.sum = (C.take n).sum + (C.drop n).sum := by rw [← List.sum_append, List.take_append_drop]
theorem sum_zero : ∀ {l : List Int}, (∀ x ∈ l, x = 0) → l.sum = 0
  | [], _ => rfl
  | a :: l, h => by rw [List.sum_cons, h a List.mem_cons_self, sum_zero fun x hx => h x (List.mem_cons_of_mem _ hx)]; rfl
theorem kept_ok {tab : List (List Int)} {m cols sp : Nat} {R C : List Int} {Hd : Hol} (h1 : tab.length = m) (h2 : ∀ r, r < m → (tab.getD r []).length = cols)
    (I : HInv (tab.map (· ++ List.replicate sp (0 : Int))) m (cols + sp) R C Hd) (all : ∀ h, h < m → Hd.count (some h) = 1) :
    KeptOk tab m cols ((fndP tab Hd cols).map fun q => tE tab q.1 q.2).sum ((fndP tab Hd cols).map pI) R (C.take cols) := by
  obtain ⟨p1, p2, p3, p4⟩ := padded (sp := sp) h1 h2
  have hol : ∀ c h, Hd.getD c none = some h → h < m ∧ Hd[c]? = some (some h) := fun c h e => by
    rw [List.getD_eq_getElem?_getD] at e
    cases e2 : Hd[c]? with
    | none => rw [e2] at e; cases e
    | some o =>
      rw [e2] at e
      have e : o = some h := e
      rw [e] at e2
      exact ⟨(I.ti c h e2).1, congrArg some e⟩
  have fe : fndP tab Hd cols = fndP (tab.map (· ++ List.replicate sp (0 : Int))) Hd cols := by
    unfold fndP
    refine filterMap_congr' fun c hc => ?_
    have hc := List.mem_range.mp hc
    unfold pickC
    cases e : Hd.getD c none with
    | none => rfl
    | some r => dsimp only; rw [p3 r c (hol c r e).1 hc]
  have es : ((fndP tab Hd cols).map fun q => tE tab q.1 q.2).sum = ((List.range cols).map (valC (tab.map (· ++ List.replicate sp (0 : Int))) Hd)).sum := by
    rw [← fndP_sum I.t0, fe]
    refine congrArg List.sum (List.map_congr_left fun q hq => ?_)
    obtain ⟨a, b, _⟩ := fndP_mem hq
    exact (p3 q.1 q.2 (hol q.2 q.1 b).1 a).symm
  have sumk := I.sum all
  have e1 : ((List.range (cols + sp)).map (valC (tab.map (· ++ List.replicate sp (0 : Int))) Hd)).sum = ((List.range cols).map (valC (tab.map (· ++ List.replicate sp (0 : Int))) Hd)).sum := by
    rw [List.range_add, List.map_append, List.sum_append, List.map_map]
    rw [sum_zero (l := List.map (valC (tab.map (· ++ List.replicate sp (0 : Int))) Hd ∘ fun x => cols + x) (List.range sp)) (fun x hx => by
      obtain ⟨c, _, rfl⟩ := List.mem_map.mp hx
      show valC _ Hd (cols + c) = 0
      unfold valC
      cases Hd.getD (cols + c) none with
      | none => rfl
      | some r => exact p4 r _ (by omega))]
    omega
  have e2 : (C.drop cols).sum = 0 := sum_zero fun x hx => by
    obtain ⟨j, hj, rfl⟩ := List.getElem_of_mem hx
    rw [List.length_drop] at hj
    rw [List.getElem_drop]
    have hjC : cols + j < C.length := by omega
    have g : C[cols + j] = C.getD (cols + j) 0 := by rw [List.getD_eq_getElem?_getD, List.getElem?_eq_getElem hjC]; rfl
    rw [g]
    have hjH : cols + j < Hd.length := by rw [I.lH, ← I.lC]; exact hjC
    cases e : Hd[cols + j] with
    | none => exact I.cf _ (by rw [List.getElem?_eq_getElem hjH, e])
    | some r =>
      have t := (I.ti (cols + j) r (by rw [List.getElem?_eq_getElem hjH, e])).2
      unfold tgt at t
      rw [p4 r _ (by omega)] at t
      have a := I.r0 r
      have b := I.c0 (cols + j)
      omega
  have gt : ∀ c, c < cols → (C.take cols).getD c 0 = C.getD c 0 := fun c hc => by rw [List.getD_eq_getElem?_getD, List.getElem?_take, if_pos hc, ← List.getD_eq_getElem?_getD]
  have hCl : (C.take cols).length = cols := by rw [List.length_take, I.lC]; omega
  have mem0 : ∀ {l : List Int}, (∀ c, 0 ≤ l.getD c 0) → ∀ x ∈ l, 0 ≤ x := fun {l} h x hx => by
    obtain ⟨j, hj, rfl⟩ := List.getElem_of_mem hx
    have := h j
    rw [List.getD_eq_getElem?_getD, List.getElem?_eq_getElem hj] at this
    exact this
  refine ⟨I.lR, hCl, mem0 I.r0, fun x hx => mem0 I.c0 x (List.mem_of_mem_take hx), fun y hy => ?_, ?_, ?_, fun r c hr hc => ?_, ?_, ?_⟩
  · obtain ⟨q, hq, rfl⟩ := List.mem_map.mp hy
    obtain ⟨a, b, _⟩ := fndP_mem hq
    exact ⟨q.1, q.2, rfl, (hol q.2 q.1 b).1, a⟩
  · rw [List.map_map, List.nodup_iff_pairwise_ne, List.pairwise_map]
    refine List.Pairwise.imp_of_mem (fun {x y} hx hy hxy e => ?_) (List.pairwise_map.mp (List.nodup_iff_pairwise_ne.mp (fndP_nd2 tab Hd cols)))
    have e : (x.1 : Int) = (y.1 : Int) := e
    have hx1 := (hol _ _ (fndP_mem hx).2.1).2
    have hy1 := (hol _ _ (fndP_mem hy).2.1).2
    rw [show x.1 = y.1 by omega] at hx1
    exact hxy (hol_inj (I.on _) hx1 hy1)
  · rw [List.map_map, List.nodup_iff_pairwise_ne, List.pairwise_map]
    refine List.Pairwise.imp_of_mem (fun {x y} hx hy hxy e => ?_) (List.pairwise_map.mp (List.nodup_iff_pairwise_ne.mp (fndP_nd2 tab Hd cols)))
    have e : (x.2 : Int) = (y.2 : Int) := e
    exact hxy (by omega)
  · rw [gt c hc, ← p3 r c hr hc]
    exact I.fe r c hr (by omega)
  · rw [List.map_map]; rfl
  · rw [es, ← e1, sumk, sum_take_drop C cols, e2]; omega
where
  filterMap_congr' {α β : Type} {f g : α → Option β} : ∀ {l : List α}, (∀ x ∈ l, f x = g x) → l.filterMap f = l.filterMap g
    | [], _ => rfl
    | a :: l, h => by rw [List.filterMap_cons, List.filterMap_cons, h a List.mem_cons_self, filterMap_congr' fun x hx => h x (List.mem_cons_of_mem _ hx)]
theorem ov_tab {ws us : List Int} : (ovT ws us).length = (fresh 0 ws).toNat ∧ (∀ r, r < (fresh 0 ws).toNat → ((ovT ws us).getD r []).length = (fresh 0 us).toNat) ∧ (∀ r c, 0 ≤ tE (ovT ws us) r c) := by
  refine ⟨ovT_length ws us, fun r hr => by rw [List.getD_eq_getElem?_getD, ovT_at hr]; exact ovRow_length ws us r, fun r c => ?_⟩
  unfold tE
  by_cases hr : r < (fresh 0 ws).toNat
  · rw [show (ovT ws us).getD r [] = ovRow ws us r by rw [List.getD_eq_getElem?_getD, ovT_at hr]; rfl]
    by_cases hc : c < (fresh 0 us).toNat
    · rw [List.getD_eq_getElem?_getD, ovRow_at hc]; exact Int.natCast_nonneg _
    · rw [List.getD_eq_getElem?_getD, List.getElem?_eq_none_iff.mpr (by rw [ovRow_length]; omega)]; exact Int.le_refl _
  · rw [show (ovT ws us).getD r [] = [] by rw [List.getD_eq_getElem?_getD, List.getElem?_eq_none_iff.mpr (by rw [ovT_length]; omega)]; rfl]; exact Int.le_refl _
end L2
namespace L2
open PySem PySem.Spec PyProof.Rows
theorem pairs_le {R C : List Int} : ∀ {qs : List (Nat × Nat)} {f : Nat → Nat → Int}, (∀ r, 0 ≤ R.getD r 0) → (∀ c, 0 ≤ C.getD c 0) → (∀ q ∈ qs, q.1 < R.length ∧ q.2 < C.length ∧ f q.1 q.2 ≤ R.getD q.1 0 + C.getD q.2 0) → (qs.map (·.1)).Nodup → (qs.map (·.2)).Nodup →
    (qs.map fun q => f q.1 q.2).sum ≤ R.sum + C.sum := by
  intro qs f r0 c0 h n1 n2
  have key : ∀ (R : List Int) (l : List Nat), (∀ r, 0 ≤ R.getD r 0) → l.Nodup → (∀ x ∈ l, x < R.length) → (l.map fun x => R.getD x 0).sum ≤ R.sum := by
    intro R
    induction R with
    | nil =>
      intro l _ _ hl
      cases l with
      | nil => exact Int.le_refl _
      | cons a l => exact absurd (hl a List.mem_cons_self) (by simp)
    | cons a R ih =>
      intro l h0 nd hl
      have h0' : ∀ r, 0 ≤ R.getD r 0 := fun r => by have := h0 (r + 1); simpa using this
      have a0 : 0 ≤ a := by have := h0 0; simpa using this
      have hsp : ∀ l : List Nat, l.Nodup → (l.map fun x => (a :: R).getD x 0).sum ≤ a * ((l.filter (· == 0)).length : Int) + ((l.filter (· != 0)).map fun x => R.getD (x - 1) 0).sum := by
        intro l
        induction l with
        | nil => intro _; simp
        | cons x l ihl =>
          intro nd
          have := ihl (List.nodup_cons.mp nd).2
          rw [List.map_cons, List.sum_cons]
          cases x with
          | zero =>
            simp only [List.filter_cons]
            simp only [beq_self_eq_true, if_true, bne_self_eq_false, Bool.false_eq_true, if_false, List.length_cons]
            rw [show (((l.filter (· == 0)).length + 1 : Nat) : Int) = ((l.filter (· == 0)).length : Int) + 1 by omega, Int.mul_add]
            have e : (a :: R).getD 0 0 = a := by simp
            omega
          | succ x =>
            simp only [List.filter_cons]
            have e1 : (x + 1 == 0) = false := by simp
            have e2 : (x + 1 != 0) = true := by simp
            rw [e1, e2]
            simp only [Bool.false_eq_true, if_false, if_true, List.map_cons, List.sum_cons]
            have e : (a :: R).getD (x + 1) 0 = R.getD (x + 1 - 1) 0 := by simp
            omega
      have h1 := hsp l nd
      have c1 : ((l.filter (· == 0)).length : Int) ≤ 1 := by
        have : (l.filter (· == 0)).length = l.count 0 := by rw [List.count_eq_length_filter]
        rw [this, nd.count]
        split <;> decide
      have h2 := ih ((l.filter (· != 0)).map (· - 1)) h0' (by
        rw [List.nodup_iff_pairwise_ne, List.pairwise_map]
        refine List.Pairwise.imp_of_mem (fun {x y} hx hy hxy e => ?_) (List.nodup_iff_pairwise_ne.mp (nd.filter _))
        have hx := (List.mem_filter.mp hx).2
        have hy := (List.mem_filter.mp hy).2
        simp at hx hy
        exact hxy (by omega)) (fun x hx => by
        obtain ⟨y, hy, rfl⟩ := List.mem_map.mp hx
        obtain ⟨hy1, hy2⟩ := List.mem_filter.mp hy
        have := hl y hy1
        simp at hy2 this
        omega)
      rw [List.map_map] at h2
      have h2 : ((l.filter (· != 0)).map fun x => R.getD (x - 1) 0).sum ≤ R.sum := h2
      rw [List.sum_cons]
      have : a * ((l.filter (· == 0)).length : Int) ≤ a * 1 := Int.mul_le_mul_of_nonneg_left c1 a0
      omega
  have h1 := key R (qs.map (·.1)) r0 n1 (fun x hx => by obtain ⟨q, hq, rfl⟩ := List.mem_map.mp hx; exact (h q hq).1)
  have h2 := key C (qs.map (·.2)) c0 n2 (fun x hx => by obtain ⟨q, hq, rfl⟩ := List.mem_map.mp hx; exact (h q hq).2.1)
  rw [List.map_map] at h1 h2
  have h3 : ∀ {qs : List (Nat × Nat)}, (∀ q ∈ qs, f q.1 q.2 ≤ R.getD q.1 0 + C.getD q.2 0) → (qs.map fun q => f q.1 q.2).sum ≤ (qs.map ((fun x => R.getD x 0) ∘ fun q : Nat × Nat => q.1)).sum + (qs.map ((fun x => C.getD x 0) ∘ fun q : Nat × Nat => q.2)).sum := by
    intro qs
    induction qs with
    | nil => intro _; exact Int.le_refl _
    | cons q qs ih =>
      intro h
      have := ih fun x hx => h x (List.mem_cons_of_mem _ hx)
      have hq := h q List.mem_cons_self
      rw [List.map_cons, List.map_cons, List.map_cons, List.sum_cons, List.sum_cons, List.sum_cons]
      simp only [Function.comp] at this ⊢
      omega
  have := h3 fun q hq => (h q hq).2.2
  omega
theorem getD_nn {l : List Int} (h : ∀ x ∈ l, 0 ≤ x) (r : Nat) : 0 ≤ l.getD r 0 := by
  by_cases hr : r < l.length
  · exact h _ (mem_gD hr)
  · rw [List.getD_eq_getElem?_getD, List.getElem?_eq_none_iff.mpr (by omega)]; exact Int.le_refl _
section
variable {tab : List (List Int)} {m cols : Nat} {tot tot' : Int} {yss yss' : List (List Int)} {R C R' C' : List Int}
theorem KeptOk.most (K : KeptOk tab m cols tot yss R C) {qs : List (Nat × Nat)} (h : ∀ q ∈ qs, q.1 < m ∧ q.2 < cols) (n1 : (qs.map (·.1)).Nodup) (n2 : (qs.map (·.2)).Nodup) : (qs.map fun q => tE tab q.1 q.2).sum ≤ tot := by
  rw [K.s2]
  exact pairs_le (getD_nn K.r0) (getD_nn K.c0) (fun q hq => ⟨by rw [K.lR]; exact (h q hq).1, by rw [K.lC]; exact (h q hq).2, K.fe q.1 q.2 (h q hq).1 (h q hq).2⟩) n1 n2
def toP (y : List Int) : Nat × Nat := ((y.getD 0 0).toNat, (y.getD 1 0).toNat)
theorem KeptOk.pairs (K : KeptOk tab m cols tot yss R C) : (∀ q ∈ yss.map toP, q.1 < m ∧ q.2 < cols) ∧ ((yss.map toP).map (·.1)).Nodup ∧ ((yss.map toP).map (·.2)).Nodup ∧ tot = ((yss.map toP).map fun q => tE tab q.1 q.2).sum := by
  refine ⟨fun q hq => ?_, ?_, ?_, ?_⟩
  · obtain ⟨y, hy, rfl⟩ := List.mem_map.mp hq
    obtain ⟨r, c, rfl, hr, hc⟩ := K.pr y hy
    exact ⟨hr, hc⟩
  · rw [List.map_map, List.nodup_iff_pairwise_ne, List.pairwise_map]
    refine List.Pairwise.imp_of_mem (fun {x y} hx hy hxy e => ?_) (List.pairwise_map.mp (List.nodup_iff_pairwise_ne.mp K.n1))
    obtain ⟨r, c, rfl, _, _⟩ := K.pr x hx
    obtain ⟨r', c', rfl, _, _⟩ := K.pr y hy
    have e : r = r' := e
    exact hxy (by show (r : Int) = (r' : Int); omega)
  · rw [List.map_map, List.nodup_iff_pairwise_ne, List.pairwise_map]
    refine List.Pairwise.imp_of_mem (fun {x y} hx hy hxy e => ?_) (List.pairwise_map.mp (List.nodup_iff_pairwise_ne.mp K.n2))
    obtain ⟨r, c, rfl, _, _⟩ := K.pr x hx
    obtain ⟨r', c', rfl, _, _⟩ := K.pr y hy
    have e : c = c' := e
    exact hxy (by show (c : Int) = (c' : Int); omega)
  · rw [List.map_map]; exact K.s1
end
end L2
namespace L2
open PySem PySem.Spec PyProof.Rows
theorem sum_parts (f : Nat → Int) (m : Nat) : ∀ (l : List Nat), (∀ j ∈ l, 0 ≤ f j ∧ f j < m) → ((List.range m).map fun k : Nat => ((l.filter fun j => decide (f j = (k : Int))).length : Int)).sum = l.length
  | [], _ => by
    have : ∀ l : List Nat, (l.map fun _ : Nat => ((0 : Nat) : Int)).sum = 0 := fun l => sum_zero fun x hx => by obtain ⟨_, _, rfl⟩ := List.mem_map.mp hx; rfl
    exact this _
  | j :: l, h => by
    have ih := sum_parts f m l fun x hx => h x (List.mem_cons_of_mem _ hx)
    obtain ⟨h0, h1⟩ := h j List.mem_cons_self
    have key : ∀ n : Nat, ((List.range n).map fun k : Nat => (((j :: l).filter fun j => decide (f j = (k : Int))).length : Int)).sum = ((List.range n).map fun k : Nat => ((l.filter fun j => decide (f j = (k : Int))).length : Int)).sum + if f j < n then 1 else 0 := fun n => by
      induction n with
      | zero => rw [if_neg (by show ¬ f j < (0 : Int); omega)]; rfl
      | succ n ihn =>
        rw [List.range_succ, List.map_append, List.map_append, List.sum_append, List.sum_append, ihn]
        simp only [List.map_cons, List.map_nil, List.sum_cons, List.sum_nil, List.filter_cons]
        by_cases e : f j = (n : Int)
        · rw [if_pos (decide_eq_true e), List.length_cons, if_neg (by omega), if_pos (by omega)]; omega
        · rw [if_neg (fun z => e (of_decide_eq_true z))]
          by_cases e2 : f j < (n : Int)
          · rw [if_pos e2, if_pos (by omega)]; omega
          · rw [if_neg e2, if_neg (by omega)]; omega
    rw [key m, ih, if_pos h1, List.length_cons]; omega
theorem way_bounds {ws : List Int} (hw : isWay ws = true) : ∀ j, j < ws.length → 0 ≤ ws.getD j 0 ∧ ws.getD j 0 < ((fresh 0 ws).toNat : Int) := fun j hj => by
  obtain ⟨w1, w9, w0⟩ := isWay_iff.mp hw
  have h := (way_mem ws w0 (ws.getD j 0)).mp (mem_gD hj)
  omega
theorem lots_sum {ws : List Int} (hw : isWay ws = true) : ((List.range (fresh 0 ws).toNat).map fun k : Nat => ((lotN ws (k : Int) ws.length).length : Int)).sum = ws.length := by
  have := sum_parts (fun j => ws.getD j 0) (fresh 0 ws).toNat (List.range ws.length) fun j hj => way_bounds hw j (List.mem_range.mp hj)
  rw [List.length_range] at this
  exact this
theorem tE_ov {ws vs : List Int} {r c : Nat} (hr : r < (fresh 0 ws).toNat) (hc : c < (fresh 0 vs).toNat) : tE (ovT ws vs) r c = (((lotN ws (r : Int) ws.length).filter fun j => decide (vs.getD j 0 = (c : Int))).length : Int) := by
  unfold tE
  rw [show (ovT ws vs).getD r [] = ovRow ws vs r by rw [List.getD_eq_getElem?_getD, ovT_at hr]; rfl, List.getD_eq_getElem?_getD, ovRow_at hc]; rfl
theorem getD_range_map (f : Nat → Int) (m r : Nat) (h : r < m) : ((List.range m).map f).getD r 0 = f r := by rw [List.getD_eq_getElem?_getD, List.getElem?_map, List.getElem?_range h]; rfl
theorem kept_le {ws vs : List Int} {tot : Int} {yss : List (List Int)} {R C : List Int} (hw : isWay ws = true) (K : KeptOk (ovT ws vs) (fresh 0 ws).toNat (fresh 0 vs).toNat tot yss R C) : tot ≤ ws.length := by
  obtain ⟨a, b, c, d⟩ := K.pairs
  rw [d, ← lots_sum hw]
  have hC : ((List.replicate (fresh 0 vs).toNat (0 : Int))).sum = 0 := sum_zero fun x hx => (List.mem_replicate.mp hx).2
  have h0 : ∀ c, (List.replicate (fresh 0 vs).toNat (0 : Int)).getD c 0 = 0 := fun c => by rw [List.getD_eq_getElem?_getD, List.getElem?_replicate]; split <;> rfl
  have := pairs_le (R := (List.range (fresh 0 ws).toNat).map fun k : Nat => ((lotN ws (k : Int) ws.length).length : Int)) (C := List.replicate (fresh 0 vs).toNat (0 : Int)) (qs := yss.map toP) (f := tE (ovT ws vs))
    (getD_nn fun x hx => by obtain ⟨k, _, rfl⟩ := List.mem_map.mp hx; exact Int.natCast_nonneg _) (fun c => by rw [h0]; exact Int.le_refl _) (fun q hq => by
      obtain ⟨h1, h2⟩ := a q hq
      refine ⟨by rw [List.length_map, List.length_range]; exact h1, by rw [List.length_replicate]; exact h2, ?_⟩
      rw [h0, getD_range_map _ _ _ h1, tE_ov h1 h2]
      have := List.length_filter_le (fun j => decide (vs.getD j 0 = (q.2 : Int))) (lotN ws (q.1 : Int) ws.length)
      omega) b c
  omega
theorem kept_self {ws : List Int} {tot : Int} {yss : List (List Int)} {R C : List Int} (hw : isWay ws = true) (K : KeptOk (ovT ws ws) (fresh 0 ws).toNat (fresh 0 ws).toNat tot yss R C) : tot = ws.length := by
  have h1 := kept_le hw K
  have h2 := K.most (qs := (List.range (fresh 0 ws).toNat).map fun r => (r, r)) (fun q hq => by
    obtain ⟨r, hr, rfl⟩ := List.mem_map.mp hq
    exact ⟨List.mem_range.mp hr, List.mem_range.mp hr⟩) (by rw [List.map_map]; exact (List.map_id' _).symm ▸ List.nodup_range) (by rw [List.map_map]; exact (List.map_id' _).symm ▸ List.nodup_range)
  rw [List.map_map] at h2
  have e : (List.range (fresh 0 ws).toNat).map ((fun q : Nat × Nat => tE (ovT ws ws) q.1 q.2) ∘ fun r => (r, r)) = (List.range (fresh 0 ws).toNat).map fun k : Nat => ((lotN ws (k : Int) ws.length).length : Int) := List.map_congr_left fun r hr => by
    have hr := List.mem_range.mp hr
    show tE (ovT ws ws) r r = _
    rw [tE_ov hr hr, List.filter_eq_self.mpr fun j hj => decide_eq_true (mem_lotN.mp hj).2]
  rw [e, lots_sum hw] at h2
  omega
end L2
set_option Elab.async false
set_option linter.all false
set_option maxRecDepth 100000
namespace L2
open PySem PySem.Spec PyProof.Rows
theorem cnt_or {α : Type} (p q r : α → Bool) : ∀ (l : List α), (∀ x ∈ l, r x = (p x || q x) ∧ ¬ (p x = true ∧ q x = true)) → (l.filter r).length = (l.filter p).length + (l.filter q).length
  | [], _ => rfl
  | a :: l, h => by
    have ih := cnt_or p q r l fun x hx => h x (List.mem_cons_of_mem _ hx)
    obtain ⟨h1, h2⟩ := h a List.mem_cons_self
    rw [List.filter_cons, List.filter_cons, List.filter_cons, h1]
    cases hp : p a with
    | true =>
      cases hq : q a with
      | true => exact absurd ⟨hp, hq⟩ h2
      | false => simp [ih]; omega
    | false =>
      cases hq : q a with
      | true => simp [ih]; omega
      | false => simp [ih]
theorem cnt_in {α : Type} (g : α → Nat × Nat) (l : List α) : ∀ (qs : List (Nat × Nat)), qs.Nodup → ((l.filter fun j => decide (g j ∈ qs)).length : Int) = (qs.map fun q => ((l.filter fun j => decide (g j = q)).length : Int)).sum
  | [], _ => by
    rw [show (l.filter fun j => decide (g j ∈ ([] : List (Nat × Nat)))) = [] from List.filter_eq_nil_iff.mpr fun x _ => by simp]; rfl
  | q :: qs, h => by
    have hc := List.nodup_cons.mp h
    have ih := cnt_in g l qs hc.2
    rw [List.map_cons, List.sum_cons, ← ih, cnt_or (fun j => decide (g j = q)) (fun j => decide (g j ∈ qs)) (fun j => decide (g j ∈ q :: qs)) l (fun x _ => ⟨by
      by_cases h1 : g x = q
      · simp [h1]
      · by_cases h2 : g x ∈ qs <;> simp [h1, h2], fun ⟨h1, h2⟩ => hc.1 (by rw [← of_decide_eq_true h1]; exact of_decide_eq_true h2)⟩)]
    omega
def Pat (ws us : List Int) (J : List Nat) : Prop := ∀ i ∈ J, ∀ j ∈ J, ws.getD i 0 = ws.getD j 0 ↔ us.getD i 0 = us.getD j 0
theorem tE_cnt {ws us : List Int} {r c : Nat} (hr : r < (fresh 0 ws).toNat) (hc : c < (fresh 0 us).toNat) : tE (ovT ws us) r c = (((List.range ws.length).filter fun j => decide (((ws.getD j 0).toNat, (us.getD j 0).toNat) = (r, c)) && (decide (0 ≤ ws.getD j 0) && decide (0 ≤ us.getD j 0))).length : Int) := by
  rw [tE_ov hr hc]
  unfold lotN
  rw [List.filter_filter]
  congr 2
  refine List.filter_congr fun j _ => ?_
  rw [Bool.eq_iff_iff]
  simp only [Bool.and_eq_true, decide_eq_true_iff, Prod.mk.injEq]
  omega
section
variable {ws us vs : List Int} {tot tot' tot2 : Int} {yss yss' yss2 : List (List Int)} {R C R' C' R2 C2 : List Int}
def pj (ws us : List Int) (j : Nat) : Nat × Nat := ((ws.getD j 0).toNat, (us.getD j 0).toNat)
theorem tE_pj (hw : isWay ws = true) (hu : isWay us = true) (hl : us.length = ws.length) {q : Nat × Nat} (hr : q.1 < (fresh 0 ws).toNat) (hc : q.2 < (fresh 0 us).toNat) : tE (ovT ws us) q.1 q.2 = (((List.range ws.length).filter fun j => decide (pj ws us j = q)).length : Int) := by
  rw [tE_cnt hr hc]
  congr 2
  refine List.filter_congr fun j hj => ?_
  have h1 := (way_bounds hw j (List.mem_range.mp hj)).1
  have h2 := (way_bounds hu j (by rw [hl]; exact List.mem_range.mp hj)).1
  rw [decide_eq_true h1, decide_eq_true h2, Bool.and_self, Bool.and_true]; rfl
theorem kept_set (hw : isWay ws = true) (hu : isWay us = true) (hl : us.length = ws.length) (K : KeptOk (ovT ws us) (fresh 0 ws).toNat (fresh 0 us).toNat tot yss R C) : ∃ J : List Nat, J.Nodup ∧ (∀ j ∈ J, j < ws.length) ∧ Pat ws us J ∧ (J.length : Int) = tot := by
  obtain ⟨a, b, c, d⟩ := K.pairs
  have nd : (yss.map toP).Nodup := by
    rw [List.nodup_iff_pairwise_ne]
    exact (List.pairwise_map.mp (List.nodup_iff_pairwise_ne.mp b)).imp fun {x y} h e => h (by rw [e])
  have inj1 : ∀ x ∈ yss.map toP, ∀ y ∈ yss.map toP, x.1 = y.1 → x = y := fun x hx y hy e => nodup_map_inj b hx hy e
  have inj2 : ∀ x ∈ yss.map toP, ∀ y ∈ yss.map toP, x.2 = y.2 → x = y := fun x hx y hy e => nodup_map_inj c hx hy e
  refine ⟨(List.range ws.length).filter fun j => decide (pj ws us j ∈ yss.map toP), List.nodup_range.filter _, fun j hj => List.mem_range.mp (List.mem_filter.mp hj).1, fun i hi j hj => ?_, ?_⟩
  · obtain ⟨hi1, hi2⟩ := List.mem_filter.mp hi
    obtain ⟨hj1, hj2⟩ := List.mem_filter.mp hj
    have hi2 := of_decide_eq_true hi2
    have hj2 := of_decide_eq_true hj2
    have wi := (way_bounds hw i (List.mem_range.mp hi1)).1
    have wj := (way_bounds hw j (List.mem_range.mp hj1)).1
    have ui := (way_bounds hu i (by rw [hl]; exact List.mem_range.mp hi1)).1
    have uj := (way_bounds hu j (by rw [hl]; exact List.mem_range.mp hj1)).1
    constructor
    · intro e
      have := congrArg Prod.snd (inj1 _ hi2 _ hj2 (by show (ws.getD i 0).toNat = (ws.getD j 0).toNat; rw [e]))
      have : (us.getD i 0).toNat = (us.getD j 0).toNat := this
      omega
    · intro e
      have := congrArg Prod.fst (inj2 _ hi2 _ hj2 (by show (us.getD i 0).toNat = (us.getD j 0).toNat; rw [e]))
      have : (ws.getD i 0).toNat = (ws.getD j 0).toNat := this
      omega
  · rw [cnt_in (pj ws us) (List.range ws.length) (yss.map toP) nd, d]
    refine congrArg List.sum (List.map_congr_left fun q hq => ?_)
    exact (tE_pj hw hu hl (a q hq).1 (a q hq).2).symm
where
  nodup_map_inj {α β : Type} {f : α → β} : ∀ {l : List α}, (l.map f).Nodup → ∀ {x y : α}, x ∈ l → y ∈ l → f x = f y → x = y
    | a :: l, h, x, y, hx, hy, e => by
      rw [List.map_cons, List.nodup_cons] at h
      rcases List.mem_cons.mp hx with e1 | hx'
      · rcases List.mem_cons.mp hy with e2 | hy'
        · rw [e1, e2]
        · exact absurd (by rw [← e1, e]; exact List.mem_map_of_mem hy') h.1
      · rcases List.mem_cons.mp hy with e2 | hy'
        · exact absurd (by rw [← e2, ← e]; exact List.mem_map_of_mem hx') h.1
        · exact nodup_map_inj h.2 hx' hy' e
theorem nd_dd : ∀ (l : List (Nat × Nat)), ∃ d : List (Nat × Nat), d.Nodup ∧ ∀ x, x ∈ d ↔ x ∈ l
  | [] => ⟨[], List.nodup_nil, fun _ => Iff.rfl⟩
  | a :: l => by
    obtain ⟨d, h1, h2⟩ := nd_dd l
    by_cases h : a ∈ l
    · exact ⟨d, h1, fun x => by rw [h2, List.mem_cons]; exact ⟨.inr, fun q => q.elim (fun e => by rw [e]; exact h) id⟩⟩
    · exact ⟨a :: d, List.nodup_cons.mpr ⟨fun q => h ((h2 a).mp q), h1⟩, fun x => by rw [List.mem_cons, List.mem_cons, h2]⟩
theorem kept_most (hw : isWay ws = true) (hu : isWay us = true) (hl : us.length = ws.length) (K : KeptOk (ovT ws us) (fresh 0 ws).toNat (fresh 0 us).toNat tot yss R C) {J : List Nat} (hnd : J.Nodup) (hJ : ∀ j ∈ J, j < ws.length) (hP : Pat ws us J) : (J.length : Int) ≤ tot := by
  obtain ⟨d, d1, d2⟩ := nd_dd (J.map (pj ws us))
  have hd : ∀ q ∈ d, ∃ j ∈ J, pj ws us j = q := fun q hq => by
    obtain ⟨j, hj, e⟩ := List.mem_map.mp ((d2 q).mp hq)
    exact ⟨j, hj, e⟩
  have bw : ∀ j ∈ J, 0 ≤ ws.getD j 0 ∧ ws.getD j 0 < ((fresh 0 ws).toNat : Int) ∧ 0 ≤ us.getD j 0 ∧ us.getD j 0 < ((fresh 0 us).toNat : Int) := fun j hj => by
    have h1 := way_bounds hw j (hJ j hj)
    have h2 := way_bounds hu j (by rw [hl]; exact hJ j hj)
    exact ⟨h1.1, h1.2, h2.1, h2.2⟩
  have rng : ∀ q ∈ d, q.1 < (fresh 0 ws).toNat ∧ q.2 < (fresh 0 us).toNat := fun q hq => by
    obtain ⟨j, hj, rfl⟩ := hd q hq
    have := bw j hj
    exact ⟨by show (ws.getD j 0).toNat < _; omega, by show (us.getD j 0).toNat < _; omega⟩
  have ndm : ∀ (f : Nat × Nat → Nat), (∀ x ∈ d, ∀ y ∈ d, f x = f y → x = y) → (d.map f).Nodup := fun f hf => by
    rw [List.nodup_iff_pairwise_ne, List.pairwise_map]
    exact List.Pairwise.imp_of_mem (fun {x y} hx hy hxy e => hxy (hf x hx y hy e)) (List.nodup_iff_pairwise_ne.mp d1)
  have h1 := K.most (qs := d) rng (ndm _ fun x hx y hy e => by
    obtain ⟨i, hi, rfl⟩ := hd x hx
    obtain ⟨j, hj, rfl⟩ := hd y hy
    have e : (ws.getD i 0).toNat = (ws.getD j 0).toNat := e
    have b1 := bw i hi
    have b2 := bw j hj
    have := (hP i hi j hj).mp (by omega)
    unfold pj
    rw [e, this]) (ndm _ fun x hx y hy e => by
    obtain ⟨i, hi, rfl⟩ := hd x hx
    obtain ⟨j, hj, rfl⟩ := hd y hy
    have e : (us.getD i 0).toNat = (us.getD j 0).toNat := e
    have b1 := bw i hi
    have b2 := bw j hj
    have := (hP i hi j hj).mpr (by omega)
    unfold pj
    rw [e, this])
  have h2 : (d.map fun q => tE (ovT ws us) q.1 q.2).sum = (((List.range ws.length).filter fun j => decide (pj ws us j ∈ d)).length : Int) := by
    rw [cnt_in (pj ws us) (List.range ws.length) d d1]
    exact congrArg List.sum (List.map_congr_left fun q hq => tE_pj hw hu hl (rng q hq).1 (rng q hq).2)
  have h3 := hnd.length_le_of_subset (l₂ := (List.range ws.length).filter fun j => decide (pj ws us j ∈ d)) (fun j hj => List.mem_filter.mpr ⟨List.mem_range.mpr (hJ j hj), decide_eq_true ((d2 _).mpr (List.mem_map_of_mem hj))⟩)
  omega
theorem Pat.symm {J : List Nat} (h : Pat ws us J) : Pat us ws J := fun i hi j hj => (h i hi j hj).symm
theorem kept_comm (hw : isWay ws = true) (hu : isWay us = true) (hl : us.length = ws.length) (K : KeptOk (ovT ws us) (fresh 0 ws).toNat (fresh 0 us).toNat tot yss R C) (K' : KeptOk (ovT us ws) (fresh 0 us).toNat (fresh 0 ws).toNat tot' yss' R' C') : tot = tot' := by
  obtain ⟨J, j1, j2, j3, j4⟩ := kept_set hw hu hl K
  obtain ⟨J', i1, i2, i3, i4⟩ := kept_set hu hw hl.symm K'
  have h1 := kept_most hu hw hl.symm K' j1 (fun j hj => by rw [hl]; exact j2 j hj) j3.symm
  have h2 := kept_most hw hu hl K i1 (fun j hj => by rw [← hl]; exact i2 j hj) i3.symm
  omega
theorem pat_eq (hw : isWay ws = true) (hu : isWay us = true) (hl : us.length = ws.length) (h : ∀ i j, i < ws.length → j < ws.length → (ws.getD i 0 = ws.getD j 0 ↔ us.getD i 0 = us.getD j 0)) : ws = us := by
  exact within_anti hw hu rfl hl (fun i j hi hj e => (h i j hi hj).mp e) (fun i j hi hj e => (h i j hi hj).mpr e)
theorem kept_all (hw : isWay ws = true) (hu : isWay us = true) (hl : us.length = ws.length) (K : KeptOk (ovT ws us) (fresh 0 ws).toNat (fresh 0 us).toNat tot yss R C) : tot = ws.length ↔ ws = us := by
  constructor
  · intro e
    obtain ⟨J, j1, j2, j3, j4⟩ := kept_set hw hu hl K
    have full : ∀ i, i < ws.length → i ∈ J := fun i hi => by
      apply Classical.byContradiction
      intro q
      have := (List.nodup_cons.mpr ⟨q, j1⟩).length_le_of_subset (l₂ := List.range ws.length) (fun x hx => by
        rcases List.mem_cons.mp hx with rfl | h
        · exact List.mem_range.mpr hi
        · exact List.mem_range.mpr (j2 x h))
      rw [List.length_cons, List.length_range] at this
      omega
    exact pat_eq hw hu hl fun i j hi hj => j3 i (full i hi) j (full j hj)
  · intro e
    subst e
    exact kept_self hw K
theorem kept_tri (hw : isWay ws = true) (hu : isWay us = true) (hv : isWay vs = true) (h1 : us.length = ws.length) (h2 : vs.length = ws.length)
    (K : KeptOk (ovT ws us) (fresh 0 ws).toNat (fresh 0 us).toNat tot yss R C) (K' : KeptOk (ovT ws vs) (fresh 0 ws).toNat (fresh 0 vs).toNat tot' yss' R' C') (K2 : KeptOk (ovT vs us) (fresh 0 vs).toNat (fresh 0 us).toNat tot2 yss2 R2 C2) : tot' + tot2 - ws.length ≤ tot := by
  obtain ⟨J, j1, j2, j3, j4⟩ := kept_set hw hv h2 K'
  obtain ⟨I, i1, i2, i3, i4⟩ := kept_set hv hu (by omega) K2
  have hm := kept_most hw hu h1 K (J := J.filter fun j => decide (j ∈ I)) (j1.filter _) (fun j hj => j2 j (List.mem_filter.mp hj).1) (fun i hi j hj => by
    obtain ⟨a1, a2⟩ := List.mem_filter.mp hi
    obtain ⟨b1, b2⟩ := List.mem_filter.mp hj
    exact (j3 i a1 j b1).trans (i3 i (of_decide_eq_true a2) j (of_decide_eq_true b2)))
  have hs := cnt_or (fun j => decide (j ∈ I)) (fun j => decide (j ∉ I)) (fun _ => true) J (fun x _ => ⟨by by_cases q : x ∈ I <;> simp [q], fun ⟨a, b⟩ => of_decide_eq_true b (of_decide_eq_true a)⟩)
  rw [List.filter_eq_self.mpr (fun _ _ => rfl)] at hs
  have hb : ((J.filter fun j => decide (j ∉ I)) ++ I).length ≤ ws.length := by
    have := (List.nodup_append.mpr ⟨j1.filter (fun j => decide (j ∉ I)), i1, fun a ha b hb e => by
      have := of_decide_eq_true (List.mem_filter.mp ha).2
      exact this (by rw [e]; exact hb)⟩).length_le_of_subset (l₂ := List.range ws.length) (fun x hx => by
      rcases List.mem_append.mp hx with h | h
      · exact List.mem_range.mpr (j2 x (List.mem_filter.mp h).1)
      · exact List.mem_range.mpr (by have := i2 x h; omega))
    rw [List.length_range] at this
    exact this
  rw [List.length_append] at hb
  omega
theorem kept_near (hw : isWay ws = true) (hu : isWay us = true) (hl : us.length = ws.length) {at_ : Nat} (h : ∀ i j, i < ws.length → j < ws.length → i ≠ at_ → j ≠ at_ → (ws.getD i 0 = ws.getD j 0 ↔ us.getD i 0 = us.getD j 0)) (K : KeptOk (ovT ws us) (fresh 0 ws).toNat (fresh 0 us).toNat tot yss R C) : (ws.length : Int) - 1 ≤ tot := by
  have hm := kept_most hw hu hl K (J := (List.range ws.length).filter fun j => decide (j ≠ at_)) (List.nodup_range.filter _) (fun j hj => List.mem_range.mp (List.mem_filter.mp hj).1) (fun i hi j hj => by
    obtain ⟨a1, a2⟩ := List.mem_filter.mp hi
    obtain ⟨b1, b2⟩ := List.mem_filter.mp hj
    exact h i j (List.mem_range.mp a1) (List.mem_range.mp b1) (of_decide_eq_true a2) (of_decide_eq_true b2))
  have hs := cnt_or (fun j => decide (j = at_)) (fun j => decide (j ≠ at_)) (fun _ => true) (List.range ws.length) (fun x _ => ⟨by
    show true = _
    by_cases q : x = at_
    · rw [decide_eq_true q]; rfl
    · rw [decide_eq_false q, decide_eq_true q]; rfl, fun ⟨a, b⟩ => of_decide_eq_true b (of_decide_eq_true a)⟩)
  rw [List.filter_eq_self.mpr (fun _ _ => rfl), List.length_range] at hs
  have : ((List.range ws.length).filter fun j => decide (j = at_)).length ≤ 1 := by
    have e : ((List.range ws.length).filter fun j => decide (j = at_)) = (List.range ws.length).filter (· == at_) := List.filter_congr fun x _ => by rw [Bool.eq_iff_iff, decide_eq_true_iff, beq_iff_eq]
    rw [e, ← List.count_eq_length_filter, List.nodup_range.count]
    split <;> omega
  omega
end
section
variable {X : Cx}
theorem kc_abs : CallR X (.builtin "abs") (fun xs H Q => ∃ i : Int, xs = [.int i] ∧ Q (.int (if i < 0 then -i else i)) H) := by
  intro pins s σ H xs us Q I r h
  obtain ⟨i, rfl, q⟩ := h
  obtain ⟨u, rfl, ru⟩ := vals1 r
  obtain ⟨t, rfl⟩ := ru
  exact call_abs_int fun u tk => ⟨.int _, H, I.tok _, ⟨_, rfl⟩, q⟩
end
end L2
namespace L2
open PySem PySem.Spec PyProof.Rows
section
variable {ws us vs : List Int} {tot tot' tot2 : Int} {yss yss' yss2 : List (List Int)} {R C R' C' R2 C2 : List Int}
theorem kept_tri' (hw : isWay ws = true) (hu : isWay us = true) (hv : isWay vs = true) (h1 : us.length = ws.length) (h2 : vs.length = ws.length)
    (K : KeptOk (ovT ws us) (fresh 0 ws).toNat (fresh 0 us).toNat tot yss R C) (K' : KeptOk (ovT vs ws) (fresh 0 vs).toNat (fresh 0 ws).toNat tot' yss' R' C') (K2 : KeptOk (ovT vs us) (fresh 0 vs).toNat (fresh 0 us).toNat tot2 yss2 R2 C2) : tot' + tot2 - ws.length ≤ tot := by
  obtain ⟨J, j1, j2', j3', j4⟩ := kept_set hv hw h2.symm K'
  have j2 : ∀ j ∈ J, j < ws.length := fun j hj => by rw [← h2]; exact j2' j hj
  have j3 := j3'.symm
  obtain ⟨I, i1, i2, i3, i4⟩ := kept_set hv hu (by omega) K2
  have hm := kept_most hw hu h1 K (J := J.filter fun j => decide (j ∈ I)) (j1.filter _) (fun j hj => j2 j (List.mem_filter.mp hj).1) (fun i hi j hj => by
    obtain ⟨a1, a2⟩ := List.mem_filter.mp hi
    obtain ⟨b1, b2⟩ := List.mem_filter.mp hj
    exact (j3 i a1 j b1).trans (i3 i (of_decide_eq_true a2) j (of_decide_eq_true b2)))
  have hs := cnt_or (fun j => decide (j ∈ I)) (fun j => decide (j ∉ I)) (fun _ => true) J (fun x _ => ⟨by by_cases q : x ∈ I <;> simp [q], fun ⟨a, b⟩ => of_decide_eq_true b (of_decide_eq_true a)⟩)
  rw [List.filter_eq_self.mpr (fun _ _ => rfl)] at hs
  have hb : ((J.filter fun j => decide (j ∉ I)) ++ I).length ≤ ws.length := by
    have := (List.nodup_append.mpr ⟨j1.filter (fun j => decide (j ∉ I)), i1, fun a ha b hb e => by
      have := of_decide_eq_true (List.mem_filter.mp ha).2
      exact this (by rw [e]; exact hb)⟩).length_le_of_subset (l₂ := List.range ws.length) (fun x hx => by
      rcases List.mem_append.mp hx with h | h
      · exact List.mem_range.mpr (j2 x (List.mem_filter.mp h).1)
      · exact List.mem_range.mpr (by have := i2 x h; omega))
    rw [List.length_range] at this
    exact this
  rw [List.length_append] at hb
  omega
theorem near_pat {ws : List Int} {k : Nat} {x : Int} (hk : k < ws.length) : (ws.take k ++ [x] ++ ws.drop (k + 1)).length = ws.length ∧ ∀ i j, i < ws.length → j < ws.length → i ≠ k → j ≠ k → (ws.getD i 0 = ws.getD j 0 ↔ (numRow (ws.take k ++ [x] ++ ws.drop (k + 1))).getD i 0 = (numRow (ws.take k ++ [x] ++ ws.drop (k + 1))).getD j 0) := by
  have e : ws.take k ++ [x] ++ ws.drop (k + 1) = ws.set k x := by rw [List.set_eq_take_append_cons_drop, if_pos hk]; simp
  rw [e]
  refine ⟨List.length_set, fun i j hi hj ni nj => ?_⟩
  rw [numRow_pat (by rw [List.length_set]; exact hi) (by rw [List.length_set]; exact hj)]
  have g : ∀ i, i ≠ k → (ws.set k x).getD i 0 = ws.getD i 0 := fun i ni => by rw [List.getD_eq_getElem?_getD, List.getElem?_set, if_neg (fun q => ni q.symm), ← List.getD_eq_getElem?_getD]
  rw [g i ni, g j nj]
end
end L2

set_option Elab.async false
set_option linter.all false
set_option maxRecDepth 100000
namespace Lw
open PySem L2
def top (i : Nat) : Stmt := PySem.Challenge.pw_censers_k25_whole_moved_between_three.main.body.getD i (.Pass ⟨0, 0, 0, 0⟩)
abbrev s_law_draw : Stmt := top 17
abbrev s_law_cell : Stmt := top 18
abbrev s_law_many : Stmt := top 19
abbrev sis_way : Stmt := top 5
abbrev scheck_way : Stmt := top 6
abbrev scheck_way_of : Stmt := top 7
abbrev scheck_two_ways : Stmt := top 8
abbrev swoods : Stmt := top 9
abbrev slots : Stmt := top 10
abbrev soverlap : Stmt := top 12
abbrev sPairing___init__ : Stmt := inClass (top 13) 0
abbrev sPairing_makes_room : Stmt := inClass (top 13) 2
abbrev sPairing_place : Stmt := inClass (top 13) 1
abbrev skept : Stmt := top 14
abbrev smoved : Stmt := top 15
abbrev s_law_way : Stmt := top 20
abbrev s_law_size : Stmt := top 21
abbrev s_law_number_row : Stmt := top 22
abbrev s_law_split : Stmt := top 23
abbrev s_law_two_ways : Stmt := top 24
abbrev slaw : Stmt := top 25
structure Bs (mg : Str → Option Value) : Prop where
  abs : mg "abs" = none
  enumerate : mg "enumerate" = none
  int : mg "int" = none
  len : mg "len" = none
  max : mg "max" = none
  min : mg "min" = none
  range : mg "range" = none
  sorted : mg "sorted" = none
  sum : mg "sum" = none
  tuple : mg "tuple" = none
structure Gs (mg : Str → Option Value) : Prop where
  yes : True
  MOST_CENSERS : ∃ t, mg "MOST_CENSERS" = some (.int 9 t)
def spLaw (K : PySem.W.Frag) : Sp := fun vs H Q _ => ∃ (a : Addr) (ns : List Int), vs = [.ref a] ∧ SqL K H a (ns.map V.int) ∧ ns.length ≤ 63 ∧ ∀ H', Q (.bl true) H'
def spNum : Sp := fun vs H Q _ => ∃ z : Int, vs = [.int z] ∧ Q (.bl true) H
def spRefused (K : PySem.W.Frag) : Sp := fun vs H Q _ => ∃ a : Addr, vs = [.ref a] ∧ H a = some (.lst [.str "refused"]) ∧ Q (.bl true) H
def spIsWay (K : PySem.W.Frag) : Sp := fun vs H Q _ => ∃ (a : Addr) (ns : List Int), vs = [.ref a] ∧ SqT K H a (ns.map V.int) ∧ Q (.bl (isWay ns)) H
def spCheckWay (K : PySem.W.Frag) : Sp := fun vs H Q _ => ∃ (a : Addr) (ns : List Int), vs = [.ref a] ∧ SqT K H a (ns.map V.int) ∧ isWay ns = true ∧ Q .non H
def spSize : Sp := fun vs H Q _ => ∃ (c t : Int), vs = [.int c, .int t] ∧ 1 ≤ t ∧ t ≤ 1000 ∧ ∀ (z : Int) (H' : Hp), Same H H' → 1 ≤ z → z ≤ t → Q (.int z) H'
def spTwoWays (K : PySem.W.Frag) : Sp := fun vs H Q _ => ∃ (c t : Int), vs = [.int c, .int t] ∧ 1 ≤ t ∧ t ≤ 9 ∧ ∀ (p a b : Addr) (ws vs : List Int) (H' : Hp), Same H H' → H' p = some (.tup [.ref a, .ref b]) → H' a = some (.tup (ws.map V.int)) → H' b = some (.tup (vs.map V.int)) → isWay ws = true → isWay vs = true → ws.length = vs.length → (ws.length : Int) ≤ t → Q (.ref p) H'
def spWoods (K : PySem.W.Frag) : Sp := fun vs H Q _ => ∃ (a : Addr) (ns : List Int), vs = [.ref a] ∧ SqT K H a (ns.map V.int) ∧ isWay ns = true ∧ Q (.int (fresh 0 ns)) H
def spLots (K : PySem.W.Frag) : Sp := fun vs H Q _ => ∃ (a : Addr) (ws : List Int), vs = [.ref a] ∧ SqT K H a (ws.map V.int) ∧ isWay ws = true ∧ ∀ (p : Addr) (qs : List Addr) (H' : Hp), H p = none → Same H H' → H' p = some (.lst (qs.map V.ref)) → qs.length = (fresh 0 ws).toNat → (∀ (k : Nat) q, qs[k]? = some q → H q = none ∧ H' q = some (.lst ((lotL ws (k : Int) ws.length).map V.int))) → qs.Nodup → p ∉ qs → Q (.ref p) H'
def spLLots (K : PySem.W.Frag) : Sp := fun vs H Q _ => ∃ (a : Addr) (ws : List Int), vs = [.ref a] ∧ SqT K H a (ws.map V.int) ∧ isWay ws = true ∧ ∀ (p : Addr) (qs : List Addr) (H' : Hp), Same H H' → H' p = some (.lst (qs.map V.ref)) → qs.length = (fresh 0 ws).toNat → (∀ (k : Nat) q, qs[k]? = some q → H' q = some (.lst ((lotL ws (k : Int) ws.length).map V.int))) → Q (.ref p) H'
def spCheckOfE (K : PySem.W.Frag) (C : Addr) : Sp := fun vs H Q E => ∃ (n : Int) (b : Addr) (us : List Int), vs = [.int n, .ref b] ∧ SqT K H b (us.map V.int) ∧ isWay us = true ∧ ((us.length : Int) = n → Q .non H) ∧ ((us.length : Int) ≠ n → E (.ref C) none H)
def spCheckTwoE (K : PySem.W.Frag) (C : Addr) : Sp := fun vs H Q E => ∃ (a b : Addr) (ws us : List Int), vs = [.ref a, .ref b] ∧ SqT K H a (ws.map V.int) ∧ SqT K H b (us.map V.int) ∧ isWay ws = true ∧ isWay us = true ∧ (us.length = ws.length → Q .non H) ∧ (us.length ≠ ws.length → E (.ref C) none H)
def spOverE (K : PySem.W.Frag) (C : Addr) : Sp := fun vs H Q E => ∃ (a b : Addr) (ws us : List Int), vs = [.ref a, .ref b] ∧ SqT K H a (ws.map V.int) ∧ SqT K H b (us.map V.int) ∧ isWay ws = true ∧ isWay us = true ∧ (us.length = ws.length → ∀ (p : Addr) (rs : List Addr) (H' : Hp), H p = none → (∀ r ∈ rs, H r = none) → Same H H' → H' p = some (.lst (rs.map V.ref)) → Paired (fun a (xs : List Int) => H' a = some (.lst (xs.map V.int))) rs (ovT ws us) → Q (.ref p) H') ∧ (us.length ≠ ws.length → E (.ref C) none H)
def spLOver (K : PySem.W.Frag) : Sp := fun vs H Q _ => ∃ (a b : Addr) (ws us : List Int), vs = [.ref a, .ref b] ∧ SqT K H a (ws.map V.int) ∧ SqT K H b (us.map V.int) ∧ isWay ws = true ∧ isWay us = true ∧ us.length = ws.length ∧ ∀ (p : Addr) (rs : List Addr) (H' : Hp), Same H H' → H' p = some (.lst (rs.map V.ref)) → Paired (fun a (xs : List Int) => H' a = some (.lst (xs.map V.int))) rs (ovT ws us) → Q (.ref p) H'
def spNums (K : PySem.W.Frag) : Sp := fun vs H Q _ => ∃ (a : Addr) (ns : List Int), vs = [.ref a] ∧ H a = some (.lst (ns.map V.int)) ∧ ns.length ≤ 1000 ∧ ∀ H', Same H H' → Q (.bl true) H'
def spLists (K : PySem.W.Frag) : Sp := fun vs H Q _ => ∃ (a : Addr) (ps : List Addr) (xss : List (List Int)), vs = [.ref a] ∧ H a = some (.lst (ps.map V.ref)) ∧ Paired (fun a (xs : List Int) => H a = some (.lst (xs.map V.int))) ps xss ∧ xss.length ≤ 1000 ∧ (∀ xs ∈ xss, xs.length ≤ 1000) ∧ ∀ H', Same H H' → Q (.bl true) H'
theorem paired_mem {R S : Addr → List Int → Prop} : ∀ {l1 : List Addr} {l2 : List (List Int)}, Paired R l1 l2 → (∀ a b, a ∈ l1 → R a b → S a b) → Paired S l1 l2
  | _, _, .nil, _ => .nil
  | _, _, .cons r t, f => .cons (f _ _ List.mem_cons_self r) (paired_mem t fun a b h => f a b (List.mem_cons_of_mem _ h))
theorem paired_get {α β : Type} {R : α → β → Prop} : ∀ {l1 : List α} {l2 : List β} {j : Nat} {a : α}, Paired R l1 l2 → l1[j]? = some a → ∃ b, R a b ∧ l2[j]? = some b
  | _, _, _, _, .nil, h => by simp at h
  | _, _, 0, _, .cons r t, h => by simp at h; subst h; exact ⟨_, r, rfl⟩
  | _, _, j + 1, _, .cons r t, h => by
    obtain ⟨b, q, e⟩ := paired_get (j := j) t (by simpa using h)
    exact ⟨b, q, by simpa using e⟩
theorem paired_app {α β : Type} {R : α → β → Prop} : ∀ {l1 : List α} {l2 : List β} {k1 : List α} {k2 : List β}, Paired R l1 l2 → Paired R k1 k2 → Paired R (l1 ++ k1) (l2 ++ k2)
  | _, _, _, _, .nil, h => h
  | _, _, _, _, .cons r t, h => .cons r (paired_app t h)
def TOk (T : List (List Int)) (m k : Nat) : Prop := T.length = m ∧ (∀ r, r < m → (T.getD r []).length = k) ∧ (∀ r c, 0 ≤ tE T r c) ∧ 1 ≤ m ∧ 1 ≤ k ∧ m ≤ k ∧ k ≤ 9
def spPInit (K : PySem.W.Frag) (C : Addr) : Sp := fun vs H Q _ => ∃ (p dx t : Addr) (ts : List Addr) (T : List (List Int)) (m k : Nat), vs = [.ref p, .ref t] ∧ H p = some (.ins C dx []) ∧ H t = some (.lst (ts.map V.ref)) ∧ LhAt H ts T ∧ TOk T m k ∧ ∀ (rp cp hd : Addr) (R : List Int) (H' : Hp), H rp = none → H cp = none → H hd = none → PrAt C H' p dx t rp cp hd ts T R (List.replicate k 0) (List.replicate k none) → HInv T m k R (List.replicate k 0) (List.replicate k none) → (∀ b o, H b = some o → b ≠ p → H' b = some o) → Q .non H'
def spMRoom (K : PySem.W.Frag) (C : Addr) (dd : Nat) : Sp := fun vs H Q _ => 0 < dd ∧ ∃ (p dx t rp cp hd rc : Addr) (ts : List Addr) (T : List (List Int)) (R Cc : List Int) (Hd : Hol) (row k : Nat) (S : List Nat), vs = [.ref p, .int (row : Int), .ref rc] ∧ PrAt C H p dx t rp cp hd ts T R Cc Hd ∧ H rc = some (.lst (nI S)) ∧ (t ≠ rc ∧ rp ≠ rc ∧ cp ≠ rc ∧ hd ≠ rc ∧ ∀ a ∈ ts, a ≠ rc) ∧ row < T.length ∧ SzOk T R Cc Hd k ∧ S.Nodup ∧ (∀ c ∈ S, c < k) ∧ k + 1 ≤ dd + S.length ∧
  ∀ (b : Bool) (Hd' : Hol) (S' : List Nat) (H' : Hp), Fr2 H H' hd rc → H' hd = some (.lst (Hd'.map hV)) → H' rc = some (.lst (nI S')) → (b = true → MRt T R Cc Hd S row Hd') → (b = false → Hd' = Hd ∧ MRl T R Cc k Hd S row k S') → Q (.bl b) H'
def spPlaceP (K : PySem.W.Frag) (C : Addr) : Sp := fun vs H Q _ => ∃ (p dx t rp cp hd : Addr) (ts : List Addr) (T : List (List Int)) (R Cc : List Int) (Hd : Hol) (row m k : Nat), vs = [.ref p, .int (row : Int)] ∧ PrAt C H p dx t rp cp hd ts T R Cc Hd ∧ HInv T m k R Cc Hd ∧ row < m ∧ m ≤ k ∧ k ≤ 9 ∧ Hd.count (some row) = 0 ∧
  ∀ (R' Cc' : List Int) (Hd' : Hol) (H' : Hp), PrAt C H' p dx t rp cp hd ts T R' Cc' Hd' → HInv T m k R' Cc' Hd' → (∀ h, Hd'.count (some h) = Hd.count (some h) + if h = row then 1 else 0) → Fr3 H H' rp cp hd → Q .non H'
def spKeptE (K : PySem.W.Frag) (C : Addr) : Sp := fun vs H Q E => ∃ (a b : Addr) (ws us : List Int), vs = [.ref a, .ref b] ∧ SqT K H a (ws.map V.int) ∧ SqT K H b (us.map V.int) ∧ isWay ws = true ∧ isWay us = true ∧ (us.length = ws.length → ∀ (tp pr rp cp : Addr) (ps : List Addr) (yss : List (List Int)) (R C : List Int) (tot : Int) (H' : Hp), H pr = none → H rp = none → H cp = none → pr ≠ rp → pr ≠ cp → rp ≠ cp → Same H H' → H' tp = some (.tup [.int tot, .ref pr, .ref rp, .ref cp]) → H' pr = some (.lst (ps.map V.ref)) → TuAt H' ps yss → H' rp = some (.lst (R.map V.int)) → H' cp = some (.lst (C.map V.int)) → KeptOk (ovT ws us) (fresh 0 ws).toNat (fresh 0 us).toNat tot yss R C → Q (.ref tp) H') ∧ (us.length ≠ ws.length → E (.ref C) none H)
def spMovedE (K : PySem.W.Frag) (C : Addr) : Sp := fun vs H Q E => ∃ (a b : Addr) (ws us : List Int), vs = [.ref a, .ref b] ∧ SqT K H a (ws.map V.int) ∧ SqT K H b (us.map V.int) ∧ isWay ws = true ∧ isWay us = true ∧ (us.length = ws.length → ∀ (yss : List (List Int)) (R C : List Int) (tot : Int) (H' : Hp), Same H H' → KeptOk (ovT ws us) (fresh 0 ws).toNat (fresh 0 us).toNat tot yss R C → Q (.int ((ws.length : Int) - tot)) H') ∧ (us.length ≠ ws.length → E (.ref C) none H)
def spTryDoorK (P : Program) (w : World) (K : PySem.W.Frag) (mg : Str → Option Value) (base : Heap) (C : Addr) : Sp := fun vs H Q _ => ∃ (f a b : Addr) (sp : Sp), vs = [.ref f, .ref a, .ref b] ∧ Door P w K mg base 16 f sp ∧ sp [.ref a, .ref b] H Q (fun c _ H' => c = .ref C ∧ ([V.str "refused"].length ≤ sizeLine ∧ ∀ p, H' p = none → Q (.ref p) (upd H' p (.lst [.str "refused"]))))
def spPairN (K : PySem.W.Frag) : Sp := fun vs H Q _ => ∃ (a : Addr) (x y : Int), vs = [.ref a] ∧ H a = some (.tup [.int x, .int y]) ∧ Q (.bl true) H
def spKOk (K : PySem.W.Frag) : Sp := fun vs H Q _ => ∃ (f a b pr rp cp : Addr) (ps : List Addr) (yss : List (List Int)) (R C : List Int) (tot : Int) (ws us : List Int), vs = [.ref f, .ref a, .ref b] ∧ H f = some (.tup [.int tot, .ref pr, .ref rp, .ref cp]) ∧ H pr = some (.lst (ps.map V.ref)) ∧ TuAt H ps yss ∧ H rp = some (.lst (R.map V.int)) ∧ H cp = some (.lst (C.map V.int)) ∧ SqT K H a (ws.map V.int) ∧ SqT K H b (us.map V.int) ∧ isWay ws = true ∧ isWay us = true ∧ us.length = ws.length ∧ KeptOk (ovT ws us) (fresh 0 ws).toNat (fresh 0 us).toNat tot yss R C ∧ ∀ H', Same H H' → Q (.bl true) H'
def spNumRowT (K : PySem.W.Frag) : Sp := fun vs H Q _ => ∃ (a : Addr) (ns : List Int), vs = [.ref a] ∧ SqT K H a (ns.map V.int) ∧ ns.length ≤ 900 ∧ ∀ (p : Addr) (H' : Hp), H p = none → Same H H' → H' p = some (.tup ((numRow ns).map V.int)) → Q (.ref p) H'

section
variable {P : Program} {w : World} {K : PySem.W.Frag} {mg : Str → Option Value} {base : Heap} {CBadWay : Addr} {CPairing : Addr}
theorem sc_law_draw : FnScope (["_law_cell_here", "_law_limits", "_law_rest", "_law_seed", "_law_row", "_law_limit"]) (["_law_cell_here", "_law_limits"]) (defScope s_law_draw) := ⟨rfl, rfl, rfl, by decide +kernel, rfl, by decide +kernel, by decide +kernel⟩
set_option maxHeartbeats 4000000 in
theorem ok_law_draw {f : Addr} {fd : FuncData} (F : Fun K "_law_draw" "_law_draw" s_law_draw f fd) (B : Bs mg) (T : Gs mg) (mBadWay : mg "BadWay" = some (.ref CBadWay)) (qBadWay : PySem.W.excIn K CBadWay bmV "ValueError.__new__" = true)  (clPairing : Cls K CPairing) (nPairing_table : NoAttr K CPairing "table") (nPairing_row_prices : NoAttr K CPairing "row_prices") (nPairing_column_prices : NoAttr K CPairing "column_prices") (nPairing_holders : NoAttr K CPairing "holders")  : FnOk P w K mg base CX0 1 f fd ["_law_cell_here", "_law_limits"] (spDraw K) := by
  have sc := sc_law_draw
  refine F.ok sc (fun vs H Q E h => ?_) (fun cdv A outer s H vs Q E hr h => ?_)
  · obtain ⟨c, a, ls, rfl, _⟩ := h; rfl
  · obtain ⟨c, a, ls, rfl, hS, hL, hlen, k⟩ := h
    refine ⟨_, (pss_cons (ps_set (i := 2) sc.nd rfl (Or.inl rfl) (pe_ifExp (pt_cmpR op_ge (pv 0) (pe_op op_pow pe_int pe_int) (nomark _)) (pv 0) pe_int))
      (pss_cons (ps_set (i := 3) sc.nd rfl (Or.inl rfl) (pe_op op_mod (pe_op op_add (pe_op op_mulW (pe_op op_mod (pv 0) pe_int) pe_int) pe_int) pe_int))
      (pss_cons (ps_set (i := 4) sc.nd rfl (Or.inl rfl) (pe_lst pa_nil))
      (pss_cons (ps_for PassesOwn.never rfl (kpi_list (K := K) (pv 1)) (pg_name (i := 5) sc.nd rfl (Or.inl rfl))
      (pss_cons (ps_set (i := 3) sc.nd rfl (Or.inl rfl) (pe_op op_mod (pe_op op_add (pe_op op_mulW (pe_op op_mod (pe_op op_mulW (pv 3) (pv 3)) pe_int) (pe_op op_add (pv 3) pe_int)) pe_int) pe_int))
      (pss_cons (ps_expr (pe_bm PySem.F.plainAttrs_list PySem.F.slot_list_append PySem.F.type_list_append mt_append (pv 4) (pa_cons (pe_ifExp (pt_cmpR op_gt (pv 2) pe_int (nomark _)) (pe_op op_mod (pv 2) (pv 5)) (pe_op op_mod (pe_op op_add (pe_op op_fdivW (pv 3) pe_int) (pe_op op_mulW (pe_op op_mod (pv 3) pe_int) pe_int)) (pv 5))) pa_nil)))
      (pss_one (ps_set (i := 2) sc.nd rfl (Or.inl rfl) (pe_op op_fdivW (pv 2) (pv 5)))))))
      (pss_one (ps_ret (pv 4))))))), ?_⟩
    -- rest
    refine ⟨_, rfl, _, _, rfl, rfl, ⟨by decide, by decide, by decide⟩, _, _, rfl, rfl, _, rfl, ?_⟩
    refine ite_P (fun _ => True) (fun r _ => ?_) (fun Q' h => ⟨_, rfl, h _ trivial⟩) (fun Q' h => h _ trivial)
    -- seed
    refine ⟨_, rfl, _, _, rfl, rfl, p0, _, _, rfl, rfl, mulOk_r ⟨by decide, by decide⟩, _, _, rfl, rfl, _, _, rfl, rfl, p0, ?_⟩
    -- row = []
    refine ⟨Nat.zero_le _, fun p hp => ?_⟩
    have hS1 : SqL K (upd H p (.lst [])) a (ls.map V.int) := (Same.new hp).seq hS
    -- for limit in limits
    refine ⟨_, rfl, a, rfl, ⟨_, hS1⟩, for_list (K := K) (a := a) (xs := ls.map V.int) (fun i σ H2 => ∃ (r seed : Int) (rs : List Int) (v : Option V), σ = [some (.int c), some (.ref a), some (.int r), some (.int seed), some (.ref p), v] ∧ 0 ≤ seed ∧ seed < 2147483647 ∧ Same H H2 ∧ H2 p = some (.lst (rs.map V.int)) ∧ Drawn' (ls.take i) rs)
      ⟨r, _, [], none, rfl, (modB _ (by decide)).1, (modB _ (by decide)).2, Same.new hp, upd_same, .nil⟩ (fun i σ H2 _ ⟨_, _, _, _, _, _, _, s2, _, _⟩ => s2.seq hS) ?_ ?_⟩
    · rintro i y σ H2 hi ⟨r, seed, rs, v, rfl, hs0, hs1, s2, hp2, hD⟩
      obtain ⟨l, rfl, hl, hil⟩ := getI hi
      have hlim := hL l (List.mem_of_getElem? hl)
      have hrl : rs.length = i := by have := hD.length; rw [List.length_take] at this; omega
      -- seed
      refine ⟨_, rfl, _, rfl, _, _, rfl, rfl, mulOk_r ⟨by omega, by omega⟩, _, _, rfl, rfl, p0, _, rfl, _, _, rfl, rfl, _, _, rfl, rfl, mulOk_r ⟨by omega, by omega⟩, _, _, rfl, rfl, _, _, rfl, rfl, p0, ?_⟩
      -- row.append
      refine ⟨_, rfl, .inl ⟨rfl, _, SqL.of hp2⟩, _, rfl, _, _, rfl, rfl, _, rfl, ?_⟩
      refine ite_P (fun q => 0 ≤ q ∧ q < l) (fun q hq => ?_) (fun Q' h => ⟨_, rfl, _, rfl, _, _, rfl, rfl, hlim.1, h _ (modB _ hlim.1)⟩)
        (fun Q' h => ⟨_, rfl, _, _, rfl, rfl, ⟨by decide, by decide⟩, _, rfl, _, _, rfl, rfl, p0, _, _, rfl, rfl, mulOk_r ⟨by decide, by decide⟩, _, _, rfl, rfl, _, rfl, _, _, rfl, rfl, hlim.1, h _ (modB _ hlim.1)⟩)
      obtain ⟨q0, q1⟩ := hq
      refine ⟨p, _, _, rfl, rfl, hp2, lt_line (by rw [ltm]; omega), ?_⟩
      -- rest
      refine ⟨_, rfl, _, rfl, _, _, rfl, rfl, hlim, ?_⟩
      refine ⟨_, _, rs ++ [q], _, rfl, (modB _ (by decide)).1, (modB _ (by decide)).2, s2.put hp, by rw [upd_same, mapV], ?_⟩
      rw [take_snoc hl]
      exact drawn_snoc hD q0 q1
    · rintro σ H2 ⟨r, seed, rs, v, rfl, hs0, hs1, s2, hp2, hD⟩
      rw [ltm, List.take_length] at hD
      exact ⟨_, rfl, k p rs H2 hp s2 hp2 hD⟩
theorem sc_law_cell : FnScope (["_law_script", "_law_k"]) (["_law_script", "_law_k"]) (defScope s_law_cell) := ⟨rfl, rfl, rfl, by decide +kernel, rfl, by decide +kernel, by decide +kernel⟩
set_option maxHeartbeats 4000000 in
theorem ok_law_cell {f : Addr} {fd : FuncData} (F : Fun K "_law_cell" "_law_cell" s_law_cell f fd) (B : Bs mg) (T : Gs mg) (mBadWay : mg "BadWay" = some (.ref CBadWay)) (qBadWay : PySem.W.excIn K CBadWay bmV "ValueError.__new__" = true)  (clPairing : Cls K CPairing) (nPairing_table : NoAttr K CPairing "table") (nPairing_row_prices : NoAttr K CPairing "row_prices") (nPairing_column_prices : NoAttr K CPairing "column_prices") (nPairing_holders : NoAttr K CPairing "holders")  : FnOk P w K mg base CX0 1 f fd ["_law_script", "_law_k"] (spCell K) := by
  have sc := sc_law_cell
  refine F.ok sc (fun vs H Q E h => ?_) (fun cdv A outer s H vs Q E hr h => ?_)
  · obtain ⟨a, ns, kk, rfl, _⟩ := h; rfl
  · obtain ⟨a, ns, kk, rfl, hS, h0, h1, hl, k⟩ := h
    refine ⟨_, (pss_cons (ps_if (pt_cmpR op_lt (pv 1) (pe_callB (kc_len (K := K)) (by rfl) B.len PyProof.Rows.Boot.«len» (pa_cons (pv 0) pa_nil)) (nomark _)) (pss_one (ps_ret (pe_ix (kix_list (K := K)) (pv 0) (pv 1) (fun _ _ => rfl)))) pss_nil)
      (pss_one (ps_ret (pe_op op_add (pe_op op_add (pe_op op_mulW (pe_op op_mod (pe_callB (kc_sum (K := K)) (by rfl) B.sum PyProof.Rows.Boot.«sum» (pa_cons (pv 0) pa_nil)) pe_int) pe_int) (pe_op op_mulW (pe_callB (kc_len (K := K)) (by rfl) B.len PyProof.Rows.Boot.«len» (pa_cons (pv 0) pa_nil)) pe_int)) (pe_op op_mulW (pv 1) pe_int))))), ?_⟩
    refine ⟨_, rfl, _, rfl, a, _, rfl, .inl hS, _, _, rfl, rfl, _, rfl, ?_⟩
    rw [ltm]
    refine ite2 (fun hk => ?_) (fun _ => ?_)
    · have hk : kk < (ns.length : Int) := of_decide_eq_true hk
      obtain ⟨j, rfl⟩ := Int.eq_ofNat_of_zero_le h0
      have hj : j < ns.length := by omega
      refine ⟨_, rfl, _, rfl, a, _, _, _, rfl, rfl, hS, atI_nat (v := V.int (ns[j])) (by rw [List.getElem?_map, List.getElem?_eq_getElem hj]; rfl), k _⟩
    · refine ⟨_, rfl, a, ns, rfl, .inl hS, _, _, rfl, rfl, p0, _, _, rfl, rfl, mulOk_r ⟨by decide, by decide⟩, _, rfl, a, _, rfl, .inl hS, _, _, rfl, rfl, mulOk_r ⟨by decide, by decide⟩, _, _, rfl, rfl, _, rfl, _, _, rfl, rfl, mulOk_r ⟨by decide, by decide⟩, _, _, rfl, rfl, k _⟩
theorem sc_law_many : FnScope (["_law_script", "_law_few"]) (["_law_script", "_law_few"]) (defScope s_law_many) := ⟨rfl, rfl, rfl, by decide +kernel, rfl, by decide +kernel, by decide +kernel⟩
set_option maxHeartbeats 4000000 in
theorem ok_law_many {f : Addr} {fd : FuncData} (F : Fun K "_law_many" "_law_many" s_law_many f fd) (B : Bs mg) (T : Gs mg) (mBadWay : mg "BadWay" = some (.ref CBadWay)) (qBadWay : PySem.W.excIn K CBadWay bmV "ValueError.__new__" = true)  (clPairing : Cls K CPairing) (nPairing_table : NoAttr K CPairing "table") (nPairing_row_prices : NoAttr K CPairing "row_prices") (nPairing_column_prices : NoAttr K CPairing "column_prices") (nPairing_holders : NoAttr K CPairing "holders")  : FnOk P w K mg base CX0 1 f fd ["_law_script", "_law_few"] (spMany K) := by
  have sc := sc_law_many
  refine F.ok sc (fun vs H Q E h => ?_) (fun cdv A outer s H vs Q E hr h => ?_)
  · obtain ⟨a, ns, f, rfl, _⟩ := h; rfl
  · obtain ⟨a, ns, f, rfl, hS, k⟩ := h
    refine ⟨_, (pss_one (ps_ret (pe_callB kc_max2 (by rfl) B.max PyProof.Rows.Boot.«max» (pa_cons (pv 1) (pa_cons (pe_callB kc_min2 (by rfl) B.min PyProof.Rows.Boot.«min» (pa_cons (pe_callB (kc_len (K := K)) (by rfl) B.len PyProof.Rows.Boot.«len» (pa_cons (pv 0) pa_nil)) (pa_cons pe_int pa_nil))) pa_nil))))), ?_⟩
    refine ⟨_, rfl, _, rfl, a, _, rfl, .inl hS, _, _, rfl, _, _, rfl, k _ ?_ ?_⟩
    · split <;> omega
    · split <;> split <;> omega
theorem scis_way : FnScope (["row", "fresh", "wood"]) (["row"]) (defScope sis_way) := ⟨rfl, rfl, rfl, by decide +kernel, rfl, by decide +kernel, by decide +kernel⟩
set_option maxHeartbeats 4000000 in
theorem okis_way {f : Addr} {fd : FuncData} (F : Fun K "is_way" "is_way" sis_way f fd) (B : Bs mg) (T : Gs mg) (mBadWay : mg "BadWay" = some (.ref CBadWay)) (qBadWay : PySem.W.excIn K CBadWay bmV "ValueError.__new__" = true)  (clPairing : Cls K CPairing) (nPairing_table : NoAttr K CPairing "table") (nPairing_row_prices : NoAttr K CPairing "row_prices") (nPairing_column_prices : NoAttr K CPairing "column_prices") (nPairing_holders : NoAttr K CPairing "holders")  : FnOk P w K mg base CX0 1 f fd ["row"] (spIsWay K) := by
  have sc := scis_way
  refine F.ok sc (fun vs H Q E h => ?_) (fun cdv A outer s H vs Q E hr h => ?_)
  · obtain ⟨a, ns, rfl, _⟩ := h; rfl
  · obtain ⟨a, ns, rfl, hS, k⟩ := h
    obtain ⟨tM, gMOST_CENSERS⟩ := T.MOST_CENSERS
    refine ⟨_, (pss_cons (ps_if (pt_not (pt_chain op_le op_le pe_int (pe_callB (kc_len (K := K)) (by rfl) B.len PyProof.Rows.Boot.«len» (pa_cons (pv 0) pa_nil)) (pe_glob (v := .int 9) rfl gMOST_CENSERS ⟨_, rfl⟩))) (pss_one (ps_ret pe_bl)) pss_nil)
      (pss_cons (ps_set (i := 1) sc.nd rfl (Or.inl rfl) pe_int)
      (pss_cons (ps_for PassesOwn.never rfl (kpi_tup (K := K) (pv 0)) (pg_name (i := 2) sc.nd rfl (Or.inl rfl))
      (pss_cons (ps_if (pt_not (pt_chain op_le op_le pe_int (pv 2) (pv 1))) (pss_one (ps_ret pe_bl)) pss_nil)
      (pss_one (ps_if (pt_cmpR op_eq (pv 2) (pv 1) (nomark _)) (pss_one (ps_aug (i := 1) sc.nd rfl (Or.inl rfl) pe_int ip_add)) pss_nil))))
      (pss_one (ps_ret pe_bl))))), ?_⟩
    refine ⟨_, rfl, a, _, rfl, .inr hS, _, _, rfl, rfl, _, rfl, ?_⟩
    rw [ltm]
    have no : ¬ (1 ≤ ns.length ∧ ns.length ≤ 9) → isWay ns = false := fun z => by
      unfold isWay
      rw [← Bool.decide_and, decide_eq_false z]; rfl
    refine ite2 (fun h1 => ⟨_, _, rfl, rfl, _, rfl, ite2 (fun h2 => ?_) (fun h2 => ?_)⟩) (fun h1 => ⟨_, rfl, iteT ?_⟩)
    · rw [no (by simp at h2; omega)] at k
      exact k
    · have h1 : (1 : Int) ≤ (ns.length : Int) := of_decide_eq_true h1
      have h2 : (ns.length : Int) ≤ 9 := by simp at h2; omega
      have e0 : isWay ns = wayGo 0 ns := by
        unfold isWay
        rw [decide_eq_true (show 1 ≤ ns.length by omega), decide_eq_true (show ns.length ≤ 9 by omega)]; rfl
      rw [e0] at k
      refine ⟨_, rfl, a, rfl, ⟨_, hS⟩, for_tup (K := K) (a := a) (xs := ns.map V.int) (fun i σ H2 => ∃ (f : Int) (v : Option V), σ = [some (.ref a), some (.int f), v] ∧ H2 = H ∧ wayGo 0 ns = wayGo f (ns.drop i))
        ⟨0, none, rfl, rfl, by rw [List.drop_zero]⟩ (fun i σ H2 _ ⟨_, _, _, e, _⟩ => by rw [e]; exact hS) ?_ ?_⟩
      · rintro i y σ H2 hi ⟨f, v, rfl, e, hw⟩
        subst e
        obtain ⟨z, rfl, hz, hil⟩ := getI hi
        have hd : ns.drop i = z :: ns.drop (i + 1) := by
          rw [List.drop_eq_getElem_cons hil]
          rw [List.getElem?_eq_getElem hil] at hz
          rw [Option.some.inj hz]
        rw [hd] at hw
        have hw' : wayGo 0 ns = (decide (0 ≤ z) && decide (z ≤ f) && wayGo (if z = f then f + 1 else f) (ns.drop (i + 1))) := hw
        refine ⟨_, rfl, _, _, rfl, rfl, _, rfl, ?_⟩
        refine ite2 (fun g1 => ⟨_, rfl, _, _, rfl, rfl, _, rfl, ite2 (fun g2 => ?_) (fun g2 => ?_)⟩) (fun g1 => ⟨_, rfl, iteT ?_⟩)
        · have g2 : ¬ z ≤ f := by simp at g2; omega
          rw [hw', decide_eq_false g2, Bool.and_false, Bool.false_and] at k
          exact k
        · have g1 : 0 ≤ z := of_decide_eq_true g1
          have g2 : z ≤ f := by simp at g2; omega
          rw [decide_eq_true g1, decide_eq_true g2, Bool.and_true, Bool.true_and] at hw'
          refine ⟨_, rfl, _, rfl, rfl, _, rfl, ite2 (fun g => ?_) (fun g => ?_)⟩
          · have g : z = f := by have := of_decide_eq_true g; cases this; rfl
            rw [if_pos g] at hw'
            exact ⟨_, rfl, _, _, rfl, rfl, f + 1, _, rfl, rfl, hw'⟩
          · have g : ¬ z = f := fun e => g (decide_eq_true (by rw [e]))
            rw [if_neg g] at hw'
            exact ⟨f, _, rfl, rfl, hw'⟩
        · have g1 : ¬ 0 ≤ z := fun e => g1 (decide_eq_true e)
          rw [hw', decide_eq_false g1, Bool.false_and, Bool.false_and] at k
          exact k
      · rintro σ H2 ⟨f, v, rfl, e, hw⟩
        subst e
        rw [ltm, List.drop_length] at hw
        rw [show wayGo 0 ns = true from hw] at k
        exact k
    · have h1 : ¬ (1 : Int) ≤ (ns.length : Int) := fun e => h1 (decide_eq_true e)
      rw [no (by omega)] at k
      exact k
theorem sccheck_way : FnScope (["way"]) (["way"]) (defScope scheck_way) := ⟨rfl, rfl, rfl, by decide +kernel, rfl, by decide +kernel, by decide +kernel⟩
set_option maxHeartbeats 4000000 in
theorem okcheck_way {f : Addr} {fd : FuncData} (F : Fun K "check_way" "check_way" scheck_way f fd) (B : Bs mg) (T : Gs mg) (mBadWay : mg "BadWay" = some (.ref CBadWay)) (qBadWay : PySem.W.excIn K CBadWay bmV "ValueError.__new__" = true)  (clPairing : Cls K CPairing) (nPairing_table : NoAttr K CPairing "table") (nPairing_row_prices : NoAttr K CPairing "row_prices") (nPairing_column_prices : NoAttr K CPairing "column_prices") (nPairing_holders : NoAttr K CPairing "holders") (cis_way : Cal P w K mg base 1 "is_way" [] (spIsWay K)) : FnOk P w K mg base CX0 2 f fd ["way"] (spCheckWay K) := by
  have sc := sccheck_way
  refine F.ok sc (fun vs H Q E h => ?_) (fun cdv A outer s H vs Q E hr h => ?_)
  · obtain ⟨a, ns, rfl, _⟩ := h; rfl
  · obtain ⟨a, ns, rfl, hS, hw, k⟩ := h
    refine ⟨_, (pss_one (ps_if (pt_not (pt_val (pe_cal cis_way (hr.mono (by decide)) rfl (pa_cons (pv 0) pa_nil)))) (pss_one ps_never) pss_nil)), ?_⟩
    refine ⟨_, rfl, a, ns, rfl, hS, _, rfl, ?_⟩
    rw [hw]
    exact iteF k
theorem sccheck_way_of : FnScope (["censers", "way"]) (["censers", "way"]) (defScope scheck_way_of) := ⟨rfl, rfl, rfl, by decide +kernel, rfl, by decide +kernel, by decide +kernel⟩
set_option maxHeartbeats 4000000 in
theorem okcheck_way_of {f : Addr} {fd : FuncData} (F : Fun K "check_way_of" "check_way_of" scheck_way_of f fd) (B : Bs mg) (T : Gs mg) (mBadWay : mg "BadWay" = some (.ref CBadWay)) (qBadWay : PySem.W.excIn K CBadWay bmV "ValueError.__new__" = true)  (clPairing : Cls K CPairing) (nPairing_table : NoAttr K CPairing "table") (nPairing_row_prices : NoAttr K CPairing "row_prices") (nPairing_column_prices : NoAttr K CPairing "column_prices") (nPairing_holders : NoAttr K CPairing "holders") (ccheck_way : Cal P w K mg base 2 "check_way" [] (spCheckWay K)) : FnOk P w K mg base (CXE P w) 3 f fd ["censers", "way"] (spCheckOfE K CBadWay) := by
  have sc := sccheck_way_of
  refine F.okE sc (fun vs H Q E h => ?_) (fun cdv A outer s H vs Q E hr F0 h => ?_)
  · obtain ⟨n, b, vs, rfl, _⟩ := h; rfl
  · obtain ⟨n, b, vs, rfl, hT, hv, k, kE⟩ := h
    refine ⟨_, (pss_cons (ps_expr (pe_cal ccheck_way (hr.mono (by decide)) rfl (pa_cons (pv 1) pa_nil)))
      (pss_one (ps_if (pt_cmpR op_ne (pe_callB (kc_len (K := K)) (by rfl) B.len PyProof.Rows.Boot.«len» (pa_cons (pv 1) pa_nil)) (pv 0) (nomark _)) (pss_one (ps_raise F0 rfl rfl mBadWay qBadWay (pa_cons pe_str pa_nil))) pss_nil))), ?_⟩
    refine ⟨_, rfl, b, vs, rfl, hT, hv, ?_⟩
    refine ⟨_, rfl, b, _, rfl, .inr hT, _, rfl, rfl, _, rfl, ?_⟩
    rw [ltm]
    refine ite2 (fun g => ⟨le_line (by simp), kE (fun e => ?_)⟩) (fun g => k ?_)
    · rw [e] at g; simp at g
    · by_cases e : (vs.length : Int) = n
      · exact e
      · exact absurd (by simp; omega) g
theorem sccheck_two_ways : FnScope (["one", "other"]) (["one", "other"]) (defScope scheck_two_ways) := ⟨rfl, rfl, rfl, by decide +kernel, rfl, by decide +kernel, by decide +kernel⟩
set_option maxHeartbeats 4000000 in
theorem okcheck_two_ways {f : Addr} {fd : FuncData} (F : Fun K "check_two_ways" "check_two_ways" scheck_two_ways f fd) (B : Bs mg) (T : Gs mg) (mBadWay : mg "BadWay" = some (.ref CBadWay)) (qBadWay : PySem.W.excIn K CBadWay bmV "ValueError.__new__" = true)  (clPairing : Cls K CPairing) (nPairing_table : NoAttr K CPairing "table") (nPairing_row_prices : NoAttr K CPairing "row_prices") (nPairing_column_prices : NoAttr K CPairing "column_prices") (nPairing_holders : NoAttr K CPairing "holders") (ccheck_way : Cal P w K mg base 2 "check_way" [] (spCheckWay K)) (ccheck_way_of : CalE P w K mg base 3 "check_way_of" [] (spCheckOfE K CBadWay)) : FnOk P w K mg base (CXE P w) 4 f fd ["one", "other"] (spCheckTwoE K CBadWay) := by
  have sc := sccheck_two_ways
  refine F.okE sc (fun vs H Q E h => ?_) (fun cdv A outer s H vs Q E hr F0 h => ?_)
  · obtain ⟨a, b, ws, vs, rfl, _⟩ := h; rfl
  · obtain ⟨a, b, ws, vs, rfl, hS, hT, hw, hv, k, kE⟩ := h
    refine ⟨_, (pss_cons (ps_expr (pe_cal ccheck_way (hr.mono (by decide)) rfl (pa_cons (pv 0) pa_nil)))
      (pss_one (ps_expr (pe_calE ccheck_way_of (hr.mono (by decide)) rfl (pass_fn F0) (pa_cons (pe_callB (kc_len (K := K)) (by rfl) B.len PyProof.Rows.Boot.«len» (pa_cons (pv 0) pa_nil)) (pa_cons (pv 1) pa_nil)))))), ?_⟩
    refine ⟨_, rfl, a, ws, rfl, hS, hw, ?_⟩
    refine ⟨_, rfl, a, _, rfl, .inr hS, _, rfl, ?_⟩
    refine ⟨_, b, vs, rfl, hT, hv, fun e => k ?_, fun e => kE (fun e2 => e ?_)⟩
    · rw [ltm] at e; omega
    · rw [ltm]; omega
theorem scwoods : FnScope (["way"]) (["way"]) (defScope swoods) := ⟨rfl, rfl, rfl, by decide +kernel, rfl, by decide +kernel, by decide +kernel⟩
set_option maxHeartbeats 4000000 in
theorem okwoods {f : Addr} {fd : FuncData} (F : Fun K "woods" "woods" swoods f fd) (B : Bs mg) (T : Gs mg) (mBadWay : mg "BadWay" = some (.ref CBadWay)) (qBadWay : PySem.W.excIn K CBadWay bmV "ValueError.__new__" = true)  (clPairing : Cls K CPairing) (nPairing_table : NoAttr K CPairing "table") (nPairing_row_prices : NoAttr K CPairing "row_prices") (nPairing_column_prices : NoAttr K CPairing "column_prices") (nPairing_holders : NoAttr K CPairing "holders") (ccheck_way : Cal P w K mg base 2 "check_way" [] (spCheckWay K)) : FnOk P w K mg base CX0 3 f fd ["way"] (spWoods K) := by
  have sc := scwoods
  refine F.ok sc (fun vs H Q E h => ?_) (fun cdv A outer s H vs Q E hr h => ?_)
  · obtain ⟨a, ns, rfl, _⟩ := h; rfl
  · obtain ⟨a, ns, rfl, hS, hw, k⟩ := h
    refine ⟨_, (pss_cons (ps_expr (pe_cal ccheck_way (hr.mono (by decide)) rfl (pa_cons (pv 0) pa_nil)))
      (pss_one (ps_ret (pe_op op_add (pe_callB (kc_max (K := K)) (by rfl) B.max PyProof.Rows.Boot.«max» (pa_cons (pv 0) pa_nil)) pe_int)))), ?_⟩
    refine ⟨_, rfl, a, ns, rfl, hS, hw, ?_⟩
    have hw0 : wayGo 0 ns = true := by unfold isWay at hw; rw [Bool.and_eq_true] at hw; exact hw.2
    have hne : ns ≠ [] := fun e => by rw [e] at hw; exact absurd hw (by decide)
    refine ⟨_, rfl, a, ns, rfl, .inr hS, hne, fun m hm => ⟨_, _, rfl, rfl, ?_⟩⟩
    have := hm.uniq (fresh_pos hw0 hne).2
    have e : m + 1 = fresh 0 ns := by omega
    show Q (V.int (m + 1)) H
    rw [e]
    exact k
theorem sclots : FnScope (["way", "gathered", "censer", "wood"]) (["way"]) (defScope slots) := ⟨rfl, rfl, rfl, by decide +kernel, rfl, by decide +kernel, by decide +kernel⟩
set_option maxHeartbeats 4000000 in
theorem oklots {f : Addr} {fd : FuncData} (F : Fun K "lots" "lots" slots f fd) (B : Bs mg) (T : Gs mg) (mBadWay : mg "BadWay" = some (.ref CBadWay)) (qBadWay : PySem.W.excIn K CBadWay bmV "ValueError.__new__" = true)  (clPairing : Cls K CPairing) (nPairing_table : NoAttr K CPairing "table") (nPairing_row_prices : NoAttr K CPairing "row_prices") (nPairing_column_prices : NoAttr K CPairing "column_prices") (nPairing_holders : NoAttr K CPairing "holders") (cwoods : Cal P w K mg base 3 "woods" [] (spWoods K)) : FnOk P w K mg base CX0 4 f fd ["way"] (spLots K) := by
  have sc := sclots
  refine F.ok sc (fun vs H Q E h => ?_) (fun cdv A outer s H vs Q E hr h => ?_)
  · obtain ⟨a, ws, rfl, _⟩ := h; rfl
  · obtain ⟨a, ws, rfl, hS, hw, k⟩ := h
    refine ⟨_, (pss_cons (ps_lc (i := 1) sc.nd rfl rfl (N' := ["wood"]) (M := [none]) (lcSc_of (by rfl)) rfl (pi_range1 rfl B.range (pa_cons (pe_cal cwoods (hr.mono (by decide)) rfl (pa_cons (pv 0) pa_nil)) pa_nil)) (fun _ _ _ _ _ => pg_name (i := 0) (show (["wood"] : List Str).Nodup by decide +kernel) rfl (Or.inl rfl) (.inr rfl)) (frm_name rfl) (fun _ _ _ _ _ => pts_nil) (fun _ _ _ _ _ => (pe_lst pa_nil)))
      (pss_cons (ps_for PassesOwn.never rfl (pi_enumT (K := K) rfl B.enumerate (pa_cons (pv 0) pa_nil)) (pg_tup rfl (pgs_cons (pg_name (i := 2) sc.nd rfl (Or.inl rfl)) (pgs_cons (pg_name (i := 3) sc.nd rfl (Or.inl rfl)) pgs_nil)))
      (pss_one (ps_expr (pe_bm PySem.F.plainAttrs_list PySem.F.slot_list_append PySem.F.type_list_append mt_append (pe_ix (kix_list (K := K)) (pv 1) (pv 3) (fun _ _ => rfl)) (pa_cons (pv 2) pa_nil)))))
      (pss_one (ps_ret (pv 1))))), ?_⟩
    obtain ⟨w1, w9, w0⟩ := isWay_iff.mp hw
    have f0 := (fresh_pos w0 (fun e => by rw [e] at w1; simp at w1)).1
    have fl := fresh_le ws
    refine ⟨_, rfl, a, ws, rfl, hS, hw, _, rfl, by omega, by omega, ?_⟩
    refine lc_range (fun j ys H2 => Same H H2 ∧ ∃ qs : List Addr, ys = qs.map V.ref ∧ qs.length = j ∧ (∀ q ∈ qs, H q = none ∧ H2 q = some (.lst [])) ∧ qs.Nodup) (le_line (by omega)) ⟨Same.refl H, [], rfl, rfl, fun q hq => by simp at hq, List.nodup_nil⟩
      (fun j ys H2 _ h => by obtain ⟨_, qs, e, e2, _⟩ := h; rw [e, List.length_map, e2]; exact Nat.le_refl _) ?_ ?_
    · rintro j ys H2 hj ⟨s2, qs, rfl, hql, hq, hnd⟩
      refine lcN ?_
      refine ⟨Nat.zero_le _, fun l hl => ⟨s2.new2 hl, qs ++ [l], by rw [List.map_append]; rfl, by rw [List.length_append, hql]; rfl, fun q hm => ?_, ?_⟩⟩
      · rcases List.mem_append.mp hm with hm | hm
        · exact ⟨(hq q hm).1, Same.new hl q _ (hq q hm).2⟩
        · rw [List.mem_singleton.mp hm]; exact ⟨s2.free hl, upd_same⟩
      · refine List.nodup_append.mpr ⟨hnd, by simp, fun x hx y hy e => ?_⟩
        rw [List.mem_singleton.mp hy] at e
        have := (hq x hx).2
        rw [e, hl] at this; cases this
    · rintro ys H2 ⟨s2, qs, rfl, hql, hq, hnd⟩ p hp
      have hpH : H p = none := s2.free hp
      have hpq : p ∉ qs := fun z => by have := (hq p z).2; rw [hp] at this; cases this
      have s3 := s2.new2 (o := HO.lst (qs.map V.ref)) hp
      refine ⟨_, rfl, a, rfl, ⟨_, s3.seqT hS⟩, for_it (n := ws.length) (fun i σ H4 => ∃ (o1 o2 : Option V), σ = [some (.ref a), some (.ref p), o1, o2] ∧ Same H H4 ∧ H4 p = some (.lst (qs.map V.ref)) ∧ ∀ (k : Nat) q, qs[k]? = some q → H4 q = some (.lst ((lotL ws (k : Int) i).map V.int)))
        ⟨none, none, rfl, s3, upd_same, fun k q hk => by have hm := List.mem_of_getElem? hk; rw [upd_ne (show q ≠ p from fun e => hpq (by rw [← e]; exact hm))]; exact (hq q hm).2⟩ ?_ ?_ ?_ ?_⟩
      · rintro i σ H4 hi ⟨o1, o2, rfl, s4, _⟩
        exact ⟨_, _, s4.seqT hS, by rw [List.getElem?_map, List.getElem?_eq_getElem hi]; rfl⟩
      · rintro σ H4 ⟨o1, o2, rfl, s4, _⟩
        exact ⟨_, s4.seqT hS, by rw [ltm]; exact Nat.le_refl _⟩
      · rintro i x σ H4 H5 hi ⟨o1, o2, rfl, s4, hp4, hk4⟩ ⟨Tt, y, hT, rfl, rfl, hy⟩
        obtain ⟨w, rfl, hw', _⟩ := getI (hy _ (s4.seqT hS))
        have ewd : ws.getD i 0 = w := by rw [List.getD_eq_getElem?_getD, hw']; rfl
        have hsm := way_small hw hi
        rw [ewd] at hsm
        have s5 := Same.new (o := HO.tup [V.int (i : Int), V.int w]) hT
        refine ⟨Tt, _, rfl, SqT.of upd_same, rfl, _, _, rfl, _, _, rfl, rfl, ?_⟩
        generalize upd H4 Tt (HO.tup [V.int (i : Int), V.int w]) = H5 at s5
        have hwn : w.toNat < qs.length := by omega
        have hqw := List.getElem?_eq_getElem hwn
        generalize qs[w.toNat] = q at hqw
        have eat := atI_ref hqw
        rw [Int.toNat_of_nonneg hsm.1] at eat
        have hp5 := s5 p _ hp4
        have hq5 := s5 q _ (hk4 w.toNat q hqw)
        have hqm := List.mem_of_getElem? hqw
        rw [Int.toNat_of_nonneg hsm.1] at hq5
        have ll := lotN_length_le ws w i
        have ll2 := lotL_length ws w i
        refine ⟨_, rfl, _, rfl, p, _, _, _, rfl, rfl, SqL.of hp5, eat, .inl ⟨rfl, _, SqL.of hq5⟩, _, rfl, q, _, _, rfl, rfl, hq5, lt_line (by rw [ltm]; omega), ?_⟩
        refine ⟨_, _, rfl, (s4.trans s5).put (hq q hqm).1, ?_, fun k q' hk => ?_⟩
        · rw [upd_ne (show p ≠ q from fun e => hpq (by rw [e]; exact hqm))]; exact hp5
        · rw [lotL_succ, ewd]
          by_cases e : q' = q
          · subst e
            have ek := nodup_get hnd hk hqw
            subst ek
            rw [upd_same, if_pos (by omega), Int.toNat_of_nonneg hsm.1, mapV]
          · rw [upd_ne e, if_neg (fun z => e (by
              have : k = w.toNat := by omega
              rw [this, hqw] at hk; exact (Option.some.inj hk).symm))]
            exact s5 q' _ (hk4 k q' hk)
      · rintro σ H4 ⟨o1, o2, rfl, s4, hp4, hk4⟩
        exact ⟨_, rfl, k p qs H4 hpH s4 hp4 hql (fun k q hk => ⟨(hq q (List.mem_of_getElem? hk)).1, hk4 k q hk⟩) hnd hpq⟩
theorem scoverlap : FnScope (["one", "other"]) (["one", "other"]) (defScope soverlap) := ⟨rfl, rfl, rfl, by decide +kernel, rfl, by decide +kernel, by decide +kernel⟩
set_option maxHeartbeats 4000000 in
theorem okoverlap {f : Addr} {fd : FuncData} (F : Fun K "overlap" "overlap" soverlap f fd) (B : Bs mg) (T : Gs mg) (mBadWay : mg "BadWay" = some (.ref CBadWay)) (qBadWay : PySem.W.excIn K CBadWay bmV "ValueError.__new__" = true)  (clPairing : Cls K CPairing) (nPairing_table : NoAttr K CPairing "table") (nPairing_row_prices : NoAttr K CPairing "row_prices") (nPairing_column_prices : NoAttr K CPairing "column_prices") (nPairing_holders : NoAttr K CPairing "holders") (ccheck_two_ways : CalE P w K mg base 4 "check_two_ways" [] (spCheckTwoE K CBadWay)) (clots : Cal P w K mg base 4 "lots" [] (spLots K)) : FnOk P w K mg base (CXE P w) 5 f fd ["one", "other"] (spOverE K CBadWay) := by
  have sc := scoverlap
  refine F.okE sc (fun vs H Q E h => ?_) (fun cdv A outer s H vs Q E hr F0 h => ?_)
  · obtain ⟨a, b, ws, vs, rfl, _⟩ := h; rfl
  · obtain ⟨a, b, ws, vs, rfl, hS, hT, hw, hv, k0, kE⟩ := h
    refine ⟨_, (pss_cons (ps_expr (pe_calE ccheck_two_ways (hr.mono (by decide)) rfl (pass_fn F0) (pa_cons (pv 0) (pa_cons (pv 1) pa_nil))))
      (pss_one (ps_ret (pe_lcC (N' := ["first", "other"]) (M := [none, some 1]) (lcScC_of (by rfl)) rfl (kpi_list (K := K) (pe_cal clots (hr.mono (by decide)) rfl (pa_cons (pv 0) pa_nil))) (fun _ _ _ _ _ => pg_name (i := 0) (show (["first", "other"] : List Str).Nodup by decide +kernel) rfl (Or.inr rfl) (.inl rfl)) (frm_name rfl) (fun _ _ _ _ _ => pts_nil) (fun _ _ _ _ _ => (pe_lcCV (N' := ["second", "first"]) (M := [none, some 0]) (lcScC_of (by rfl)) rfl (kpi_list (K := K) (pe_cal clots (hr.mono (by decide)) rfl (pa_cons (pv 1) pa_nil))) (fun _ _ _ _ _ => pg_name (i := 0) (show (["second", "first"] : List Str).Nodup by decide +kernel) rfl (Or.inr rfl) (.inl rfl)) (frm_name rfl) (fun _ _ _ _ _ => pts_nil) (fun _ _ _ _ _ => (pe_callB (kc_len (K := K)) (by rfl) B.len PyProof.Rows.Boot.«len» (pa_cons (pe_lcV (N' := ["censer", "second"]) (M := [none, some 0]) (lcSc_of (by rfl)) rfl (kpi_list (K := K) (pv 1)) (fun _ _ _ _ _ => pg_name (i := 0) (show (["censer", "second"] : List Str).Nodup by decide +kernel) rfl (Or.inl rfl) (.inr rfl)) (frm_name rfl) (fun _ _ _ _ _ => pts_one (pt_cmpR (kop_in (K := K)) (pv 0) (pv 1) rfl)) (fun _ _ _ _ _ => (pv 0))) pa_nil))))))))), ?_⟩
    obtain ⟨w1, w9, w0⟩ := isWay_iff.mp hw
    obtain ⟨v1, v9, v0⟩ := isWay_iff.mp hv
    have fw := fresh_le ws
    have fv := fresh_le vs
    refine ⟨_, rfl, _, rfl, a, b, ws, vs, rfl, hS, hT, hw, hv, fun hl => ?_, kE⟩
    have k := k0 hl
    refine ⟨_, rfl, a, ws, rfl, hS, hw, fun p qs H1 hpn s1 hp1 hql hq1 hnd hpq => ?_⟩
    refine ⟨p, rfl, ⟨_, SqL.of hp1⟩, lc_list (xs := qs.map V.ref) (fun j ys H4 => Same H1 H4 ∧ ∃ rs : List Addr, ys = rs.map V.ref ∧ (∀ r ∈ rs, H r = none) ∧ Paired (fun a (xs : List Int) => H4 a = some (.lst (xs.map V.int))) rs ((ovT ws vs).take j)) (le_line (by rw [List.length_map]; omega)) ⟨Same.refl _, [], rfl, fun r h => by simp at h, .nil⟩
      (fun j ys H4 _ ⟨s4, rs, e, _, hP⟩ => ⟨SqL.of (s4 p _ hp1), by rw [e, List.length_map, hP.length, List.length_take]; omega⟩) ?_ ?_⟩
    · rintro j y ys H4 hj ⟨s4, rs, rfl, hrs, hP⟩
      obtain ⟨q, rfl, hqj, hjl⟩ := getRef hj
      have hq4 := s4 q _ (hq1 j q hqj).2
      refine lcN ?_
      refine ⟨_, rfl, b, vs, rfl, (s1.trans s4).seqT hT, hv, fun p2 qs2 H5 hp2n s5 hp5 hql5 hq5 _ _ => ?_⟩
      refine ⟨p2, rfl, ⟨_, SqL.of hp5⟩, lc_list (xs := qs2.map V.ref) (fun m zs H6 => Same H5 H6 ∧ zs = ((ovRow ws vs j).take m).map V.int) (le_line (by rw [List.length_map]; omega)) ⟨Same.refl _, rfl⟩
        (fun m zs H6 _ ⟨s6, e⟩ => ⟨SqL.of (s6 p2 _ hp5), by rw [e, ltm, List.length_take]; omega⟩) ?_ ?_⟩
      · rintro m y zs H6 hm ⟨s6, rfl⟩
        obtain ⟨q2, rfl, hqm, hml⟩ := getRef hm
        have hq26 := s6 q2 _ (hq5 m q2 hqm).2
        have hq6 := s6 q _ (s5 q _ hq4)
        have hln := lotN_length_le ws (j : Int) ws.length
        refine lcN ?_
        refine ⟨_, rfl, q, rfl, ⟨_, SqL.of hq6⟩, lc_list (xs := (lotL ws (j : Int) ws.length).map V.int) (fun t us H7 => H7 = H6 ∧ us.length = (((lotN ws (j : Int) ws.length).take t).filter fun j => decide (vs.getD j 0 = (m : Int))).length) (le_line (by rw [ltm, lotL_length]; omega)) ⟨rfl, rfl⟩
          (fun t us H7 _ ⟨e, e2⟩ => ⟨by rw [e]; exact SqL.of hq6, by rw [e2]; exact Nat.le_trans (List.length_filter_le _ _) (by rw [List.length_take]; omega)⟩) ?_ ?_⟩
        · rintro t y us H7 ht ⟨rfl, hus⟩
          obtain ⟨z, rfl, hz, _⟩ := getI ht
          obtain ⟨c, hc, rfl⟩ : ∃ c : Nat, (lotN ws (j : Int) ws.length)[t]? = some c ∧ z = (c : Int) := by
            unfold lotL at hz
            rw [List.getElem?_map] at hz
            cases e : (lotN ws (j : Int) ws.length)[t]? with
            | none => rw [e] at hz; cases hz
            | some c => rw [e] at hz; exact ⟨c, rfl, (Option.some.inj hz).symm⟩
          have hcn := (mem_lotN.mp (List.mem_of_getElem? hc)).1
          refine ⟨_, rfl, _, rfl, q2, _, rfl, .inl (SqL.of hq26), rfl, flat_ints _, _, rfl, ?_⟩
          rw [show (if false = true then !inV (V.int (c : Int)) ((lotL vs (m : Int) vs.length).map V.int) else inV (V.int (c : Int)) ((lotL vs (m : Int) vs.length).map V.int)) = inV (V.int (c : Int)) ((lotL vs (m : Int) vs.length).map V.int) from rfl, ov_in (by omega)]
          rw [take_snoc hc, List.filter_append]
          refine ite2 (fun g => ⟨_, rfl, rfl, ?_⟩) (fun g => ⟨rfl, ?_⟩)
          · rw [List.length_append, hus, List.length_append, List.filter_cons, if_pos g]; rfl
          · rw [hus, List.length_append, List.filter_cons, if_neg g]; rfl
        · rintro us H7 ⟨rfl, hus⟩ u hu
          rw [ltm, lotL_length, List.take_length] at hus
          refine ⟨u, _, rfl, .inl (SqL.of upd_same), s6.new2 hu, ?_⟩
          rw [hus, take_snoc (ovRow_at (ws := ws) (vs := vs) (k := j) (m := m) (by omega)), mapV]
      · rintro zs H6 ⟨s6, rfl⟩ r hr'
        rw [List.length_map, hql5, ← ovRow_length ws vs j, List.take_length]
        have S6 := ((s1.trans s4).trans s5).trans s6
        refine ⟨((s4.trans s5).trans s6).new2 hr', rs ++ [r], by rw [List.map_append]; rfl, fun x hx => ?_, ?_⟩
        · rcases List.mem_append.mp hx with h | h
          · exact hrs x h
          · rw [List.mem_singleton.mp h]; exact S6.free hr'
        · exact paired_snoc_take (L2.Paired.mapP hP fun a' xs z => Same.new hr' a' _ (s6 a' _ (s5 a' _ z))) (ovT_at (by omega)) upd_same
    · rintro ys H4 ⟨s4, rs, rfl, hrs, hP⟩ r hr'
      rw [List.length_map, hql, ← ovT_length ws vs, List.take_length] at hP
      exact k r rs _ ((s1.trans s4).free hr') hrs ((s1.trans s4).new2 hr') upd_same (L2.Paired.mapP hP fun a' xs z => Same.new hr' a' _ z)
theorem scPairing___init__ : FnScope (["self", "table"]) (["self", "table"]) (defScope sPairing___init__) := ⟨rfl, rfl, rfl, by decide +kernel, rfl, by decide +kernel, by decide +kernel⟩
set_option maxHeartbeats 4000000 in
theorem okPairing___init__ {f : Addr} {fd : FuncData} (F : Fun K "__init__" "Pairing.__init__" sPairing___init__ f fd) (B : Bs mg) (T : Gs mg) (mBadWay : mg "BadWay" = some (.ref CBadWay)) (qBadWay : PySem.W.excIn K CBadWay bmV "ValueError.__new__" = true)  (clPairing : Cls K CPairing) (nPairing_table : NoAttr K CPairing "table") (nPairing_row_prices : NoAttr K CPairing "row_prices") (nPairing_column_prices : NoAttr K CPairing "column_prices") (nPairing_holders : NoAttr K CPairing "holders")  : FnOk P w K mg base CX0 1 f fd ["self", "table"] (spPInit K CPairing) := by
  have sc := scPairing___init__
  refine F.ok sc (fun vs H Q E h => ?_) (fun cdv A outer s H vs Q E hr h => ?_)
  · obtain ⟨p, dx, t, ts, T, m, k, rfl, _⟩ := h; rfl
  · obtain ⟨p, dx, t, ts, Tb, m, k, rfl, hp, ht, hL, hT, kk⟩ := h
    refine ⟨_, (pss_cons (ps_fld (pv 0) (pv 1) rfl)
      (pss_cons (ps_fld (pv 0) (pe_lc (N' := ["row"]) (M := [none]) (lcSc_of (by rfl)) rfl (kpi_list (K := K) (pv 1)) (fun _ _ _ _ _ => pg_name (i := 0) (show (["row"] : List Str).Nodup by decide +kernel) rfl (Or.inl rfl) (.inr rfl)) (frm_name rfl) (fun _ _ _ _ _ => pts_nil) (fun _ _ _ _ _ => (pe_callB (kc_max (K := K)) (by rfl) B.max PyProof.Rows.Boot.«max» (pa_cons (pv 0) pa_nil)))) rfl)
      (pss_cons (ps_fld (pv 0) (pe_op op_rep (pe_lst (pa_cons pe_int pa_nil)) (pe_callB (kc_len (K := K)) (by rfl) B.len PyProof.Rows.Boot.«len» (pa_cons (pe_ix (kix_list (K := K)) (pv 1) pe_int (fun _ _ => rfl)) pa_nil))) rfl)
      (pss_one (ps_fld (pv 0) (pe_op op_rep (pe_lst (pa_cons pe_non pa_nil)) (pe_callB (kc_len (K := K)) (by rfl) B.len PyProof.Rows.Boot.«len» (pa_cons (pe_ix (kix_list (K := K)) (pv 1) pe_int (fun _ _ => rfl)) pa_nil))) rfl))))), ?_⟩
    obtain ⟨t1, t2, t3, t4, t5, t6, t7⟩ := hT
    have hlen := hL.length
    have npt : p ≠ t := ins_ne hp ht
    -- the table
    refine ⟨_, rfl, _, rfl, p, CPairing, dx, [], rfl, hp, clPairing, nPairing_table, by decide, ?_⟩
    have kp1 : ∀ b o, H b = some o → b ≠ p → upd H p (HO.ins CPairing dx (putF "table" (.ref t) [])) b = some o := fun b o e hb => by rw [upd_ne hb]; exact e
    have hp1 : upd H p (HO.ins CPairing dx (putF "table" (.ref t) [])) p = some (.ins CPairing dx (putF "table" (.ref t) [])) := upd_same
    have free1 : ∀ q, upd H p (HO.ins CPairing dx (putF "table" (.ref t) [])) q = none → H q = none := fun q e => by
      by_cases eq : q = p
      · rw [eq, upd_same] at e; cases e
      · rw [upd_ne eq] at e; exact e
    have hL1 : LhAt (upd H p (HO.ins CPairing dx (putF "table" (.ref t) []))) ts Tb := lh_put hL fun a ha e => by
      obtain ⟨j, hj, e2⟩ := List.getElem_of_mem ha
      obtain ⟨r, hr', _⟩ := paired_getM hL (List.getElem?_eq_getElem hj)
      rw [e2, e] at hr'
      rw [hp] at hr'; cases hr'
    have ht1 := kp1 t _ ht npt.symm
    generalize upd H p (HO.ins CPairing dx (putF "table" (.ref t) [])) = H1 at kp1 hp1 free1 hL1 ht1
    -- the rows' prices
    refine ⟨_, rfl, t, rfl, ⟨_, SqL.of ht1⟩, lc_list (xs := ts.map V.ref) (fun i ys H2 => H2 = H1 ∧ ∃ R : List Int, ys = R.map V.int ∧ R.length = i ∧ ∀ j, j < i → IsMax (Tb.getD j []) (R.getD j 0)) (le_line (by rw [List.length_map]; omega)) ⟨rfl, [], rfl, rfl, fun j h => absurd h (by omega)⟩
      (fun i ys H2 _ ⟨e, R, e2, e3, _⟩ => ⟨by rw [e]; exact SqL.of ht1, by rw [e2, ltm, e3]; exact Nat.le_refl _⟩) ?_ ?_⟩
    · rintro i y ys H2 hi ⟨rfl, R, rfl, hRl, hR⟩
      obtain ⟨q, rfl, hq, hil⟩ := getRef hi
      obtain ⟨r, hr', hri⟩ := paired_getM hL1 hq
      have er : Tb.getD i [] = r := by rw [List.getD_eq_getElem?_getD, hri]; rfl
      have rl := t2 i (by omega)
      rw [er] at rl
      refine lcN ?_
      refine ⟨_, rfl, q, r, rfl, .inl (SqL.of hr'), fun e => by rw [e] at rl; simp at rl; omega, fun mx hmx => ⟨rfl, R ++ [mx], mapV, by rw [List.length_append, hRl]; rfl, fun j hj => ?_⟩⟩
      by_cases ej : j = i
      · rw [ej, er, show (R ++ [mx]).getD i 0 = mx by rw [List.getD_eq_getElem?_getD, List.getElem?_append_right (by omega), hRl, Nat.sub_self]; rfl]; exact hmx
      · rw [show (R ++ [mx]).getD j 0 = R.getD j 0 by rw [List.getD_eq_getElem?_getD, List.getElem?_append_left (by omega), ← List.getD_eq_getElem?_getD]]; exact hR j (by omega)
    rintro ys H2 ⟨rfl, R, rfl, hRl, hR⟩ rp hrp
    rw [List.length_map] at hRl hR
    have nprp : p ≠ rp := ne_of_none hp1 hrp
    refine ⟨_, rfl, p, CPairing, dx, _, rfl, by rw [upd_ne nprp]; exact hp1, clPairing, nPairing_row_prices, by show 1 < 1000; decide, ?_⟩
    have hp3 : upd (upd H2 rp (HO.lst (R.map V.int))) p (HO.ins CPairing dx (putF "row_prices" (.ref rp) (putF "table" (.ref t) []))) p = some (.ins CPairing dx (putF "row_prices" (.ref rp) (putF "table" (.ref t) []))) := upd_same
    have kp3 : ∀ b o, H2 b = some o → b ≠ p → upd (upd H2 rp (HO.lst (R.map V.int))) p (HO.ins CPairing dx (putF "row_prices" (.ref rp) (putF "table" (.ref t) []))) b = some o := fun b o e hb => by rw [upd_ne hb, upd_ne (ne_of_none e hrp)]; exact e
    have hrp3 : upd (upd H2 rp (HO.lst (R.map V.int))) p (HO.ins CPairing dx (putF "row_prices" (.ref rp) (putF "table" (.ref t) []))) rp = some (.lst (R.map V.int)) := by rw [upd_ne nprp.symm, upd_same]
    generalize upd (upd H2 rp (HO.lst (R.map V.int))) p (HO.ins CPairing dx (putF "row_prices" (.ref rp) (putF "table" (.ref t) []))) = H3 at hp3 kp3 hrp3
    -- the columns' prices
    obtain ⟨r0, hr0, ht0⟩ := paired_getR hL1 (show Tb[0]? = some (Tb.getD 0 []) by rw [List.getD_eq_getElem?_getD, List.getElem?_eq_getElem (by omega)]; rfl)
    have r0p : r0 ≠ p := fun e => by rw [e, hp1] at hr0; cases hr0
    have hr3 := kp3 _ _ hr0 r0p
    have ht3 := kp3 _ _ ht1 npt.symm
    have l0 := t2 0 (by omega)
    refine ⟨le_line (by simp), fun c1 hc1 => ?_⟩
    have n4 := Same.new (o := HO.lst [V.int 0]) hc1
    refine ⟨_, rfl, t, _, _, _, rfl, rfl, SqL.of (n4 _ _ ht3), atI_ref (j := 0) ht0, r0, _, rfl, .inl (SqL.of (n4 _ _ hr3)), ?_⟩
    rw [ltm, l0]
    refine ⟨c1, _, _, rfl, rfl, upd_same, by omega, by omega, le_line (by simp; omega), fun cp hcp => ?_⟩
    have e1 : (List.replicate ((k : Int)).toNat [V.int 0]).flatten = (List.replicate k (0 : Int)).map V.int := by
      rw [Int.toNat_natCast, List.map_replicate]
      exact flat_one _ _
    rw [e1]
    have n5 := n4.new2 (o := HO.lst ((List.replicate k (0 : Int)).map V.int)) hcp
    have hcp5 : upd (upd H3 c1 (HO.lst [V.int 0])) cp (HO.lst ((List.replicate k (0 : Int)).map V.int)) cp = some (.lst ((List.replicate k (0 : Int)).map V.int)) := upd_same
    have hcp3 : H3 cp = none := n4.free hcp
    generalize upd (upd H3 c1 (HO.lst [V.int 0])) cp (HO.lst ((List.replicate k (0 : Int)).map V.int)) = H5 at n5 hcp5
    have npcp : p ≠ cp := ne_of_none hp3 hcp3
    refine ⟨_, rfl, p, CPairing, dx, _, rfl, n5 _ _ hp3, clPairing, nPairing_column_prices, by show 2 < 1000; decide, ?_⟩
    have hp6 : upd H5 p (HO.ins CPairing dx (putF "column_prices" (.ref cp) (putF "row_prices" (.ref rp) (putF "table" (.ref t) [])))) p = some (.ins CPairing dx (putF "column_prices" (.ref cp) (putF "row_prices" (.ref rp) (putF "table" (.ref t) [])))) := upd_same
    have kp6 : ∀ b o, H5 b = some o → b ≠ p → upd H5 p (HO.ins CPairing dx (putF "column_prices" (.ref cp) (putF "row_prices" (.ref rp) (putF "table" (.ref t) [])))) b = some o := fun b o e hb => by rw [upd_ne hb]; exact e
    generalize upd H5 p (HO.ins CPairing dx (putF "column_prices" (.ref cp) (putF "row_prices" (.ref rp) (putF "table" (.ref t) [])))) = H6 at hp6 kp6
    -- the holders
    have ht6 := kp6 _ _ (n5 _ _ ht3) npt.symm
    have hr6 := kp6 _ _ (n5 _ _ hr3) r0p
    refine ⟨le_line (by simp), fun h1 hh1 => ?_⟩
    have n7 := Same.new (o := HO.lst [V.non]) hh1
    refine ⟨_, rfl, t, _, _, _, rfl, rfl, SqL.of (n7 _ _ ht6), atI_ref (j := 0) ht0, r0, _, rfl, .inl (SqL.of (n7 _ _ hr6)), ?_⟩
    rw [ltm, l0]
    refine ⟨h1, _, _, rfl, rfl, upd_same, by omega, by omega, le_line (by simp; omega), fun hd hhd => ?_⟩
    have e2 : (List.replicate ((k : Int)).toNat [V.non]).flatten = (List.replicate k (none : Option Nat)).map hV := by
      rw [Int.toNat_natCast, List.map_replicate]
      exact flat_one _ _
    rw [e2]
    have n8 := n7.new2 (o := HO.lst ((List.replicate k (none : Option Nat)).map hV)) hhd
    have hhd8 : upd (upd H6 h1 (HO.lst [V.non])) hd (HO.lst ((List.replicate k (none : Option Nat)).map hV)) hd = some (.lst ((List.replicate k (none : Option Nat)).map hV)) := upd_same
    have hhd6 : H6 hd = none := n7.free hhd
    generalize upd (upd H6 h1 (HO.lst [V.non])) hd (HO.lst ((List.replicate k (none : Option Nat)).map hV)) = H8 at n8 hhd8
    refine ⟨_, rfl, p, CPairing, dx, _, rfl, n8 _ _ hp6, clPairing, nPairing_holders, by show 3 < 1000; decide, ?_⟩
    have nphd : p ≠ hd := ne_of_none hp6 hhd6
    have kpA : ∀ b o, H b = some o → b ≠ p → H8 b = some o := fun b o e hb => n8 _ _ (kp6 _ _ (n5 _ _ (kp3 _ _ (kp1 _ _ e hb) hb)) hb)
    have hrp5 := n5 _ _ hrp3
    have hrp6 := kp6 _ _ hrp5 nprp.symm
    have hcp6 := kp6 _ _ hcp5 npcp.symm
    have rowA : ∀ a ∈ ts, (∃ xs, H a = some (.lst xs)) := fun a ha => by
      obtain ⟨j, hj, e⟩ := List.getElem_of_mem ha
      obtain ⟨r, hr', _⟩ := paired_getM hL (List.getElem?_eq_getElem hj)
      rw [e] at hr'; exact ⟨_, hr'⟩
    have nrp : H rp = none := free1 _ hrp
    have ncp : H cp = none := by
      cases e : H cp with
      | none => rfl
      | some o => exact absurd (kp3 _ _ (kp1 _ _ e npcp.symm) npcp.symm) (by rw [hcp3]; simp)
    have nhd : H hd = none := by
      cases e : H hd with
      | none => rfl
      | some o => exact absurd (kp6 _ _ (n5 _ _ (kp3 _ _ (kp1 _ _ e nphd.symm) nphd.symm)) nphd.symm) (by rw [hhd6]; simp)
    refine kk rp cp hd R _ nrp ncp nhd ⟨upd_same, by rw [upd_ne npt.symm]; exact kpA _ _ ht npt.symm, ?_, by rw [upd_ne nprp.symm]; exact n8 _ _ hrp6, by rw [upd_ne npcp.symm]; exact n8 _ _ hcp6, by rw [upd_ne nphd.symm]; exact hhd8, ⟨ne_of_none hrp3 hcp3, ne_of_none hrp6 hhd6, ne_of_none hcp6 hhd6⟩, ⟨ne_of_none ht nrp, ne_of_none ht ncp, ne_of_none ht nhd⟩, fun a ha => ?_⟩ ?_ (fun b o e hb => by rw [upd_ne hb]; exact kpA b o e hb)
    · have : ∀ {us : List Addr} {U : List (List Int)}, LhAt H us U → LhAt (upd H8 p (HO.ins CPairing dx (putF "holders" (.ref hd) (putF "column_prices" (.ref cp) (putF "row_prices" (.ref rp) (putF "table" (.ref t) [])))))) us U := fun {us U} q => L2.Paired.mapP q fun a r e => by
        have hap : a ≠ p := fun z => by rw [z, hp] at e; cases e
        rw [upd_ne hap]; exact kpA _ _ e hap
      exact this hL
    · obtain ⟨xs, e⟩ := rowA a ha
      exact ⟨ne_of_none e nrp, ne_of_none e ncp, ne_of_none e nhd⟩
    · have rl : ∀ c, (List.replicate k (0 : Int)).getD c 0 = 0 := fun c => by
        rw [List.getD_eq_getElem?_getD, List.getElem?_replicate]; split <;> rfl
      have mx : ∀ r c, r < m → c < k → tE Tb r c ≤ R.getD r 0 := fun r c hr' hc => by
        have := hR r (by omega)
        unfold tE
        exact this.2 _ (mem_gD (by rw [t2 r hr']; exact hc))
      refine ⟨t1, t2, by omega, List.length_replicate, List.length_replicate, t3, fun r c hr' hc => by rw [rl]; have := mx r c hr' hc; omega, fun c h e => ?_, fun h => ?_, fun c => by rw [rl]; exact Int.le_refl _, fun c _ => rl c, fun r => ?_⟩
      · rw [List.getElem?_replicate] at e
        split at e
        · cases e
        · cases e
      · rw [List.count_replicate]; simp
      · by_cases hr' : r < m
        · have h1 := mx r 0 hr' (by omega)
          have h2 := t3 r 0
          omega
        · rw [List.getD_eq_getElem?_getD, List.getElem?_eq_none_iff.mpr (by omega)]; exact Int.le_refl _
theorem scPairing_makes_room : FnScope (["self", "row", "reached", "column", "worth", "holder"]) (["self", "row", "reached"]) (defScope sPairing_makes_room) := ⟨rfl, rfl, rfl, by decide +kernel, rfl, by decide +kernel, by decide +kernel⟩
set_option maxHeartbeats 4000000 in
theorem okPairing_makes_room {dd : Nat} {f : Addr} {fd : FuncData} (F : Fun K "makes_room" "Pairing.makes_room" sPairing_makes_room f fd) (B : Bs mg) (T : Gs mg) (mBadWay : mg "BadWay" = some (.ref CBadWay)) (qBadWay : PySem.W.excIn K CBadWay bmV "ValueError.__new__" = true)  (clPairing : Cls K CPairing) (nPairing_table : NoAttr K CPairing "table") (nPairing_row_prices : NoAttr K CPairing "row_prices") (nPairing_column_prices : NoAttr K CPairing "column_prices") (nPairing_holders : NoAttr K CPairing "holders") (cPairing_makes_room : CalM P w K mg base CPairing (1 + dd) "makes_room" (spMRoom K CPairing dd)) : FnOk P w K mg base CX0 (1 + dd + 1) f fd ["self", "row", "reached"] (spMRoom K CPairing (dd + 1)) := by
  have sc := scPairing_makes_room
  refine F.ok sc (fun vs H Q E h => ?_) (fun cdv A outer s H vs Q E hr h => ?_)
  · obtain ⟨_, p, dx, t, rp, cp, hd, rc, ts, Tb, R, Cc, Hd, row, k, S, rfl, _⟩ := h; rfl
  · obtain ⟨hd0, p, dx, t, rp, cp, hd, rc, ts, Tb, R, Cc, Hd, row, k, S, rfl, hP, hrc, ng, hrow, sz, hnd, hlt, hfu, kk⟩ := h
    refine ⟨_, (pss_cons (ps_for PassesOwn.never rfl (pi_enumL (K := K) rfl B.enumerate (pa_cons (pe_ix (kix_list (K := K)) (pe_fld (pv 0) rfl) (pv 1) (fun _ _ => rfl)) pa_nil)) (pg_tup rfl (pgs_cons (pg_name (i := 3) sc.nd rfl (Or.inl rfl)) (pgs_cons (pg_name (i := 4) sc.nd rfl (Or.inl rfl)) pgs_nil)))
      (pss_cons (ps_if (PW.pt (pw_or (pt_cmpR (kop_in (K := K)) (pv 3) (pv 2) rfl) (pw_or1 (pt_cmpR op_ne (pe_op op_add (pe_ix (kix_list (K := K)) (pe_fld (pv 0) rfl) (pv 1) (fun _ _ => rfl)) (pe_ix (kix_list (K := K)) (pe_fld (pv 0) rfl) (pv 3) (fun _ _ => rfl))) (pv 4) (nomark _))))) (pss_one ps_continue) pss_nil)
      (pss_cons (ps_expr (pe_bm PySem.F.plainAttrs_list PySem.F.slot_list_append PySem.F.type_list_append mt_append (pv 2) (pa_cons (pv 3) pa_nil)))
      (pss_cons (ps_set (i := 5) sc.nd rfl (Or.inl rfl) (pe_ix (kix_list (K := K)) (pe_fld (pv 0) rfl) (pv 3) (fun _ _ => rfl)))
      (pss_one (ps_if (PW.pt (pw_or (pt_cmpR op_isN (pv 5) pe_non (nomark _)) (pw_or1 (pt_val (pe_calM cPairing_makes_room clPairing (hr.mono (by omega)) (pv 0) (pa_cons (pv 5) (pa_cons (pv 2) pa_nil))))))) (pss_cons (ps_asg (pv 1) (pg_sub (pe_fld (pv 0) rfl) (pv 3) set_list))
      (pss_one (ps_ret pe_bl))) pss_nil))))))
      (pss_one (ps_ret pe_bl))), ?_⟩
    obtain ⟨ra, hra, hta⟩ := paired_getR hP.hr (show Tb[row]? = some (Tb.getD row []) by rw [List.getD_eq_getElem?_getD, List.getElem?_eq_getElem hrow]; rfl)
    have hrl := sz.lr row hrow
    refine ⟨_, rfl, p, CPairing, dx, _, _, rfl, hP.ob, clPairing, nPairing_table, pF_t _ _ _ _, _, rfl, t, _, _, _, rfl, rfl, SqL.of hP.ht, atI_ref hta, ra, rfl, ⟨_, SqL.of hra⟩, for_enumL (K := K) (a := ra) (xs := (Tb.getD row []).map V.int)
      (fun i σ H2 => ∃ (o3 o4 o5 : Option V) (S' : List Nat), σ = [some (.ref p), some (.int (row : Int)), some (.ref rc), o3, o4, o5] ∧ Fr2 H H2 hd rc ∧ H2 hd = some (.lst (Hd.map hV)) ∧ H2 rc = some (.lst (nI S')) ∧ MRl Tb R Cc k Hd S row i S')
      ⟨none, none, none, S, rfl, fun x o e _ _ => e, hP.hH, hrc, mrl_start hnd hlt⟩ (fun i σ H2 _ ⟨_, _, _, _, _, fr, _⟩ => SqL.of (fr _ _ hra (hP.n3 ra (List.mem_of_getElem? hta)).2.2 (ng.2.2.2.2 ra (List.mem_of_getElem? hta)))) ?_ ?_⟩
    · rintro i y σ H2 tt hi ⟨o3, o4, o5, S', rfl, fr, hh, hrc2, L⟩ htt
      obtain ⟨z, rfl, hz, hil⟩ := getI hi
      have hik : i < k := by omega
      have ez : z = tE Tb row i := by unfold tE; rw [List.getD_eq_getElem?_getD, hz]; rfl
      subst ez
      have n3 := Same.new (o := HO.tup [V.int (i : Int), V.int (tE Tb row i)]) htt
      refine ⟨tt, _, rfl, SqT.of upd_same, rfl, _, _, rfl, _, _, rfl, rfl, ?_⟩
      have fr3 : Fr2 H (upd H2 tt (HO.tup [V.int (i : Int), V.int (tE Tb row i)])) hd rc := fun x o e a b => n3 _ _ (fr x o e a b)
      have hrc3 := n3 _ _ hrc2
      have P3 : PrAt CPairing _ p dx t rp cp hd ts Tb R Cc Hd := hP.fr2 hrc ng fr3 (n3 _ _ hh)
      generalize upd H2 tt (HO.tup [V.int (i : Int), V.int (tE Tb row i)]) = H3 at n3 fr3 hrc3 P3
      -- is it told of already, or is it dear
      refine seq_ifN (b := decide (i ∈ S') || !decide (tgt Tb R Cc row i)) (P := fun H' => H' = H3) (fun N hN => ?_) (fun g H' e => ?_) (fun g H' e => ?_)
      · refine ⟨_, rfl, _, rfl, rc, _, rfl, .inl (SqL.of hrc3), rfl, nI_flat _, _, rfl, ?_⟩
        rw [show (if false = true then !inV (V.int (i : Int)) (nI S') else inV (V.int (i : Int)) (nI S')) = decide (i ∈ S') from in_nats]
        refine ite2 (fun g => ?_) (fun g => ?_)
        · rw [g] at hN; exact hN _ rfl
        · rw [bF g] at hN
          refine ⟨_, rfl, p, CPairing, dx, _, _, rfl, P3.ob, clPairing, nPairing_row_prices, pF_r _ _ _ _, _, rfl, rp, _, _, _, rfl, rfl, SqL.of P3.hR, atI_nt (getD_at (by rw [sz.lR]; exact hrow)), _, rfl, p, CPairing, dx, _, _, rfl, P3.ob, clPairing, nPairing_column_prices, pF_c _ _ _ _, _, rfl, cp, _, _, _, rfl, rfl, SqL.of P3.hC, atI_nt (getD_at (by rw [sz.lC]; exact hik)), _, _, rfl, rfl, _, rfl, rfl, _, rfl, ?_⟩
          rw [dInt]
          exact hN _ rfl
      · subst e
        refine ⟨_, _, _, S', rfl, fr3, P3.hH, hrc3, mrl_skip L ?_⟩
        rcases (Bool.or_eq_true _ _).mp g with g | g
        · exact .inl (of_decide_eq_true g)
        · exact .inr (fun q => by rw [decide_eq_true q] at g; exact absurd g (by decide))
      subst e
      have gi : i ∉ S' := fun q => by rw [decide_eq_true q, Bool.true_or] at g; exact absurd g (by decide)
      have gt : tgt Tb R Cc row i := by
        apply Classical.byContradiction
        intro q
        rw [decide_eq_false q, Bool.not_false, Bool.or_true] at g
        exact absurd g (by decide)
      have hSl : S'.length ≤ k := by
        have := L.nd.length_le_of_subset (l₂ := List.range k) (fun c hc => List.mem_range.mpr (L.lt c hc))
        rw [List.length_range] at this
        exact this
      have hSl2 : (S' ++ [i]).length ≤ k := by
        have nd : (S' ++ [i]).Nodup := by
          rw [List.nodup_append]
          exact ⟨L.nd, by simp, fun a ha b hb e => gi (by rw [← (show b = i by simpa using hb), ← e]; exact ha)⟩
        have := nd.length_le_of_subset (l₂ := List.range k) (fun c hc => List.mem_range.mpr (by
          rcases List.mem_append.mp hc with h | h
          · exact L.lt c h
          · rw [List.mem_singleton.mp h]; exact hik))
        rw [List.length_range] at this
        exact this
      have k9 := sz.k9
      -- told of
      refine ⟨_, rfl, .inl ⟨rfl, _, SqL.of hrc3⟩, _, rfl, rc, _, _, rfl, rfl, hrc3, lt_line (by rw [nI_len]; omega), ?_⟩
      rw [nI_snoc]
      have P4 : PrAt CPairing (upd H' rc (HO.lst (nI (S' ++ [i])))) p dx t rp cp hd ts Tb R Cc Hd := P3.put hrc3 ng
      have hrc4 : upd H' rc (HO.lst (nI (S' ++ [i]))) rc = some (.lst (nI (S' ++ [i]))) := upd_same
      have fr4 : Fr2 H (upd H' rc (HO.lst (nI (S' ++ [i])))) hd rc := fun x o e a b => by rw [upd_ne b]; exact fr3 x o e a b
      generalize upd H' rc (HO.lst (nI (S' ++ [i]))) = H4 at P4 hrc4 fr4
      dsimp only
      refine seq_a ?_
      obtain ⟨o, ho⟩ : ∃ o, Hd[i]? = some o := ⟨_, List.getElem?_eq_getElem (by rw [sz.lH]; exact hik)⟩
      refine ⟨_, rfl, p, CPairing, dx, _, _, rfl, P4.ob, clPairing, nPairing_holders, pF_h _ _ _ _, _, rfl, hd, _, _, _, rfl, rfl, SqL.of P4.hH, atI_H ho, ?_⟩
      -- what is done where there is room
      have put : ∀ (Hd1 : Hol) (S2 : List Nat) (H5 : Hp) (v : V) (D : Ends), D.rt = Q → PrAt CPairing H5 p dx t rp cp hd ts Tb R Cc Hd1 → H5 rc = some (.lst (nI S2)) → Fr2 H H5 hd rc → Hd1.length = k → MRt Tb R Cc Hd S row (Hd1.set i (some row)) →
          tSeq (tAsg (tVar 1) (gSub (tFld K (tVar 0) "holders") (tVar 3) rSetL)) (tRet (tC (V.bl true))) D [some (.ref p), some (.int (row : Int)), some (.ref rc), some (.int (i : Int)), some (.int (tE Tb row i)), some v] H5 := fun Hd1 S2 H5 v D hD P5 h5 f5 hl1 M => by
        refine ⟨_, rfl, _, rfl, p, CPairing, dx, _, _, rfl, P5.ob, clPairing, nPairing_holders, pF_h _ _ _ _, _, rfl, hd, _, _, _, rfl, rfl, P5.hH, ixN_pos (by omega) (by rw [List.length_map, hl1]; omega), ?_⟩
        rw [Int.toNat_natCast, set_map_hV]
        show D.rt _ _
        rw [hD]
        exact kk true (Hd1.set i (some row)) S2 _ (fun x o e a b => by rw [upd_ne a]; exact f5 x o e a b) upd_same (by rw [upd_ne ng.2.2.2.1.symm]; exact h5) (fun _ => M) (fun e => absurd e (by decide))
      cases o with
      | none =>
        refine ⟨_, rfl, rfl, _, rfl, iteD rfl (iteT ?_)⟩
        exact put Hd (S' ++ [i]) H4 _ _ rfl P4 hrc4 fr4 sz.lH (mrt_free ho (fun q => gi (L.sub i q)) gt)
      | some h =>
        refine ⟨_, rfl, rfl, _, rfl, iteDF (by unfold hV; simp) ?_⟩
        refine ⟨_, rfl, p, dx, _, rfl, P4.ob, pF_no _ _ _ _ (by decide +kernel) (by decide +kernel) (by decide +kernel) (by decide +kernel), _, rfl, _, rfl, by rw [List.length_append, List.length_singleton] at hSl2; have := hSl2; have hss : S.length ≤ S'.length := hnd.length_le_of_subset L.sub; omega, p, dx, t, rp, cp, hd, rc, ts, Tb, R, Cc, Hd, h, k, S' ++ [i], rfl, P4, hrc4, ng, sz.ho i h ho, sz, ?_, ?_, ?_, fun b Hd1 S2 H5 fr5 hh5 hrc5 kt kf => ⟨b, rfl, ?_⟩⟩
        · rw [List.nodup_append]
          exact ⟨L.nd, by simp, fun a ha b hb e => gi (by rw [← (show b = i by simpa using hb), ← e]; exact ha)⟩
        · intro c hc
          rcases List.mem_append.mp hc with q | q
          · exact L.lt c q
          · rw [List.mem_singleton.mp q]; exact hik
        · have hss : S.length ≤ S'.length := hnd.length_le_of_subset L.sub
          rw [List.length_append, List.length_singleton]; omega
        have fr45 : Fr2 H H5 hd rc := fun x o e a b => fr5 x o (fr4 x o e a b) a b
        have P5 : PrAt CPairing H5 p dx t rp cp hd ts Tb R Cc Hd1 := P4.fr2 hrc4 ng fr5 hh5
        cases b with
        | true =>
          refine iteT ?_
          have M := kt rfl
          exact put Hd1 S2 H5 _ _ rfl P5 hrc5 fr45 (by rw [M.len]; exact sz.lH) (mrt_step ho (fun q => gi (L.sub i q)) L.sub gt M)
        | false =>
          refine iteF ?_
          obtain ⟨e1, M⟩ := kf rfl
          rw [e1] at hh5
          exact ⟨_, _, _, S2, rfl, fr45, hh5, hrc5, mrl_next L ho M⟩
    · rintro σ H2 ⟨o3, o4, o5, S', rfl, fr, hh, hrc2, L⟩
      rw [ltm, hrl] at L
      exact kk false Hd S' H2 fr hh hrc2 (fun e => absurd e (by decide)) (fun _ => ⟨rfl, L⟩)
theorem scPairing_place : FnScope (["self", "row", "reached", "payer", "column"]) (["self", "row"]) (defScope sPairing_place) := ⟨rfl, rfl, rfl, by decide +kernel, rfl, by decide +kernel, by decide +kernel⟩
set_option maxHeartbeats 4000000 in
theorem okPairing_place {f : Addr} {fd : FuncData} (F : Fun K "place" "Pairing.place" sPairing_place f fd) (B : Bs mg) (T : Gs mg) (mBadWay : mg "BadWay" = some (.ref CBadWay)) (qBadWay : PySem.W.excIn K CBadWay bmV "ValueError.__new__" = true)  (clPairing : Cls K CPairing) (nPairing_table : NoAttr K CPairing "table") (nPairing_row_prices : NoAttr K CPairing "row_prices") (nPairing_column_prices : NoAttr K CPairing "column_prices") (nPairing_holders : NoAttr K CPairing "holders") (cPairing_makes_room : CalM P w K mg base CPairing 12 "makes_room" (spMRoom K CPairing 11)) : FnOk P w K mg base CX0 13 f fd ["self", "row"] (spPlaceP K CPairing) := by
  have sc := scPairing_place
  refine F.ok sc (fun vs H Q E h => ?_) (fun cdv A outer s H vs Q E hr h => ?_)
  · obtain ⟨p, dx, t, rp, cp, hd, ts, Tb, R, Cc, Hd, row, m, k, rfl, _⟩ := h; rfl
  · obtain ⟨p, dx, t, rp, cp, hd, ts, Tb, R, Cc, Hd, row, m, k, rfl, hP, hI, hrow, hmk, hk9, hcnt, kk⟩ := h
    refine ⟨_, (pss_one (ps_while PassesOwn.never (pt_val pe_bl)
      (pss_cons (ps_set (i := 2) sc.nd rfl (Or.inl rfl) (pe_lst pa_nil))
      (pss_cons (ps_if (pt_val (pe_calM cPairing_makes_room clPairing (hr.mono (by decide)) (pv 0) (pa_cons (pv 1) (pa_cons (pv 2) pa_nil)))) (pss_one ps_retN) pss_nil)
      (pss_cons (ps_for PassesOwn.never rfl (kpi_list (K := K) (pe_op op_cat (pe_lst (pa_cons (pv 1) pa_nil)) (pe_lc (N' := ["column", "self"]) (M := [none, some 0]) (lcSc_of (by rfl)) rfl (kpi_list (K := K) (pv 2)) (fun _ _ _ _ _ => pg_name (i := 0) (show (["column", "self"] : List Str).Nodup by decide +kernel) rfl (Or.inl rfl) (.inr rfl)) (frm_name rfl) (fun _ _ _ _ _ => pts_nil) (fun _ _ _ _ _ => (pe_ix (kix_list (K := K)) (kpe_fld (K := K) (pv 1) rfl) (pv 0) (fun _ _ => rfl)))))) (pg_name (i := 3) sc.nd rfl (Or.inl rfl))
      (pss_one (ps_augS (pe_fld (pv 0) rfl) (pv 3) (get_list (K := K)) pe_int ip_sub set_list)))
      (pss_one (ps_for PassesOwn.never rfl (kpi_list (K := K) (pv 2)) (pg_name (i := 4) sc.nd rfl (Or.inl rfl))
      (pss_one (ps_augS (pe_fld (pv 0) rfl) (pv 4) (get_list (K := K)) pe_int ip_add set_list))))))))), ?_⟩
    refine ⟨fun mm σ H2 => ∃ (o2 o3 o4 : Option V) (R2 C2 : List Int), σ = [some (.ref p), some (.int (row : Int)), o2, o3, o4] ∧ PrAt CPairing H2 p dx t rp cp hd ts Tb R2 C2 Hd ∧ HInv Tb m k R2 C2 Hd ∧ Fr3 H H2 rp cp hd ∧ mm = (R2.getD row 0).toNat, ⟨_, none, none, none, R, Cc, rfl, hP, hI, fun x o e _ _ _ => e, rfl⟩, ?_⟩
    rintro mm σ H2 ⟨o2, o3, o4, R2, C2, rfl, P2, I2, fr2, rfl⟩
    refine ⟨_, rfl, iteT ⟨fun σ' H' => ∃ m', m' < (R2.getD row 0).toNat ∧ ∃ (o2 o3 o4 : Option V) (R2 C2 : List Int), σ' = [some (.ref p), some (.int (row : Int)), o2, o3, o4] ∧ PrAt CPairing H' p dx t rp cp hd ts Tb R2 C2 Hd ∧ HInv Tb m k R2 C2 Hd ∧ Fr3 H H' rp cp hd ∧ m' = (R2.getD row 0).toNat, fun _ _ h => h, ?_⟩⟩
    refine seq_a ?_
    refine ⟨le_line (by simp), fun rc hrc => ?_⟩
    have n3 := Same.new (o := HO.lst []) hrc
    have ng := P2.apart hrc
    have P3 := P2.same n3
    have hrc3 : upd H2 rc (HO.lst []) rc = some (.lst (nI [])) := upd_same
    have fr3 : Fr3 H (upd H2 rc (HO.lst [])) rp cp hd := fun x o e a b c => n3 _ _ (fr2 x o e a b c)
    have hrcH : ∀ x o, H x = some o → x ≠ rp → x ≠ cp → x ≠ hd → x ≠ rc := fun x o e a b c => ne_of_none (fr2 x o e a b c) hrc
    generalize upd H2 rc (HO.lst []) = H3 at n3 P3 hrc3 fr3
    have hrowT : row < Tb.length := by rw [I2.lT]; exact hrow
    try dsimp only
    refine ⟨_, rfl, p, dx, _, rfl, P3.ob, pF_no _ _ _ _ (by decide +kernel) (by decide +kernel) (by decide +kernel) (by decide +kernel), _, rfl, _, rfl, by decide, p, dx, t, rp, cp, hd, rc, ts, Tb, R2, C2, Hd, row, k, [], rfl, P3, hrc3, ng, hrowT, I2.sz hk9, List.nodup_nil, fun c h => absurd h (by simp), by simp; omega, fun b Hd1 S1 H4 fr4 hh4 hrc4 kt kf => ⟨b, rfl, ?_⟩⟩
    have P4 : PrAt CPairing H4 p dx t rp cp hd ts Tb R2 C2 Hd1 := P3.fr2 hrc3 ng fr4 hh4
    have fr34 : Fr3 H H4 rp cp hd := fun x o e a b c => fr4 x o (fr3 x o e a b c) c (hrcH x o e a b c)
    cases b with
    | true =>
      refine iteT ?_
      have M := kt rfl
      exact kk R2 C2 Hd1 H4 P4 (I2.room hrow hcnt M) M.cn fr34
    | false =>
      refine iteF ?_
      obtain ⟨rfl, L⟩ := kf rfl
      obtain ⟨I5, r1, r2, hA⟩ := I2.pay hrow hcnt hmk L
      have alS : ∀ c ∈ S1, Hd1[c]? = some (some (hOf Hd1 c)) := fun c hc => by
        obtain ⟨x, e, _⟩ := L.hs c hc (by simp)
        rw [hOf_of e]; exact e
      have hSl : S1.length ≤ k := by
        have := L.nd.length_le_of_subset (l₂ := List.range k) (fun c hc => List.mem_range.mpr (L.lt c hc))
        rw [List.length_range] at this
        exact this
      dsimp only [tNext]
      -- who pays
      refine ⟨_, rfl, le_line (by simp), fun q1 hq1 => ?_⟩
      have n5 := Same.new (o := HO.lst [V.int (row : Int)]) hq1
      have P5 := P4.same n5
      have hrc5 := n5 _ _ hrc4
      have hq15 : upd H4 q1 (HO.lst [V.int (row : Int)]) q1 = some (.lst [V.int (row : Int)]) := upd_same
      generalize upd H4 q1 (HO.lst [V.int (row : Int)]) = H5 at n5 P5 hrc5 hq15
      refine ⟨_, rfl, rc, rfl, ⟨_, SqL.of hrc5⟩, lc_list (xs := nI S1) (fun i ys H6 => H6 = H5 ∧ ys = nI ((S1.take i).map (hOf Hd1))) (le_line (by rw [nI_len]; omega)) ⟨rfl, rfl⟩
        (fun i ys H6 _ h => ⟨by rw [h.1]; exact SqL.of hrc5, by rw [h.2, nI_len, List.length_map, List.length_take]; omega⟩) ?_ ?_⟩
      · rintro i y ys H6 hi ⟨rfl, rfl⟩
        obtain ⟨c, rfl, hci, hil⟩ := getN hi
        refine lcN ?_
        refine ⟨_, rfl, p, CPairing, dx, _, _, rfl, P5.ob, clPairing, nPairing_holders, pF_h _ _ _ _, _, rfl, hd, _, _, _, rfl, rfl, SqL.of P5.hH, atI_H (alS c (List.mem_of_getElem? hci)), rfl, ?_⟩
        rw [map_take_snoc hci]
        exact nI_snoc _ _
      rintro ys H6 ⟨rfl, rfl⟩ q2 hq2
      rw [nI_len, List.take_length]
      have n7 := Same.new (o := HO.lst (nI (S1.map (hOf Hd1)))) hq2
      refine ⟨q1, q2, _, _, rfl, rfl, n7 _ _ hq15, upd_same, le_line (by simp [nI_len]; omega), fun q3 hq3 => ?_⟩
      have eA : [V.int (row : Int)] ++ nI (S1.map (hOf Hd1)) = nI (row :: S1.map (hOf Hd1)) := rfl
      rw [eA]
      have n8 := n7.new2 (o := HO.lst (nI (row :: S1.map (hOf Hd1)))) hq3
      have P8 := P5.same n8
      have hrc8 := n8 _ _ hrc5
      have hq38 : upd (upd H6 q2 (HO.lst (nI (S1.map (hOf Hd1))))) q3 (HO.lst (nI (row :: S1.map (hOf Hd1)))) q3 = some (.lst (nI (row :: S1.map (hOf Hd1)))) := upd_same
      have ng3 := (P5.same n7).apart hq3
      have fr8 : Fr3 H _ rp cp hd := fun x o e a b c => n8 _ _ (n5 _ _ (fr34 x o e a b c))
      generalize upd (upd H6 q2 (HO.lst (nI (S1.map (hOf Hd1))))) q3 (HO.lst (nI (row :: S1.map (hOf Hd1)))) = H8 at n8 P8 hrc8 hq38 fr8
      refine ⟨q3, rfl, ⟨_, SqL.of hq38⟩, for_list (K := K) (a := q3) (xs := nI (row :: S1.map (hOf Hd1))) (fun i σ H9 => ∃ (o3 o4 : Option V), σ = [some (.ref p), some (.int (row : Int)), some (.ref rc), o3, o4] ∧ PrAt CPairing H9 p dx t rp cp hd ts Tb (addA (-1) R2 ((row :: S1.map (hOf Hd1)).take i)) C2 Hd1 ∧ H9 q3 = some (.lst (nI (row :: S1.map (hOf Hd1)))) ∧ H9 rc = some (.lst (nI S1)) ∧ Fr3 H H9 rp cp hd)
        ⟨_, _, rfl, P8, hq38, hrc8, fr8⟩ (fun i σ H9 _ ⟨_, _, _, _, h, _⟩ => SqL.of h) ?_ ?_⟩
      · rintro i y σ H9 hi ⟨o3', o4', rfl, P9, hq9, hrc9, fr9⟩
        obtain ⟨c, rfl, hci, hil⟩ := getN hi
        have hcm := hA c (List.mem_of_getElem? hci)
        have hcl : c < (addA (-1) R2 ((row :: S1.map (hOf Hd1)).take i)).length := by rw [addA_len, I2.lR]; exact hcm
        refine gN ?_
        refine ⟨_, rfl, p, CPairing, dx, _, _, rfl, P9.ob, clPairing, nPairing_row_prices, pF_r _ _ _ _, _, rfl, rp, _, _, _, rfl, rfl, by omega, SqL.of P9.hR, atI_nt (getD_at hcl), _, _, rfl, rfl, rp, _, _, _, rfl, rfl, P9.hR, ixN_pos (by omega) (by rw [ltm]; omega), ?_⟩
        rw [Int.toNat_natCast, ← List.map_set]
        have e : (addA (-1) R2 ((row :: S1.map (hOf Hd1)).take i)).set c ((addA (-1) R2 ((row :: S1.map (hOf Hd1)).take i)).getD c 0 - 1) = addA (-1) R2 ((row :: S1.map (hOf Hd1)).take (i + 1)) := by
          rw [take_snoc hci, addA_snoc]; rfl
        rw [e]
        exact ⟨_, _, rfl, P9.putR, by rw [upd_ne ng3.2.1.symm]; exact hq9, by rw [upd_ne ng.2.1.symm]; exact hrc9, fun x o z a b c => by rw [upd_ne a]; exact fr9 x o z a b c⟩
      · rintro σ H9 ⟨o3', o4', rfl, P9, hq9, hrc9, fr9⟩
        rw [nI_len, List.take_length] at P9
        dsimp only
        refine ⟨_, rfl, rc, rfl, ⟨_, SqL.of hrc9⟩, for_list (K := K) (a := rc) (xs := nI S1) (fun i σ H10 => ∃ (o3 o4 : Option V), σ = [some (.ref p), some (.int (row : Int)), some (.ref rc), o3, o4] ∧ PrAt CPairing H10 p dx t rp cp hd ts Tb (addA (-1) R2 (row :: S1.map (hOf Hd1))) (addA 1 C2 (S1.take i)) Hd1 ∧ H10 rc = some (.lst (nI S1)) ∧ Fr3 H H10 rp cp hd)
          ⟨_, _, rfl, P9, hrc9, fr9⟩ (fun i σ H10 _ ⟨_, _, _, _, h, _⟩ => SqL.of h) ?_ ?_⟩
        · rintro i y σ H10 hi ⟨o3'', o4'', rfl, P10, hrc10, fr10⟩
          obtain ⟨c, rfl, hci, hil⟩ := getN hi
          have hck := L.lt c (List.mem_of_getElem? hci)
          have hcl : c < (addA 1 C2 (S1.take i)).length := by rw [addA_len, I2.lC]; exact hck
          refine gN ?_
          refine ⟨_, rfl, p, CPairing, dx, _, _, rfl, P10.ob, clPairing, nPairing_column_prices, pF_c _ _ _ _, _, rfl, cp, _, _, _, rfl, rfl, by omega, SqL.of P10.hC, atI_nt (getD_at hcl), _, _, rfl, rfl, cp, _, _, _, rfl, rfl, P10.hC, ixN_pos (by omega) (by rw [ltm]; omega), ?_⟩
          rw [Int.toNat_natCast, ← List.map_set]
          have e : (addA 1 C2 (S1.take i)).set c ((addA 1 C2 (S1.take i)).getD c 0 + 1) = addA 1 C2 (S1.take (i + 1)) := by
            rw [take_snoc hci, addA_snoc]
          rw [e]
          exact ⟨_, _, rfl, P10.putC, by rw [upd_ne ng.2.2.1.symm]; exact hrc10, fun x o z a b c => by rw [upd_ne b]; exact fr10 x o z a b c⟩
        · rintro σ H10 ⟨o3'', o4'', rfl, P10, hrc10, fr10⟩
          rw [nI_len, List.take_length] at P10
          exact ⟨_, by rw [r2]; omega, _, _, _, _, _, rfl, P10, I5, fr10, rfl⟩
theorem sckept : FnScope (["one", "other", "table", "columns", "spare", "pairing", "row", "found", "column", "total"]) (["one", "other"]) (defScope skept) := ⟨rfl, rfl, rfl, by decide +kernel, rfl, by decide +kernel, by decide +kernel⟩
set_option maxHeartbeats 4000000 in
theorem okkept {f : Addr} {fd : FuncData} (F : Fun K "kept" "kept" skept f fd) (B : Bs mg) (T : Gs mg) (mBadWay : mg "BadWay" = some (.ref CBadWay)) (qBadWay : PySem.W.excIn K CBadWay bmV "ValueError.__new__" = true)  (clPairing : Cls K CPairing) (nPairing_table : NoAttr K CPairing "table") (nPairing_row_prices : NoAttr K CPairing "row_prices") (nPairing_column_prices : NoAttr K CPairing "column_prices") (nPairing_holders : NoAttr K CPairing "holders") (kPairing : CalK P w K mg base CPairing 1 "Pairing" (spPInit K CPairing)) (cPairing_place : CalM P w K mg base CPairing 13 "place" (spPlaceP K CPairing)) (coverlap : CalE P w K mg base 5 "overlap" [] (spOverE K CBadWay)) : FnOk P w K mg base (CXE P w) 15 f fd ["one", "other"] (spKeptE K CBadWay) := by
  have sc := sckept
  refine F.okE sc (fun vs H Q E h => ?_) (fun cdv A outer s H vs Q E hr F0 h => ?_)
  · obtain ⟨a, b, ws, vs, rfl, _⟩ := h; rfl
  · obtain ⟨a, b, ws, vs, rfl, hS, hT, hw, hv, k0, kE⟩ := h
    refine ⟨_, (pss_cons (ps_set (i := 2) sc.nd rfl (Or.inr rfl) (pe_calE coverlap (hr.mono (by decide)) rfl (pass_fn F0) (pa_cons (pv 0) (pa_cons (pv 1) pa_nil))))
      (pss_cons (ps_set (i := 3) sc.nd rfl (Or.inl rfl) (pe_callB (kc_len (K := K)) (by rfl) B.len PyProof.Rows.Boot.«len» (pa_cons (pe_ix (kix_list (K := K)) (pv 2) pe_int (fun _ _ => rfl)) pa_nil)))
      (pss_cons (ps_set (i := 4) sc.nd rfl (Or.inr rfl) (pe_callB kc_max2 (by rfl) B.max PyProof.Rows.Boot.«max» (pa_cons pe_int (pa_cons (pe_op op_sub (pe_callB (kc_len (K := K)) (by rfl) B.len PyProof.Rows.Boot.«len» (pa_cons (pv 2) pa_nil)) (pv 3)) pa_nil))))
      (pss_cons (ps_set (i := 5) sc.nd rfl (Or.inl rfl) (pe_calK kPairing (hr.mono (by decide)) rfl (pa_cons (pe_lc (N' := ["row", "spare"]) (M := [none, some 4]) (lcSc_of (by rfl)) rfl (kpi_list (K := K) (pv 2)) (fun _ _ _ _ _ => pg_name (i := 0) (show (["row", "spare"] : List Str).Nodup by decide +kernel) rfl (Or.inl rfl) (.inr rfl)) (frm_name rfl) (fun _ _ _ _ _ => pts_nil) (fun _ _ _ _ _ => (pe_op op_cat (pv 0) (pe_op op_rep (pe_lst (pa_cons pe_int pa_nil)) (pv 1))))) pa_nil)))
      (pss_cons (ps_for PassesOwn.leaving rfl (pi_range1 rfl B.range (pa_cons (pe_callB (kc_len (K := K)) (by rfl) B.len PyProof.Rows.Boot.«len» (pa_cons (pv 2) pa_nil)) pa_nil)) (pg_name (i := 6) sc.nd rfl (Or.inl rfl))
      (pss_one (ps_expr (pe_calM cPairing_place clPairing (hr.mono (by decide)) (pv 5) (pa_cons (pv 6) pa_nil)))))
      (pss_cons (ps_set (i := 7) sc.nd rfl (Or.inl rfl) (pe_lst pa_nil))
      (pss_cons (ps_for PassesOwn.leaving rfl (pi_enumL (K := K) rfl B.enumerate (pa_cons (pe_slice (ksl_list (K := K)) (pe_fld (pv 5) rfl) po_none (po_some (pv 3))) pa_nil)) (pg_tup rfl (pgs_cons (pg_name (i := 8) sc.nd rfl (Or.inl rfl)) (pgs_cons (pg_name (i := 6) sc.nd rfl (Or.inl rfl)) pgs_nil)))
      (pss_one (ps_if (PW.pt (pw_and (pt_cmpR op_notN (pv 6) pe_non (nomark _)) (pw_and1 (pt_cmpR op_gt (pe_ix (kix_list (K := K)) (pe_ix (kix_list (K := K)) (pv 2) (pv 6) (fun _ _ => rfl)) (pv 8) (fun _ _ => rfl)) pe_int (nomark _))))) (pss_one (ps_expr (pe_bm PySem.F.plainAttrs_list PySem.F.slot_list_append PySem.F.type_list_append mt_append (pv 7) (pa_cons (pe_tup (pa_cons (pv 6) (pa_cons (pv 8) pa_nil))) pa_nil)))) pss_nil)))
      (pss_cons (ps_set (i := 9) sc.nd rfl (Or.inl rfl) (pe_callB (kc_sum (K := K)) (by rfl) B.sum PyProof.Rows.Boot.«sum» (pa_cons (pe_lc (N' := ["row", "column", "table"]) (M := [none, none, some 2]) (lcSc_of (by rfl)) rfl (kpi_list (K := K) (pv 7)) (fun _ _ _ _ _ => kpg_tup (K := K) (n := 2) rfl (pgs_cons (pg_name (i := 0) (show (["row", "column", "table"] : List Str).Nodup by decide +kernel) rfl (Or.inl rfl) (.inr rfl)) (pgs_cons (pg_name (i := 1) (show (["row", "column", "table"] : List Str).Nodup by decide +kernel) rfl (Or.inl rfl) (.inr rfl)) pgs_nil))) frm_two (fun _ _ _ _ _ => pts_nil) (fun _ _ _ _ _ => (pe_ix (kix_list (K := K)) (pe_ix (kix_list (K := K)) (pv 2) (pv 0) (fun _ _ => rfl)) (pv 1) (fun _ _ => rfl)))) pa_nil)))
      (pss_one (ps_ret (pe_tup (pa_cons (pv 9) (pa_cons (pe_callB (call_sortedT (K := K)) (by rfl) B.sorted PyProof.Rows.Boot.«sorted» (pa_cons (pv 7) pa_nil)) (pa_cons (pe_fld (pv 5) rfl) (pa_cons (pe_slice (ksl_list (K := K)) (pe_fld (pv 5) rfl) po_none (po_some (pv 3))) pa_nil))))))))))))))), ?_⟩
    obtain ⟨w1, w9, w0⟩ := isWay_iff.mp hw
    obtain ⟨v1, v9, v0⟩ := isWay_iff.mp hv
    have f1 := (fresh_pos w0 (fun e => by rw [e] at w1; simp at w1)).1
    have f2 := (fresh_pos v0 (fun e => by rw [e] at v1; simp at v1)).1
    have fl1 := fresh_le ws
    have fl2 := fresh_le vs
    refine seq_a ?_
    refine ⟨_, rfl, _, rfl, a, b, ws, vs, rfl, hS, hT, hw, hv, fun hl tb rs H1 htbn hrs s1 htb hR => ?_, kE⟩
    have k := k0 hl
    obtain ⟨o1, o2, o3⟩ := ov_tab (ws := ws) (us := vs)
    obtain ⟨m, hm⟩ : ∃ m, m = (fresh 0 ws).toNat := ⟨_, rfl⟩
    obtain ⟨cols, hcols⟩ : ∃ m, m = (fresh 0 vs).toNat := ⟨_, rfl⟩
    rw [← hm] at o1 o2 k
    rw [← hcols] at o2 k
    have m1 : 1 ≤ m := by omega
    have m9 : m ≤ 9 := by omega
    have c1 : 1 ≤ cols := by omega
    have c9 : cols ≤ 9 := by omega
    generalize ovT ws vs = tab at hR o1 o2 o3 k
    have hrl : rs.length = m := by rw [hR.length, o1]
    obtain ⟨r0, hr0, ht0⟩ := paired_getR hR (show tab[0]? = some (tab.getD 0 []) by rw [List.getD_eq_getElem?_getD, List.getElem?_eq_getElem (by omega)]; rfl)
    refine seq_a ?_
    refine ⟨_, rfl, tb, _, _, _, rfl, rfl, SqL.of htb, atI_ref (j := 0) ht0, r0, _, rfl, .inl (SqL.of hr0), ?_⟩
    rw [ltm, o2 0 (by omega)]
    refine seq_a ?_
    refine ⟨_, rfl, tb, _, rfl, .inl (SqL.of htb), _, rfl, _, _, rfl, rfl, _, _, rfl, ?_⟩
    rw [List.length_map, hrl]
    have esp : (if (m : Int) - (cols : Int) > 0 then (m : Int) - (cols : Int) else 0) = ((m - cols : Nat) : Int) := by split <;> omega
    rw [esp]
    obtain ⟨sp, hsp⟩ : ∃ sp, sp = m - cols := ⟨_, rfl⟩
    rw [← hsp]
    obtain ⟨p1, p2, p3, p4⟩ := padded (sp := sp) o1 o2
    have atT : ∀ {i : Nat} {r : List Int}, tab[i]? = some r → (tab.map (· ++ List.replicate sp (0 : Int)))[i]? = some (r ++ List.replicate sp 0) := fun {i r} e => by rw [List.getElem?_map, e]; rfl
    have t0 : ∀ r c, 0 ≤ tE (tab.map (· ++ List.replicate sp (0 : Int))) r c := fun r c => by
      by_cases hc : c < cols
      · by_cases hr' : r < m
        · rw [p3 r c hr' hc]; exact o3 r c
        · unfold tE
          rw [show (tab.map (· ++ List.replicate sp (0 : Int))).getD r [] = [] by rw [List.getD_eq_getElem?_getD, List.getElem?_eq_none_iff.mpr (by rw [p1]; omega)]; rfl]
          exact Int.le_refl _
      · rw [p4 r c (by omega)]; exact Int.le_refl _
    have ok0 := @kept_ok tab m cols sp
    generalize hTT : tab.map (· ++ List.replicate sp (0 : Int)) = TT at p1 p2 p3 p4 atT t0 ok0
    try dsimp only
    refine nrm (σ' := [some (.ref a), some (.ref b), some (.ref tb), some (.int (cols : Int)), some (.int (sp : Int)), none, none, none, none, none]) rfl ?_
    -- the pairing
    refine seq_a ?_
    refine ⟨_, rfl, tb, rfl, ⟨_, SqL.of htb⟩, lc_list (xs := rs.map V.ref) (fun i ys H2 => Same H1 H2 ∧ ∃ us : List Addr, ys = us.map V.ref ∧ LhAt H2 us (TT.take i)) (le_line (by rw [List.length_map]; omega)) ⟨Same.refl _, [], rfl, .nil⟩
      (fun i ys H2 _ ⟨s2, us, e, hu⟩ => ⟨SqL.of (s2 _ _ htb), by rw [e, List.length_map, hu.length, List.length_take]; omega⟩) ?_ ?_⟩
    · rintro i y ys H2 hi ⟨s2, us, rfl, hu⟩
      obtain ⟨q, rfl, hq, hil⟩ := getRef hi
      obtain ⟨r, hr', hri⟩ := paired_getM hR hq
      have rl : r.length = cols := by have := o2 i (by omega); rw [List.getD_eq_getElem?_getD, hri] at this; exact this
      refine lcN ?_
      refine ⟨_, rfl, le_line (by simp), fun c1' hc1 => ⟨_, rfl, c1', _, _, rfl, rfl, upd_same, by omega, by omega, le_line (by simp; omega), fun c2 hc2 => ?_⟩⟩
      have n3 := (Same.new (o := HO.lst [V.int 0]) hc1).new2 (o := HO.lst (List.replicate ((sp : Int)).toNat [V.int 0]).flatten) hc2
      refine ⟨q, c2, _, _, rfl, rfl, n3 _ _ (s2 _ _ hr'), upd_same, le_line (by rw [Int.toNat_natCast, flat_one, ltm, List.length_replicate]; omega), fun c3 hc3 => ⟨(s2.trans n3).new2 hc3, us ++ [c3], ref_snoc, ?_⟩⟩
      rw [take_snoc (atT hri)]
      refine Paired.snoc ((hu.sameH n3).sameH (Same.new hc3)) ?_
      rw [upd_same, Int.toNat_natCast, flat_one, List.map_append, List.map_replicate]
    rintro ys H2 ⟨s2, us, rfl, hu⟩ t2 ht2
    rw [List.length_map, hrl, ← p1, List.take_length] at hu
    have n3 := Same.new (o := HO.lst (us.map V.ref)) ht2
    have hu3 := hu.sameH n3
    have s3 := s2.trans n3
    have ht23 : upd H2 t2 (HO.lst (us.map V.ref)) t2 = some (.lst (us.map V.ref)) := upd_same
    generalize upd H2 t2 (HO.lst (us.map V.ref)) = H3 at n3 hu3 s3 ht23
    intro x dx hx hdx hne
    have m0 := made_start (C := CPairing) hx hdx
    refine ⟨x, dx, t2, us, TT, m, cols + sp, rfl, upd_same, m0 _ _ ht23, hu3.sameH m0, ⟨p1, p2, t0, m1, by omega, by omega, by omega⟩, fun rp cp hd R H4 nrp ncp nhd P4 I4 kp => ⟨rfl, ?_⟩⟩
    have s4 := made_same hx hdx kp
    have rpH : H rp = none := (s1.trans s3).free (m0.free nrp)
    have rp3 : H3 rp = none := m0.free nrp
    have cp3 : H3 cp = none := m0.free ncp
    have hd3 : H3 hd = none := m0.free nhd
    have tbd : tb ≠ rp ∧ tb ≠ cp ∧ tb ≠ hd := ⟨ne_of_none (s3 _ _ htb) rp3, ne_of_none (s3 _ _ htb) cp3, ne_of_none (s3 _ _ htb) hd3⟩
    dsimp only
    -- the rows placed
    refine ⟨_, rfl, tb, _, rfl, .inl (SqL.of (s4 _ _ (s3 _ _ htb))), ?_⟩
    rw [List.length_map, hrl]
    refine ⟨_, rfl, by omega, by omega, for_range (lo := 0) (n := ((m : Int)).toNat) (fun i σ H5 => ∃ (o6 : Option V) (R C : List Int) (Hd : Hol), σ = [some (.ref a), some (.ref b), some (.ref tb), some (.int (cols : Int)), some (.int (sp : Int)), some (.ref x), o6, none, none, none] ∧ PrAt CPairing H5 x dx t2 rp cp hd us TT R C Hd ∧ HInv TT m (cols + sp) R C Hd ∧ (∀ h, Hd.count (some h) = if h < i then 1 else 0) ∧ Fr3 H4 H5 rp cp hd)
      ⟨none, R, _, _, rfl, P4, I4, fun h => by rw [List.count_replicate]; simp, fun _ _ e _ _ _ => e⟩ ?_ ?_⟩
    · rintro i σ H5 hi ⟨o6, R5, C5, Hd5, rfl, P5, I5, hc5, fr5⟩
      have hi : i < m := by simpa using hi
      refine gN ?_
      refine ⟨_, rfl, x, dx, _, rfl, P5.ob, pF_no _ _ _ _ (by decide +kernel) (by decide +kernel) (by decide +kernel) (by decide +kernel), _, rfl, x, dx, t2, rp, cp, hd, us, TT, R5, C5, Hd5, i, m, cols + sp, by rw [Int.zero_add]; rfl, P5, I5, hi, by omega, by omega, by rw [hc5, if_neg (Nat.lt_irrefl _)], fun R6 C6 Hd6 H6 P6 I6 hc6 fr6 => ?_⟩
      refine ⟨_, R6, C6, Hd6, rfl, P6, I6, fun h => ?_, fun y o e q1 q2 q3 => fr6 y o (fr5 y o e q1 q2 q3) q1 q2 q3⟩
      rw [hc6, hc5]
      by_cases e1 : h = i
      · rw [e1, if_pos rfl, if_neg (Nat.lt_irrefl _), if_pos (by omega)]
      · rw [if_neg e1]
        by_cases e2 : h < i
        · rw [if_pos e2, if_pos (by omega)]
        · rw [if_neg e2, if_neg (by omega)]
    rintro σ H5 ⟨o6, R5, C5, Hd5, rfl, P5, I5, hc5, fr5⟩
    have all5 : ∀ h, h < m → Hd5.count (some h) = 1 := fun h hh => by rw [hc5, if_pos (by simpa using hh)]
    have KO := ok0 o1 o2 I5 all5
    have s5 : Same H1 H5 := fun y o e => by
      have e3 := s3 _ _ e
      exact fr5 _ _ (s4 _ _ e3) (ne_of_none e3 rp3) (ne_of_none e3 cp3) (ne_of_none e3 hd3)
    dsimp only
    -- found = []
    refine seq_a ?_
    refine ⟨le_line (by simp), fun fo hfo => ?_⟩
    have n6 := Same.new (o := HO.lst []) hfo
    have P6 := P5.same n6
    have ngf := P5.apart hfo
    have hfo6 : upd H5 fo (HO.lst []) fo = some (.lst (([] : List Addr).map V.ref)) := upd_same
    have s6 := s5.trans n6
    generalize upd H5 fo (HO.lst []) = H6 at n6 P6 hfo6 s6
    try dsimp only
    refine nrm (σ' := [some (.ref a), some (.ref b), some (.ref tb), some (.int (cols : Int)), some (.int (sp : Int)), some (.ref x), o6, some (.ref fo), none, none]) rfl ?_
    have hfoH1 : H1 fo = none := s5.free hfo
    -- the holders
    refine ⟨_, rfl, x, CPairing, dx, _, _, rfl, P6.ob, clPairing, nPairing_holders, pF_h _ _ _ _, _, rfl, _, rfl, hd, _, rfl, SqL.of P6.hH, fun sl hsl => ?_⟩
    rw [cut_take, ← List.map_take]
    have n7 := Same.new (o := HO.lst ((Hd5.take cols).map hV)) hsl
    have P7 := P6.same n7
    have hfo7 := n7 _ _ hfo6
    have hsl7 : upd H6 sl (HO.lst ((Hd5.take cols).map hV)) sl = some (.lst ((Hd5.take cols).map hV)) := upd_same
    have slf : sl ≠ fo := fun e => by rw [e, hfo6] at hsl; cases hsl
    have s7 := s6.trans n7
    generalize upd H6 sl (HO.lst ((Hd5.take cols).map hV)) = H7 at n7 P7 hfo7 hsl7 s7
    have frO : ∀ {H8 : Hp}, (∀ y o, H7 y = some o → y ≠ fo → H8 y = some o) → Same H1 H8 := fun {H8} f y o e => f y o (s7 _ _ e) (ne_of_none e hfoH1)
    have P7' : ∀ {H8 : Hp}, (∀ y o, H7 y = some o → y ≠ fo → H8 y = some o) → PrAt CPairing H8 x dx t2 rp cp hd us TT R5 C5 Hd5 := fun {H8} f => by
      have xf : x ≠ fo := ins_ne P7.ob hfo7
      refine ⟨f _ _ P7.ob xf, f _ _ P7.ht ngf.1, ?_, f _ _ P7.hR ngf.2.1, f _ _ P7.hC ngf.2.2.1, f _ _ P7.hH ngf.2.2.2.1, P7.n1, P7.n2, P7.n3⟩
      have : ∀ {us : List Addr} {T : List (List Int)}, LhAt H7 us T → (∀ a ∈ us, a ≠ fo) → LhAt H8 us T := fun {us T} q => by
        induction q with
        | nil => intro _; exact .nil
        | cons e t ih => intro hn; exact .cons (f _ _ e (hn _ List.mem_cons_self)) (ih fun b hb => hn b (List.mem_cons_of_mem _ hb))
      exact this P7.hr ngf.2.2.2.2
    have hlt5 : (Hd5.take cols).length = cols := by rw [List.length_take, I5.lH]; omega
    refine ⟨sl, rfl, ⟨_, SqL.of hsl7⟩, for_enumL (K := K) (a := sl) (xs := (Hd5.take cols).map hV) (fun i σ H8 => ∃ (o6 o8 : Option V) (ps : List Addr), σ = [some (.ref a), some (.ref b), some (.ref tb), some (.int (cols : Int)), some (.int (sp : Int)), some (.ref x), o6, some (.ref fo), o8, none] ∧ (∀ y o, H7 y = some o → y ≠ fo → H8 y = some o) ∧ H8 fo = some (.lst (ps.map V.ref)) ∧ TuAt H8 ps ((fndP tab Hd5 i).map pI))
      ⟨_, _, [], rfl, fun _ _ e _ => e, hfo7, .nil⟩ (fun i σ H8 _ ⟨_, _, _, _, f, _⟩ => SqL.of (f _ _ hsl7 slf)) ?_ ?_⟩
    · rintro i y σ H8 tt hi ⟨o6', o8', ps, rfl, f8, hfo8, hps⟩ htt
      obtain ⟨o, rfl, ho, hil⟩ := getH hi
      have hic : i < cols := by omega
      have ho5 : Hd5[i]? = some o := by rw [List.getElem?_take, if_pos hic] at ho; exact ho
      have hod : Hd5.getD i none = o := by rw [List.getD_eq_getElem?_getD, ho5]; rfl
      have n9 := Same.new (o := HO.tup [V.int (i : Int), hV o]) htt
      have hpl := hps.length
      have hfl := fndP_len tab Hd5 i
      rw [List.length_map] at hpl
      refine ⟨tt, _, rfl, SqT.of upd_same, rfl, _, _, rfl, _, _, rfl, rfl, ?_⟩
      have f9 : ∀ y o', H7 y = some o' → y ≠ fo → upd H8 tt (HO.tup [V.int (i : Int), hV o]) y = some o' := fun y o' e q => n9 _ _ (f8 y o' e q)
      have hfo9 := n9 _ _ hfo8
      have hps9 : TuAt (upd H8 tt (HO.tup [V.int (i : Int), hV o])) ps ((fndP tab Hd5 i).map pI) := L2.Paired.mapP hps fun a' y e => n9 _ _ e
      generalize upd H8 tt (HO.tup [V.int (i : Int), hV o]) = H9 at n9 f9 hfo9 hps9
      have stay : pickC tab Hd5 i = none → TuAt H9 ps ((fndP tab Hd5 (i + 1)).map pI) := fun e => by
        rw [fndP_succ, e, List.append_nil]; exact hps9
      cases o with
      | none =>
        refine ⟨_, rfl, rfl, _, rfl, iteF (iteF ?_)⟩
        exact ⟨_, _, ps, rfl, f9, hfo9, stay (by unfold pickC; rw [hod])⟩
      | some r =>
        have hrm := (I5.ti i r ho5).1
        obtain ⟨rq, hrq, htr⟩ := paired_getR hR (show tab[r]? = some (tab.getD r []) by rw [List.getD_eq_getElem?_getD, List.getElem?_eq_getElem (by omega)]; rfl)
        have s9 := frO f9
        refine ⟨_, rfl, rfl, _, rfl, iteT ?_⟩
        refine ⟨_, rfl, _, rfl, tb, _, _, _, rfl, rfl, SqL.of (s9 _ _ htb), atI_ref htr, _, rfl, rq, _, _, _, rfl, rfl, SqL.of (s9 _ _ hrq), atI_nt (tE_at (k := cols) (by omega) (o2 r hrm) hic).2, _, _, rfl, rfl, _, rfl, ?_⟩
        refine ite2 (fun g => ?_) (fun g => ?_)
        · have g : 0 < tE tab r i := of_decide_eq_true g
          refine ⟨_, rfl, .inl ⟨rfl, _, SqL.of hfo9⟩, _, rfl, _, rfl, le_line (by simp), fun u hu => ?_⟩
          have n10 := Same.new (o := HO.tup [V.int (r : Int), V.int (i : Int)]) hu
          refine ⟨fo, _, _, rfl, rfl, n10 _ _ hfo9, lt_line (by rw [List.length_map]; omega), ?_⟩
          have hps10 : TuAt (upd (upd H9 u (HO.tup [V.int (r : Int), V.int (i : Int)])) fo (HO.lst (ps.map V.ref ++ [V.ref u]))) ps ((fndP tab Hd5 i).map pI) := L2.Paired.mapP hps9 fun a' y e => by
            have e' := n10 _ _ e
            rw [upd_ne (ne_of e' (n10 _ _ hfo9) (by intro z; cases z))]; exact e'
          refine ⟨_, _, ps ++ [u], rfl, fun y o' e q => by rw [upd_ne q]; exact n10 _ _ (f9 y o' e q), by rw [upd_same]; exact congrArg (fun l => some (HO.lst l)) ref_snoc, ?_⟩
          rw [fndP_succ, show pickC tab Hd5 i = some (r, i) by unfold pickC; rw [hod]; dsimp only; rw [if_pos g], List.map_append]
          refine Paired.snoc hps10 ?_
          rw [upd_ne (ne_of (upd_same (H := H9)) (n10 _ _ hfo9) (by intro z; cases z)), upd_same]; rfl
        · have g : ¬ 0 < tE tab r i := fun e => g (decide_eq_true e)
          exact ⟨_, _, ps, rfl, f9, hfo9, stay (by unfold pickC; rw [hod]; dsimp only; rw [if_neg g])⟩
    rintro σ H8 ⟨o6', o8', ps, rfl, f8, hfo8, hps⟩
    rw [List.length_map, hlt5] at hps
    have P8 := P7' f8
    have s8 := frO f8
    have hpl := hps.length
    have hfl := fndP_len tab Hd5 cols
    rw [List.length_map] at hpl
    dsimp only
    -- the total
    refine seq_a ?_
    refine ⟨_, rfl, fo, rfl, ⟨_, SqL.of hfo8⟩, lc_list (xs := ps.map V.ref) (fun i ys H9 => H9 = H8 ∧ ys = (((fndP tab Hd5 cols).take i).map fun q => tE tab q.1 q.2).map V.int) (le_line (by rw [List.length_map]; omega)) ⟨rfl, rfl⟩
      (fun i ys H9 _ h => ⟨by rw [h.1]; exact SqL.of hfo8, by rw [h.2, ltm, List.length_map, List.length_take]; omega⟩) ?_ ?_⟩
    · rintro i y ys H9 hi ⟨rfl, rfl⟩
      obtain ⟨u, rfl, hu, hil⟩ := getRef hi
      obtain ⟨y, hy, hyi⟩ := tu_get hps hu
      rw [List.getElem?_map] at hyi
      cases eq : (fndP tab Hd5 cols)[i]? with
      | none => rw [eq] at hyi; cases hyi
      | some q =>
        rw [eq] at hyi
        have ey : pI q = y := Option.some.inj hyi
        subst ey
        obtain ⟨q1, q2, _⟩ := fndP_mem (List.mem_of_getElem? eq)
        have hq5 : Hd5[q.2]? = some (some q.1) := by
          rw [List.getD_eq_getElem?_getD] at q2
          cases e2 : Hd5[q.2]? with
          | none => rw [e2] at q2; cases q2
          | some o => rw [e2] at q2; exact congrArg some q2
        have hrm := (I5.ti q.2 q.1 hq5).1
        obtain ⟨rq, hrq, htr⟩ := paired_getR hR (show tab[q.1]? = some (tab.getD q.1 []) by rw [List.getD_eq_getElem?_getD, List.getElem?_eq_getElem (by omega)]; rfl)
        refine ⟨u, _, rfl, SqT.of hy, rfl, _, _, rfl, _, _, rfl, rfl, lcY ?_⟩
        refine ⟨_, rfl, _, rfl, tb, _, _, _, rfl, rfl, SqL.of (s8 _ _ htb), atI_ref htr, _, rfl, rq, _, _, _, rfl, rfl, SqL.of (s8 _ _ hrq), atI_nt (tE_at (k := cols) (by omega) (o2 q.1 hrm) q1).2, rfl, ?_⟩
        rw [map_take_snoc eq]; exact mapV
    rintro ys H9 ⟨rfl, rfl⟩ su hsu
    have n10 := Same.new (o := HO.lst (((((fndP tab Hd5 cols).take (ps.map V.ref).length).map fun q => tE tab q.1 q.2)).map V.int)) hsu
    refine ⟨su, _, rfl, .inl (SqL.of upd_same), ?_⟩
    have P10 := P8.same n10
    have hfo10 := n10 _ _ hfo8
    have hps10 : TuAt _ ps ((fndP tab Hd5 cols).map pI) := L2.Paired.mapP hps fun a' y e => n10 _ _ e
    have s10 := s8.trans n10
    generalize upd H9 su (HO.lst (((((fndP tab Hd5 cols).take (ps.map V.ref).length).map fun q => tE tab q.1 q.2)).map V.int)) = H10 at n10 P10 hfo10 hps10 s10
    rw [List.length_map, hpl, List.take_length]
    -- all told
    refine ⟨_, rfl, _, rfl, fo, ps, _, rfl, SqL.of hfo10, hps10, by omega, fun y hy => by obtain ⟨q, _, rfl⟩ := List.mem_map.mp hy; simp [pI], fun pr qs yss hqs hpm _ hpr => ?_⟩
    have n11 := Same.new (o := HO.lst (qs.map V.ref)) hpr
    have P11 := P10.same n11
    refine ⟨_, rfl, x, CPairing, dx, _, _, rfl, P11.ob, clPairing, nPairing_row_prices, pF_r _ _ _ _, _, rfl, x, CPairing, dx, _, _, rfl, P11.ob, clPairing, nPairing_column_prices, pF_c _ _ _ _, _, rfl, _, rfl, cp, _, rfl, SqL.of P11.hC, fun c5 hc5' => ?_⟩
    rw [cut_take_int]
    have n12 := Same.new (o := HO.lst ((C5.take cols).map V.int)) hc5'
    have P12 := P11.same n12
    refine ⟨le_line (by simp), fun tp htp => ?_⟩
    have n13 := Same.new (o := HO.tup [V.int ((fndP tab Hd5 cols).map fun q => tE tab q.1 q.2).sum, V.ref pr, V.ref rp, V.ref c5]) htp
    have SS := ((s10.trans n11).trans n12).trans n13
    have hqs13 : TuAt _ qs yss := L2.Paired.mapP hqs fun a' y e => n13 _ _ (n12 _ _ (n11 _ _ e))
    exact k tp pr rp c5 qs yss R5 (C5.take cols) _ _ ((s1.trans s10).free hpr) rpH ((s1.trans (s10.trans n11)).free hc5') (ne_of_none P10.hR hpr).symm (ne_of_none (upd_same (H := H10)) hc5') (ne_of_none P11.hR hc5') (s1.trans SS) upd_same (n13 _ _ (n12 _ _ upd_same)) hqs13 (n13 _ _ P12.hR) (n13 _ _ upd_same) (KO.perm hpm)
theorem scmoved : FnScope (["one", "other"]) (["one", "other"]) (defScope smoved) := ⟨rfl, rfl, rfl, by decide +kernel, rfl, by decide +kernel, by decide +kernel⟩
set_option maxHeartbeats 4000000 in
theorem okmoved {f : Addr} {fd : FuncData} (F : Fun K "moved" "moved" smoved f fd) (B : Bs mg) (T : Gs mg) (mBadWay : mg "BadWay" = some (.ref CBadWay)) (qBadWay : PySem.W.excIn K CBadWay bmV "ValueError.__new__" = true)  (clPairing : Cls K CPairing) (nPairing_table : NoAttr K CPairing "table") (nPairing_row_prices : NoAttr K CPairing "row_prices") (nPairing_column_prices : NoAttr K CPairing "column_prices") (nPairing_holders : NoAttr K CPairing "holders") (ckept : CalE P w K mg base 15 "kept" [] (spKeptE K CBadWay)) : FnOk P w K mg base (CXE P w) 16 f fd ["one", "other"] (spMovedE K CBadWay) := by
  have sc := scmoved
  refine F.okE sc (fun vs H Q E h => ?_) (fun cdv A outer s H vs Q E hr F0 h => ?_)
  · obtain ⟨a, b, ws, vs, rfl, _⟩ := h; rfl
  · obtain ⟨a, b, ws, vs, rfl, hS, hT, hw, hv, k0, kE⟩ := h
    refine ⟨_, (pss_one (ps_ret (pe_op op_sub (pe_callB (kc_len (K := K)) (by rfl) B.len PyProof.Rows.Boot.«len» (pa_cons (pv 0) pa_nil)) (pe_ix (kix_tup (K := K)) (pe_calE ckept (hr.mono (by decide)) rfl (pass_fn F0) (pa_cons (pv 0) (pa_cons (pv 1) pa_nil))) pe_int (fun _ _ => rfl))))), ?_⟩
    refine ⟨_, rfl, a, _, rfl, .inr hS, _, rfl, _, rfl, a, b, ws, vs, rfl, hS, hT, hw, hv, fun hl tp pr rp cp ps yss R C tot H' _ _ _ _ _ _ s' htp _ _ _ _ KO => ⟨tp, _, _, _, rfl, rfl, SqT.of htp, rfl, _, _, rfl, rfl, ?_⟩, kE⟩
    rw [ltm]
    exact k0 hl yss R C tot H' s' KO
theorem sc_law_way : FnScope (["_law_cell_here", "_law_size_here", "_law_row", "_law_cap", "_law_way_here", "_law_one"]) (["_law_cell_here", "_law_size_here"]) (defScope s_law_way) := ⟨rfl, rfl, rfl, by decide +kernel, rfl, by decide +kernel, by decide +kernel⟩
set_option maxHeartbeats 4000000 in
theorem ok_law_way {f : Addr} {fd : FuncData} (F : Fun K "_law_way" "_law_way" s_law_way f fd) (B : Bs mg) (T : Gs mg) (mBadWay : mg "BadWay" = some (.ref CBadWay)) (qBadWay : PySem.W.excIn K CBadWay bmV "ValueError.__new__" = true)  (clPairing : Cls K CPairing) (nPairing_table : NoAttr K CPairing "table") (nPairing_row_prices : NoAttr K CPairing "row_prices") (nPairing_column_prices : NoAttr K CPairing "column_prices") (nPairing_holders : NoAttr K CPairing "holders") (c_law_draw : Cal P w K mg base 1 "_law_draw" [] (spDraw K)) : FnOk P w K mg base CX0 2 f fd ["_law_cell_here", "_law_size_here"] (spWay K) := by
  have sc := sc_law_way
  refine F.ok sc (fun vs H Q E h => ?_) (fun cdv A outer s H vs Q E hr h => ?_)
  · obtain ⟨c, n, rfl, _⟩ := h; rfl
  · obtain ⟨c, n, rfl, hn1, hn9, k⟩ := h
    refine ⟨_, (pss_cons (ps_set (i := 2) sc.nd rfl (Or.inl rfl) (pe_cal c_law_draw (hr.mono (by decide)) rfl (pa_cons (pv 0) (pa_cons (pe_op op_cat (pe_lst (pa_cons pe_int pa_nil)) (pe_lc (N' := ["_law_k"]) (M := [none]) (lcSc_of (by rfl)) rfl (pi_range1 rfl B.range (pa_cons (pv 1) pa_nil)) (fun _ _ _ _ _ => pg_name (i := 0) (show (["_law_k"] : List Str).Nodup by decide +kernel) rfl (Or.inl rfl) (.inr rfl)) (frm_name rfl) (fun _ _ _ _ _ => pts_nil) (fun _ _ _ _ _ => (pe_op op_add (pv 0) pe_int)))) pa_nil))))
      (pss_cons (ps_set (i := 3) sc.nd rfl (Or.inl rfl) (pe_ix (kix_list (K := K)) (pe_lst (pa_cons pe_int (pa_cons pe_int (pa_cons pe_int (pa_cons pe_int pa_nil))))) (pe_ix (kix_list (K := K)) (pv 2) pe_int (fun _ _ => rfl)) (fun _ _ => rfl)))
      (pss_cons (ps_set (i := 4) sc.nd rfl (Or.inl rfl) (pe_lst pa_nil))
      (pss_cons (ps_for PassesOwn.never rfl (kpi_list (K := K) (pe_slice (ksl_list (K := K)) (pv 2) (po_some pe_int) po_none)) (pg_name (i := 5) sc.nd rfl (Or.inl rfl))
      (pss_one (ps_expr (pe_bm PySem.F.plainAttrs_list PySem.F.slot_list_append PySem.F.type_list_append mt_append (pv 4) (pa_cons (pe_callB kc_min2 (by rfl) B.min PyProof.Rows.Boot.«min» (pa_cons (pe_op op_sub (pv 3) pe_int) (pa_cons (pe_op op_mod (pv 5) (pe_op op_add (pe_callB (kc_max (K := K)) (by rfl) B.max PyProof.Rows.Boot.«max» (pa_cons (pe_op op_cat (pe_lst (pa_cons (pe_un un_neg pe_int) pa_nil)) (pv 4)) pa_nil)) pe_int)) pa_nil))) pa_nil)))))
      (pss_one (ps_ret (pe_callTy (kc_tuple (K := K)) (by rfl) B.tuple PyProof.Rows.Boot.«tuple» (pa_cons (pv 4) pa_nil)))))))), ?_⟩
    -- the limits
    refine ⟨_, rfl, le_line (by decide), fun p hp => ⟨_, rfl, _, rfl, by omega, by omega, ?_⟩⟩
    refine lc_range (fun i ys H2 => H2 = upd H p (.lst [.int 4]) ∧ ys = (List.range i).map fun (j : Nat) => V.int (0 + (j : Int) + 1)) (le_line (by omega)) ⟨rfl, rfl⟩ (fun i ys H2 _ h => by rw [h.2, List.length_map, List.length_range]; exact Nat.le_refl _) ?_ ?_
    · rintro i ys H2 hi ⟨rfl, rfl⟩
      refine lcN ?_
      exact ⟨_, rfl, _, _, rfl, rfl, rfl, map_snoc (fun (j : Nat) => V.int (0 + (j : Int) + 1)) i⟩
    rintro ys H2 ⟨rfl, rfl⟩ q hq
    have hpq : p ≠ q := ne_of_none upd_same hq
    refine ⟨p, q, _, _, rfl, rfl, by rw [upd_ne hpq, upd_same], upd_same, le_line (by rw [List.length_map, List.length_range]; show 1 + _ ≤ _; omega), fun l hl => ?_⟩
    have sq : Same H (upd (upd (upd H p (.lst [.int 4])) q (.lst ((List.range n.toNat).map fun (j : Nat) => V.int (0 + (j : Int) + 1)))) l (.lst ([V.int 4] ++ (List.range n.toNat).map fun (j : Nat) => V.int (0 + (j : Int) + 1)))) := ((Same.new hp).new2 hq).new2 hl
    refine ⟨c, l, 4 :: (List.range n.toNat).map fun (j : Nat) => 0 + (j : Int) + 1, rfl, SqL.of (by rw [upd_same, mapV2]; rfl), fun z hz => ?_, by rw [List.length_cons, List.length_map, List.length_range]; omega, fun d rs H1 hd s1 hd1 hD => ?_⟩
    · rcases List.mem_cons.mp hz with e | e
      · rw [e]; exact limOk_small (by decide) (by decide)
      · obtain ⟨j, hj, rfl⟩ := List.mem_map.mp e
        have := List.mem_range.mp hj
        exact limOk_small (by omega) (by omega)
    obtain ⟨r0, rs', rfl, hr0, hr1, hD'⟩ := hD.uncons
    have s1' : Same H H1 := sq.trans s1
    have hrl : rs'.length = n.toNat := by have := hD'.length; rw [List.length_map, List.length_range] at this; exact this.symm
    -- the cap
    refine ⟨le_line (by decide), fun e he => ⟨_, rfl, d, _, _, _, rfl, rfl, SqL.of ((Same.new he) d _ hd1), atI_int (i := 0) (by decide) rfl, ?_⟩⟩
    obtain ⟨cap, hcap, hc2⟩ : ∃ cap : Int, atI [V.int 9, V.int 2, V.int 3, V.int 9] r0 = some (V.int cap) ∧ 2 ≤ cap := by
      have : r0 = 0 ∨ r0 = 1 ∨ r0 = 2 ∨ r0 = 3 := by omega
      rcases this with rfl | rfl | rfl | rfl
      · exact ⟨9, rfl, by decide⟩
      · exact ⟨2, rfl, by decide⟩
      · exact ⟨3, rfl, by decide⟩
      · exact ⟨9, rfl, by decide⟩
    refine ⟨e, _, _, _, rfl, rfl, SqL.of upd_same, hcap, ?_⟩
    -- the way
    refine ⟨Nat.zero_le _, fun u hu => ?_⟩
    generalize hH2 : upd H1 e (.lst [V.int 9, V.int 2, V.int 3, V.int 9]) = H2 at hu ⊢
    have s2 : Same H1 H2 := by rw [← hH2]; exact Same.new he
    refine ⟨_, rfl, _, rfl, d, _, rfl, SqL.of (Same.new hu d _ (s2 d _ hd1)), fun v hv => ?_⟩
    have huv : u ≠ v := ne_of_none upd_same hv
    have e3 : cutV ((r0 :: rs').map V.int) (some 1) none = rs'.map V.int := cut_drop_int (r0 :: rs') 1
    rw [e3]
    refine ⟨v, rfl, ⟨_, SqL.of upd_same⟩, for_list (K := K) (a := v) (xs := rs'.map V.int) (fun i σ H4 => ∃ (ws : List Int) (o : Option V), σ = [some (.int c), some (.int n), some (.ref d), some (.int cap), some (.ref u), o] ∧ Same H H4 ∧ H4 v = some (.lst (rs'.map V.int)) ∧ H4 u = some (.lst (ws.map V.int)) ∧ ws.length = i ∧ wayGo 0 ws = true)
      ⟨[], none, rfl, (((s1'.trans s2).new2 hu).new2 hv), upd_same, by rw [upd_ne huv, upd_same]; rfl, rfl, rfl⟩ (fun i σ H4 _ ⟨_, _, _, _, z, _⟩ => SqL.of z) ?_ ?_⟩
    · rintro i y σ H4 hi ⟨ws, o, rfl, s4, hv4, hu4, hwl, hw⟩
      obtain ⟨one, rfl, hone, hil⟩ := getI hi
      have huH : H u = none := (s1'.trans s2).free hu
      refine ⟨_, rfl, .inl ⟨rfl, _, SqL.of hu4⟩, _, rfl, _, _, rfl, rfl, _, rfl, _, rfl, le_line (by decide), fun t ht => ?_⟩
      have htu : u ≠ t := ne_of_none hu4 ht
      refine ⟨_, rfl, t, u, _, _, rfl, rfl, upd_same, by rw [upd_ne htu]; exact hu4, le_line (by rw [ltm]; show 1 + _ ≤ _; omega), fun t2 ht2 => ?_⟩
      have ht2u : u ≠ t2 := by
        have : upd H4 t (HO.lst [V.int (-1)]) u = some (.lst (ws.map V.int)) := by rw [upd_ne htu]; exact hu4
        exact ne_of_none this ht2
      refine ⟨t2, -1 :: ws, rfl, .inl (SqL.of upd_same), (by simp), fun m hm => ?_⟩
      have em : m = fresh 0 ws - 1 := hm.uniq (fresh_max ws hw)
      have fp : 0 ≤ fresh 0 ws := by have := (fresh_max ws hw).2 (-1) List.mem_cons_self; omega
      refine ⟨_, _, rfl, rfl, _, _, rfl, rfl, (by show 0 < m + 2; omega), _, _, rfl, ?_⟩
      have hmod := modB one (show 0 < m + 2 by omega)
      have hval : ∃ z : Int, (if one % (m + 2) < cap - 1 then one % (m + 2) else cap - 1) = z ∧ 0 ≤ z ∧ z ≤ fresh 0 ws := by
        refine ⟨_, rfl, ?_, ?_⟩ <;> split <;> omega
      obtain ⟨z, hz, hz0, hz1⟩ := hval
      rw [hz]
      refine ⟨u, _, _, rfl, rfl, by rw [upd_ne ht2u, upd_ne htu]; exact hu4, lt_line (by rw [ltm]; omega), ?_⟩
      refine ⟨ws ++ [z], _, rfl, ((s4.new2 ht).new2 ht2).put huH, ?_, by rw [upd_same, mapV], by rw [List.length_append, hwl]; rfl, ?_⟩
      · have hvt : v ≠ t := ne_of_none hv4 ht
        have hvt2 : v ≠ t2 := ne_of_none (show upd H4 t (HO.lst [V.int (-1)]) v = some _ by rw [upd_ne hvt]; exact hv4) ht2
        rw [upd_ne huv.symm, upd_ne hvt2, upd_ne hvt]; exact hv4
      · rw [wayGo_snoc, hw, decide_eq_true hz0, decide_eq_true hz1]; rfl
    · rintro σ H4 ⟨ws, o, rfl, s4, hv4, hu4, hwl, hw⟩
      rw [ltm] at hwl
      refine ⟨_, rfl, u, _, rfl, .inl ⟨SqL.of hu4, fun l2 hl2 => ?_⟩⟩
      refine k l2 ws _ (s4.free hl2) (s4.new2 hl2) upd_same (by rw [hwl, hrl]) ?_
      unfold isWay
      rw [hw, decide_eq_true (show 1 ≤ ws.length by omega), decide_eq_true (show ws.length ≤ 9 by omega)]; rfl
theorem sc_law_size : FnScope (["_law_cell_here", "_law_top"]) (["_law_cell_here", "_law_top"]) (defScope s_law_size) := ⟨rfl, rfl, rfl, by decide +kernel, rfl, by decide +kernel, by decide +kernel⟩
set_option maxHeartbeats 4000000 in
theorem ok_law_size {f : Addr} {fd : FuncData} (F : Fun K "_law_size" "_law_size" s_law_size f fd) (B : Bs mg) (T : Gs mg) (mBadWay : mg "BadWay" = some (.ref CBadWay)) (qBadWay : PySem.W.excIn K CBadWay bmV "ValueError.__new__" = true)  (clPairing : Cls K CPairing) (nPairing_table : NoAttr K CPairing "table") (nPairing_row_prices : NoAttr K CPairing "row_prices") (nPairing_column_prices : NoAttr K CPairing "column_prices") (nPairing_holders : NoAttr K CPairing "holders") (c_law_draw : Cal P w K mg base 1 "_law_draw" [] (spDraw K)) : FnOk P w K mg base CX0 2 f fd ["_law_cell_here", "_law_top"] spSize := by
  have sc := sc_law_size
  refine F.ok sc (fun vs H Q E h => ?_) (fun cdv A outer s H vs Q E hr h => ?_)
  · obtain ⟨c, t, rfl, _⟩ := h; rfl
  · obtain ⟨c, t, rfl, h0, h1, k⟩ := h
    refine ⟨_, (pss_one (ps_ret (pe_op op_add pe_int (pe_ix (kix_list (K := K)) (pe_cal c_law_draw (hr.mono (by decide)) rfl (pa_cons (pv 0) (pa_cons (pe_lst (pa_cons (pv 1) pa_nil)) pa_nil))) pe_int (fun _ _ => rfl))))), ?_⟩
    refine ⟨_, rfl, _, rfl, le_line (by simp), fun p hp => ?_⟩
    refine ⟨c, p, [t], rfl, SqL.of upd_same, fun z hz => by rw [List.mem_singleton.mp hz]; exact limOk_small (by omega) (by omega), by simp, fun d rs H1 _ s1 hd hD => ?_⟩
    obtain ⟨r, t', rfl, g0, g1, _⟩ := hD.uncons
    exact ⟨d, _, _, _, rfl, rfl, SqL.of hd, atI_int (by decide) rfl, _, _, rfl, rfl, k _ H1 ((Same.new hp).trans s1) (by omega) (by omega)⟩
theorem sc_law_number_row : FnScope (["_law_marks", "_law_seen", "_law_row", "_law_one"]) (["_law_marks"]) (defScope s_law_number_row) := ⟨rfl, rfl, rfl, by decide +kernel, rfl, by decide +kernel, by decide +kernel⟩
set_option maxHeartbeats 4000000 in
theorem ok_law_number_row {f : Addr} {fd : FuncData} (F : Fun K "_law_number_row" "_law_number_row" s_law_number_row f fd) (B : Bs mg) (T : Gs mg) (mBadWay : mg "BadWay" = some (.ref CBadWay)) (qBadWay : PySem.W.excIn K CBadWay bmV "ValueError.__new__" = true)  (clPairing : Cls K CPairing) (nPairing_table : NoAttr K CPairing "table") (nPairing_row_prices : NoAttr K CPairing "row_prices") (nPairing_column_prices : NoAttr K CPairing "column_prices") (nPairing_holders : NoAttr K CPairing "holders")  : FnOk P w K mg base CX0 1 f fd ["_law_marks"] (spNumRowT K) := by
  have sc := sc_law_number_row
  refine F.ok sc (fun vs H Q E h => ?_) (fun cdv A outer s H vs Q E hr h => ?_)
  · obtain ⟨a, ns, rfl, _⟩ := h; rfl
  · obtain ⟨a, ns, rfl, hS, hl, k⟩ := h
    refine ⟨_, (pss_cons (ps_set (i := 1) sc.nd rfl (Or.inl rfl) (pe_lst pa_nil))
      (pss_cons (ps_set (i := 2) sc.nd rfl (Or.inl rfl) (pe_lst pa_nil))
      (pss_cons (ps_for PassesOwn.never rfl (kpi_tup (K := K) (pv 0)) (pg_name (i := 3) sc.nd rfl (Or.inl rfl))
      (pss_cons (ps_if (pt_cmpR (kop_notIn (K := K)) (pv 3) (pv 1) rfl) (pss_one (ps_expr (pe_bm PySem.F.plainAttrs_list PySem.F.slot_list_append PySem.F.type_list_append mt_append (pv 1) (pa_cons (pv 3) pa_nil)))) pss_nil)
      (pss_one (ps_expr (pe_bm PySem.F.plainAttrs_list PySem.F.slot_list_append PySem.F.type_list_append mt_append (pv 2) (pa_cons (pe_bm PySem.F.plainAttrs_list PySem.F.slot_list_index PySem.F.type_list_index mt_index (pv 1) (pa_cons (pv 3) pa_nil)) pa_nil))))))
      (pss_one (ps_ret (pe_callTy (kc_tuple (K := K)) (by rfl) B.tuple PyProof.Rows.Boot.«tuple» (pa_cons (pv 2) pa_nil))))))), ?_⟩
    refine ⟨Nat.zero_le _, fun p hp => ⟨Nat.zero_le _, fun q hq => ?_⟩⟩
    have hpq : p ≠ q := ne_of_none upd_same hq
    have S0 : Same H (upd (upd H p (.lst [])) q (.lst [])) := (Same.new hp).new2 hq
    have hqH : H q = none := (Same.new hp).free hq
    refine ⟨_, rfl, a, rfl, ⟨_, S0.seqT hS⟩, for_tup (K := K) (a := a) (xs := ns.map V.int) (fun i σ H2 => ∃ (v : Option V), σ = [some (.ref a), some (.ref p), some (.ref q), v] ∧ Same H H2 ∧ H2 p = some (.lst ((seen (ns.take i)).map V.int)) ∧ H2 q = some (.lst ((numRow (ns.take i)).map V.int)))
      ⟨none, rfl, S0, by rw [upd_ne hpq, upd_same]; rfl, by rw [upd_same]; rfl⟩ (fun i σ H2 _ ⟨_, _, s2, _⟩ => s2.seqT hS) ?_ ?_⟩
    · rintro i y σ H2 hi ⟨v, rfl, s2, hp2, hq2⟩
      obtain ⟨z, rfl, hz, hil⟩ := getI hi
      have hts := take_snoc hz
      have hsl := seen_length (ns.take i)
      have htl : (ns.take i).length ≤ ns.length := by rw [List.length_take]; omega
      have fl : ∀ s : List Int, (s.map V.int).all flatV = true := fun s => by rw [List.all_map]; exact List.all_eq_true.mpr fun _ _ => rfl
      have inv : inV (V.int z) ((seen (ns.take i)).map V.int) = decide (z ∈ seen (ns.take i)) := by
        unfold inV
        rw [List.any_map]
        rw [Bool.eq_iff_iff, List.any_eq_true, decide_eq_true_iff]
        constructor
        · rintro ⟨y, hy, e⟩
          have : y = z := by simpa [eqV] using e
          rw [← this]; exact hy
        · intro hy; exact ⟨z, hy, by simp [eqV]⟩
      refine ⟨_, rfl, _, rfl, p, _, rfl, .inl (SqL.of hp2), rfl, fl _, _, rfl, ?_⟩
      rw [inv]
      have fin : ∀ H3 : Hp, Same H H3 → H3 p = some (.lst ((seenP (seen (ns.take i)) z).map V.int)) → H3 q = some (.lst ((numRow (ns.take i)).map V.int)) →
          ∃ H4 : Hp, H4 = upd H3 q (.lst (((numRow (ns.take i)) ++ [((seenP (seen (ns.take i)) z).idxOf z : Int)]).map V.int)) ∧ Same H H4 ∧ H4 p = some (.lst ((seen (ns.take (i + 1))).map V.int)) ∧ H4 q = some (.lst ((numRow (ns.take (i + 1))).map V.int)) := fun H3 s3 h3 h3q => by
        refine ⟨_, rfl, s3.put hqH, ?_, ?_⟩
        · rw [upd_ne hpq, h3, hts, seen_snoc]
        · rw [upd_same, hts, numRow_snoc]
      have zin : z ∈ seenP (seen (ns.take i)) z := mem_seenP.mpr (.inr rfl)
      refine ite2 (fun g => ?_) (fun g => ?_)
      · have g : z ∉ seen (ns.take i) := by simpa using g
        refine ⟨_, rfl, .inl ⟨rfl, _, SqL.of hp2⟩, _, rfl, p, _, _, rfl, rfl, hp2, lt_line (by rw [ltm]; omega), ?_⟩
        have e2 : (seen (ns.take i)).map V.int ++ [V.int z] = (seenP (seen (ns.take i)) z).map V.int := by unfold seenP; rw [if_neg g, mapV]
        rw [e2]
        have hp3 : upd H2 p (.lst ((seenP (seen (ns.take i)) z).map V.int)) p = some (.lst ((seenP (seen (ns.take i)) z).map V.int)) := upd_same
        have hq3 : upd H2 p (.lst ((seenP (seen (ns.take i)) z).map V.int)) q = some (.lst ((numRow (ns.take i)).map V.int)) := by rw [upd_ne hpq.symm]; exact hq2
        obtain ⟨H4, e4, r4⟩ := fin _ (s2.put hp) hp3 hq3
        refine ⟨_, rfl, .inl ⟨rfl, _, SqL.of hq3⟩, _, rfl, .inl ⟨rfl, _, SqL.of hp3⟩, _, rfl, p, _, z, rfl, rfl, hp3, zin, ?_, q, _, _, rfl, rfl, hq3, lt_line (by rw [ltm, numRow_length]; omega), ?_⟩
        · unfold seenP; rw [if_neg g, List.length_append]; show _ + 1 ≤ _; omega
        · rw [mapV, ← e4]; exact ⟨_, rfl, r4⟩
      · have g : z ∈ seen (ns.take i) := by simpa using g
        have e2 : seenP (seen (ns.take i)) z = seen (ns.take i) := by unfold seenP; rw [if_pos g]
        have hp3 : H2 p = some (.lst ((seenP (seen (ns.take i)) z).map V.int)) := by rw [e2]; exact hp2
        obtain ⟨H4, e4, r4⟩ := fin _ s2 hp3 hq2
        refine ⟨_, rfl, .inl ⟨rfl, _, SqL.of hq2⟩, _, rfl, .inl ⟨rfl, _, SqL.of hp3⟩, _, rfl, p, _, z, rfl, rfl, hp3, zin, ?_, q, _, _, rfl, rfl, hq2, lt_line (by rw [ltm, numRow_length]; omega), ?_⟩
        · rw [e2]; omega
        · rw [mapV, ← e4]; exact ⟨_, rfl, r4⟩
    · rintro σ H2 ⟨v, rfl, s2, hp2, hq2⟩
      rw [ltm, List.take_length] at hq2
      exact ⟨_, rfl, q, _, rfl, .inl ⟨SqL.of hq2, fun t ht => k t _ (s2.free ht) (s2.new2 ht) upd_same⟩⟩
theorem sc_law_split : FnScope (["_law_cell_here", "_law_parts", "_law_wide", "_law_side", "_law_size_here", "_law_found", "_law_big", "_law_k"]) (["_law_cell_here", "_law_parts", "_law_wide"]) (defScope s_law_split) := ⟨rfl, rfl, rfl, by decide +kernel, rfl, by decide +kernel, by decide +kernel⟩
set_option maxHeartbeats 4000000 in
theorem ok_law_split {f : Addr} {fd : FuncData} {ds : List Value} (F : FunD K "_law_split" "_law_split" s_law_split f fd ds) (B : Bs mg) (T : Gs mg) (mBadWay : mg "BadWay" = some (.ref CBadWay)) (qBadWay : PySem.W.excIn K CBadWay bmV "ValueError.__new__" = true)  (clPairing : Cls K CPairing) (nPairing_table : NoAttr K CPairing "table") (nPairing_row_prices : NoAttr K CPairing "row_prices") (nPairing_column_prices : NoAttr K CPairing "column_prices") (nPairing_holders : NoAttr K CPairing "holders")  : FnOk P w K mg base CX0 1 f fd ["_law_cell_here", "_law_parts", "_law_wide"] spSplit := by
  have sc := sc_law_split
  refine F.ok sc (fun vs H Q E h => ?_) (fun cdv A outer s H vs Q E hr h => ?_)
  · obtain ⟨c, n, w, rfl, _⟩ := h; rfl
  · obtain ⟨c, n, wd, rfl, hn0, hn1, hw0, hw2, k⟩ := h
    refine ⟨_, (pss_cons (ps_set (i := 3) sc.nd rfl (Or.inl rfl) (pe_op op_mulW (pe_op op_pow pe_int pe_int) (pe_op op_pow pe_int pe_int)))
      (pss_cons (ps_set (i := 4) sc.nd rfl (Or.inl rfl) (pe_ix (kix_list (K := K)) (pe_lst (pa_cons (pe_op op_pow pe_int pe_int) (pa_cons (pv 3) (pa_cons (pe_op op_mulW (pe_op op_mulW (pe_op op_mulW (pv 3) (pv 3)) (pv 3)) (pv 3)) pa_nil)))) (pv 2) (fun _ _ => rfl)))
      (pss_cons (ps_set (i := 5) sc.nd rfl (Or.inl rfl) (pe_lst pa_nil))
      (pss_cons (ps_set (i := 6) sc.nd rfl (Or.inl rfl) (pe_cmpR op_ge (pv 0) (pe_op op_pow pe_int pe_int) (nomark _)))
      (pss_cons (ps_for PassesOwn.never rfl (pi_range1 rfl B.range (pa_cons (pv 1) pa_nil)) (pg_name (i := 7) sc.nd rfl (Or.inl rfl))
      (pss_one (ps_if (pt_val (pv 6)) (pss_cons (ps_expr (pe_bm PySem.F.plainAttrs_list PySem.F.slot_list_append PySem.F.type_list_append mt_append (pv 5) (pa_cons (pe_op op_add (pe_op op_pow pe_int pe_int) (pe_op op_mod (pv 0) (pv 4))) pa_nil)))
      (pss_one (ps_set (i := 0) sc.nd rfl (Or.inl rfl) (pe_op op_fdivW (pv 0) (pv 4))))) (pss_one (ps_expr (pe_bm PySem.F.plainAttrs_list PySem.F.slot_list_append PySem.F.type_list_append mt_append (pv 5) (pa_cons (pe_op op_add (pe_op op_mulW (pv 0) (pe_op op_add (pe_op op_mulW pe_int (pv 7)) pe_int)) (pe_op op_mulW pe_int (pv 7))) pa_nil)))))))
      (pss_one (ps_ret (pv 5)))))))), ?_⟩
    refine ⟨_, _, rfl, rfl, ⟨by decide, by decide, by decide⟩, _, _, rfl, rfl, ⟨by decide, by decide, by decide⟩, _, _, rfl, rfl, mulOk_of (by decide +kernel), ?_⟩
    refine ⟨_, _, rfl, rfl, ⟨by decide, by decide, by decide⟩, _, rfl, _, rfl, _, rfl, _, _, rfl, rfl, mulOk_of (by decide +kernel), _, rfl, _, _, rfl, rfl, mulOk_of (by decide +kernel), _, rfl, _, _, rfl, rfl, mulOk_of (by decide +kernel), le_line (by decide), fun e he => ?_⟩
    obtain ⟨S, hS, hL⟩ : ∃ S : Int, atI [V.int (10 ^ (30 : Int).toNat), V.int (10 ^ (60 : Int).toNat * 10 ^ (60 : Int).toNat), V.int (10 ^ (60 : Int).toNat * 10 ^ (60 : Int).toNat * (10 ^ (60 : Int).toNat * 10 ^ (60 : Int).toNat) * (10 ^ (60 : Int).toNat * 10 ^ (60 : Int).toNat) * (10 ^ (60 : Int).toNat * 10 ^ (60 : Int).toNat))] wd = some (V.int S) ∧ LimOk S := by
      have : wd = 0 ∨ wd = 1 ∨ wd = 2 := by omega
      rcases this with rfl | rfl | rfl
      · exact ⟨_, rfl, by decide +kernel, by decide +kernel⟩
      · exact ⟨_, rfl, by decide +kernel, by decide +kernel⟩
      · exact ⟨_, rfl, by decide +kernel, by decide +kernel⟩
    refine ⟨_, rfl, e, _, _, _, rfl, rfl, SqL.of upd_same, hS, ?_⟩
    refine ⟨Nat.zero_le _, fun p hp => ?_⟩
    refine ⟨_, rfl, _, _, rfl, rfl, ⟨by decide, by decide, by decide⟩, _, _, rfl, rfl, ?_⟩
    have hpH : H p = none := (Same.new he).free hp
    refine ⟨_, rfl, _, rfl, by omega, by omega, for_range (lo := 0) (n := n.toNat) (fun i σ H2 => ∃ (c' : Int) (rs : List Int) (o : Option V), σ = [some (.int c'), some (.int n), some (.int wd), some (.int (10 ^ (60 : Int).toNat * 10 ^ (60 : Int).toNat)), some (.int S), some (.ref p), some (.bl (decide ((10 : Int) ^ (18 : Int).toNat ≤ c))), o] ∧ Same H H2 ∧ H2 p = some (.lst (rs.map V.int)) ∧ rs.length = i)
      ⟨c, [], none, rfl, (Same.new he).new2 hp, upd_same, rfl⟩ ?_ ?_⟩
    · rintro i σ H2 hi ⟨c', rs, o, rfl, s2, hp2, hl⟩
      refine ⟨_, rfl, _, rfl, ?_⟩
      refine ite2 (fun _ => ?_) (fun _ => ?_)
      · refine ⟨_, rfl, .inl ⟨rfl, _, SqL.of hp2⟩, _, _, rfl, rfl, ⟨by decide, by decide, by decide⟩, _, rfl, _, rfl, _, _, rfl, rfl, hL.1, _, _, rfl, rfl, p, _, _, rfl, rfl, hp2, lt_line (by rw [ltm]; omega), ?_⟩
        refine ⟨_, rfl, _, rfl, _, _, rfl, rfl, hL, ?_⟩
        exact ⟨_, rs ++ [_], _, rfl, s2.put hpH, by rw [upd_same, mapV], by rw [List.length_append, hl]; rfl⟩
      · refine ⟨_, rfl, .inl ⟨rfl, _, SqL.of hp2⟩, _, rfl, _, rfl, _, _, rfl, rfl, mulOk_l ⟨by decide, by decide⟩, _, _, rfl, rfl, _, _, rfl, rfl, mulOk_r ⟨by omega, by omega⟩, _, rfl, _, _, rfl, rfl, mulOk_l ⟨by decide, by decide⟩, _, _, rfl, rfl, p, _, _, rfl, rfl, hp2, lt_line (by rw [ltm]; omega), ?_⟩
        exact ⟨_, rs ++ [_], _, rfl, s2.put hpH, by rw [upd_same, mapV], by rw [List.length_append, hl]; rfl⟩
    · rintro σ H2 ⟨c', rs, o, rfl, s2, hp2, hl⟩
      exact ⟨_, rfl, k p rs H2 hpH s2 hp2 hl⟩
theorem sc_law_two_ways : FnScope (["_law_cell_here", "_law_top", "_law_first", "_law_second", "_law_third", "_law_size_here"]) (["_law_cell_here", "_law_top"]) (defScope s_law_two_ways) := ⟨rfl, rfl, rfl, by decide +kernel, rfl, by decide +kernel, by decide +kernel⟩
set_option maxHeartbeats 4000000 in
theorem ok_law_two_ways {f : Addr} {fd : FuncData} (F : Fun K "_law_two_ways" "_law_two_ways" s_law_two_ways f fd) (B : Bs mg) (T : Gs mg) (mBadWay : mg "BadWay" = some (.ref CBadWay)) (qBadWay : PySem.W.excIn K CBadWay bmV "ValueError.__new__" = true)  (clPairing : Cls K CPairing) (nPairing_table : NoAttr K CPairing "table") (nPairing_row_prices : NoAttr K CPairing "row_prices") (nPairing_column_prices : NoAttr K CPairing "column_prices") (nPairing_holders : NoAttr K CPairing "holders") (c_law_size : Cal P w K mg base 2 "_law_size" [] spSize) (c_law_split : Cal P w K mg base 1 "_law_split" [.int 0] spSplit) (c_law_way : Cal P w K mg base 2 "_law_way" [] (spWay K)) : FnOk P w K mg base CX0 3 f fd ["_law_cell_here", "_law_top"] (spTwoWays K) := by
  have sc := sc_law_two_ways
  refine F.ok sc (fun vs H Q E h => ?_) (fun cdv A outer s H vs Q E hr h => ?_)
  · obtain ⟨c, t, rfl, _⟩ := h; rfl
  · obtain ⟨c, t, rfl, h1, h9, k⟩ := h
    refine ⟨_, (pss_cons (ps_asg (pe_cal c_law_split (hr.mono (by decide)) rfl (pa_cons (pv 0) (pa_cons pe_int pa_nil))) (pg_lst rfl (pgs_cons (pg_name (i := 2) sc.nd rfl (Or.inl rfl)) (pgs_cons (pg_name (i := 3) sc.nd rfl (Or.inl rfl)) (pgs_cons (pg_name (i := 4) sc.nd rfl (Or.inl rfl)) pgs_nil)))))
      (pss_cons (ps_set (i := 5) sc.nd rfl (Or.inl rfl) (pe_cal c_law_size (hr.mono (by decide)) rfl (pa_cons (pv 2) (pa_cons (pv 1) pa_nil))))
      (pss_one (ps_ret (pe_tup (pa_cons (pe_cal c_law_way (hr.mono (by decide)) rfl (pa_cons (pv 3) (pa_cons (pv 5) pa_nil))) (pa_cons (pe_cal c_law_way (hr.mono (by decide)) rfl (pa_cons (pv 4) (pa_cons (pv 5) pa_nil))) pa_nil))))))), ?_⟩
    refine ⟨_, rfl, c, 3, 0, rfl, by decide, by decide, by decide, by decide, fun p3 sp3 H3 _ s3 hp3 hl3 => ?_⟩
    obtain ⟨f1, f2, f3, rfl⟩ : ∃ f1 f2 f3, sp3 = [f1, f2, f3] := by
      match sp3, hl3 with
      | [x, y, z], _ => exact ⟨x, y, z, rfl⟩
    refine ⟨p3, _, rfl, SqL.of hp3, rfl, _, _, rfl, _, _, rfl, _, _, rfl, rfl, ?_⟩
    refine ⟨_, rfl, _, rfl, f1, t, rfl, h1, by omega, fun sz H4 s4 z1 z9 => ?_⟩
    refine ⟨_, rfl, _, rfl, f2, sz, rfl, z1, by omega, fun a ws H5 _ s5 ha hwl hww => ?_⟩
    refine ⟨_, rfl, _, rfl, f3, sz, rfl, z1, by omega, fun b vs H6 _ s6 hb hvl hvw => ?_⟩
    refine ⟨le_line (by simp), fun p hp => ?_⟩
    have S6 := ((s3.trans s4).trans s5).trans s6
    exact k p a b ws vs _ (S6.new2 hp) upd_same (Same.new hp a _ (s6 a _ ha)) (Same.new hp b _ hb) hww hvw (by omega) (by omega)
theorem sclaw : FnScope (["_law_script", "_law_k", "_law_first", "_law_second", "_law_one", "_law_other", "_law_third", "_law_count", "_law_row", "_law_at", "_law_near"]) (["_law_script"]) (defScope slaw) := ⟨rfl, rfl, rfl, by decide +kernel, rfl, by decide +kernel, by decide +kernel⟩
set_option maxHeartbeats 4000000 in
theorem oklaw {f : Addr} {fd : FuncData} (F : Fun K "law" "law" slaw f fd) (B : Bs mg) (T : Gs mg) (mBadWay : mg "BadWay" = some (.ref CBadWay)) (qBadWay : PySem.W.excIn K CBadWay bmV "ValueError.__new__" = true)  (clPairing : Cls K CPairing) (nPairing_table : NoAttr K CPairing "table") (nPairing_row_prices : NoAttr K CPairing "row_prices") (nPairing_column_prices : NoAttr K CPairing "column_prices") (nPairing_holders : NoAttr K CPairing "holders") (c3_law_split : Cal P w K mg base 1 "_law_split" [] spSplit) (c_law_cell : Cal P w K mg base 1 "_law_cell" [] (spCell K)) (c_law_draw : Cal P w K mg base 1 "_law_draw" [] (spDraw K)) (c_law_many : Cal P w K mg base 1 "_law_many" [] (spMany K)) (c_law_number_row : Cal P w K mg base 1 "_law_number_row" [] (spNumRowT K)) (c_law_two_ways : Cal P w K mg base 3 "_law_two_ways" [] (spTwoWays K)) (c_law_way : Cal P w K mg base 2 "_law_way" [] (spWay K)) (cmoved : CalE P w K mg base 16 "moved" [] (spMovedE K CBadWay)) : FnOk P w K mg base CX0 20 f fd ["_law_script"] (spLaw K) := by
  have sc := sclaw
  refine F.ok sc (fun vs H Q E h => ?_) (fun cdv A outer s H vs Q E hr h => ?_)
  · obtain ⟨a, ns, rfl, _⟩ := h; rfl
  · obtain ⟨a, ns, rfl, hS, hlen, k⟩ := h
    refine ⟨_, (pss_cons (ps_for PassesOwn.never rfl (pi_range1 rfl B.range (pa_cons (pe_callB kc_min2 (by rfl) B.min PyProof.Rows.Boot.«min» (pa_cons pe_int (pa_cons (pe_cal c_law_many (hr.mono (by decide)) rfl (pa_cons (pv 0) (pa_cons pe_int pa_nil))) pa_nil))) pa_nil)) (pg_name (i := 1) sc.nd rfl (Or.inl rfl))
      (pss_cons (ps_asg (pe_cal c3_law_split (hr.mono (by decide)) rfl (pa_cons (pe_cal c_law_cell (hr.mono (by decide)) rfl (pa_cons (pv 0) (pa_cons (pv 1) pa_nil))) (pa_cons pe_int (pa_cons pe_int pa_nil)))) (pg_lst rfl (pgs_cons (pg_name (i := 2) sc.nd rfl (Or.inl rfl)) (pgs_cons (pg_name (i := 3) sc.nd rfl (Or.inl rfl)) pgs_nil))))
      (pss_cons (ps_asg (pe_cal c_law_two_ways (hr.mono (by decide)) rfl (pa_cons (pv 3) (pa_cons pe_int pa_nil))) (pg_tup rfl (pgs_cons (pg_name (i := 4) sc.nd rfl (Or.inl rfl)) (pgs_cons (pg_name (i := 5) sc.nd rfl (Or.inl rfl)) pgs_nil))))
      (pss_cons (ps_set (i := 6) sc.nd rfl (Or.inl rfl) (pe_cal c_law_way (hr.mono (by decide)) rfl (pa_cons (pv 2) (pa_cons (pe_callB (kc_len (K := K)) (by rfl) B.len PyProof.Rows.Boot.«len» (pa_cons (pv 4) pa_nil)) pa_nil))))
      (pss_cons (ps_set (i := 7) sc.nd rfl (Or.inl rfl) (pe_calE cmoved (hr.mono (by decide)) rfl passE0 (pa_cons (pv 4) (pa_cons (pv 5) pa_nil))))
      (pss_cons (ps_if (PW.pt (pw_or (pt_cmpR op_ne (pv 7) (pe_calE cmoved (hr.mono (by decide)) rfl passE0 (pa_cons (pv 5) (pa_cons (pv 4) pa_nil))) (nomark _)) (pw_or1 (pt_cmpR op_ne (pe_cmpR op_eq (pv 7) pe_int (nomark _)) (pe_cmpR (op_eqS (K := K) hr.units0) (pv 4) (pv 5) (nomark _)) (nomark _))))) (pss_one (ps_ret pe_bl)) pss_nil)
      (pss_cons (ps_if (pt_cmpR op_gt (pv 7) (pe_op op_add (pe_calE cmoved (hr.mono (by decide)) rfl passE0 (pa_cons (pv 4) (pa_cons (pv 6) pa_nil))) (pe_calE cmoved (hr.mono (by decide)) rfl passE0 (pa_cons (pv 6) (pa_cons (pv 5) pa_nil)))) (nomark _)) (pss_one (ps_ret pe_bl)) pss_nil)
      (pss_cons (ps_set (i := 8) sc.nd rfl (Or.inl rfl) (pe_cal c_law_draw (hr.mono (by decide)) rfl (pa_cons (pv 2) (pa_cons (pe_lst (pa_cons pe_int (pa_cons pe_int pa_nil))) pa_nil))))
      (pss_cons (ps_set (i := 9) sc.nd rfl (Or.inl rfl) (pe_op op_mod (pe_ix (kix_list (K := K)) (pv 8) pe_int (fun _ _ => rfl)) (pe_callB (kc_len (K := K)) (by rfl) B.len PyProof.Rows.Boot.«len» (pa_cons (pv 4) pa_nil))))
      (pss_cons (ps_set (i := 10) sc.nd rfl (Or.inl rfl) (pe_cal c_law_number_row (hr.mono (by decide)) rfl (pa_cons (pe_op (kop_cat (K := K)) (pe_op (kop_cat (K := K)) (pe_slice (ksl_tup (K := K)) (pv 4) po_none (po_some (pv 9))) (pe_tup (pa_cons (pe_op op_mod (pe_ix (kix_list (K := K)) (pv 8) pe_int (fun _ _ => rfl)) (pe_op op_add (pe_callB (kc_max (K := K)) (by rfl) B.max PyProof.Rows.Boot.«max» (pa_cons (pv 4) pa_nil)) pe_int)) pa_nil))) (pe_slice (ksl_tup (K := K)) (pv 4) (po_some (pe_op op_add (pv 9) pe_int)) po_none)) pa_nil)))
      (pss_one (ps_if (PW.pt (pw_or (pt_cmpR op_ne (pe_calE cmoved (hr.mono (by decide)) rfl passE0 (pa_cons (pv 4) (pa_cons (pv 10) pa_nil))) (pe_callTy kc_intB (by rfl) B.int PyProof.Rows.Boot.«int» (pa_cons (pe_cmpR (op_neS (K := K) hr.units0) (pv 10) (pv 4) (nomark _)) pa_nil)) (nomark _)) (pw_or1 (pt_cmpR op_gt (pe_callB kc_abs (by rfl) B.abs PyProof.Rows.Boot.«abs» (pa_cons (pe_op op_sub (pe_calE cmoved (hr.mono (by decide)) rfl passE0 (pa_cons (pv 10) (pa_cons (pv 5) pa_nil))) (pv 7)) pa_nil)) pe_int (nomark _))))) (pss_one (ps_ret pe_bl)) pss_nil))))))))))))
      (pss_one (ps_ret pe_bl))), ?_⟩
    refine ⟨_, rfl, a, ns, 2, rfl, hS, fun z hz0 hz1 => ⟨_, _, rfl, ?_⟩⟩
    have hz7 : 0 ≤ (if z < 30 then z else 30) ∧ (if z < 30 then z else 30) ≤ 30 := by split <;> omega
    generalize (if z < 30 then z else 30) = z7 at hz7
    refine ⟨_, rfl, by omega, by omega, for_range (lo := 0) (n := z7.toNat) (fun i σ H2 => ∃ (o1 o2 o3 o4 o5 o6 o7 o8 o9 o10 : Option V), σ = [some (.ref a), o1, o2, o3, o4, o5, o6, o7, o8, o9, o10] ∧ Same H H2)
      ⟨none, none, none, none, none, none, none, none, none, none, rfl, Same.refl H⟩ ?_ ?_⟩
    · rintro i σ H2 hi ⟨o1, o2, o3, o4, o5, o6, o7, o8, o9, o10, rfl, s2⟩
      refine gN ?_
      refine ⟨_, rfl, _, rfl, a, ns, _, rfl, s2.seq hS, by omega, by omega, by omega, fun cell => ⟨cell, 2, 1, rfl, by decide, by decide, by decide, by decide, fun p3 sp3 H3 _ s3 hp3 hl3 => ?_⟩⟩
      obtain ⟨f1, f2, rfl⟩ : ∃ f1 f2, sp3 = [f1, f2] := by
        match sp3, hl3 with
        | [x, y], _ => exact ⟨x, y, rfl⟩
      refine ⟨p3, _, rfl, SqL.of hp3, rfl, _, _, rfl, _, _, rfl, rfl, ?_⟩
      refine ⟨_, rfl, f2, 9, rfl, by decide, by decide, fun p oa ob ws vs H4 s4 hp4 ha4 hb4 hww hvw hlv hl9 => ?_⟩
      obtain ⟨w1, w9, w0⟩ := isWay_iff.mp hww
      refine ⟨p, _, rfl, SqT.of hp4, rfl, _, _, rfl, _, _, rfl, rfl, ?_⟩
      try dsimp only
      refine nrm (σ' := [some (.ref a), some (.int (0 + (i : Int))), some (.int f1), some (.int f2), some (.ref oa), some (.ref ob), o6, o7, o8, o9, o10]) rfl ?_
      -- the third
      refine seq_a ?_
      refine ⟨_, rfl, _, rfl, oa, _, rfl, .inr (SqT.of ha4), f1, _, rfl, by rw [ltm]; omega, by rw [ltm]; omega, fun oc xs H5 _ s5 hc5 hcl hcw => ?_⟩
      have hxl : xs.length = ws.length := by rw [ltm] at hcl; simpa using hcl
      have ha5 := s5 _ _ ha4
      have hb5 := s5 _ _ hb4
      try dsimp only
      refine nrm (σ' := [some (.ref a), some (.int (0 + (i : Int))), some (.int f1), some (.int f2), some (.ref oa), some (.ref ob), some (.ref oc), o7, o8, o9, o10]) rfl ?_
      -- the count
      refine seq_a ?_
      refine ⟨_, rfl, _, rfl, oa, ob, ws, vs, rfl, SqT.of ha5, SqT.of hb5, hww, hvw, fun _ y0 R0 C0 t0 H6 s6 K0 => ?_, fun h => absurd hlv.symm h⟩
      have ha6 := s6 _ _ ha5
      have hb6 := s6 _ _ hb5
      have hc6 := s6 _ _ hc5
      try dsimp only
      refine nrm (σ' := [some (.ref a), some (.int (0 + (i : Int))), some (.int f1), some (.int f2), some (.ref oa), some (.ref ob), some (.ref oc), some (.int ((ws.length : Int) - t0)), o8, o9, o10]) rfl ?_
      -- the same both ways, nought for the same
      refine seq_ifN (b := false) (P := Same H6) (fun N hN => ?_) (fun g => absurd g (by decide)) (fun _ H7 s7 => ?_)
      · refine ⟨_, rfl, _, rfl, _, rfl, ob, oa, vs, ws, rfl, SqT.of hb6, SqT.of ha6, hvw, hww, fun _ y1 R1 C1 t1 H7 s7 K1 => ⟨rfl, _, rfl, ?_⟩, fun h => absurd hlv h⟩
        have e1 := kept_comm hww hvw hlv.symm K0 K1
        rw [dInt, decide_eq_true (by omega)]
        refine iteF ?_
        refine ⟨_, rfl, rfl, _, rfl, _, rfl, oa, ob, ws, vs, rfl, rfl, .inl ⟨SqT.of (s7 _ _ ha6), SqT.of (s7 _ _ hb6)⟩, rfl, _, rfl, ?_⟩
        have e2 := kept_all hww hvw hlv.symm K0
        have e3 : decide (V.int ((ws.length : Int) - t0) = V.int 0) = decide (ws = vs) := by
          rw [dInt]
          exact decide_eq_decide.mpr (by rw [← e2]; omega)
        rw [e3, decide_eq_true rfl]
        exact hN _ s7
      have ha7 := s7 _ _ ha6
      have hb7 := s7 _ _ hb6
      have hc7 := s7 _ _ hc6
      -- by a third way no less
      refine seq_ifN (b := false) (P := Same H7) (fun N hN => ?_) (fun g => absurd g (by decide)) (fun _ H8 s8 => ?_)
      · refine ⟨_, rfl, _, rfl, _, rfl, oa, oc, ws, xs, rfl, SqT.of ha7, SqT.of hc7, hww, hcw, fun _ y1 R1 C1 t1 H8 s8 K1 => ?_, fun h => absurd hxl h⟩
        refine ⟨_, rfl, _, rfl, oc, ob, xs, vs, rfl, SqT.of (s8 _ _ hc7), SqT.of (s8 _ _ hb7), hcw, hvw, fun _ y2 R2 C2 t2 H9 s9 K2 => ?_, fun h => absurd (by omega) h⟩
        refine ⟨_, _, rfl, rfl, _, _, rfl, rfl, _, rfl, ?_⟩
        have e := kept_tri hww hvw hcw hlv.symm hxl K0 K1 K2
        rw [decide_eq_false (by omega)]
        exact hN _ (s8.trans s9)
      have ha8 := s8 _ _ ha7
      have hb8 := s8 _ _ hb7
      -- one censer elsewhere
      refine seq_a ?_
      refine ⟨_, rfl, le_line (by simp), fun q1 hq1 => ⟨f1, q1, [9, 10], rfl, SqL.of upd_same, lim_ok (by decide +kernel), by decide, fun row rs H9 _ s9 hrow hD => ?_⟩⟩
      have s9 := (Same.new (o := HO.lst [V.int 9, V.int 10]) hq1).trans s9
      obtain ⟨r0, ⟨a0, b0⟩, e0⟩ := paired_getM hD (show ([9, 10] : List Int)[0]? = some 9 from rfl)
      obtain ⟨r1, ⟨a1, b1⟩, e1⟩ := paired_getM hD (show ([9, 10] : List Int)[1]? = some 10 from rfl)
      have ha9 := s9 _ _ ha8
      have hb9 := s9 _ _ hb8
      try dsimp only
      refine nrm (σ' := [some (.ref a), some (.int (0 + (i : Int))), some (.int f1), some (.int f2), some (.ref oa), some (.ref ob), some (.ref oc), some (.int ((ws.length : Int) - t0)), some (.ref row), o9, o10]) rfl ?_
      refine seq_a ?_
      refine ⟨_, rfl, row, _, _, _, rfl, rfl, SqL.of hrow, atI_nt e0, _, rfl, oa, _, rfl, .inr (SqT.of ha9), _, _, rfl, rfl, by rw [ltm]; omega, ?_⟩
      rw [ltm]
      obtain ⟨kk, hkk⟩ : ∃ kk : Nat, r0 % (ws.length : Int) = (kk : Int) := ⟨(r0 % (ws.length : Int)).toNat, by have := Int.emod_nonneg r0 (show (ws.length : Int) ≠ 0 by omega); omega⟩
      have hkl : kk < ws.length := by have := Int.emod_lt_of_pos r0 (show 0 < (ws.length : Int) by omega); omega
      dsimp only
      rw [hkk]
      refine nrm (σ' := [some (.ref a), some (.int (0 + (i : Int))), some (.int f1), some (.int f2), some (.ref oa), some (.ref ob), some (.ref oc), some (.int ((ws.length : Int) - t0)), some (.ref row), some (.int (kk : Int)), o10]) rfl ?_
      refine seq_a ?_
      refine ⟨_, rfl, _, rfl, _, rfl, oa, _, rfl, SqT.of ha9, fun c1 H10 s10 hc1 => ?_⟩
      rw [cut_take_int] at hc1
      refine ⟨_, rfl, row, _, _, _, rfl, rfl, SqL.of (s10 _ _ hrow), atI_nt e1, _, rfl, oa, ws, rfl, .inr (SqT.of (s10 _ _ ha9)), fun e => by rw [e] at w1; simp at w1, fun mx hmx => ?_⟩
      have mx0 : -1 ≤ mx := by
        obtain ⟨j, hj, e⟩ := List.getElem_of_mem hmx.1
        have := (way_bounds hww j hj).1
        rw [List.getD_eq_getElem?_getD, List.getElem?_eq_getElem hj] at this
        have : 0 ≤ ws[j] := this
        omega
      refine ⟨_, _, rfl, rfl, _, _, rfl, rfl, by show 0 < mx + 2; omega, le_line (by simp), fun t5 ht5 => ?_⟩
      have n11 := Same.new (o := HO.tup [V.int (r1 % (mx + 2))]) ht5
      refine ⟨c1, t5, _, _, rfl, rfl, n11.seqT hc1, SqT.of upd_same, le_line (by rw [ltm, List.length_take]; simp; omega), fun c2 H12 s12 hc2 => ?_⟩
      refine ⟨_, rfl, _, rfl, _, _, rfl, rfl, _, rfl, oa, _, rfl, SqT.of (s12 _ _ (n11 _ _ (s10 _ _ ha9))), fun c3 H13 s13 hc3 => ?_⟩
      rw [show ((kk : Int) + 1) = ((kk + 1 : Nat) : Int) by omega, cut_drop_int] at hc3
      refine ⟨c2, c3, _, _, rfl, rfl, s13.seqT hc2, hc3, le_line (by simp; omega), fun c4 H14 s14 hc4 => ?_⟩
      have hc4 : SqT K H14 c4 ((ws.take kk).map V.int ++ [V.int (r1 % (mx + 2))] ++ (ws.drop (kk + 1)).map V.int) := hc4
      obtain ⟨xx, hxx⟩ : ∃ xx, xx = r1 % (mx + 2) := ⟨_, rfl⟩
      rw [← hxx] at hc4
      have el : (ws.take kk).map V.int ++ [V.int xx] ++ (ws.drop (kk + 1)).map V.int = (ws.take kk ++ [xx] ++ ws.drop (kk + 1)).map V.int := by simp
      rw [el] at hc4
      obtain ⟨nl, np⟩ := near_pat (x := xx) hkl
      refine ⟨c4, _, rfl, hc4, by rw [nl]; omega, fun od H15 _ s15 hd15 => ?_⟩
      have hnl : (numRow (ws.take kk ++ [xx] ++ ws.drop (kk + 1))).length = ws.length := by rw [numRow_length, nl]
      have hnw : isWay (numRow (ws.take kk ++ [xx] ++ ws.drop (kk + 1))) = true := numRow_isWay (by omega) (by omega)
      generalize numRow (ws.take kk ++ [xx] ++ ws.drop (kk + 1)) = us at hd15 hnl hnw np
      have s915 := ((((s10.trans n11).trans s12).trans s13).trans s14).trans s15
      have ha15 := s915 _ _ ha9
      have hb15 := s915 _ _ hb9
      have S15 := ((((((s2.trans s3).trans s4).trans s5).trans s6).trans s7).trans s8).trans (s9.trans s915)
      try dsimp only
      refine nrm (σ' := [some (.ref a), some (.int (0 + (i : Int))), some (.int f1), some (.int f2), some (.ref oa), some (.ref ob), some (.ref oc), some (.int ((ws.length : Int) - t0)), some (.ref row), some (.int (kk : Int)), some (.ref od)]) rfl ?_
      refine if_N (b := false) (P := Same H15) (fun N hN => ?_) (fun g => absurd g (by decide)) (fun _ H16 s16 => ⟨_, _, _, _, _, _, _, _, _, _, rfl, S15.trans s16⟩)
      refine ⟨_, rfl, _, rfl, oa, od, ws, us, rfl, SqT.of ha15, SqT.of hd15, hww, hnw, fun _ y1 R1 C1 t1 H16 s16 K1 => ?_, fun h => absurd hnl h⟩
      have b1 := kept_le hww K1
      have b2 := kept_near hww hnw hnl np K1
      have b3 := kept_all hww hnw hnl K1
      refine ⟨_, rfl, _, rfl, od, oa, us, ws, rfl, rfl, .inl ⟨SqT.of (s16 _ _ hd15), SqT.of (s16 _ _ ha15)⟩, _, rfl, rfl, _, rfl, ?_⟩
      have e1 : ((ws.length : Int) - t1) = if (!decide (us = ws)) = true then 1 else 0 := by
        by_cases q : us = ws
        · rw [decide_eq_true q, if_neg (by decide)]
          have := b3.mpr q.symm
          omega
        · rw [decide_eq_false q, if_pos (by decide)]
          have : ¬ t1 = ws.length := fun z => q (b3.mp z).symm
          omega
      rw [dInt, decide_eq_true e1]
      refine iteF ?_
      refine ⟨_, rfl, _, rfl, od, ob, us, vs, rfl, SqT.of (s16 _ _ hd15), SqT.of (s16 _ _ hb15), hnw, hvw, fun _ y2 R2 C2 t2 H17 s17 K2 => ?_, fun h => absurd (by omega) h⟩
      refine ⟨_, rfl, _, _, rfl, rfl, _, rfl, _, _, rfl, rfl, _, rfl, ?_⟩
      have g1 := kept_tri hww hvw hnw hlv.symm hnl K0 K1 K2
      have g2 := kept_tri' hnw hvw hww (by omega) hnl.symm K2 K1 K0
      rw [decide_eq_false (by rw [hnl]; split <;> omega)]
      exact hN _ (s16.trans s17)
    · rintro σ H2 ⟨o1, o2, o3, o4, o5, o6, o7, o8, o9, o10, rfl, s2⟩
      exact k H2
end
set_option maxHeartbeats 4000000 in
theorem all_mk {l : PySem.W.OpenLaw} {w : World} {K : PySem.W.Frag} {h : Heap} {mg : Str → Option Value} {fa : Addr} (X : K.In h) (G : h.Ns mainGlobals mg) (hfa : mg "law" = some (.ref fa))
    {f1 : Addr} {od1 an1 : Option Addr} {sl1 : Array (Option Value)} {oc1 kV1 dc1 pm1 cd1 ct1 : Value} {f2 : Addr} {od2 an2 : Option Addr} {sl2 : Array (Option Value)} {oc2 kV2 dc2 pm2 cd2 ct2 : Value} {f3 : Addr} {od3 an3 : Option Addr} {sl3 : Array (Option Value)} {oc3 kV3 dc3 pm3 cd3 ct3 : Value} {f4 : Addr} {od4 an4 : Option Addr} {sl4 : Array (Option Value)} {oc4 kV4 dc4 pm4 cd4 ct4 : Value} {f5 : Addr} {od5 an5 : Option Addr} {sl5 : Array (Option Value)} {oc5 kV5 dc5 pm5 cd5 ct5 : Value} {f6 : Addr} {od6 an6 : Option Addr} {sl6 : Array (Option Value)} {oc6 kV6 dc6 pm6 cd6 ct6 : Value} {f7 : Addr} {od7 an7 : Option Addr} {sl7 : Array (Option Value)} {oc7 kV7 dc7 pm7 cd7 ct7 : Value} {f8 : Addr} {od8 an8 : Option Addr} {sl8 : Array (Option Value)} {oc8 kV8 dc8 pm8 cd8 ct8 : Value} {f9 : Addr} {od9 an9 : Option Addr} {sl9 : Array (Option Value)} {oc9 kV9 dc9 pm9 cd9 ct9 : Value} {f10 : Addr} {od10 an10 : Option Addr} {sl10 : Array (Option Value)} {oc10 kV10 dc10 pm10 cd10 ct10 : Value} {f11 : Addr} {od11 an11 : Option Addr} {sl11 : Array (Option Value)} {oc11 kV11 dc11 pm11 cd11 ct11 : Value} {f12 : Addr} {od12 an12 : Option Addr} {sl12 : Array (Option Value)} {oc12 kV12 dc12 pm12 cd12 ct12 : Value} {f13 : Addr} {od13 an13 : Option Addr} {sl13 : Array (Option Value)} {oc13 kV13 dc13 pm13 cd13 ct13 : Value} {f14 : Addr} {od14 an14 : Option Addr} {sl14 : Array (Option Value)} {oc14 kV14 dc14 pm14 cd14 ct14 : Value} {f15 : Addr} {od15 an15 : Option Addr} {sl15 : Array (Option Value)} {oc15 kV15 dc15 pm15 cd15 ct15 : Value} {f16 : Addr} {od16 an16 : Option Addr} {sl16 : Array (Option Value)} {oc16 kV16 dc16 pm16 cd16 ct16 : Value} {f17 : Addr} {od17 an17 : Option Addr} {sl17 : Array (Option Value)} {oc17 kV17 dc17 pm17 cd17 ct17 : Value} {f18 : Addr} {od18 an18 : Option Addr} {sl18 : Array (Option Value)} {oc18 kV18 dc18 pm18 cd18 ct18 : Value} {f19 : Addr} {od19 an19 : Option Addr} {sl19 : Array (Option Value)} {oc19 kV19 dc19 pm19 cd19 ct19 : Value} {T19 : Addr} {oT19 : Obj} {nT19 : Nat} {tk19 : Tok} {f20 : Addr} {od20 an20 : Option Addr} {sl20 : Array (Option Value)} {oc20 kV20 dc20 pm20 cd20 ct20 : Value} {f21 : Addr} {od21 an21 : Option Addr} {sl21 : Array (Option Value)} {oc21 kV21 dc21 pm21 cd21 ct21 : Value} {tg0 : Tok} {CBadWay : Addr} {CPairing : Addr}
    (a1 : PySem.W.nsIn K mainGlobals "_law_draw" = some (some (.ref f1)))
    (l1 : K.lookup f1 = some ⟨oc1, od1, .func (PySem.W.fnOf "_law_draw" "_law_draw" (defArgs s_law_draw) (defBody s_law_draw) (defScope s_law_draw) .none kV1 dc1 pm1 an1 cd1 ct1), sl1⟩)
    (c1 : PySem.W.codeIn K cd1 "_law_draw" = true) (k1 : PySem.W.keepIn K (.ref f1) = true)
    (a2 : PySem.W.nsIn K mainGlobals "_law_cell" = some (some (.ref f2)))
    (l2 : K.lookup f2 = some ⟨oc2, od2, .func (PySem.W.fnOf "_law_cell" "_law_cell" (defArgs s_law_cell) (defBody s_law_cell) (defScope s_law_cell) .none kV2 dc2 pm2 an2 cd2 ct2), sl2⟩)
    (c2 : PySem.W.codeIn K cd2 "_law_cell" = true) (k2 : PySem.W.keepIn K (.ref f2) = true)
    (a3 : PySem.W.nsIn K mainGlobals "_law_many" = some (some (.ref f3)))
    (l3 : K.lookup f3 = some ⟨oc3, od3, .func (PySem.W.fnOf "_law_many" "_law_many" (defArgs s_law_many) (defBody s_law_many) (defScope s_law_many) .none kV3 dc3 pm3 an3 cd3 ct3), sl3⟩)
    (c3 : PySem.W.codeIn K cd3 "_law_many" = true) (k3 : PySem.W.keepIn K (.ref f3) = true)
    (a4 : PySem.W.nsIn K mainGlobals "is_way" = some (some (.ref f4)))
    (l4 : K.lookup f4 = some ⟨oc4, od4, .func (PySem.W.fnOf "is_way" "is_way" (defArgs sis_way) (defBody sis_way) (defScope sis_way) .none kV4 dc4 pm4 an4 cd4 ct4), sl4⟩)
    (c4 : PySem.W.codeIn K cd4 "is_way" = true) (k4 : PySem.W.keepIn K (.ref f4) = true)
    (a5 : PySem.W.nsIn K mainGlobals "check_way" = some (some (.ref f5)))
    (l5 : K.lookup f5 = some ⟨oc5, od5, .func (PySem.W.fnOf "check_way" "check_way" (defArgs scheck_way) (defBody scheck_way) (defScope scheck_way) .none kV5 dc5 pm5 an5 cd5 ct5), sl5⟩)
    (c5 : PySem.W.codeIn K cd5 "check_way" = true) (k5 : PySem.W.keepIn K (.ref f5) = true)
    (a6 : PySem.W.nsIn K mainGlobals "check_way_of" = some (some (.ref f6)))
    (l6 : K.lookup f6 = some ⟨oc6, od6, .func (PySem.W.fnOf "check_way_of" "check_way_of" (defArgs scheck_way_of) (defBody scheck_way_of) (defScope scheck_way_of) .none kV6 dc6 pm6 an6 cd6 ct6), sl6⟩)
    (c6 : PySem.W.codeIn K cd6 "check_way_of" = true) (k6 : PySem.W.keepIn K (.ref f6) = true)
    (a7 : PySem.W.nsIn K mainGlobals "check_two_ways" = some (some (.ref f7)))
    (l7 : K.lookup f7 = some ⟨oc7, od7, .func (PySem.W.fnOf "check_two_ways" "check_two_ways" (defArgs scheck_two_ways) (defBody scheck_two_ways) (defScope scheck_two_ways) .none kV7 dc7 pm7 an7 cd7 ct7), sl7⟩)
    (c7 : PySem.W.codeIn K cd7 "check_two_ways" = true) (k7 : PySem.W.keepIn K (.ref f7) = true)
    (a8 : PySem.W.nsIn K mainGlobals "woods" = some (some (.ref f8)))
    (l8 : K.lookup f8 = some ⟨oc8, od8, .func (PySem.W.fnOf "woods" "woods" (defArgs swoods) (defBody swoods) (defScope swoods) .none kV8 dc8 pm8 an8 cd8 ct8), sl8⟩)
    (c8 : PySem.W.codeIn K cd8 "woods" = true) (k8 : PySem.W.keepIn K (.ref f8) = true)
    (a9 : PySem.W.nsIn K mainGlobals "lots" = some (some (.ref f9)))
    (l9 : K.lookup f9 = some ⟨oc9, od9, .func (PySem.W.fnOf "lots" "lots" (defArgs slots) (defBody slots) (defScope slots) .none kV9 dc9 pm9 an9 cd9 ct9), sl9⟩)
    (c9 : PySem.W.codeIn K cd9 "lots" = true) (k9 : PySem.W.keepIn K (.ref f9) = true)
    (a10 : PySem.W.nsIn K mainGlobals "overlap" = some (some (.ref f10)))
    (l10 : K.lookup f10 = some ⟨oc10, od10, .func (PySem.W.fnOf "overlap" "overlap" (defArgs soverlap) (defBody soverlap) (defScope soverlap) .none kV10 dc10 pm10 an10 cd10 ct10), sl10⟩)
    (c10 : PySem.W.codeIn K cd10 "overlap" = true) (k10 : PySem.W.keepIn K (.ref f10) = true)
    (a11 : PySem.W.findIn K (.ref CPairing) "__init__" = some (some (.ref f11))) (i11 : PySem.W.isFn K (.ref f11) = true)
    (l11 : K.lookup f11 = some ⟨oc11, od11, .func (PySem.W.fnOf "__init__" "Pairing.__init__" (defArgs sPairing___init__) (defBody sPairing___init__) (defScope sPairing___init__) .none kV11 dc11 pm11 an11 cd11 ct11), sl11⟩)
    (c11 : PySem.W.codeIn K cd11 "Pairing.__init__" = true) (k11 : PySem.W.keepIn K (.ref f11) = true)
    (a12 : PySem.W.findIn K (.ref CPairing) "makes_room" = some (some (.ref f12))) (i12 : PySem.W.isFn K (.ref f12) = true)
    (l12 : K.lookup f12 = some ⟨oc12, od12, .func (PySem.W.fnOf "makes_room" "Pairing.makes_room" (defArgs sPairing_makes_room) (defBody sPairing_makes_room) (defScope sPairing_makes_room) .none kV12 dc12 pm12 an12 cd12 ct12), sl12⟩)
    (c12 : PySem.W.codeIn K cd12 "Pairing.makes_room" = true) (k12 : PySem.W.keepIn K (.ref f12) = true)
    (a13 : PySem.W.findIn K (.ref CPairing) "place" = some (some (.ref f13))) (i13 : PySem.W.isFn K (.ref f13) = true)
    (l13 : K.lookup f13 = some ⟨oc13, od13, .func (PySem.W.fnOf "place" "Pairing.place" (defArgs sPairing_place) (defBody sPairing_place) (defScope sPairing_place) .none kV13 dc13 pm13 an13 cd13 ct13), sl13⟩)
    (c13 : PySem.W.codeIn K cd13 "Pairing.place" = true) (k13 : PySem.W.keepIn K (.ref f13) = true)
    (a14 : PySem.W.nsIn K mainGlobals "kept" = some (some (.ref f14)))
    (l14 : K.lookup f14 = some ⟨oc14, od14, .func (PySem.W.fnOf "kept" "kept" (defArgs skept) (defBody skept) (defScope skept) .none kV14 dc14 pm14 an14 cd14 ct14), sl14⟩)
    (c14 : PySem.W.codeIn K cd14 "kept" = true) (k14 : PySem.W.keepIn K (.ref f14) = true)
    (a15 : PySem.W.nsIn K mainGlobals "moved" = some (some (.ref f15)))
    (l15 : K.lookup f15 = some ⟨oc15, od15, .func (PySem.W.fnOf "moved" "moved" (defArgs smoved) (defBody smoved) (defScope smoved) .none kV15 dc15 pm15 an15 cd15 ct15), sl15⟩)
    (c15 : PySem.W.codeIn K cd15 "moved" = true) (k15 : PySem.W.keepIn K (.ref f15) = true)
    (a16 : PySem.W.nsIn K mainGlobals "_law_way" = some (some (.ref f16)))
    (l16 : K.lookup f16 = some ⟨oc16, od16, .func (PySem.W.fnOf "_law_way" "_law_way" (defArgs s_law_way) (defBody s_law_way) (defScope s_law_way) .none kV16 dc16 pm16 an16 cd16 ct16), sl16⟩)
    (c16 : PySem.W.codeIn K cd16 "_law_way" = true) (k16 : PySem.W.keepIn K (.ref f16) = true)
    (a17 : PySem.W.nsIn K mainGlobals "_law_size" = some (some (.ref f17)))
    (l17 : K.lookup f17 = some ⟨oc17, od17, .func (PySem.W.fnOf "_law_size" "_law_size" (defArgs s_law_size) (defBody s_law_size) (defScope s_law_size) .none kV17 dc17 pm17 an17 cd17 ct17), sl17⟩)
    (c17 : PySem.W.codeIn K cd17 "_law_size" = true) (k17 : PySem.W.keepIn K (.ref f17) = true)
    (a18 : PySem.W.nsIn K mainGlobals "_law_number_row" = some (some (.ref f18)))
    (l18 : K.lookup f18 = some ⟨oc18, od18, .func (PySem.W.fnOf "_law_number_row" "_law_number_row" (defArgs s_law_number_row) (defBody s_law_number_row) (defScope s_law_number_row) .none kV18 dc18 pm18 an18 cd18 ct18), sl18⟩)
    (c18 : PySem.W.codeIn K cd18 "_law_number_row" = true) (k18 : PySem.W.keepIn K (.ref f18) = true)
    (a19 : PySem.W.nsIn K mainGlobals "_law_split" = some (some (.ref f19)))
    (l19 : K.lookup f19 = some ⟨oc19, od19, .func (PySem.W.fnOf "_law_split" "_law_split" (defArgs s_law_split) (defBody s_law_split) (defScope s_law_split) (.ref T19) kV19 dc19 pm19 an19 cd19 ct19), sl19⟩)
    (c19 : PySem.W.codeIn K cd19 "_law_split" = true) (k19 : PySem.W.keepIn K (.ref f19) = true)
    (lT19 : K.lookup T19 = some oT19) (dT19 : oT19.data = .seq [Value.int 0 tk19].toArray nT19)
    (a20 : PySem.W.nsIn K mainGlobals "_law_two_ways" = some (some (.ref f20)))
    (l20 : K.lookup f20 = some ⟨oc20, od20, .func (PySem.W.fnOf "_law_two_ways" "_law_two_ways" (defArgs s_law_two_ways) (defBody s_law_two_ways) (defScope s_law_two_ways) .none kV20 dc20 pm20 an20 cd20 ct20), sl20⟩)
    (c20 : PySem.W.codeIn K cd20 "_law_two_ways" = true) (k20 : PySem.W.keepIn K (.ref f20) = true)
    (a21 : PySem.W.nsIn K mainGlobals "law" = some (some (.ref f21)))
    (l21 : K.lookup f21 = some ⟨oc21, od21, .func (PySem.W.fnOf "law" "law" (defArgs slaw) (defBody slaw) (defScope slaw) .none kV21 dc21 pm21 an21 cd21 ct21), sl21⟩)
    (c21 : PySem.W.codeIn K cd21 "law" = true) (k21 : PySem.W.keepIn K (.ref f21) = true)
    (z0 : PySem.W.nsIn K mainGlobals "abs" = some none)
    (z1 : PySem.W.nsIn K mainGlobals "enumerate" = some none)
    (z2 : PySem.W.nsIn K mainGlobals "int" = some none)
    (z3 : PySem.W.nsIn K mainGlobals "len" = some none)
    (z4 : PySem.W.nsIn K mainGlobals "max" = some none)
    (z5 : PySem.W.nsIn K mainGlobals "min" = some none)
    (z6 : PySem.W.nsIn K mainGlobals "range" = some none)
    (z7 : PySem.W.nsIn K mainGlobals "sorted" = some none)
    (z8 : PySem.W.nsIn K mainGlobals "sum" = some none)
    (z9 : PySem.W.nsIn K mainGlobals "tuple" = some none)
    (mc0 : PySem.W.nsIn K mainGlobals "MOST_CENSERS" = some (some (.int 9 tg0)))
    (xmBadWay : PySem.W.nsIn K mainGlobals "BadWay" = some (some (.ref CBadWay))) (xqBadWay : PySem.W.excIn K CBadWay bmV "ValueError.__new__" = true)
    (oaPairing : PySem.W.nsIn K mainGlobals "Pairing" = some (some (.ref CPairing))) (opPairing : PySem.W.plainGet K CPairing Str.empty = true) (ohPairing : PySem.W.hasDictIn K CPairing = true) (ooPairing : PySem.W.plainOver K CPairing = true) (osPairing : PySem.W.findIn K (.ref CPairing) "__setattr__" = some (some (.builtin "object.__setattr__"))) (okPairing : PySem.W.makesIn K CPairing = true) (ocPairing : PySem.W.keepIn K (.ref CPairing) = true)
    (onPairing_table : PySem.W.findIn K (.ref CPairing) "table" = some none)
    (onPairing_row_prices : PySem.W.findIn K (.ref CPairing) "row_prices" = some none)
    (onPairing_column_prices : PySem.W.findIn K (.ref CPairing) "column_prices" = some none)
    (onPairing_holders : PySem.W.findIn K (.ref CPairing) "holders" = some none) :
    ∃ fd : FuncData, (∀ (s : Shared) (v : Value), BindsTo s fd ⟨[v], []⟩ [("_law_script", v)]) ∧ ∀ base : Heap, K.In base → base.Ns mainGlobals mg → FnOk l.prog w K mg base CX0 20 fa fd ["_law_script"] (spLaw K) := by
  have e := hfa.symm.trans (PySem.W.mg_of X G a21)
  cases e
  have B : Bs mg := ⟨PySem.W.mg_none_of X G z0, PySem.W.mg_none_of X G z1, PySem.W.mg_none_of X G z2, PySem.W.mg_none_of X G z3, PySem.W.mg_none_of X G z4, PySem.W.mg_none_of X G z5, PySem.W.mg_none_of X G z6, PySem.W.mg_none_of X G z7, PySem.W.mg_none_of X G z8, PySem.W.mg_none_of X G z9⟩
  have T : Gs mg := ⟨trivial, ⟨_, PySem.W.mg_of X G mc0⟩⟩
  have mBadWay := PySem.W.mg_of X G xmBadWay
  have clPairing : Cls K CPairing := ⟨opPairing, ohPairing, ooPairing, osPairing⟩
  refine ⟨PySem.W.fnOf "law" "law" (defArgs slaw) (defBody slaw) (defScope slaw) .none kV21 dc21 pm21 an21 cd21 ct21, fun s v => .of_eq rfl, fun base _ _ => ?_⟩
  have F1 := fun_mk (st := s_law_draw) l1 c1 k1
  have C1 : Cal l.prog w K mg base 1 "_law_draw" [] (spDraw K) := F1.cal (ok_law_draw F1 B T mBadWay xqBadWay  clPairing onPairing_table onPairing_row_prices onPairing_column_prices onPairing_holders ) (PySem.W.mg_of X G a1) (fun _ _ _ _ _ _ us hl => match us, hl with | [_, _], _ => rfl)
  have F2 := fun_mk (st := s_law_cell) l2 c2 k2
  have C2 : Cal l.prog w K mg base 1 "_law_cell" [] (spCell K) := F2.cal (ok_law_cell F2 B T mBadWay xqBadWay  clPairing onPairing_table onPairing_row_prices onPairing_column_prices onPairing_holders ) (PySem.W.mg_of X G a2) (fun _ _ _ _ _ _ us hl => match us, hl with | [_, _], _ => rfl)
  have F3 := fun_mk (st := s_law_many) l3 c3 k3
  have C3 : Cal l.prog w K mg base 1 "_law_many" [] (spMany K) := F3.cal (ok_law_many F3 B T mBadWay xqBadWay  clPairing onPairing_table onPairing_row_prices onPairing_column_prices onPairing_holders ) (PySem.W.mg_of X G a3) (fun _ _ _ _ _ _ us hl => match us, hl with | [_, _], _ => rfl)
  have F4 := fun_mk (st := sis_way) l4 c4 k4
  have C4 : Cal l.prog w K mg base 1 "is_way" [] (spIsWay K) := F4.cal (okis_way F4 B T mBadWay xqBadWay  clPairing onPairing_table onPairing_row_prices onPairing_column_prices onPairing_holders ) (PySem.W.mg_of X G a4) (fun _ _ _ _ _ _ us hl => match us, hl with | [_], _ => rfl)
  have F5 := fun_mk (st := scheck_way) l5 c5 k5
  have C5 : Cal l.prog w K mg base 2 "check_way" [] (spCheckWay K) := F5.cal (okcheck_way F5 B T mBadWay xqBadWay  clPairing onPairing_table onPairing_row_prices onPairing_column_prices onPairing_holders C4) (PySem.W.mg_of X G a5) (fun _ _ _ _ _ _ us hl => match us, hl with | [_], _ => rfl)
  have F6 := fun_mk (st := scheck_way_of) l6 c6 k6
  have C6 : CalE l.prog w K mg base 3 "check_way_of" [] (spCheckOfE K CBadWay) := F6.calE (okcheck_way_of F6 B T mBadWay xqBadWay  clPairing onPairing_table onPairing_row_prices onPairing_column_prices onPairing_holders C5) (PySem.W.mg_of X G a6) (fun _ _ _ _ _ _ us hl => match us, hl with | [_, _], _ => rfl)
  have F7 := fun_mk (st := scheck_two_ways) l7 c7 k7
  have C7 : CalE l.prog w K mg base 4 "check_two_ways" [] (spCheckTwoE K CBadWay) := F7.calE (okcheck_two_ways F7 B T mBadWay xqBadWay  clPairing onPairing_table onPairing_row_prices onPairing_column_prices onPairing_holders C5 C6) (PySem.W.mg_of X G a7) (fun _ _ _ _ _ _ us hl => match us, hl with | [_, _], _ => rfl)
  have F8 := fun_mk (st := swoods) l8 c8 k8
  have C8 : Cal l.prog w K mg base 3 "woods" [] (spWoods K) := F8.cal (okwoods F8 B T mBadWay xqBadWay  clPairing onPairing_table onPairing_row_prices onPairing_column_prices onPairing_holders C5) (PySem.W.mg_of X G a8) (fun _ _ _ _ _ _ us hl => match us, hl with | [_], _ => rfl)
  have F9 := fun_mk (st := slots) l9 c9 k9
  have C9 : Cal l.prog w K mg base 4 "lots" [] (spLots K) := F9.cal (oklots F9 B T mBadWay xqBadWay  clPairing onPairing_table onPairing_row_prices onPairing_column_prices onPairing_holders C8) (PySem.W.mg_of X G a9) (fun _ _ _ _ _ _ us hl => match us, hl with | [_], _ => rfl)
  have F10 := fun_mk (st := soverlap) l10 c10 k10
  have C10 : CalE l.prog w K mg base 5 "overlap" [] (spOverE K CBadWay) := F10.calE (okoverlap F10 B T mBadWay xqBadWay  clPairing onPairing_table onPairing_row_prices onPairing_column_prices onPairing_holders C7 C9) (PySem.W.mg_of X G a10) (fun _ _ _ _ _ _ us hl => match us, hl with | [_, _], _ => rfl)
  have F11 := fun_mk (st := sPairing___init__) l11 c11 k11
  have b11 := F11.binds (ps := ["self", "table"]) fun _ _ _ _ _ _ us hl => match us, hl with | [_, _], _ => rfl
  have C11 : CalK l.prog w K mg base CPairing 1 "Pairing" (spPInit K CPairing) := ⟨f11, _, _, okPairing___init__ F11 B T mBadWay xqBadWay  clPairing onPairing_table onPairing_row_prices onPairing_column_prices onPairing_holders , ⟨okPairing, a11, i11, ocPairing⟩, PySem.W.mg_of X G oaPairing, b11⟩
  have F12 := fun_mk (st := sPairing_makes_room) l12 c12 k12
  have b12 := F12.binds (ps := ["self", "row", "reached"]) fun _ _ _ _ _ _ us hl => match us, hl with | [_, _, _], _ => rfl
  have R12 : ∀ dd : Nat, CalM l.prog w K mg base CPairing (1 + dd) "makes_room" (spMRoom K CPairing dd) := fun dd => by
    induction dd with
    | zero => exact ⟨f12, _, ["self", "row", "reached"], ⟨fun _ _ _ _ h => absurd h.1 (by decide), fun _ _ _ _ _ _ _ _ _ _ _ _ _ h => absurd h.1 (by decide)⟩, ⟨a12, i12, k12⟩, b12⟩
    | succ dd ih => exact ⟨f12, _, ["self", "row", "reached"], okPairing_makes_room F12 B T mBadWay xqBadWay  clPairing onPairing_table onPairing_row_prices onPairing_column_prices onPairing_holders ih, ⟨a12, i12, k12⟩, b12⟩
  have C12 := R12 11
  have F13 := fun_mk (st := sPairing_place) l13 c13 k13
  have b13 := F13.binds (ps := ["self", "row"]) fun _ _ _ _ _ _ us hl => match us, hl with | [_, _], _ => rfl
  have C13 : CalM l.prog w K mg base CPairing 13 "place" (spPlaceP K CPairing) := ⟨f13, _, _, okPairing_place F13 B T mBadWay xqBadWay  clPairing onPairing_table onPairing_row_prices onPairing_column_prices onPairing_holders C12, ⟨a13, i13, k13⟩, b13⟩
  have F14 := fun_mk (st := skept) l14 c14 k14
  have C14 : CalE l.prog w K mg base 15 "kept" [] (spKeptE K CBadWay) := F14.calE (okkept F14 B T mBadWay xqBadWay  clPairing onPairing_table onPairing_row_prices onPairing_column_prices onPairing_holders C11 C13 C10) (PySem.W.mg_of X G a14) (fun _ _ _ _ _ _ us hl => match us, hl with | [_, _], _ => rfl)
  have F15 := fun_mk (st := smoved) l15 c15 k15
  have C15 : CalE l.prog w K mg base 16 "moved" [] (spMovedE K CBadWay) := F15.calE (okmoved F15 B T mBadWay xqBadWay  clPairing onPairing_table onPairing_row_prices onPairing_column_prices onPairing_holders C14) (PySem.W.mg_of X G a15) (fun _ _ _ _ _ _ us hl => match us, hl with | [_, _], _ => rfl)
  have F16 := fun_mk (st := s_law_way) l16 c16 k16
  have C16 : Cal l.prog w K mg base 2 "_law_way" [] (spWay K) := F16.cal (ok_law_way F16 B T mBadWay xqBadWay  clPairing onPairing_table onPairing_row_prices onPairing_column_prices onPairing_holders C1) (PySem.W.mg_of X G a16) (fun _ _ _ _ _ _ us hl => match us, hl with | [_, _], _ => rfl)
  have F17 := fun_mk (st := s_law_size) l17 c17 k17
  have C17 : Cal l.prog w K mg base 2 "_law_size" [] spSize := F17.cal (ok_law_size F17 B T mBadWay xqBadWay  clPairing onPairing_table onPairing_row_prices onPairing_column_prices onPairing_holders C1) (PySem.W.mg_of X G a17) (fun _ _ _ _ _ _ us hl => match us, hl with | [_, _], _ => rfl)
  have F18 := fun_mk (st := s_law_number_row) l18 c18 k18
  have C18 : Cal l.prog w K mg base 1 "_law_number_row" [] (spNumRowT K) := F18.cal (ok_law_number_row F18 B T mBadWay xqBadWay  clPairing onPairing_table onPairing_row_prices onPairing_column_prices onPairing_holders ) (PySem.W.mg_of X G a18) (fun _ _ _ _ _ _ us hl => match us, hl with | [_], _ => rfl)
  have F19 := funD_mk (st := s_law_split) (ds := [Value.int 0 tk19]) l19 c19 k19 lT19 dT19
  have D19 : Cal l.prog w K mg base 1 "_law_split" [] spSplit := ⟨f19, _, _, [], ok_law_split F19 B T mBadWay xqBadWay  clPairing onPairing_table onPairing_row_prices onPairing_column_prices onPairing_holders , PySem.W.mg_of X G a19, k19, F19.binds (es := []) (fun _ _ _ _ _ _ _ us hl => match us, (show us.length = 3 from by simpa using hl) with | [_, _, _], _ => ⟨_, rfl, rfl⟩), .nil⟩
  have C19 : Cal l.prog w K mg base 1 "_law_split" [.int 0] spSplit := ⟨f19, _, _, [Value.int 0 tk19], ok_law_split F19 B T mBadWay xqBadWay  clPairing onPairing_table onPairing_row_prices onPairing_column_prices onPairing_holders , PySem.W.mg_of X G a19, k19, F19.binds (fun _ _ _ _ _ _ _ us hl => match us, (show us.length = 2 from by simpa using hl) with | [_, _], _ => ⟨_, rfl, rfl⟩), .cons ⟨_, rfl⟩ .nil⟩
  have F20 := fun_mk (st := s_law_two_ways) l20 c20 k20
  have C20 : Cal l.prog w K mg base 3 "_law_two_ways" [] (spTwoWays K) := F20.cal (ok_law_two_ways F20 B T mBadWay xqBadWay  clPairing onPairing_table onPairing_row_prices onPairing_column_prices onPairing_holders C17 C19 C16) (PySem.W.mg_of X G a20) (fun _ _ _ _ _ _ us hl => match us, hl with | [_, _], _ => rfl)
  have F21 := fun_mk (st := slaw) l21 c21 k21
  exact oklaw F21 B T mBadWay xqBadWay  clPairing onPairing_table onPairing_row_prices onPairing_column_prices onPairing_holders D19 C2 C1 C3 C18 C20 C16 C15
theorem walk {l : PySem.W.OpenLaw} {q : Program} {loose : List Str} {XP : (Str → Option Value) → Heap → Prop} {YP : World → Heap → Prop} {d : DefRec} {K : Params → PySem.W.Frag} (hn : l.most = some 63) (hdf : d.params.defaults = [])
    (hY : ∀ (w : World) (h : Heap), YP w h → (K w.params).In h)
    (F : ∀ (w : World) (mg : Str → Option Value) (fa : Addr) (h : Heap), (K w.params).In h → h.Ns mainGlobals mg → mg d.name = some (.ref fa) →
      ∃ fd : FuncData, (∀ (s : Shared) (u : Value), BindsTo s fd ⟨[u], []⟩ [("_law_script", u)]) ∧ ∀ base : Heap, (K w.params).In base → base.Ns mainGlobals mg → FnOk l.prog w (K w.params) mg base CX0 20 fa fd ["_law_script"] (spLaw (K w.params))) :
    PySem.W.WalkO q loose XP YP l.row.toRowW d [] (fun f vs => PySem.call f vs) :=
  L2.walk_of (n := 63) (k := 20) (x := "_law_script") (CX := fun _ => CX0) (sp := fun w => spLaw (K w.params)) hn (by decide) hdf ⟨rfl, by decide, by decide⟩ hY F (fun _ _ a ns hl _ hS => ⟨a, ns, rfl, hS, hl, fun _ => rfl⟩) fun _ _ _ _ _ z => z
end Lw
open PySem PySem.W PyProof.Rows
set_option maxRecDepth 100000 in
set_option maxHeartbeats 0 in
theorem PySem.Challenge.cw_censers_k25_whole_moved_between_three_holds : PySem.Challenge.rw_censers_k25_whole_moved_between_three.Holds := by
  w_on; o_law; k_head; (case hw => w_witness2)
  k_fill
  refine Lw.walk (l := PySem.Challenge.rw_censers_k25_whole_moved_between_three) rfl rfl (fun w h Y => PySem.W.kIn_of Y) ?F
  case F =>
    intro w mg fa h KX G hmg
    refine' Lw.all_mk KX G hmg ?a1 ?l1 ?c1 ?k1 ?a2 ?l2 ?c2 ?k2 ?a3 ?l3 ?c3 ?k3 ?a4 ?l4 ?c4 ?k4 ?a5 ?l5 ?c5 ?k5 ?a6 ?l6 ?c6 ?k6 ?a7 ?l7 ?c7 ?k7 ?a8 ?l8 ?c8 ?k8 ?a9 ?l9 ?c9 ?k9 ?a10 ?l10 ?c10 ?k10 ?a11 ?i11 ?l11 ?c11 ?k11 ?a12 ?i12 ?l12 ?c12 ?k12 ?a13 ?i13 ?l13 ?c13 ?k13 ?a14 ?l14 ?c14 ?k14 ?a15 ?l15 ?c15 ?k15 ?a16 ?l16 ?c16 ?k16 ?a17 ?l17 ?c17 ?k17 ?a18 ?l18 ?c18 ?k18 ?a19 ?l19 ?c19 ?k19 ?lT19 ?dT19 ?a20 ?l20 ?c20 ?k20 ?a21 ?l21 ?c21 ?k21 ?z0 ?z1 ?z2 ?z3 ?z4 ?z5 ?z6 ?z7 ?z8 ?z9 ?mc0 ?xmBadWay ?xqBadWay ?oaPairing ?opPairing ?ohPairing ?ooPairing ?osPairing ?okPairing ?ocPairing ?onPairing_table ?onPairing_row_prices ?onPairing_column_prices ?onPairing_holders
    (case oaPairing => k_is)
    (case a1 => k_is)
    (case l1 => k_is)
    (case c1 => k_is)
    (case k1 => k_is)
    (case a2 => k_is)
    (case l2 => k_is)
    (case c2 => k_is)
    (case k2 => k_is)
    (case a3 => k_is)
    (case l3 => k_is)
    (case c3 => k_is)
    (case k3 => k_is)
    (case a4 => k_is)
    (case l4 => k_is)
    (case c4 => k_is)
    (case k4 => k_is)
    (case a5 => k_is)
    (case l5 => k_is)
    (case c5 => k_is)
    (case k5 => k_is)
    (case a6 => k_is)
    (case l6 => k_is)
    (case c6 => k_is)
    (case k6 => k_is)
    (case a7 => k_is)
    (case l7 => k_is)
    (case c7 => k_is)
    (case k7 => k_is)
    (case a8 => k_is)
    (case l8 => k_is)
    (case c8 => k_is)
    (case k8 => k_is)
    (case a9 => k_is)
    (case l9 => k_is)
    (case c9 => k_is)
    (case k9 => k_is)
    (case a10 => k_is)
    (case l10 => k_is)
    (case c10 => k_is)
    (case k10 => k_is)
    (case a11 => k_is)
    (case i11 => k_is)
    (case l11 => k_is)
    (case c11 => k_is)
    (case k11 => k_is)
    (case a12 => k_is)
    (case i12 => k_is)
    (case l12 => k_is)
    (case c12 => k_is)
    (case k12 => k_is)
    (case a13 => k_is)
    (case i13 => k_is)
    (case l13 => k_is)
    (case c13 => k_is)
    (case k13 => k_is)
    (case a14 => k_is)
    (case l14 => k_is)
    (case c14 => k_is)
    (case k14 => k_is)
    (case a15 => k_is)
    (case l15 => k_is)
    (case c15 => k_is)
    (case k15 => k_is)
    (case a16 => k_is)
    (case l16 => k_is)
    (case c16 => k_is)
    (case k16 => k_is)
    (case a17 => k_is)
    (case l17 => k_is)
    (case c17 => k_is)
    (case k17 => k_is)
    (case a18 => k_is)
    (case l18 => k_is)
    (case c18 => k_is)
    (case k18 => k_is)
    (case a19 => k_is)
    (case l19 => k_is)
    (case c19 => k_is)
    (case k19 => k_is)
    (case lT19 => k_is)
    (case dT19 => rfl)
    (case a20 => k_is)
    (case l20 => k_is)
    (case c20 => k_is)
    (case k20 => k_is)
    (case a21 => k_is)
    (case l21 => k_is)
    (case c21 => k_is)
    (case k21 => k_is)
    (case z0 => k_is)
    (case z1 => k_is)
    (case z2 => k_is)
    (case z3 => k_is)
    (case z4 => k_is)
    (case z5 => k_is)
    (case z6 => k_is)
    (case z7 => k_is)
    (case z8 => k_is)
    (case z9 => k_is)
    (case mc0 => k_is)
    (case xmBadWay => k_is)
    (case xqBadWay => k_exc)
    (case opPairing => k_is)
    (case ohPairing => k_is)
    (case ooPairing => k_is)
    (case osPairing => k_is)
    (case okPairing => k_is)
    (case ocPairing => k_is)
    (case onPairing_table => k_is)
    (case onPairing_row_prices => k_is)
    (case onPairing_column_prices => k_is)
    (case onPairing_holders => k_is)
