import PyProof.Rows.All
import Wide.All
import OpenK.AllK
import Wide.FinOn
import Lean
import PyProof.EqAt
import PyProof.EqKinds
import PyProof.TupleCall
import KE.KSortTup
import KE.KRevSl
import KE.KDictSum
import PyProof.NeKinds
import PyProof.Rows.Range3
import PyProof.Rows.SetFrom
import PyProof.Rows.StrItems
import PyProof.StrWalks
import PyProof.EnumMake
import PyProof.FString5
import PyProof.Conv_int_bool
import PyProof.DictStraight
import PyProof.StrLawsIn
import PyProof.Rows.RuleN_abs
import PyProof.Rows.CallKwBuiltin
import PyProof.MinMaxWalk
import PyProof.IsiH_list
import PyProof.AttrMiss
import KE.KDictOf
import PyProof.DictList
import PyProof.TupleIter
import PyProof.Rows.CountFlat
import PyProof.Rows.RuleB_mul
import PySem.Challenge.RW_censers_k47_bad_ways_at_each_door
set_option Elab.async false
set_option linter.all false
set_option maxRecDepth 100000
namespace L2
open PySem PySem.Spec PyProof.Rows
abbrev Key := Sum Int Str
def keyIs : Key → Value → Bool
  | .inl k, v => Value.isInt k v
  | .inr x, v => Value.isStrOf x v
def keyH (w : World) : Key → Int
  | .inl k => hashInt k
  | .inr x => hashStr w x
theorem keyIs_shape : ∀ {k : Key} {v : Value}, keyIs k v = true → (∃ i t, k = Sum.inl i ∧ v = Value.int i t) ∨ (∃ x t, k = Sum.inr x ∧ v = Value.str x t)
  | .inl i, v, h => by
    obtain ⟨t, e⟩ := Value.isInt_shape (k := i) (v := v) h
    exact .inl ⟨i, t, rfl, e⟩
  | .inr x, v, h => by
    obtain ⟨t, e⟩ := Value.isStrOf_shape (x := x) (v := v) h
    exact .inr ⟨x, t, rfl, e⟩
theorem key_ll (a b : Int) : decide ((Sum.inl a : Key) = Sum.inl b) = (a == b) := by
  by_cases e : a = b
  · subst e; simp
  · have h : ¬ (Sum.inl a : Key) = Sum.inl b := fun q => e (Sum.inl.inj q)
    rw [decide_eq_false h]
    exact (beq_eq_false_iff_ne.mpr e).symm
theorem key_rr (a b : Str) : decide ((Sum.inr a : Key) = Sum.inr b) = decide (a = b) := by
  by_cases e : a = b
  · subst e; simp
  · have h : ¬ (Sum.inr a : Key) = Sum.inr b := fun q => e (Sum.inr.inj q)
    rw [decide_eq_false h, decide_eq_false e]
theorem key_lr (a : Int) (b : Str) : decide ((Sum.inl a : Key) = Sum.inr b) = false := decide_eq_false (fun q => nomatch q)
theorem key_rl (a : Str) (b : Int) : decide ((Sum.inr a : Key) = Sum.inl b) = false := decide_eq_false (fun q => nomatch q)
def mixKind (prog : Program) (w : World) : PySem.KeyKind prog w Key where
  is := keyIs
  hash := keyH w
  inj := fun v a b ha hb => by
    rcases keyIs_shape ha with ⟨i, t, rfl, rfl⟩ | ⟨x, t, rfl, rfl⟩
    · rcases keyIs_shape hb with ⟨j, u, rfl, e⟩ | ⟨y, u, rfl, e⟩
      · injection e with e1 _; rw [e1]
      · exact nomatch e
    · rcases keyIs_shape hb with ⟨j, u, rfl, e⟩ | ⟨y, u, rfl, e⟩
      · exact nomatch e
      · injection e with e1 _; rw [e1]
  byValue := fun k v h => by
    rcases keyIs_shape h with ⟨i, t, rfl, rfl⟩ | ⟨x, t, rfl, rfl⟩ <;> rfl
  pyHash := fun hv h => by
    rcases keyIs_shape hv with ⟨i, t, rfl, rfl⟩ | ⟨x, t, rfl, rfl⟩
    · exact wpAny_pyHash_int h
    · exact wpAny_pyHash_str h
  eqBool := fun hu hv h => by
    rcases keyIs_shape hu with ⟨i, t, rfl, rfl⟩ | ⟨x, t, rfl, rfl⟩
    · rcases keyIs_shape hv with ⟨j, u, rfl, rfl⟩ | ⟨y, u, rfl, rfl⟩
      · rw [key_ll] at h; exact wpAny_eqBool_int h
      · rw [key_lr] at h; exact SeqAt.EqAt.int_str i t y u _ _ _ _ h
    · rcases keyIs_shape hv with ⟨j, u, rfl, rfl⟩ | ⟨y, u, rfl, rfl⟩
      · rw [key_rl] at h; exact SeqAt.EqAt.str_int x t j u _ _ _ _ h
      · rw [key_rr] at h; exact wpAny_eqBool_str h
  «strs» := fun k x t v h => by
    rcases keyIs_shape h with ⟨i, u, rfl, e⟩ | ⟨y, u, rfl, e⟩
    · exact nomatch e
    · injection e with e1 _
      subst e1
      cases v <;> rfl
end L2
namespace L2
open PySem PySem.Spec PyProof.Rows
inductive V where
  | non | bl (b : Bool) | int (i : Int) | str (x : Str) | byt (b : Array UInt8) | flt (b : UInt64) | ref (a : Addr) | ty (n : String)
  deriving DecidableEq
def RelV : V → Value → Prop
  | .non, u => u = Value.none
  | .bl b, u => u = Value.bool b
  | .int i, u => ∃ t, u = Value.int i t
  | .str x, u => ∃ t, u = Value.str x t
  | .byt b, u => ∃ t, u = Value.bytes b t
  | .flt b, u => ∃ t, u = Value.float b t
  | .ref a, u => u = Value.ref a
  | .ty n, u => u = Value.type n
abbrev Vals : List V → List Value → Prop := Paired RelV
theorem Vals.length {xs : List V} {us : List Value} (r : Vals xs us) : xs.length = us.length := Paired.length r
theorem Vals.get : ∀ {xs : List V} {us : List Value} {i : Nat} {x : V}, Vals xs us → xs[i]? = some x → ∃ u, us[i]? = some u ∧ RelV x u
  | _, _, _, _, .nil, e => by simp at e
  | _, _, 0, _, .cons r _, e => by simp at e; subst e; exact ⟨_, rfl, r⟩
  | _, _, i + 1, x, .cons _ t, e => by
    obtain ⟨u, h1, h2⟩ := Vals.get (i := i) (x := x) t (by simpa using e)
    exact ⟨u, by simpa using h1, h2⟩
theorem Vals.set {x : V} {u : Value} (r : RelV x u) : ∀ {xs : List V} {us : List Value} (i : Nat), Vals xs us → Vals (xs.set i x) (us.set i u)
  | _, _, _, .nil => .nil
  | _, _, 0, .cons _ t => .cons r t
  | _, _, i + 1, .cons q t => .cons q (Vals.set r i t)
theorem Vals.append : ∀ {xs ys : List V} {us ws : List Value}, Vals xs us → Vals ys ws → Vals (xs ++ ys) (us ++ ws)
  | _, _, _, _, .nil, s => s
  | _, _, _, _, .cons r t, s => .cons r (Vals.append t s)
theorem Vals.take : ∀ {xs : List V} {us : List Value} (n : Nat), Vals xs us → Vals (xs.take n) (us.take n)
  | _, _, 0, _ => .nil
  | _, _, _ + 1, .nil => .nil
  | _, _, n + 1, .cons r t => .cons r (Vals.take n t)
theorem Vals.drop : ∀ {xs : List V} {us : List Value} (n : Nat), Vals xs us → Vals (xs.drop n) (us.drop n)
  | _, _, 0, r => r
  | _, _, _ + 1, .nil => .nil
  | _, _, n + 1, .cons _ t => Vals.drop n t
def RelO : Option V → Option Value → Prop
  | some v, some u => RelV v u
  | none, none => True
  | _, _ => False
def KV {κ : Type} : List (κ × V) → List (κ × Value) → Prop := Paired fun (p : κ × V) (q : κ × Value) => p.1 = q.1 ∧ RelV p.2 q.2
def kV : Key → V
  | .inl i => .int i
  | .inr x => .str x
inductive HO where
  /-- a list -/
  | lst (xs : List V)
  /-- a tuple (never changes) -/
  | tup (xs : List V)
  /-- a dict whose keys are ints and texts; one whose keys are tuples of ints and texts (the empty one is both) -/
  | dK (kvs : List (Key × V)) | dT (kvs : List (List Key × V))
  /-- a set of ints: its members, its size -/
  | set (S : Int → Bool) (n : Nat)
  /-- an instance of the class at C, its dict at dx, its attributes -/
  | ins (C dx : Addr) (fs : List (Str × V))
  /-- the dict of the instance at x -/
  | own (x : Addr)
  /-- the dict of an exception -/
  | xd (fs : List (Str × V))
  /-- a bound method, f of x -/
  | met (f x : Addr)
  /-- a range object lo, lo + 1, .. below hi -/
  | rng (lo hi : Int)
  /-- a thing that is known to the object (the script; a dict while a loop walks it): read, never written while it is so -/
  | frz (o : Obj) (u : HO)
  /-- a code object's table -/
  | tbl (ps : Array Value)
  /-- any other thing, by what is true of its one object (a def of one's own: SetO a S n := HO.ext fun h => ..) -/
  | ext (φ : Heap → Prop)
abbrev Hp := Addr → Option HO
def upd (H : Hp) (a : Addr) (o : HO) : Hp := fun b => if b = a then some o else H b
theorem upd_same {H : Hp} {a : Addr} {o : HO} : upd H a o a = some o := by unfold upd; rw [if_pos rfl]
theorem upd_ne {H : Hp} {a b : Addr} {o : HO} (h : b ≠ a) : upd H a o b = H b := by unfold upd; rw [if_neg h]
theorem ne_of {H : Hp} {a b : Addr} {o u : HO} (h : H a = some o) (h' : H b = some u) (d : o ≠ u) : a ≠ b := by
  intro e; subst e; rw [h] at h'; exact d (Option.some.inj h')
theorem ne_of_none {H : Hp} {a b : Addr} {o : HO} (h : H a = some o) (h' : H b = none) : a ≠ b := by
  intro e; subst e; rw [h] at h'; cases h'
section
variable (P : Program) (w : World)
def ObjOk (H : Hp) (h : Heap) (a : Addr) : HO → Prop
  | .lst xs => xs.length ≤ sizeLine ∧ ∃ (its : List Value) (n : Nat), Vals xs its ∧ h.get? a = some { cls := .type "list", data := .seq its.toArray n }
  | .tup xs => xs.length ≤ sizeLine ∧ ∃ its : List Value, Vals xs its ∧ IsTup h a its.toArray
  | .dK kvs => kvs.length ≤ sizeLine ∧ (a == sysModules) = false ∧ ∃ vs, KV kvs vs ∧ h.DictOf (mixKind P w) a vs
  | .dT kvs => kvs.length ≤ sizeLine ∧ (a == sysModules) = false ∧ ∃ xs : List (List Key × Addr × Value),
      Paired (fun (p : List Key × V) (q : List Key × Addr × Value) => p.1 = q.1 ∧ H q.2.1 = some (.tup (p.1.map kV)) ∧ RelV p.2 q.2.2) kvs xs ∧
      ∃ o es ep, h.get? a = some o ∧ o.ExactDict ∧ o.data = .dict es ep ∧ es.toList = xs.map (entryOfKey (tupleKind (mixKind P w))) ∧ (xs.map (·.1)).Nodup
  | .set S n => h.SetOf (intKind P w) a S n
  | .ins C dx fs => H dx = some (.own a) ∧ fs.length ≤ 1000 ∧ dx ≠ a ∧ h.get? a = some (PySem.W.instObj C dx) ∧
      ∃ mA, h.Ns1 dx mA ∧ (∀ f, RelO (fs.lookup f) (mA f)) ∧ PySem.Within mA (fs.map (·.1))
  | .own _ => ∃ o, h.get? a = some o
  | .xd fs => ∃ mA, h.Ns1 a mA ∧ ∀ f, RelO (fs.lookup f) (mA f)
  | .rng lo hi => ∃ t u v, h.get? a = some { cls := .type "range", data := .fields #[.int lo t, .int hi u, .int 1 v] }
  | .frz o u => h.get? a = some o ∧ ObjOk H h a u
  | .tbl ps => h.get? a = some { cls := .none, data := .fields ps }
  | .met f x => h.get? a = some (PySem.W.methodObj (.ref f) (.ref x))
  | .ext φ => φ h ∧ (∃ o, h.get? a = some o) ∧ ∀ h1 h2 : Heap, φ h1 → (∀ o, h1.get? a = some o → h2.get? a = some o) → φ h2
def HOk (H : Hp) (h : Heap) : Prop := ∀ a o, H a = some o → ObjOk P w H h a o
end
section
variable {P : Program} {w : World} {H H' : Hp} {h h' : Heap} {a : Addr} {o : HO}
theorem ObjOk.lt (x : ObjOk P w H h a o) : a < h.objs.size := by
  cases o with
  | lst xs => obtain ⟨_, _, _, _, e⟩ := x; exact Heap.lt_size e
  | tup xs => obtain ⟨_, _, _, p⟩ := x; exact p.lt
  | dK kvs => obtain ⟨_, _, _, _, o, _, _, e, _⟩ := x; exact Heap.lt_size e
  | dT kvs => obtain ⟨_, _, _, _, o, _, _, e, _⟩ := x; exact Heap.lt_size e
  | set S n => obtain ⟨o, _, _, _, e, _⟩ := x; exact Heap.lt_size e
  | ins C dx fs => obtain ⟨_, _, _, e, _⟩ := x; exact Heap.lt_size e
  | own y => obtain ⟨_, e⟩ := x; exact Heap.lt_size e
  | xd fs => obtain ⟨_, ⟨_, _, _, e, _⟩, _⟩ := x; exact Heap.lt_size e
  | rng lo hi => obtain ⟨_, _, _, e⟩ := x; exact Heap.lt_size e
  | frz ob u => obtain ⟨e, _⟩ := x; exact Heap.lt_size e
  | tbl ps => exact Heap.lt_size (show h.get? a = some _ from x)
  | met f y => exact Heap.lt_size (show h.get? a = some _ from x)
  | ext φ => obtain ⟨_, ⟨_, e⟩, _⟩ := x; exact Heap.lt_size e
theorem Paired.mapP {α β : Type} {F G : α → β → Prop} : ∀ {l₁ : List α} {l₂ : List β}, Paired F l₁ l₂ → (∀ a b, F a b → G a b) → Paired G l₁ l₂
  | _, _, .nil, _ => .nil
  | _, _, .cons r t, f => .cons (f _ _ r) (Paired.mapP t f)
theorem ObjOk.stay (x : ObjOk P w H h a o) (k : ∀ b u, (b = a ∨ H b = some (.own a)) → h.get? b = some u → h'.get? b = some u)
    (ho : ∀ b, H b = some (.own a) → H' b = some (.own a)) (ht : ∀ b xs, H b = some (.tup xs) → H' b = some (.tup xs)) : ObjOk P w H' h' a o := by
  induction o with
  | lst xs => obtain ⟨z, its, n, r, e⟩ := x; exact ⟨z, its, n, r, k _ _ (.inl rfl) e⟩
  | tup xs => obtain ⟨z, its, r, ob, e, c⟩ := x; exact ⟨z, its, r, ob, k _ _ (.inl rfl) e, c⟩
  | dK kvs => obtain ⟨z, y, vs, r, ob, es, ep, e, c⟩ := x; exact ⟨z, y, vs, r, ob, es, ep, k _ _ (.inl rfl) e, c⟩
  | dT kvs =>
    obtain ⟨z, y, xs, r, ob, es, ep, e, c⟩ := x
    exact ⟨z, y, xs, Paired.mapP r fun p q z => ⟨z.1, ht _ _ z.2.1, z.2.2⟩, ob, es, ep, k _ _ (.inl rfl) e, c⟩
  | set S n => obtain ⟨ob, es, ep, t, e, c⟩ := x; exact ⟨ob, es, ep, t, k _ _ (.inl rfl) e, c⟩
  | ins C dx fs =>
    obtain ⟨d, z, ne, e, mA, ⟨od, es, ep, e2, c⟩, r⟩ := x
    exact ⟨ho _ d, z, ne, k _ _ (.inl rfl) e, mA, ⟨od, es, ep, k _ _ (.inr d) e2, c⟩, r⟩
  | own y => obtain ⟨ob, e⟩ := x; exact ⟨ob, k _ _ (.inl rfl) e⟩
  | xd fs => obtain ⟨mA, ⟨od, es, ep, e, c⟩, r⟩ := x; exact ⟨mA, ⟨od, es, ep, k _ _ (.inl rfl) e, c⟩, r⟩
  | rng lo hi => obtain ⟨t, u, v, e⟩ := x; exact ⟨t, u, v, k _ _ (.inl rfl) e⟩
  | frz ob u ih => obtain ⟨e, q⟩ := x; exact ⟨k _ _ (.inl rfl) e, ih q⟩
  | tbl ps =>
    have e : h.get? a = some { cls := .none, data := .fields ps } := x
    show h'.get? a = some { cls := .none, data := .fields ps }
    exact k a _ (.inl rfl) e
  | met f y =>
    have e : h.get? a = some (PySem.W.methodObj (.ref f) (.ref y)) := x
    show h'.get? a = some (PySem.W.methodObj (.ref f) (.ref y))
    exact k a _ (.inl rfl) e
  | ext φ => obtain ⟨p, ⟨o, e⟩, st⟩ := x; exact ⟨st _ _ p fun o q => k _ _ (.inl rfl) q, ⟨o, k _ _ (.inl rfl) e⟩, st⟩
theorem HOk.lt (x : HOk P w H h) (e : H a = some o) : a < h.objs.size := (x a o e).lt
theorem HOk.fresh (x : HOk P w H h) (e : h.objs.size ≤ a) : H a = none := by
  cases q : H a with
  | none => rfl
  | some u => exact absurd (Nat.lt_of_lt_of_le (x.lt q) e) (Nat.lt_irrefl _)
theorem HOk.kept (x : HOk P w H h) (k : ∀ b u, h.get? b = some u → h'.get? b = some u) : HOk P w H h' := fun a o e =>
  (x a o e).stay (fun b u _ q => k b u q) (fun _ q => q) fun _ _ q => q
theorem HOk.laid (x : HOk P w H h) (k : ∀ b u, h.get? b = some u → h'.get? b = some u) (hp : h.objs.size ≤ a) (new : ObjOk P w (upd H a o) h' a o) : HOk P w (upd H a o) h' := fun b u e => by
  have hn := x.fresh hp
  by_cases hb : b = a
  · subst hb; rw [upd_same] at e; cases e; exact new
  · rw [upd_ne hb] at e
    exact (x b u e).stay (fun c v _ q => k c v q) (fun c q => by rw [upd_ne (ne_of_none q hn)]; exact q) fun c xs q => by rw [upd_ne (ne_of_none q hn)]; exact q
end
def Rd (H : Hp) (a : Addr) (u : HO) : Prop := H a = some u ∨ ∃ o, H a = some (.frz o u)
theorem Rd.of {H : Hp} {a : Addr} {u : HO} (h : H a = some u) : Rd H a u := .inl h
theorem Rd.ok {P : Program} {w : World} {H : Hp} {h : Heap} {a : Addr} {u : HO} (r : Rd H a u) (x : HOk P w H h) : ObjOk P w H h a u := by
  rcases r with r | ⟨o, r⟩
  · exact x a u r
  · obtain ⟨_, q⟩ := x a _ r
    exact q
def Mut : Option HO → Prop
  | some (.lst _) => True
  | some (.dK _) => True
  | some (.dT _) => True
  | some (.set _ _) => True
  | some (.ins _ _ _) => True
  | some (.ext _) => True
  | _ => False
section
variable {P : Program} {w : World} {H : Hp} {h h' : Heap} {x e : Addr} {o' : HO}
theorem HOk.write (ok : HOk P w H h) (mu : Mut (H x)) (he : e = x ∨ H e = some (.own x)) (k : ∀ b u, b ≠ e → h.get? b = some u → h'.get? b = some u) (heo : ∃ u, h'.get? e = some u)
    (new : ObjOk P w (upd H x o') h' x o') : HOk P w (upd H x o') h' := fun b u q => by
  have nown : ∀ c y, H c = some (.own y) → c ≠ x := fun c y r z => by subst z; rw [r] at mu; exact mu
  have ntup : ∀ c xs, H c = some (.tup xs) → c ≠ x := fun c xs r z => by subst z; rw [r] at mu; exact mu
  by_cases hb : b = x
  · subst hb; rw [upd_same] at q; cases q; exact new
  · rw [upd_ne hb] at q
    by_cases hbe : b = e
    · have q' : H b = some (.own x) := by
        rcases he with z | z
        · exact absurd (hbe.trans z) hb
        · rw [hbe]; exact z
      rw [q] at q'; cases q'
      obtain ⟨v, hv⟩ := heo
      exact ⟨v, by rw [hbe]; exact hv⟩
    · refine (ok b u q).stay (fun c v hc r => k c v ?_ r) (fun c r => by rw [upd_ne (nown c b r)]; exact r) fun c xs r => by rw [upd_ne (ntup c xs r)]; exact r
      rcases hc with rfl | hc
      · exact hbe
      · rintro rfl
        rcases he with z | z
        · exact nown c b hc z
        · rw [hc] at z; cases z; exact hb rfl
end
structure Un (fs ex : List Addr) (H H' : Hp) (h h' : Heap) : Prop where
  keep : ∀ b o, h.get? b = some o → H b = none → b ∉ fs → b ∉ ex → h'.get? b = some o
  slot : ∀ b o, h.get? b = some o → H b = none → b ∈ fs → b ∉ ex → ∃ sl, h'.get? b = some { o with slots := sl }
  free : ∀ b o, h.get? b = some o → H b = none → b ∉ ex → H' b = none
  there : ∀ b o, h.get? b = some o → b ∉ ex → ∃ o', h'.get? b = some o'
  tups : ∀ b xs, H b = some (.tup xs) → H' b = some (.tup xs)
  frzs : ∀ b o u, H b = some (.frz o u) → H' b = some (.frz o u)
  tbls : ∀ b ps, H b = some (.tbl ps) → ∃ more, H' b = some (.tbl (ps ++ more))
section
variable {fs fs' ex ex' : List Addr} {H H1 H2 : Hp} {h h1 h2 h' : Heap} {a x e : Addr} {o : HO}
theorem Un.any (u : Un fs ex H H1 h h1) {b : Addr} {ob : Obj} (q : h.get? b = some ob) (n : H b = none) (hx : b ∉ ex) : ∃ sl, h1.get? b = some { ob with slots := sl } := by
  by_cases hb : b ∈ fs
  · exact u.slot b ob q n hb hx
  · exact ⟨ob.slots, u.keep b ob q n hb hx⟩
theorem Un.trans (a : Un fs ex H H1 h h1) (b : Un fs ex H1 H2 h1 h2) : Un fs ex H H2 h h2 where
  keep := fun c ob q n hc hx => b.keep c ob (a.keep c ob q n hc hx) (a.free c ob q n hx) hc hx
  slot := fun c ob q n hc hx => by
    obtain ⟨sl, e1⟩ := a.slot c ob q n hc hx
    obtain ⟨sl', e2⟩ := b.slot c _ e1 (a.free c ob q n hx) hc hx
    exact ⟨sl', e2⟩
  free := fun c ob q n hx => by
    obtain ⟨o', e1⟩ := a.there c ob q hx
    exact b.free c o' e1 (a.free c ob q n hx) hx
  there := fun c ob q hx => by
    obtain ⟨o', e1⟩ := a.there c ob q hx
    exact b.there c o' e1 hx
  tups := fun c xs q => b.tups c xs (a.tups c xs q)
  frzs := fun c ob xs q => b.frzs c ob xs (a.frzs c ob xs q)
  tbls := fun c ps q => by
    obtain ⟨m1, e1⟩ := a.tbls c ps q
    obtain ⟨m2, e2⟩ := b.tbls c _ e1
    exact ⟨m1 ++ m2, by rw [e2, Array.append_assoc]⟩
theorem Un.kept (k : ∀ b u, h.get? b = some u → h'.get? b = some u) : Un fs ex H H h h' :=
  ⟨fun b ob q _ _ _ => k b ob q, fun b ob q _ _ _ => ⟨ob.slots, k b ob q⟩, fun _ _ _ n _ => n, fun b ob q _ => ⟨ob, k b ob q⟩, fun _ _ q => q, fun _ _ _ q => q, fun _ ps q => ⟨#[], by rw [q]; simp⟩⟩
theorem Un.refl : Un fs ex H H h h := Un.kept fun _ _ q => q
theorem Un.laid (k : ∀ b u, h.get? b = some u → h'.get? b = some u) (hp : h.objs.size ≤ a) (hn : H a = none) : Un fs ex H (upd H a o) h h' where
  keep := fun b u q _ _ _ => k b u q
  slot := fun b u q _ _ _ => ⟨u.slots, k b u q⟩
  free := fun b u q n _ => by rw [upd_ne (Nat.ne_of_lt (Nat.lt_of_lt_of_le (Heap.lt_size q) hp))]; exact n
  there := fun b u q _ => ⟨u, k b u q⟩
  tups := fun b xs q => by rw [upd_ne (ne_of_none q hn)]; exact q
  frzs := fun b u xs q => by rw [upd_ne (ne_of_none q hn)]; exact q
  tbls := fun b ps q => ⟨#[], by rw [upd_ne (ne_of_none q hn), q]; simp⟩
theorem Un.write (mu : Mut (H x)) (he : e = x ∨ H e = some (.own x)) (k : ∀ b u, b ≠ e → h.get? b = some u → h'.get? b = some u) (heo : ∃ u, h'.get? e = some u) : Un fs ex H (upd H x o) h h' := by
  have hx : ∀ b, H b = none → b ≠ x := fun b n z => by subst z; rw [n] at mu; exact mu
  have hb : ∀ b, H b = none → b ≠ e := fun b n z => by
    subst z
    rcases he with r | r
    · exact hx b n r
    · rw [n] at r; cases r
  have hm : ∀ b u, H b = some u → ¬ Mut (some u) → b ≠ x := fun b u q nm z => by subst z; rw [q] at mu; exact nm mu
  refine ⟨fun b u q n _ _ => k b u (hb b n) q, fun b u q n _ _ => ⟨u.slots, k b u (hb b n) q⟩, fun b u q n _ => by rw [upd_ne (hx b n)]; exact n, fun b u q _ => ?_,
    fun b xs q => by rw [upd_ne (hm b _ q fun z => z)]; exact q, fun b u xs q => by rw [upd_ne (hm b _ q fun z => z)]; exact q, fun b ps q => ⟨#[], by rw [upd_ne (hm b _ q fun z => z), q]; simp⟩⟩
  by_cases hbe : b = e
  · subst hbe; exact heo
  · exact ⟨u, k b u hbe q⟩
theorem Un.mono (u : Un fs ex H H1 h h1) (hs : ∀ b ∈ fs, b ∈ fs') (hx : ∀ b ∈ ex, b ∈ ex') : Un fs' ex' H H1 h h1 :=
  ⟨fun b ob q n hb he => u.keep b ob q n (fun z => hb (hs b z)) fun z => he (hx b z), fun _ _ q n _ he => u.any q n fun z => he (hx _ z), fun b ob q n he => u.free b ob q n fun z => he (hx b z), fun b ob q he => u.there b ob q fun z => he (hx b z), u.tups, u.frzs, u.tbls⟩
end
def trk (h : Heap) (H : Hp) : List Addr := (List.range h.objs.size).filter fun a => (H a).isSome
def hidT (h : Heap) (H : Hp) : Heap := PySem.W.hideAll h (trk h H)
theorem hidT_size (h : Heap) (H : Hp) : (hidT h H).objs.size = h.objs.size := PySem.W.hideAll_size _ _
theorem hidT_get {h : Heap} {H : Hp} {b : Addr} {o : Obj} (e : h.get? b = some o) (n : H b = none) : (hidT h H).get? b = some o :=
  PySem.W.hideAll_get _ e fun hm => by
    have q : (H b).isSome = true := (List.mem_filter.mp hm).2
    rw [n] at q; simp at q
theorem of_hidT {h : Heap} {H : Hp} {b : Addr} {o : Obj} (e : (hidT h H).get? b = some o) : h.get? b = some o ∧ H b = none := by
  have e' : h.get? b = some o := PySem.W.of_hideAll (trk h H) e
  refine ⟨e', ?_⟩
  cases q : H b with
  | none => rfl
  | some x =>
    have hm : b ∈ trk h H := List.mem_filter.mpr ⟨List.mem_range.mpr (Heap.lt_size e'), by simp [q]⟩
    have z : (hidT h H).get? b = none := PySem.W.hideAll_none (trk h H) hm
    rw [z] at e; cases e
def allNews (g h : Heap) (L : Addr) : List (Addr × Obj) := (List.range h.objs.size).filterMap fun a => if a = L ∨ (g.get? a).isSome = true then none else (h.get? a).map fun o => (a, o)
def rest (g h : Heap) (L d : Addr) : List (Addr × Obj) := (allNews g h L).filter fun p => decide (p.1 ≠ d)
end L2
namespace L2
open PySem PySem.Spec PyProof.Rows
structure Mod (K : PySem.W.Frag) (mg : Str → Option Value) (base : Heap) : Prop where
  kin : K.In base
  glob : base.Ns mainGlobals mg
  blt : ∃ mb, base.Ns builtinsNs mb ∧ ∀ x : Str, x ≠ "__name__" → mb x = bootBuiltins x
  nolimit : base.NoLimit
structure Cx where
  prog : Program
  w : World
  K : PySem.W.Frag
  mg : Str → Option Value
  base : Heap
  A : Around
  N : List Str
  s₀ : Shared
  H₀ : Hp
  env : Env
  outer : List Env
  stack : List Env
  ex : List Addr
  fn : Str → Bool
  calm : Bool
  pn : List (Addr × Obj)
  xe : Value → Shared → Prop
def frs (l : List Env) : List Addr := l.filterMap (·.frame)
abbrev Cx.fs (X : Cx) : List Addr := frs X.outer
def Vis (sc : Scope) (x : Str) : Prop := sc.names.lookup x = some .local ∨ sc.names.lookup x = some .cell ∨ sc.names.lookup x = some .free
def Loc (sc : Scope) (x : Str) : Prop := sc.names.lookup x = some .local ∨ sc.names.lookup x = some .cell
def Look (env : Env) (h : Heap) (m : Str → Option Value) (x : Str) (u : Value) : Prop :=
  (env.kindOf x = some .local ∧ m x = some u) ∨ ((env.kindOf x = some .cell ∨ env.kindOf x = some .free) ∧ ∃ c, env.cells.lookup x = some c ∧ h.IsCell c (some u))
structure Cx.Ok (X : Cx) : Prop where
  mod : Mod X.K X.mg X.base
  kind : X.env.scope.kind = .function
  glob : X.env.globals = mainGlobals
  blt : X.env.builtins = builtinsNs
  above : X.s₀.heap.objs.size ≤ X.env.locals
  inj : ∀ x y c, X.env.cells.lookup x = some c → X.env.cells.lookup y = some c → x = y
  has : ∀ x, (X.env.kindOf x = some .cell ∨ X.env.kindOf x = some .free) → ∃ c, X.env.cells.lookup x = some c
  cab : ∀ x c, X.fn x = true → X.env.cells.lookup x = some c → X.s₀.heap.objs.size ≤ c
  hd : X.calm = true → X.A.handled = none
  frames : X.A.frames = some X.stack
  stk : X.stack = X.outer ∨ (X.stack = X.env :: X.outer ∧ X.env.frame = some X.env.locals)
  exf : ∀ b ∈ X.ex, b ≠ X.env.locals ∧ ∀ x c, X.env.cells.lookup x = some c → c ≠ b
  bs : ∀ b o, X.base.get? b = some o → X.s₀.heap.get? b = some o ∧ X.H₀ b = none
  bsz : X.base.objs.size ≤ X.s₀.heap.objs.size
  noex : ∀ b o, X.base.get? b = some o → b ∉ X.ex
  exfs : ∀ b ∈ X.ex, b ∉ X.fs
  funs : X.s₀.heap.FunFrames X.base X.outer
  frf : ∀ b ∈ X.fs, X.H₀ b = none
structure Inv (X : Cx) (pins : List (Addr × Obj)) (σ : List (Option V)) (H : Hp) (s : Shared) : Prop where
  ok : X.Ok
  os : s.os = X.s₀.os
  bare : AllBare s.gens
  base : Un X.fs X.ex X.H₀ H X.s₀.heap s.heap
  loc : ∃ m, s.heap.Ns X.env.locals m ∧ ∀ (i : Nat) (x : Str) (v : V), X.N[i]? = some x → σ[i]? = some (some v) → Vis X.env.scope x → ∃ u, RelV v u ∧ Look X.env s.heap m x u
  cell : ∀ x c, X.env.cells.lookup x = some c → ∃ v, s.heap.IsCell c v
  free : H X.env.locals = none
  freeC : ∀ x c, X.env.cells.lookup x = some c → H c = none
  pin : ∀ p ∈ X.pn ++ pins, s.heap.get? p.1 = some p.2 ∧ H p.1 = none ∧ p.1 ≠ X.env.locals ∧ p.1 ∉ X.fs ∧ ∀ v, p.2.data ≠ .cell v
  hok : HOk X.prog X.w H s.heap
  len : σ.length = X.N.length
section
variable {X : Cx} {pins : List (Addr × Obj)} {σ : List (Option V)} {H H' : Hp} {s : Shared} {h' : Heap}
theorem Cx.Ok.nofr (ok : X.Ok) {b : Addr} {o : Obj} (e : X.base.get? b = some o) : b ∉ X.fs := fun hb => by
  have := (ok.funs.mem hb).1
  rw [e] at this; cases this
theorem Inv.bs (I : Inv X pins σ H s) : ∀ b o, X.base.get? b = some o → s.heap.get? b = some o ∧ H b = none := fun b o e =>
  ⟨I.base.keep b o (I.ok.bs b o e).1 (I.ok.bs b o e).2 (I.ok.nofr e) (I.ok.noex b o e), I.base.free b o (I.ok.bs b o e).1 (I.ok.bs b o e).2 (I.ok.noex b o e)⟩
theorem Inv.bk (I : Inv X pins σ H s) : ∀ b o, X.base.get? b = some o → s.heap.get? b = some o := fun b o e => (I.bs b o e).1
theorem Inv.mod (I : Inv X pins σ H s) : Mod X.K X.mg X.base := I.ok.mod
theorem Inv.kIn (I : Inv X pins σ H s) : X.K.In s.heap := I.ok.mod.kin.keeps I.bk
theorem Inv.nolimit (I : Inv X pins σ H s) : s.heap.NoLimit := I.ok.mod.nolimit.keeps I.bk
theorem Inv.fr (I : Inv X pins σ H s) : ∃ m, Fr X.base X.env.locals s.heap m :=
  let ⟨m, hn, _⟩ := I.loc
  ⟨m, hn, I.bk, Nat.le_trans I.ok.bsz I.ok.above⟩
theorem Inv.lt (I : Inv X pins σ H s) : X.env.locals < s.heap.objs.size := let ⟨_, hn, _⟩ := I.loc; hn.lt
theorem Inv.sz (I : Inv X pins σ H s) : X.s₀.heap.objs.size ≤ s.heap.objs.size := Nat.le_trans I.ok.above (Nat.le_of_lt I.lt)
theorem Inv.nofs (I : Inv X pins σ H s) {a : Addr} (h : s.heap.objs.size ≤ a) : a ∉ X.fs := fun hb => by
  obtain ⟨_, o, ho, _⟩ := I.ok.funs.mem hb
  exact absurd (Nat.lt_of_lt_of_le (Heap.lt_size ho) (Nat.le_trans I.sz h)) (Nat.lt_irrefl _)
theorem Inv.cne (I : Inv X pins σ H s) : ∀ x c, X.env.cells.lookup x = some c → c ≠ X.env.locals := fun x c e z => by
  obtain ⟨v, o, ho, hd⟩ := I.cell x c e
  obtain ⟨m, ⟨o', es, ep, ho', hd', _⟩, _⟩ := I.loc
  rw [z, ho'] at ho; cases ho; rw [hd'] at hd; cases hd
theorem Inv.funs (I : Inv X pins σ H s) : s.heap.FunFrames X.base X.outer := by
  have all : ∀ (l : List Env), (∀ b ∈ frs l, b ∈ X.fs) → X.s₀.heap.FunFrames X.base l → s.heap.FunFrames X.base l := by
    intro l
    induction l with
    | nil => intro _ _; trivial
    | cons env r ih =>
      intro hs hl
      obtain ⟨hk, ⟨L, o, hf, hn, ho, hd⟩, hr⟩ := hl
      have hL : L ∈ X.fs := hs L (by unfold frs; rw [List.filterMap_cons, hf]; exact List.mem_cons_self)
      obtain ⟨sl, e⟩ := I.base.slot L o ho (I.ok.frf L hL) hL fun z => I.ok.exfs L z hL
      exact ⟨hk, ⟨L, _, hf, hn, e, hd⟩, ih (fun b hb => hs b (by unfold frs; rw [List.filterMap_cons, hf]; exact List.mem_cons_of_mem _ hb)) hr⟩
  exact all X.outer (fun _ hb => hb) I.ok.funs
theorem Inv.stack (I : Inv X pins σ H s) : s.heap.FunFrames X.base X.stack := by
  rcases I.ok.stk with e | ⟨e, hf⟩
  · rw [e]; exact I.funs
  · rw [e]
    obtain ⟨m, hn, _⟩ := I.loc
    refine .cons (by rw [I.ok.kind]; decide) hf hn ?_ I.funs
    exact Heap.get?_none_of_le (Nat.le_trans I.ok.bsz I.ok.above)
theorem Inv.stkSub (I : Inv X pins σ H s) : ∀ b ∈ frs X.stack, b ∈ X.env.locals :: X.fs := fun b hb => by
  rcases I.ok.stk with e | ⟨e, hf⟩
  · rw [e] at hb; exact List.mem_cons_of_mem _ hb
  · rw [e] at hb
    unfold frs at hb
    rw [List.filterMap_cons, hf] at hb
    exact hb
theorem Inv.stkFree (I : Inv X pins σ H s) : ∀ b ∈ frs X.stack, H b = none := fun b hb => by
  rcases List.mem_cons.mp (I.stkSub b hb) with e | hb
  · rw [e]; exact I.free
  · obtain ⟨_, o, ho, _⟩ := I.ok.funs.mem hb
    exact I.base.free b o ho (I.ok.frf b hb) fun z => I.ok.exfs b z hb
theorem Inv.step {g' : Array GenState} {t' : Nat} {d' : Drawn} {ch : List Addr} (I : Inv X pins σ H s)
    (hch : ∀ b ∈ ch, (b ∈ X.ex ∨ X.s₀.heap.objs.size ≤ b) ∧ b ≠ X.env.locals ∧ (∀ x c, X.env.cells.lookup x = some c → c ≠ b) ∧ ∀ p ∈ X.pn ++ pins, p.1 ≠ b)
    (keep : ∀ b o, b ≠ X.env.locals → b ∉ X.fs → b ∉ ch → s.heap.get? b = some o → H b = none → h'.get? b = some o)
    (slot : ∀ b o, b ≠ X.env.locals → b ∈ X.fs → b ∉ ch → s.heap.get? b = some o → H b = none → ∃ sl, h'.get? b = some { o with slots := sl }) (free : ∀ b o, b ∉ ch → s.heap.get? b = some o → H b = none → H' b = none)
    (there : ∀ b o, b ∉ ch → s.heap.get? b = some o → ∃ o', h'.get? b = some o')
    (tups : ∀ b xs, H b = some (.tup xs) → H' b = some (.tup xs)) (frzs : ∀ b o u, H b = some (.frz o u) → H' b = some (.frz o u)) (tbls : ∀ b ps, H b = some (.tbl ps) → ∃ more, H' b = some (.tbl (ps ++ more)))
    (ns : ∀ m, s.heap.Ns X.env.locals m → h'.Ns X.env.locals m) (hok : HOk X.prog X.w H' h') (hg : AllBare g') :
    Inv X pins σ H' { s with heap := h', gens := g', drawn := d', toks := t' } := by
  have neL : ∀ b o, X.s₀.heap.get? b = some o → b ≠ X.env.locals := fun b o e => Nat.ne_of_lt (Nat.lt_of_lt_of_le (Heap.lt_size e) I.ok.above)
  have neC : ∀ b o, X.s₀.heap.get? b = some o → b ∉ X.ex → b ∉ ch := fun b o e hx hb => by
    rcases (hch b hb).1 with z | z
    · exact hx z
    · exact absurd (Nat.lt_of_lt_of_le (Heap.lt_size e) z) (Nat.lt_irrefl _)
  have cellK : ∀ x c, X.env.cells.lookup x = some c → ∀ v, s.heap.IsCell c v → h'.IsCell c v := fun x c e v ⟨o, ho, hd⟩ => by
    have nch : c ∉ ch := fun z => (hch c z).2.2.1 x c e rfl
    by_cases hc : c ∈ X.fs
    · obtain ⟨sl, q⟩ := slot c o (I.cne x c e) hc nch ho (I.freeC x c e)
      exact ⟨_, q, hd⟩
    · exact ⟨o, keep c o (I.cne x c e) hc nch ho (I.freeC x c e), hd⟩
  refine ⟨I.ok, I.os, hg, ⟨fun b o e n hb hx => ?_, fun b o e n hb hx => ?_, fun b o e n hx => ?_, fun b o e hx => ?_, fun b xs e => tups b xs (I.base.tups b xs e), fun b o xs e => frzs b o xs (I.base.frzs b o xs e), fun b ps e => ?_⟩, ?_, fun x c e => ?_, ?_, fun x c e => ?_, fun p hp => ?_, hok, I.len⟩
  · exact keep b o (neL b o e) hb (neC b o e hx) (I.base.keep b o e n hb hx) (I.base.free b o e n hx)
  · obtain ⟨sl, e1⟩ := I.base.slot b o e n hb hx
    obtain ⟨sl', e2⟩ := slot b _ (neL b o e) hb (neC b o e hx) e1 (I.base.free b o e n hx)
    exact ⟨sl', e2⟩
  · obtain ⟨o', e1⟩ := I.base.there b o e hx
    exact free b o' (neC b o e hx) e1 (I.base.free b o e n hx)
  · obtain ⟨o', e1⟩ := I.base.there b o e hx
    exact there b o' (neC b o e hx) e1
  · obtain ⟨m1, e1⟩ := I.base.tbls b ps e
    obtain ⟨m2, e2⟩ := tbls b _ e1
    exact ⟨m1 ++ m2, by rw [e2, Array.append_assoc]⟩
  · obtain ⟨m, hn, hl⟩ := I.loc
    refine ⟨m, ns m hn, fun i x v e1 e2 e3 => ?_⟩
    obtain ⟨u, r, l⟩ := hl i x v e1 e2 e3
    refine ⟨u, r, ?_⟩
    rcases l with l | ⟨k, c, e, z⟩
    · exact .inl l
    · exact .inr ⟨k, c, e, cellK x c e _ z⟩
  · obtain ⟨v, z⟩ := I.cell x c e
    exact ⟨v, cellK x c e v z⟩
  · obtain ⟨m, ⟨o, _, _, ho, _⟩, _⟩ := I.loc
    exact free _ o (fun z => (hch _ z).2.1 rfl) ho I.free
  · obtain ⟨v, o, ho, hd⟩ := I.cell x c e
    exact free c o (fun z => (hch c z).2.2.1 x c e rfl) ho (I.freeC x c e)
  · obtain ⟨e, n, ne, nf, d⟩ := I.pin p hp
    have nch : p.1 ∉ ch := fun z => (hch p.1 z).2.2.2 p hp rfl
    exact ⟨keep p.1 p.2 ne nf nch e n, free p.1 p.2 nch e n, ne, nf, d⟩
theorem Inv.un {t' : Nat} (I : Inv X pins σ H s) (u : Un X.fs [] H H' s.heap h') (hok : HOk X.prog X.w H' h') : Inv X pins σ H' { s with heap := h', toks := t' } := by
  obtain ⟨m, ⟨o, es, ep, ho, r⟩, _⟩ := id I.loc
  obtain ⟨sl, hL⟩ := u.any ho I.free (by simp)
  exact I.step (g' := s.gens) (d' := s.drawn) (ch := []) (fun _ z => nomatch z) (fun b o _ hb _ e n => u.keep b o e n hb (by simp)) (fun b o _ hb _ e n => u.slot b o e n hb (by simp)) (fun b o _ e n => u.free b o e n (by simp)) (fun b o _ e => u.there b o e (by simp)) u.tups u.frzs u.tbls (fun m' hm => by
    obtain ⟨o', es', ep', ho', r'⟩ := hm
    rw [ho] at ho'; cases ho'
    exact ⟨_, es', ep', hL, r'⟩) hok I.bare
theorem Inv.call {g' : Array GenState} {t' : Nat} {d' : Drawn} {ch : List Addr} (I : Inv X pins σ H s) (u : Un (frs X.stack) ch H H' s.heap h') (hok : HOk X.prog X.w H' h') (hg : AllBare g')
    (hch : ∀ b ∈ ch, (b ∈ X.ex ∨ X.s₀.heap.objs.size ≤ b) ∧ b ≠ X.env.locals ∧ (∀ x c, X.env.cells.lookup x = some c → c ≠ b) ∧ ∀ p ∈ X.pn ++ pins, p.1 ≠ b) :
    Inv X pins σ H' { s with heap := h', gens := g', drawn := d', toks := t' } := by
  obtain ⟨m, ⟨o, es, ep, ho, r⟩, _⟩ := id I.loc
  obtain ⟨sl, hL⟩ := u.any ho I.free fun z => (hch _ z).2.1 rfl
  exact I.step (ch := ch) hch (fun b o hL hb hc e n => u.keep b o e n (fun z => (List.mem_cons.mp (I.stkSub b z)).elim hL hb) hc) (fun b o _ _ hc e n => u.any e n hc) (fun b o hc e n => u.free b o e n hc) (fun b o hc e => u.there b o e hc) u.tups u.frzs u.tbls (fun m' hm => by
    obtain ⟨o', es', ep', ho', r'⟩ := hm
    rw [ho] at ho'; cases ho'
    exact ⟨_, es', ep', hL, r'⟩) hok hg
theorem Inv.turned {t' : Nat} {it : Addr} (I : Inv X pins σ H s) (k : ∀ b o, b ≠ it → s.heap.get? b = some o → h'.get? b = some o) (hn : H it = none) (hL : it ≠ X.env.locals)
    (h1 : it ∈ X.ex ∨ X.s₀.heap.objs.size ≤ it) (h2 : ∀ x c, X.env.cells.lookup x = some c → c ≠ it) (h3 : ∀ p ∈ X.pn ++ pins, p.1 ≠ it) : Inv X pins σ H { s with heap := h', toks := t' } := by
  have nit : ∀ b u, H b = some u → b ≠ it := fun b u e z => by rw [z, hn] at e; cases e
  refine I.step (g' := s.gens) (d' := s.drawn) (ch := [it]) (fun b hb => ?_) (fun b o _ _ hc e _ => k b o (fun z => hc (by simp [z])) e) (fun b o _ _ hc e _ => ⟨o.slots, k b o (fun z => hc (by simp [z])) e⟩) (fun _ _ _ _ n => n)
    (fun b o hc e => ⟨o, k b o (fun z => hc (by simp [z])) e⟩) (fun _ _ e => e) (fun _ _ _ e => e) (fun b ps e => ⟨#[], by rw [e]; simp⟩) (fun m hm => ?_) (fun b u e => ?_) I.bare
  · have e : b = it := by simpa using hb
    subst e
    exact ⟨h1, hL, h2, h3⟩
  · obtain ⟨o, es, ep, ho, r⟩ := hm
    exact ⟨o, es, ep, k _ o (Ne.symm hL) ho, r⟩
  · refine (I.hok b u e).stay (fun c v hc q => k c v ?_ q) (fun _ q => q) fun _ _ q => q
    rcases hc with z | z
    · rw [z]; exact nit b u e
    · exact nit c _ z
theorem Inv.tok (I : Inv X pins σ H s) (t : Nat) : Inv X pins σ H { s with toks := t } := I.un (h' := s.heap) (t' := t) Un.refl I.hok
theorem Inv.kept {t' : Nat} (I : Inv X pins σ H s) (k : ∀ b u, s.heap.get? b = some u → h'.get? b = some u) : Inv X pins σ H { s with heap := h', toks := t' } := I.un (Un.kept k) (I.hok.kept k)
theorem Inv.laid {a : Addr} {o : HO} {t' : Nat} (I : Inv X pins σ H s) (k : ∀ b u, s.heap.get? b = some u → h'.get? b = some u) (hp : s.heap.objs.size ≤ a) (new : ObjOk X.prog X.w (upd H a o) h' a o) :
    Inv X pins σ (upd H a o) { s with heap := h', toks := t' } := I.un (Un.laid k hp (I.hok.fresh hp)) (I.hok.laid k hp new)
theorem Inv.write {x e : Addr} {o : HO} {t' : Nat} (I : Inv X pins σ H s) (mu : Mut (H x)) (he : e = x ∨ H e = some (.own x)) (k : ∀ b u, b ≠ e → s.heap.get? b = some u → h'.get? b = some u) (heo : ∃ u, h'.get? e = some u)
    (new : ObjOk X.prog X.w (upd H x o) h' x o) : Inv X pins σ (upd H x o) { s with heap := h', toks := t' } := I.un (Un.write mu he k heo) (I.hok.write mu he k heo new)
theorem Inv.weak {σ' : List (Option V)} (I : Inv X pins σ H s) (hl : σ'.length = σ.length) (w : ∀ (i : Nat) v, σ'[i]? = some (some v) → σ[i]? = some (some v)) : Inv X pins σ' H s :=
  ⟨I.ok, I.os, I.bare, I.base, let ⟨m, hn, hl'⟩ := I.loc; ⟨m, hn, fun i x v e1 e2 e3 => hl' i x v e1 (w i v e2) e3⟩, I.cell, I.free, I.freeC, I.pin, I.hok, hl.trans I.len⟩
theorem Inv.pins_of {pins' : List (Addr × Obj)} (I : Inv X pins σ H s) (h : ∀ p ∈ pins', s.heap.get? p.1 = some p.2 ∧ H p.1 = none ∧ p.1 ≠ X.env.locals ∧ p.1 ∉ X.fs ∧ ∀ v, p.2.data ≠ .cell v) : Inv X pins' σ H s :=
  ⟨I.ok, I.os, I.bare, I.base, I.loc, I.cell, I.free, I.freeC, fun p hp => (List.mem_append.mp hp).elim (fun z => I.pin p (List.mem_append_left _ z)) (h p), I.hok, I.len⟩
theorem nodup_ix {N : List Str} (hN : N.Nodup) {i j : Nat} {x : Str} (a : N[i]? = some x) (b : N[j]? = some x) : i = j := by
  obtain ⟨h1, e1⟩ := List.getElem?_eq_some_iff.mp a
  obtain ⟨h2, e2⟩ := List.getElem?_eq_some_iff.mp b
  exact (List.getElem_inj hN).mp (e1.trans e2.symm)
theorem store_ok2 {M : Model} {A : Around} {E : Value → Shared → Prop} {i : Nat} {x : Str} {v : V} {u : Value} {Q : Unit → Shared → Prop} (I : Inv X pins σ H s) (hN : X.N.Nodup) (hi : X.N[i]? = some x) (hx : Loc X.env.scope x) (r : RelV v u)
    (h : ∀ s', Inv X pins (σ.set i (some v)) H s' → (∃ a, Heap.SameBut a s.heap s'.heap ∧ (a = X.env.locals ∨ X.env.cells.lookup x = some a)) → Q () s') (hf : X.fn x = true ∨ X.env.scope.names.lookup x = some .local := by first | exact .inl rfl | exact .inr rfl | assumption) : wpAny M A (storeName X.env x u) Q E s := by
  obtain ⟨m, hn, hl⟩ := id I.loc
  have hcls : (X.env.scope.kind == .class || (X.env.scope.kind == .module && X.env.locals != X.env.globals)) = false := by rw [I.ok.kind]; rfl
  have hiσ : i < σ.length := by rw [I.len]; exact (List.getElem?_eq_some_iff.mp hi).1
  have cne := I.cne
  have tracked : ∀ {a : Addr} {h' : Heap}, (∃ o, s.heap.get? a = some o ∧ H a = none) → Heap.SameBut a s.heap h' → HOk X.prog X.w H h' := fun {a h'} ha hs b ob e => by
    obtain ⟨_, _, hfree⟩ := ha
    refine (I.hok b ob e).stay (fun c w' hc q => (hs.2 c ?_).trans q) (fun _ q => q) fun _ _ q => q
    rintro rfl
    rcases hc with rfl | hc
    · rw [hfree] at e; cases e
    · rw [hfree] at hc; cases hc
  rcases hx with hk | hk
  · refine wpAny_storeName_local hk hn (fun h' hn' hs => ?_) hcls
    obtain ⟨oL, _, _, hoL, _⟩ := id hn
    refine h _ ⟨I.ok, I.os, I.bare, ⟨fun b o e n hb hx => ?_, fun b o e n hb hx => ?_, I.base.free, fun b o e hx => ?_, I.base.tups, I.base.frzs, I.base.tbls⟩, ⟨_, hn', fun j y v' e1 e2 e3 => ?_⟩, fun y c e => ?_, I.free, I.freeC, fun p hp => ?_, tracked ⟨oL, hoL, I.free⟩ hs, by simpa using I.len⟩ ⟨_, hs, .inl rfl⟩
    · exact (hs.2 b (Nat.ne_of_lt (Nat.lt_of_lt_of_le (Heap.lt_size e) I.ok.above))).trans (I.base.keep b o e n hb hx)
    · obtain ⟨sl, e1⟩ := I.base.slot b o e n hb hx
      exact ⟨sl, (hs.2 b (Nat.ne_of_lt (Nat.lt_of_lt_of_le (Heap.lt_size e) I.ok.above))).trans e1⟩
    · obtain ⟨o', e1⟩ := I.base.there b o e hx
      exact ⟨o', (hs.2 b (Nat.ne_of_lt (Nat.lt_of_lt_of_le (Heap.lt_size e) I.ok.above))).trans e1⟩
    · by_cases hj : j = i
      · subst hj
        rw [hi] at e1; cases e1
        rw [List.getElem?_set_self hiσ] at e2
        cases e2
        exact ⟨u, r, .inl ⟨hk, by simp⟩⟩
      · rw [List.getElem?_set_ne (Ne.symm hj)] at e2
        obtain ⟨u', r', q⟩ := hl j y v' e1 e2 e3
        refine ⟨u', r', ?_⟩
        rcases q with ⟨k, e⟩ | ⟨k, c, e, z⟩
        · refine .inl ⟨k, ?_⟩
          have : y ≠ x := fun e => hj (nodup_ix hN e1 (e ▸ hi))
          simp [this, e]
        · exact .inr ⟨k, c, e, z.sameBut hs (cne y c e)⟩
    · obtain ⟨w', z⟩ := I.cell y c e
      exact ⟨w', z.sameBut hs (cne y c e)⟩
    · obtain ⟨e, n, ne, nf, d⟩ := I.pin p hp
      exact ⟨(hs.2 p.1 ne).trans e, n, ne, nf, d⟩
  · have hfn : X.fn x = true := by
      rcases hf with z | z
      · exact z
      · rw [z] at hk; cases hk
    obtain ⟨c, hc⟩ := I.ok.has x (.inl hk)
    obtain ⟨w', z⟩ := I.cell x c hc
    refine wpAny_storeName_cell I.ok.kind hk hc z (fun h' hc' hs => ?_)
    obtain ⟨oc, hoc, hocd⟩ := id z
    refine h { s with heap := h' } ⟨I.ok, I.os, I.bare, ⟨fun b o e n hb hx => ?_, fun b o e n hb hx => ?_, I.base.free, fun b o e hx => ?_, I.base.tups, I.base.frzs, I.base.tbls⟩, ⟨m, hn.sameBut hs (Ne.symm (cne x c hc)), fun j y v' e1 e2 e3 => ?_⟩, fun y c' e => ?_, I.free, I.freeC, fun p hp => ?_, tracked ⟨oc, hoc, I.freeC x c hc⟩ hs, by simpa using I.len⟩ ⟨c, hs, .inr hc⟩
    · exact (hs.2 b (Nat.ne_of_lt (Nat.lt_of_lt_of_le (Heap.lt_size e) (I.ok.cab x c hfn hc)))).trans (I.base.keep b o e n hb hx)
    · obtain ⟨sl, e1⟩ := I.base.slot b o e n hb hx
      exact ⟨sl, (hs.2 b (Nat.ne_of_lt (Nat.lt_of_lt_of_le (Heap.lt_size e) (I.ok.cab x c hfn hc)))).trans e1⟩
    · obtain ⟨o', e1⟩ := I.base.there b o e hx
      exact ⟨o', (hs.2 b (Nat.ne_of_lt (Nat.lt_of_lt_of_le (Heap.lt_size e) (I.ok.cab x c hfn hc)))).trans e1⟩
    · by_cases hj : j = i
      · subst hj
        rw [hi] at e1; cases e1
        rw [List.getElem?_set_self hiσ] at e2
        cases e2
        exact ⟨u, r, .inr ⟨.inl hk, c, hc, hc'⟩⟩
      · rw [List.getElem?_set_ne (Ne.symm hj)] at e2
        obtain ⟨u', r', q⟩ := hl j y v' e1 e2 e3
        refine ⟨u', r', ?_⟩
        rcases q with q | ⟨k, c', e, z'⟩
        · exact .inl q
        · refine .inr ⟨k, c', e, z'.sameBut hs ?_⟩
          rintro rfl
          exact hj (nodup_ix hN e1 (I.ok.inj _ _ _ e hc ▸ hi))
    · by_cases hcc : c' = c
      · subst hcc; exact ⟨_, hc'⟩
      · obtain ⟨w2, z2⟩ := I.cell y c' e
        exact ⟨w2, z2.sameBut hs hcc⟩
    · obtain ⟨e, n, ne, nf, d⟩ := I.pin p hp
      refine ⟨(hs.2 p.1 ?_).trans e, n, ne, nf, d⟩
      intro q
      rw [q, hoc] at e
      have q' : oc = p.2 := Option.some.inj e
      exact d w' (by rw [← q']; exact hocd)
theorem store_ok {M : Model} {A : Around} {E : Value → Shared → Prop} {i : Nat} {x : Str} {v : V} {u : Value} {Q : Unit → Shared → Prop} (I : Inv X pins σ H s) (hN : X.N.Nodup) (hi : X.N[i]? = some x) (hx : Loc X.env.scope x) (r : RelV v u)
    (h : ∀ s', Inv X pins (σ.set i (some v)) H s' → Q () s') (hf : X.fn x = true ∨ X.env.scope.names.lookup x = some .local := by first | exact .inl rfl | exact .inr rfl | assumption) : wpAny M A (storeName X.env x u) Q E s :=
  store_ok2 I hN hi hx r (fun s' I' _ => h s' I') hf
theorem Inv.call' {s' : Shared} {ch : List Addr} (I : Inv X pins σ H s) (ho : s'.os = s.os) (u : Un (frs X.stack) ch H H' s.heap s'.heap) (hok : HOk X.prog X.w H' s'.heap) (hg : AllBare s'.gens)
    (hch : ∀ b ∈ ch, (b ∈ X.ex ∨ X.s₀.heap.objs.size ≤ b) ∧ b ≠ X.env.locals ∧ (∀ x c, X.env.cells.lookup x = some c → c ≠ b) ∧ ∀ p ∈ X.pn ++ pins, p.1 ≠ b) : Inv X pins σ H' s' := by
  obtain ⟨h', g', d', t', o'⟩ := s'
  have e : o' = s.os := ho
  subst e
  exact I.call (g' := g') (t' := t') (d' := d') u hok hg hch
end
abbrev XK := Value → Option Addr → Hp → Prop
abbrev St := List (Option V)
abbrev VK := V → Hp → Prop
abbrev TE := St → Hp → VK → Prop
abbrev TT := St → Hp → (Bool → Hp → Prop) → Prop
abbrev TA := St → Hp → (List V → Hp → Prop) → Prop
structure Ends where
  nx : St → Hp → Prop
  rt : VK
  bk : St → Hp → Prop := fun _ _ => False
  ct : St → Hp → Prop := fun _ _ => False
abbrev TS := Ends → St → Hp → Prop
def EP (X : Cx) (pins : List (Addr × Obj)) (σ : St) (Q : VK) (u : Value) (s' : Shared) : Prop := ∃ v H', Inv X pins σ H' s' ∧ RelV v u ∧ Q v H'
def TP (X : Cx) (pins : List (Addr × Obj)) (σ : St) (Q : Bool → Hp → Prop) (b : Bool) (s' : Shared) : Prop := ∃ H', Inv X pins σ H' s' ∧ Q b H'
def AP (X : Cx) (pins : List (Addr × Obj)) (σ : St) (Q : List V → Hp → Prop) (us : List Value) (s' : Shared) : Prop := ∃ vs H', Inv X pins σ H' s' ∧ Vals vs us ∧ Q vs H'
def SP (X : Cx) (pins : List (Addr × Obj)) (D : Ends) (f : Flow) (s' : Shared) : Prop :=
  match f with
  | .next => ∃ σ' H', Inv X pins σ' H' s' ∧ D.nx σ' H'
  | .brk => ∃ σ' H', Inv X pins σ' H' s' ∧ D.bk σ' H'
  | .cont => ∃ σ' H', Inv X pins σ' H' s' ∧ D.ct σ' H'
  | .ret u => ∃ v σ' H', Inv X pins σ' H' s' ∧ RelV v u ∧ D.rt v H'
def PE (X : Cx) (e : Expr) (t : TE) : Prop :=
  ∀ (pins : List (Addr × Obj)) (s : Shared) (σ : St) (H : Hp) (Q : VK), Inv X pins σ H s → t σ H Q → wpAny (model X.prog X.w) X.A (eval e X.env) (EP X pins σ Q) X.xe s
def PT (X : Cx) (e : Expr) (t : TT) : Prop :=
  ∀ (pins : List (Addr × Obj)) (s : Shared) (σ : St) (H : Hp) (Q : Bool → Hp → Prop), Inv X pins σ H s → t σ H Q → wpAny (model X.prog X.w) X.A (isTrue e X.env (eval e X.env)) (TP X pins σ Q) X.xe s
def PW (X : Cx) (e : Expr) (t : TT) : Prop :=
  ∀ (whole : Sem Value) (pins : List (Addr × Obj)) (s : Shared) (σ : St) (H : Hp) (Q : Bool → Hp → Prop), Inv X pins σ H s → t σ H Q → wpAny (model X.prog X.w) X.A (isTrue e X.env whole) (TP X pins σ Q) X.xe s
theorem PW.pt {X : Cx} {e : Expr} {t : TT} (h : PW X e t) : PT X e t := h _
def PA (X : Cx) (es : List Expr) (t : TA) : Prop :=
  ∀ (pos : Pos) (pins : List (Addr × Obj)) (s : Shared) (σ : St) (H : Hp) (Q : List V → Hp → Prop), Inv X pins σ H s → t σ H Q → wpAny (model X.prog X.w) X.A (spliced (backTo pos (starEach es X.env))) (AP X pins σ Q) X.xe s
def PS (X : Cx) (st : Stmt) (t : TS) : Prop :=
  ∀ (pins : List (Addr × Obj)) (s : Shared) (σ : St) (H : Hp) (D : Ends), Inv X pins σ H s → t D σ H → wpAny (model X.prog X.w) X.A (exec st X.env) (SP X pins D) X.xe s
def PSs (X : Cx) (st : List Stmt) (t : TS) : Prop :=
  ∀ (pins : List (Addr × Obj)) (s : Shared) (σ : St) (H : Hp) (D : Ends), Inv X pins σ H s → t D σ H → wpAny (model X.prog X.w) X.A (execs st X.env) (SP X pins D) X.xe s
theorem thn {α : Type} {t : Sem α} {Q Q' : α → Shared → Prop} {M : Model} {A : Around} {E : Value → Shared → Prop} {s : Shared} (h : wpAny M A t Q E s) (hQ : ∀ a s, Q a s → Q' a s) : wpAny M A t Q' E s := wpAny_mono h hQ fun _ _ x => x
end L2
namespace L2
open PySem PySem.Spec PyProof.Rows
section
variable {X : Cx}
theorem bin {a b : Expr} {ta tb : TE} (ha : PE X a ta) (hb : PE X b tb) {pins : List (Addr × Obj)} {s : Shared} {σ : St} {H : Hp} {R : V → V → Hp → Prop} (I : Inv X pins σ H s) (h : ta σ H fun x H1 => tb σ H1 fun y H2 => R x y H2)
    {α : Type} {Q : α → Shared → Prop} {f : Value → Value → Sem α}
    (hf : ∀ v u s2 x y H2, Inv X pins σ H2 s2 → RelV x v → RelV y u → R x y H2 → wpAny (model X.prog X.w) X.A (f v u) Q X.xe s2) :
    wpAny (model X.prog X.w) X.A (eval a X.env) (fun v s₁ => wpAny (model X.prog X.w) X.A (eval b X.env) (fun u s₂ => wpAny (model X.prog X.w) X.A (f v u) Q X.xe s₂) X.xe s₁) X.xe s := by
  refine thn (ha pins s σ H _ I h) fun v s1 ⟨x, H1, I1, r1, q1⟩ => ?_
  refine thn (hb pins s1 σ H1 _ I1 q1) fun u s2 ⟨y, H2, I2, r2, q2⟩ => ?_
  exact hf v u s2 x y H2 I2 r1 r2 q2
def tVar (i : Nat) : TE := fun σ H Q => ∃ v, σ[i]? = some (some v) ∧ Q v H
def tC (v : V) : TE := fun _ H Q => Q v H
theorem pe_var {i : Nat} {x : Str} {pos : Pos} (hN : X.N[i]? = some x) (hv : Vis X.env.scope x) (hd : (x == ("__debug__" : Str)) = false := by decide) (hcd : (x == ("__classdict__" : Str)) = false := by decide) : PE X (.Name x pos) (tVar i) := by
  intro pins s σ H Q I h
  obtain ⟨v, e, h⟩ := h
  obtain ⟨m, hn, hl⟩ := I.loc
  obtain ⟨u, r, l⟩ := hl i x v hN e hv
  have fin : EP X pins σ Q u s := ⟨v, H, I, r, h⟩
  rcases l with ⟨hk, hm⟩ | ⟨hk, c, hc, hcell⟩
  · exact wpAny_Name (wpAny_loadName_local I.ok.kind hk hn hm fin) hd
  · rcases hk with hk | hk
    · exact wpAny_Name (wpAny_loadName_cell I.ok.kind hk hc hcell fin) hd
    · exact wpAny_Name (wpAny_loadName_free I.ok.kind hk hc hcell fin hcd) hd
theorem pe_int {i j pos} : PE X (.Constant (.int i) j pos) (tC (.int i)) := fun _ _ _ H _ I h => wpAny_Constant_int ⟨.int i, H, I.tok _, ⟨_, rfl⟩, h⟩
theorem pe_bl {b j pos} : PE X (.Constant (.bool b) j pos) (tC (.bl b)) := fun _ _ _ H _ I h => Constant_bool ⟨.bl b, H, I, rfl, h⟩
theorem pe_str {x j pos} : PE X (.Constant (.str x) j pos) (tC (.str x)) := fun _ _ _ H _ I h => Calls.Constant_str ⟨.str x, H, I.tok _, ⟨_, rfl⟩, h⟩
def Gl (X : Cx) (x : Str) : Prop := X.env.kindOf x = some .globalImplicit
theorem ld_glob {E : Value → Shared → Prop} {pins : List (Addr × Obj)} {s : Shared} {σ : St} {H : Hp} {x : Str} {u : Value} {pos : Pos} {Q : Value → Shared → Prop} (I : Inv X pins σ H s) (hg : Gl X x) (hm : X.mg x = some u) (h : Q u s)
    (hd : (x == ("__debug__" : Str)) = false := by decide) : wpAny (model X.prog X.w) X.A (eval (.Name x pos) X.env) Q E s :=
  Calls.Name_function_global I.ok.kind hg (Calls.loadGlobal_global (by rw [I.ok.glob]; exact I.mod.glob.keeps I.bk) hm h) hd
theorem ld_blt {E : Value → Shared → Prop} {pins : List (Addr × Obj)} {s : Shared} {σ : St} {H : Hp} {x : Str} {u : Value} {pos : Pos} {Q : Value → Shared → Prop} (I : Inv X pins σ H s) (hg : Gl X x) (hm : X.mg x = none) (hv : bootBuiltins x = some u) (h : Q u s)
    (hn : x ≠ "__name__" := by decide) (hd : (x == ("__debug__" : Str)) = false := by decide) : wpAny (model X.prog X.w) X.A (eval (.Name x pos) X.env) Q E s := by
  obtain ⟨mb, h1, h2⟩ := I.mod.blt
  exact Calls.Name_function_global I.ok.kind hg (Calls.loadGlobal_builtin (by rw [I.ok.glob]; exact I.mod.glob.keeps I.bk) hm (by rw [I.ok.blt]; exact h1.keeps I.bk) ((h2 x hn).trans hv) h) hd
theorem pe_glob {x : Str} {v : V} {u : Value} {pos : Pos} (hg : Gl X x) (hm : X.mg x = some u) (r : RelV v u) (hd : (x == ("__debug__" : Str)) = false := by decide) : PE X (.Name x pos) (tC v) :=
  fun _ _ _ H _ I h => ld_glob I hg hm ⟨v, H, I, r, h⟩ hd
theorem pe_bltn {x : Str} {v : V} {u : Value} {pos : Pos} (hg : Gl X x) (hm : X.mg x = none) (hv : bootBuiltins x = some u) (r : RelV v u) (hn : x ≠ "__name__" := by decide) (hd : (x == ("__debug__" : Str)) = false := by decide) : PE X (.Name x pos) (tC v) :=
  fun _ _ _ H _ I h => ld_blt I hg hm hv ⟨v, H, I, r, h⟩ hn hd
variable {a b : Expr} {ta tb : TE} {pos : Pos}
def PC (X : Cx) (op : CmpOp) (a b : Expr) (t : TE) : Prop :=
  ∀ (pins : List (Addr × Obj)) (s : Shared) (σ : St) (H : Hp) (Q : VK), Inv X pins σ H s → t σ H Q →
    wpAny (model X.prog X.w) X.A (eval a X.env) (fun v s₁ => wpAny (model X.prog X.w) X.A (eval b X.env) (fun u s₂ => wpAny (model X.prog X.w) X.A (compareOp op v u) (EP X pins σ Q) X.xe s₂) X.xe s₁) X.xe s
theorem nobehind (b : Expr) {op : CmpOp} (h : op ≠ .In) (h2 : op ≠ .NotIn) : behindInMarks op b = false := by
  have e1 : (op == CmpOp.In) = false := by cases op <;> first | rfl | exact absurd rfl h
  have e2 : (op == CmpOp.NotIn) = false := by cases op <;> first | rfl | exact absurd rfl h2
  cases b <;> simp [behindInMarks, e1, e2]
def tB (t : TE) : TT := fun σ H Q => t σ H fun x H1 => ∃ c, x = .bl c ∧ Q c H1
theorem pt_cmp {op : CmpOp} {t : TE} (h : PC X op a b t) (h1 : behindInMarks op b = false := by first | exact nobehind _ (by decide) (by decide) | rfl) : PT X (.Compare a [op] [b] pos) (tB t) := by
  intro pins s σ H Q I hw
  refine wpAny_isTrue_Compare1 (thn (h pins s σ H _ I hw) fun v s1 h1 => thn h1 fun u s2 h2 => thn h2 fun c s3 ⟨x, H1, I1, r1, q1⟩ => ?_) h1
  obtain ⟨d, rfl, q⟩ := q1
  cases r1
  exact wpAny_truthy_bool ⟨H1, I1, q⟩
theorem pt_val {e : Expr} {t : TE} (h : PE X e t) (he : ∀ whole, isTrue e X.env whole = (do let v ← whole; standAt e.pos; holding [v] (truthy v)) := by intro _; rfl) : PT X e (tB t) := by
  intro pins s σ H Q I hw
  refine isTrue_plain (thn (h pins s σ H _ I hw) fun v s1 ⟨x, H1, I1, r1, q1⟩ => ?_) (he _)
  obtain ⟨d, rfl, q⟩ := q1
  cases r1
  exact wpAny_truthy_bool ⟨H1, I1, q⟩
variable {tA tB' : TT} {rest : List Expr}
def tAnd (t u : TT) : TT := fun σ H Q => t σ H fun c H1 => if c = true then u σ H1 Q else Q false H1
def tOr (t u : TT) : TT := fun σ H Q => t σ H fun c H1 => if c = true then Q true H1 else u σ H1 Q
def tNot (t : TT) : TT := fun σ H Q => t σ H fun c H1 => Q (!c) H1
theorem pw_and1 (ha : PT X a tA) : PW X (.BoolOp .And [a] pos) tA := by
  intro wh pins s σ H Q I h
  refine isTrue_and (thn (ha pins s σ H Q I h) fun c s1 e => ?_)
  cases c with
  | true => exact isTrue_and_nil e
  | false => exact e
theorem pw_or1 (ha : PT X a tA) : PW X (.BoolOp .Or [a] pos) tA := by
  intro wh pins s σ H Q I h
  refine isTrue_or (thn (ha pins s σ H Q I h) fun c s1 e => ?_)
  cases c with
  | false => exact isTrue_or_nil e
  | true => exact e
theorem pw_and (ha : PT X a tA) (hb : PW X (.BoolOp .And (b :: rest) pos) tB') : PW X (.BoolOp .And (a :: b :: rest) pos) (tAnd tA tB') := by
  intro wh pins s σ H Q I h
  refine isTrue_and (thn (ha pins s σ H _ I h) fun c s1 ⟨H1, I1, q1⟩ => ?_)
  cases c with
  | true => exact hb wh pins s1 σ H1 Q I1 q1
  | false => exact ⟨H1, I1, q1⟩
theorem pw_or (ha : PT X a tA) (hb : PW X (.BoolOp .Or (b :: rest) pos) tB') : PW X (.BoolOp .Or (a :: b :: rest) pos) (tOr tA tB') := by
  intro wh pins s σ H Q I h
  refine isTrue_or (thn (ha pins s σ H _ I h) fun c s1 ⟨H1, I1, q1⟩ => ?_)
  cases c with
  | true => exact ⟨H1, I1, q1⟩
  | false => exact hb wh pins s1 σ H1 Q I1 q1
theorem pt_not (ha : PT X a tA) : PT X (.UnaryOp .Not a pos) (tNot tA) := by
  intro pins s σ H Q I h
  exact isTrue_not (ha pins s σ H (fun c H1 => Q (!c) H1) I h)
def tAndV (ta tb : TE) : TE := fun σ H Q => ta σ H fun x H1 => ∃ c, x = .bl c ∧ if c = true then tb σ H1 Q else Q (.bl false) H1
theorem pe_one {op} {t : TE} (h : PE X a t) : PE X (.BoolOp op [a] pos) t := fun pins s σ H Q I hw => BoolOp_one (h pins s σ H Q I hw)
theorem pe_and (ha : PE X a ta) (hb : PE X (.BoolOp .And (b :: rest) pos) tb) : PE X (.BoolOp .And (a :: b :: rest) pos) (tAndV ta tb) := by
  intro pins s σ H Q I h
  refine BoolOp_and (thn (ha pins s σ H _ I h) fun v s1 ⟨x, H1, I1, r1, q1⟩ => ?_)
  obtain ⟨c, rfl, q1⟩ := q1
  cases r1
  refine wpAny_truthy_bool ?_
  cases c with
  | true => exact hb pins s1 σ H1 Q I1 q1
  | false => exact ⟨.bl false, H1, I1, rfl, q1⟩
def tIf (t : TT) (ta tb : TE) : TE := fun σ H Q => t σ H fun c H1 => if c = true then ta σ H1 Q else tb σ H1 Q
theorem pe_ifExp {c : Expr} (hc : PT X c tA) (ha : PE X a ta) (hb : PE X b tb) : PE X (.IfExp c a b pos) (tIf tA ta tb) := by
  intro pins s σ H Q I h
  refine wpAny_IfExp (thn (hc pins s σ H _ I h) fun d s1 ⟨H1, I1, q1⟩ => ?_)
  cases d with
  | true => exact ha pins s1 σ H1 Q I1 q1
  | false => exact hb pins s1 σ H1 Q I1 q1
end
end L2
namespace L2
open PySem PySem.Spec PyProof.Rows
def SqL (K : PySem.W.Frag) (H : Hp) (a : Addr) (xs : List V) : Prop :=
  Rd H a (.lst xs) ∨
    ∃ (o : Obj) (its : Array Value) (n : Nat), K.lookup a = some o ∧ o.cls = .type "list" ∧ o.dict = none ∧ o.data = .seq its n ∧ its.size ≤ sizeLine ∧ Vals xs its.toList
def SqT (K : PySem.W.Frag) (H : Hp) (a : Addr) (xs : List V) : Prop :=
  Rd H a (.tup xs) ∨
    ∃ (o : Obj) (its : Array Value) (n : Nat), K.lookup a = some o ∧ o.cls = .type "tuple" ∧ o.data = .seq its n ∧ its.size ≤ sizeLine ∧ Vals xs its.toList
def absV : Value → Option V
  | .none => some .non
  | .bool b => some (.bl b)
  | .int i _ => some (.int i)
  | .str x _ => some (.str x)
  | .bytes b _ => some (.byt b)
  | .float b _ => some (.flt b)
  | .ref a => some (.ref a)
  | .type n => some (.ty n)
  | _ => none
theorem RelV.abs {x : V} {u : Value} (r : RelV x u) : absV u = some x := by
  cases x with
  | non => cases r; rfl
  | bl _ => cases r; rfl
  | int _ => obtain ⟨t, rfl⟩ := r; rfl
  | str _ => obtain ⟨t, rfl⟩ := r; rfl
  | byt _ => obtain ⟨t, rfl⟩ := r; rfl
  | flt _ => obtain ⟨t, rfl⟩ := r; rfl
  | ref _ => cases r; rfl
  | ty _ => cases r; rfl
theorem RelV.inj {x y : V} {u : Value} (r : RelV x u) (q : RelV y u) : x = y := Option.some.inj (r.abs.symm.trans q.abs)
theorem Vals.inj : ∀ {xs ys : List V} {us : List Value}, Vals xs us → Vals ys us → xs = ys
  | _, _, _, .nil, .nil => rfl
  | _, _, _, .cons r t, .cons r' t' => by rw [r.inj r', Vals.inj t t']
section
variable {X : Cx} {pins : List (Addr × Obj)} {σ : St} {H : Hp} {s : Shared} {a : Addr} {xs ys : List V}
theorem SqL.of {K : PySem.W.Frag} (h : H a = some (.lst xs)) : SqL K H a xs := .inl (.inl h)
theorem SqT.of {K : PySem.W.Frag} (h : H a = some (.tup xs)) : SqT K H a xs := .inl (.inl h)
theorem Inv.list (I : Inv X pins σ H s) (h : SqL X.K H a xs) : ∃ its : List Value, Vals xs its ∧ PlainL s.heap a its.toArray ∧ xs.length ≤ sizeLine := by
  rcases h with h | ⟨o, its, n, hk, hc, hd, hs, hz, r⟩
  · obtain ⟨z, its, n, r, e⟩ := h.ok I.hok
    exact ⟨its, r, ⟨_, n, e, rfl, rfl, rfl⟩, z⟩
  · refine ⟨its.toList, r, ⟨o, n, I.kIn a o hk, hc, hd, by simpa using hs⟩, ?_⟩
    have e := r.length
    simp only [Array.length_toList] at e
    omega
theorem Inv.tuple (I : Inv X pins σ H s) (h : SqT X.K H a xs) : ∃ its : List Value, Vals xs its ∧ IsTup s.heap a its.toArray ∧ xs.length ≤ sizeLine := by
  rcases h with h | ⟨o, its, n, hk, hc, hs, hz, r⟩
  · obtain ⟨z, its, r, p⟩ := h.ok I.hok
    exact ⟨its, r, p, z⟩
  · refine ⟨its.toList, r, ⟨o, I.kIn a o hk, hc, n, by simpa using hs⟩, ?_⟩
    have e := r.length
    simp only [Array.length_toList] at e
    omega
theorem Inv.list_inj (I : Inv X pins σ H s) (h : SqL X.K H a xs) (h' : SqL X.K H a ys) : xs = ys := by
  obtain ⟨its, r, ⟨o, n, e, _, _, d⟩, _⟩ := I.list h
  obtain ⟨its', r', ⟨o', n', e', _, _, d'⟩, _⟩ := I.list h'
  rw [e] at e'; cases e'
  rw [d] at d'
  injection d' with d1 _
  have : its = its' := by simpa using congrArg Array.toList d1
  subst this
  exact r.inj r'
theorem Inv.tuple_inj (I : Inv X pins σ H s) (h : SqT X.K H a xs) (h' : SqT X.K H a ys) : xs = ys := by
  obtain ⟨its, r, ⟨o, e, _, n, d⟩, _⟩ := I.tuple h
  obtain ⟨its', r', ⟨o', e', _, n', d'⟩, _⟩ := I.tuple h'
  rw [e] at e'; cases e'
  rw [d] at d'
  injection d' with d1 _
  have : its = its' := by simpa using congrArg Array.toList d1
  subst this
  exact r.inj r'
end
abbrev Cx.wish (X : Cx) (E : Value → Shared → Prop) : Cx := { X with xe := E }
abbrev Cx.nox (X : Cx) : Cx := X.wish fun _ _ => False
theorem Cx.Ok.wish {X : Cx} (ok : X.Ok) (E : Value → Shared → Prop) : (X.wish E).Ok :=
  ⟨ok.mod, ok.kind, ok.glob, ok.blt, ok.above, ok.inj, ok.has, ok.cab, ok.hd, ok.frames, ok.stk, ok.exf, ok.bs, ok.bsz, ok.noex, ok.exfs, ok.funs, ok.frf⟩
theorem Cx.Ok.unwish {X : Cx} {E : Value → Shared → Prop} (ok : (X.wish E).Ok) : X.Ok :=
  ⟨ok.mod, ok.kind, ok.glob, ok.blt, ok.above, ok.inj, ok.has, ok.cab, ok.hd, ok.frames, ok.stk, ok.exf, ok.bs, ok.bsz, ok.noex, ok.exfs, ok.funs, ok.frf⟩
section
variable {X : Cx} {pins : List (Addr × Obj)} {σ : St} {H : Hp} {s : Shared} {E : Value → Shared → Prop}
theorem Inv.wish (I : Inv X pins σ H s) (E : Value → Shared → Prop) : Inv (X.wish E) pins σ H s := ⟨I.ok.wish E, I.os, I.bare, I.base, I.loc, I.cell, I.free, I.freeC, I.pin, I.hok, I.len⟩
theorem Inv.unwish (I : Inv (X.wish E) pins σ H s) : Inv X pins σ H s := ⟨I.ok.unwish, I.os, I.bare, I.base, I.loc, I.cell, I.free, I.freeC, I.pin, I.hok, I.len⟩
theorem SP.unwish {D : Ends} {f : Flow} {s' : Shared} (h : SP (X.wish E) pins D f s') : SP X pins D f s' := by
  cases f with
  | next => obtain ⟨σ', H', I, q⟩ := h; exact ⟨σ', H', I.unwish, q⟩
  | brk => obtain ⟨σ', H', I, q⟩ := h; exact ⟨σ', H', I.unwish, q⟩
  | cont => obtain ⟨σ', H', I, q⟩ := h; exact ⟨σ', H', I.unwish, q⟩
  | ret u => obtain ⟨v, σ', H', I, r, q⟩ := h; exact ⟨v, σ', H', I.unwish, r, q⟩
theorem PE.nox {e : Expr} {t : TE} (h : PE X.nox e t) : PE X e t := fun pins s σ H Q I hw =>
  wpAny_mono (h pins s σ H Q (I.wish _) hw) (fun _ _ ⟨v, H', I', r, q⟩ => ⟨v, H', I'.unwish, r, q⟩) fun _ _ z => False.elim z
theorem PT.nox {e : Expr} {t : TT} (h : PT X.nox e t) : PT X e t := fun pins s σ H Q I hw =>
  wpAny_mono (h pins s σ H Q (I.wish _) hw) (fun _ _ ⟨H', I', q⟩ => ⟨H', I'.unwish, q⟩) fun _ _ z => False.elim z
theorem PSs.nox {st : List Stmt} {t : TS} (h : PSs X.nox st t) : PSs X st t := fun pins s σ H D I hw =>
  wpAny_mono (h pins s σ H D (I.wish _) hw) (fun _ _ q => q.unwish) fun _ _ z => False.elim z
end
section
variable {X : Cx} {st : Stmt} {rest : List Stmt} {t u : TS} {e : Expr} {te : TE} {pos : Pos}
def tNext : TS := fun D σ H => D.nx σ H
def tSeq (t u : TS) : TS := fun D σ H => t { D with nx := u D } σ H
theorem pss_nil : PSs X [] tNext := fun _ _ σ H _ I h => wpAny_execs_nil ⟨σ, H, I, h⟩
theorem pss_cons (h1 : PS X st t) (h2 : PSs X rest u) : PSs X (st :: rest) (tSeq t u) := by
  intro pins s σ H D I h
  refine wpAny_execs_cons (thn (h1 pins s σ H { D with nx := u D } I h) fun f s1 q => ?_)
  cases f with
  | next =>
    obtain ⟨σ', H', I', q⟩ := q
    exact h2 pins s1 σ' H' D I' q
  | ret v => exact q
  | brk => exact q
  | cont => exact q
theorem pss_one (h1 : PS X st t) : PSs X [st] t := by
  intro pins s σ H D I h
  refine wpAny_execs_cons (thn (h1 pins s σ H D I h) fun f s1 q => ?_)
  cases f with
  | next => exact wpAny_execs_nil q
  | ret v => exact q
  | brk => exact q
  | cont => exact q
theorem Inv.quiet {pins : List (Addr × Obj)} {σ : St} {H : Hp} {s : Shared} (I : Inv X pins σ H s) : interactive X.env = false := by simp [interactive, I.ok.kind]
def tDrop (te : TE) : TS := fun D σ H => te σ H fun _ H1 => D.nx σ H1
theorem ps_expr (he : PE X e te) (hs : swapsWith e none pos.line X.env = pure false := by rfl) : PS X (.Expr e pos) (tDrop te) := by
  intro pins s σ H D I h
  exact wpAny_Expr_any (thn (he pins s σ H _ I h) fun v s1 ⟨x, H1, I1, r1, q1⟩ => ⟨σ, H1, I1, q1⟩) I.quiet hs
def tRet (te : TE) : TS := fun D σ H => te σ H D.rt
theorem ps_ret (he : PE X e te) : PS X (.Return (some e) pos) (tRet te) := by
  intro pins s σ H D I h
  exact wpAny_Return_some (thn (he pins s σ H _ I h) fun v s1 ⟨x, H1, I1, r1, q1⟩ => ⟨x, σ, H1, I1, r1, q1⟩)
def tIfS (c : TT) (t u : TS) : TS := fun D σ H => c σ H fun b H1 => if b = true then t D σ H1 else u D σ H1
theorem ps_if {c : Expr} {a b : List Stmt} {tc : TT} (hc : PT X c tc) (ha : PSs X a t) (hb : PSs X b u) : PS X (.If c a b pos) (tIfS tc t u) := by
  intro pins s σ H D I h
  refine wpAny_If (thn (hc pins s σ H _ I h) fun d s1 ⟨H1, I1, q1⟩ => ?_)
  cases d with
  | true => exact ha pins s1 σ H1 D I1 q1
  | false => exact hb pins s1 σ H1 D I1 q1
def tNever : TS := fun _ _ _ => False
theorem pss_never {sts : List Stmt} : PSs X sts tNever := fun _ _ _ _ _ _ h => h.elim
end
abbrev TG := V → St → Hp → (St → Hp → Prop) → Prop
abbrev TGs := List V → St → Hp → (St → Hp → Prop) → Prop
def PG (X : Cx) (target : Expr) (t : TG) : Prop :=
  ∀ (pins : List (Addr × Obj)) (s : Shared) (σ : St) (H : Hp) (v : V) (u : Value) (Q : St → Hp → Prop), Inv X pins σ H s → RelV v u → t v σ H Q →
    wpAny (model X.prog X.w) X.A (assign target X.env u) (fun _ s' => ∃ σ' H', Inv X pins σ' H' s' ∧ Q σ' H') X.xe s
def PGs (X : Cx) (ts : List Expr) (t : TGs) : Prop :=
  ∀ (pins : List (Addr × Obj)) (s : Shared) (σ : St) (H : Hp) (vs : List V) (us : List Value) (Q : St → Hp → Prop), Inv X pins σ H s → Vals vs us → t vs σ H Q →
    wpAny (model X.prog X.w) X.A (assignInOrder ((assignEach ts X.env).map (·.2)) us) (fun _ s' => ∃ σ' H', Inv X pins σ' H' s' ∧ Q σ' H') X.xe s
abbrev TIp := V → V → Hp → VK → Prop
def PIp (X : Cx) (op : Operator) (t : TIp) : Prop :=
  ∀ (pins : List (Addr × Obj)) (s : Shared) (σ : St) (H : Hp) (x y : V) (v u : Value) (Q : VK), Inv X pins σ H s → RelV x v → RelV y u → t x y H Q →
    wpAny (model X.prog X.w) X.A (inplaceOp op v u) (EP X pins σ Q) X.xe s
section
variable {X : Cx} {pos : Pos}
def gName (i : Nat) : TG := fun v σ H Q => Q (σ.set i (some v)) H
theorem pg_name {i : Nat} {x : Str} (hN : X.N.Nodup) (hi : X.N[i]? = some x) (hx : Loc X.env.scope x) (hf : X.fn x = true ∨ X.env.scope.names.lookup x = some .local := by first | exact .inl rfl | exact .inr rfl | assumption) : PG X (.Name x pos) (gName i) := by
  intro pins s σ H v u Q I r h
  exact wpAny_assign_Name (store_ok I hN hi hx r (fun s' I' => ⟨_, H, I', h⟩) hf)
def gNil : TGs := fun vs σ H Q => vs = [] ∧ Q σ H
def gCons (t : TG) (u : TGs) : TGs := fun vs σ H Q => ∃ v r, vs = v :: r ∧ t v σ H fun σ' H' => u r σ' H' Q
theorem pgs_nil : PGs X [] gNil := by
  intro pins s σ H vs us Q I r h
  obtain ⟨e, h⟩ := h
  subst e
  cases r
  exact assignInOrder_nil ⟨σ, H, I, h⟩
theorem pgs_cons {e : Expr} {es : List Expr} {t : TG} {u : TGs} (h1 : PG X e t) (h2 : PGs X es u)
    (hs : (assignEach (e :: es) X.env).map (·.2) = assign e X.env :: (assignEach es X.env).map (·.2) := by rfl) : PGs X (e :: es) (gCons t u) := by
  intro pins s σ H vs us Q I r h
  obtain ⟨v, vr, e1, h⟩ := h
  subst e1
  cases r with
  | cons r rr =>
    rw [hs]
    refine assignInOrder_cons (thn (h1 pins s σ H _ _ _ I r h) fun _ s1 ⟨σ1, H1, I1, q1⟩ => ?_)
    exact h2 pins s1 σ1 H1 _ _ Q I1 rr q1
def gTup (K : PySem.W.Frag) (n : Nat) (t : TGs) : TG := fun v σ H Q => ∃ a xs, v = .ref a ∧ SqT K H a xs ∧ xs.length = n ∧ t xs σ H Q
theorem pg_tup {es : List Expr} {k : Nat} {t : TGs} {n : Nat} (hc : X.calm = true) (h : PGs X es t)
    (hn : (assignEach es X.env).length = n := by rfl) (hst : (assignEach es X.env).findIdx? (·.1) = none := by rfl) : PG X (.Tuple es k pos) (gTup X.K n t) := by
  intro pins s σ H v u Q I r hw
  obtain ⟨a, xs, e1, hq, hl, hw⟩ := hw
  subst e1
  cases r
  obtain ⟨its, rv, ht, hz⟩ := I.tuple hq
  refine assign_Tuple_tuple (I.ok.hd hc) ht (by simp [hn, ← hl, rv.length]) hst fun h' hx => ?_
  have I1 : Inv X pins σ H { s with heap := h' } := I.kept (t' := s.toks) fun b o e => hx b o (Nat.ne_of_lt (Heap.lt_size e)) e
  exact h pins _ σ H xs _ Q I1 (by simpa using rv) hw
def tAsg (te : TE) (g : TG) : TS := fun D σ H => te σ H fun x H1 => g x σ H1 D.nx
theorem ps_asg {tg e : Expr} {te : TE} {g : TG} (he : PE X e te) (hg : PG X tg g) (hs : swapsWithSole [tg] e pos.line X.env = pure false := by rfl) (hw : swappedStores [tg] e X.env = pure none := by rfl)
    (h1 : (assignEach [tg] X.env).map (·.2) = [assign tg X.env] := by rfl) : PS X (.Assign [tg] e pos) (tAsg te g) := by
  intro pins s σ H D I h
  refine wpAny_Assign_stores (thn (he pins s σ H _ I h) fun v s1 ⟨x, H1, I1, r1, q1⟩ => ?_) hs hw
  rw [h1]
  exact thn (hg pins s1 σ H1 x v _ I1 r1 q1) fun _ s2 q => q
theorem ps_set {i : Nat} {x : Str} {e : Expr} {te : TE} {pos' : Pos} (hN : X.N.Nodup) (hi : X.N[i]? = some x) (hx : Loc X.env.scope x) (he : PE X e te) (hs : swapsWith e (some (.Name x pos')) pos.line X.env = pure false := by rfl) (hf : X.fn x = true ∨ X.env.scope.names.lookup x = some .local := by first | exact .inl rfl | exact .inr rfl | assumption) :
    PS X (.Assign [.Name x pos'] e pos) (tAsg te (gName i)) := by
  intro pins s σ H D I h
  refine wpAny_Assign_Name (thn (he pins s σ H _ I h) fun v s1 ⟨y, H1, I1, r1, q1⟩ => ?_) hs
  exact store_ok I1 hN hi hx r1 (fun s2 I2 => ⟨_, H1, I2, q1⟩) hf
def tAug (i : Nat) (te : TE) (ti : TIp) : TS := fun D σ H => ∃ x, σ[i]? = some (some x) ∧ te σ H fun y H1 => ti x y H1 fun z H2 => D.nx (σ.set i (some z)) H2
theorem ps_aug {i : Nat} {x : Str} {e : Expr} {te : TE} {op : Operator} {ti : TIp} {pos' : Pos} (hN : X.N.Nodup) (hi : X.N[i]? = some x) (hx : Loc X.env.scope x) (he : PE X e te) (ho : PIp X op ti) (hf : X.fn x = true ∨ X.env.scope.names.lookup x = some .local := by first | exact .inl rfl | exact .inr rfl | assumption) :
    PS X (.AugAssign (.Name x pos') op e pos) (tAug i te ti) := by
  intro pins s σ H D I h
  obtain ⟨v, e1, h⟩ := h
  obtain ⟨m, hn, hl⟩ := I.loc
  have vis : Vis X.env.scope x := by rcases hx with k | k; exact .inl k; exact .inr (.inl k)
  obtain ⟨u, r, l⟩ := hl i x v hi e1 vis
  refine wpAny_AugAssign_Name ?_
  have go : wpAny (model X.prog X.w) X.A (eval e X.env) (fun w s₂ => wpAny (model X.prog X.w) X.A (inplaceOp op u w) (fun r s₃ => wpAny (model X.prog X.w) X.A (storeName X.env x r) (fun _ => SP X pins D .next) X.xe s₃) X.xe s₂) X.xe s := by
    refine thn (he pins s σ H _ I h) fun w s1 ⟨y, H1, I1, r1, q1⟩ => ?_
    refine thn (ho pins s1 σ H1 v y u w _ I1 r r1 q1) fun z s2 ⟨zv, H2, I2, r2, q2⟩ => ?_
    exact store_ok I2 hN hi hx r2 (fun s3 I3 => ⟨_, H2, I3, q2⟩) hf
  rcases l with ⟨hk, hm⟩ | ⟨hk, c, hc, hcell⟩
  · exact wpAny_loadName_local I.ok.kind hk hn hm go
  · rcases hk with hk | hk
    · exact wpAny_loadName_cell I.ok.kind hk hc hcell go
    · rcases hx with k | k
      · have : X.env.scope.names.lookup x = some .free := hk
        rw [k] at this; cases this
      · have : X.env.scope.names.lookup x = some .free := hk
        rw [k] at this; cases this
def ipI (f : Int → Int → Int) : TIp := fun x y H Q => ∃ i j, x = .int i ∧ y = .int j ∧ Q (.int (f i j)) H
theorem ip_add : PIp X .Add (ipI fun i j => i + j) := by
  intro pins s σ H x y v u Q I r1 r2 h
  obtain ⟨i, j, e1, e2, q⟩ := h
  subst e1; subst e2
  obtain ⟨t, rfl⟩ := r1
  obtain ⟨t', rfl⟩ := r2
  exact iadd_int ⟨.int _, H, I.tok _, ⟨_, rfl⟩, q⟩
end
section
variable {X : Cx} {pos : Pos}
end
structure It where
  go : Nat → Hp → Prop
  yld : Nat → Hp → V → Hp → Prop
  stop : Nat → Hp → Prop
def FpOk (X : Cx) (pins : List (Addr × Obj)) (H : Hp) (b : Addr) : Prop :=
  H b = none ∧ b ≠ X.env.locals ∧ b ∉ X.fs ∧ (b ∈ X.ex ∨ X.s₀.heap.objs.size ≤ b) ∧ (∀ x c, X.env.cells.lookup x = some c → c ≠ b) ∧ ∀ p ∈ X.pn ++ pins, p.1 ≠ b
theorem Inv.fpOk {X : Cx} {pins : List (Addr × Obj)} {σ : St} {H H' : Hp} {s : Shared} {b : Addr} (I : Inv X pins σ H s) (hb : s.heap.objs.size ≤ b) (hn : H' b = none) : FpOk X pins H' b := by
  refine ⟨hn, Nat.ne_of_gt (Nat.lt_of_lt_of_le I.lt hb), I.nofs hb, .inr (Nat.le_trans I.sz hb), fun x c e z => ?_, fun p hp z => ?_⟩
  · obtain ⟨v, q⟩ := I.cell x c e
    exact absurd (Nat.lt_of_lt_of_le q.lt (by rw [z]; exact hb)) (Nat.lt_irrefl _)
  · exact absurd (Nat.lt_of_lt_of_le (Heap.lt_size (I.pin p hp).1) (by rw [z]; exact hb)) (Nat.lt_irrefl _)
structure Turn (P : Program) (w : World) (K : PySem.W.Frag) (tg : Expr) (J : It) (fp : List Addr) (it : Addr) (tn : Nat → Heap → Prop) : Prop where
  mem : it ∈ fp
  obj : ∀ i h, tn i h → ∀ b ∈ fp, ∃ o, h.get? b = some o ∧ ∀ v, o.data ≠ .cell v
  keep : ∀ i h h', tn i h → (∀ b ∈ fp, ∀ o, h.get? b = some o → h'.get? b = some o) → tn i h'
  item : ∀ (X : Cx), X.prog = P → X.w = w → X.K = K → X.calm = true → ∀ (i : Nat) (pins : List (Addr × Obj)) (s : Shared) (σ : St) (H : Hp) (E : Value → Shared → Prop), Inv X pins σ H s → (∀ b ∈ fp, FpOk X pins H b) → tn i s.heap → J.go i H →
    wpAny (model P w) X.A (pyNext (.ref it)) (fun r s1 => ∃ u, r = some u ∧
      wpAny (model P w) X.A (letOwnedTupleGo tg (.ref it) u) (fun _ s2 => ∃ x H', Inv X pins σ H' s2 ∧ RelV x u ∧ J.yld i H x H' ∧ tn (i + 1) s2.heap ∧ ∀ b ∈ fp, H' b = none) E s1) E s
  done : ∀ (X : Cx), X.prog = P → X.w = w → X.K = K → X.calm = true → ∀ (i : Nat) (pins : List (Addr × Obj)) (s : Shared) (σ : St) (H : Hp) (E : Value → Shared → Prop), Inv X pins σ H s → (∀ b ∈ fp, FpOk X pins H b) → tn i s.heap → J.stop i H →
    wpAny (model P w) X.A (pyNext (.ref it)) (fun r s1 => r = none ∧ Inv X pins σ H s1) E s
  self : ∀ (A : Around) (i : Nat) (s : Shared) (Q : Value → Shared → Prop) (E : Value → Shared → Prop), tn i s.heap → Q (.ref it) s → wpAny (model P w) A (pyIter (.ref it)) Q E s
abbrev TI := St → Hp → (It → Hp → Prop) → Prop
def PIE (X : Cx) (pins : List (Addr × Obj)) (σ : St) (tg : Expr) (R : It → Hp → Prop) (itv : Value) (s2 : Shared) : Prop :=
  ∃ (it : Addr) (fp : List Addr) (tn : Nat → Heap → Prop) (J : It) (H' : Hp), itv = .ref it ∧ Inv X pins σ H' s2 ∧ Turn X.prog X.w X.K tg J fp it tn ∧ tn 0 s2.heap ∧ (∀ b ∈ fp, FpOk X pins H' b) ∧ R J H'
def PI (X : Cx) (tg iter : Expr) (wi : TI) : Prop :=
  ∀ (pins : List (Addr × Obj)) (s : Shared) (σ : St) (H : Hp) (R : It → Hp → Prop), Inv X pins σ H s → wi σ H R →
    wpAny (model X.prog X.w) X.A (eval iter X.env) (fun v s1 => wpAny (model X.prog X.w) X.A (pyIter v) (PIE X pins σ tg R) X.xe s1) X.xe s
theorem go_of {M : Model} {A : Around} {E : Value → Shared → Prop} {s : Shared} {tg : Expr} {it : Addr} {u : Value} {o : Obj} {n : String} {vs : Array Value} {Q : Unit → Shared → Prop} (ho : s.heap.get? it = some o) (hc : o.cls = .type n) (hd : o.data = .fields vs)
    (hn : ["enumerate", "zip", "dict_itemiterator", "dict_reverseitemiterator", "odict_iterator", "itertools.zip_longest", "itertools.pairwise"].contains n = false) (hQ : Q () s) : wpAny M A (letOwnedTupleGo tg (.ref it) u) Q E s := by
  unfold letOwnedTupleGo
  cases tg <;> first
    | exact wpAny_pure hQ
    | (cases u <;> first
        | exact wpAny_pure hQ
        | (refine wpAny_bind (wpAny_load ho ?_)
           rw [hc, hd]
           show wpAny M A (if (["enumerate", "zip", "dict_itemiterator", "dict_reverseitemiterator", "odict_iterator", "itertools.zip_longest", "itertools.pairwise"].contains n && vs[0]? == some (rawInt _)) = true then _ else _) Q E s
           rw [if_neg (by intro h; rw [hn, Bool.false_and] at h; cases h)]
           exact wpAny_pure hQ))
def Itl (K : PySem.W.Frag) (a : Addr) : It :=
  ⟨fun i H => ∃ xs x, SqL K H a xs ∧ xs[i]? = some x, fun i H x H' => H' = H ∧ ∀ xs, SqL K H a xs → xs[i]? = some x, fun i H => ∃ xs, SqL K H a xs ∧ xs.length ≤ i⟩
def Itt (K : PySem.W.Frag) (a : Addr) : It :=
  ⟨fun i H => ∃ xs x, SqT K H a xs ∧ xs[i]? = some x, fun i H x H' => H' = H ∧ ∀ xs, SqT K H a xs → xs[i]? = some x, fun i H => ∃ xs, SqT K H a xs ∧ xs.length ≤ i⟩
def Itr (lo : Int) (n : Nat) : It := ⟨fun i _ => i < n, fun i H x H' => H' = H ∧ x = .int (lo + i), fun i _ => n ≤ i⟩
theorem turn_list {P : Program} {w : World} {K : PySem.W.Frag} {tg : Expr} (a it : Addr) : Turn P w K tg (Itl K a) [it] it (fun i h => h.IsListIter it a i) where
  mem := by simp
  obj := fun i h st b hb => by
    have e : b = it := by simpa using hb
    subst e
    obtain ⟨o, e, c, d⟩ := st
    exact ⟨o, e, fun v z => by rw [d] at z; cases z⟩
  keep := fun i h h' st k => st.at fun o e => k it (by simp) o e
  item := by
    intro X hP hw hK hc i pins s σ H E I hf st hg
    subst hP hw hK
    obtain ⟨xs, x, hq, hx⟩ := hg
    obtain ⟨its, rv, p, hz⟩ := I.list hq
    obtain ⟨u, hu, ru⟩ := rv.get hx
    obtain ⟨f0, f1, f2, f3, f4, f5⟩ := hf it (by simp)
    refine wpAny_pyNext_list_item st p.isList (x := u) (by simpa using hu) fun h' st' sb => ?_
    have I1 : Inv X pins σ H { s with heap := h' } := I.turned (t' := s.toks) (fun b o hb e => (sb.2 b hb).trans e) f0 f1 f3 f4 f5
    obtain ⟨o, e, c, d⟩ := id st'
    exact ⟨u, rfl, go_of (s := { s with heap := h' }) e c d (by decide) ⟨x, H, I1, ru, ⟨rfl, fun ys hy => by rw [I.list_inj hy hq]; exact hx⟩, st', fun b hb => (hf b hb).1⟩⟩
  done := by
    intro X hP hw hK hc i pins s σ H E I hf st hg
    subst hP hw hK
    obtain ⟨xs, hq, hx⟩ := hg
    obtain ⟨its, rv, p, hz⟩ := I.list hq
    obtain ⟨f0, f1, f2, f3, f4, f5⟩ := hf it (by simp)
    have hl := rv.length
    exact wpAny_pyNext_list_end (I.ok.hd hc) st p.isList (by simp; omega) fun h' eb => ⟨rfl, I.turned (t' := s.toks) (fun b o hb e => eb b o hb e) f0 f1 f3 f4 f5⟩
  self := fun _ _ _ _ _ st h => wpAny_pyIter_listiter st h
theorem turn_tuple {P : Program} {w : World} {K : PySem.W.Frag} {tg : Expr} (a it : Addr) : Turn P w K tg (Itt K a) [it] it (fun i h => h.IsTupleIter it a i) where
  mem := by simp
  obj := fun i h st b hb => by
    have e : b = it := by simpa using hb
    subst e
    obtain ⟨o, e, c, d⟩ := st
    exact ⟨o, e, fun v z => by rw [d] at z; cases z⟩
  keep := fun i h h' st k => st.at fun o e => k it (by simp) o e
  item := by
    intro X hP hw hK hc i pins s σ H E I hf st hg
    subst hP hw hK
    obtain ⟨xs, x, hq, hx⟩ := hg
    obtain ⟨its, rv, p, hz⟩ := I.tuple hq
    obtain ⟨u, hu, ru⟩ := rv.get hx
    obtain ⟨f0, f1, f2, f3, f4, f5⟩ := hf it (by simp)
    refine wpAny_pyNext_tuple_item st (show s.heap.IsTuple a its.toArray from p) (x := u) (by simpa using hu) fun h' st' sb => ?_
    have I1 : Inv X pins σ H { s with heap := h' } := I.turned (t' := s.toks) (fun b o hb e => (sb.2 b hb).trans e) f0 f1 f3 f4 f5
    obtain ⟨o, e, c, d⟩ := id st'
    exact ⟨u, rfl, go_of (s := { s with heap := h' }) e c d (by decide) ⟨x, H, I1, ru, ⟨rfl, fun ys hy => by rw [I.tuple_inj hy hq]; exact hx⟩, st', fun b hb => (hf b hb).1⟩⟩
  done := by
    intro X hP hw hK hc i pins s σ H E I hf st hg
    subst hP hw hK
    obtain ⟨xs, hq, hx⟩ := hg
    obtain ⟨its, rv, p, hz⟩ := I.tuple hq
    obtain ⟨f0, f1, f2, f3, f4, f5⟩ := hf it (by simp)
    have hl := rv.length
    exact wpAny_pyNext_tuple_end (I.ok.hd hc) st (show s.heap.IsTuple a its.toArray from p) (by simp; omega) fun h' eb => ⟨rfl, I.turned (t' := s.toks) (fun b o hb e => eb b o hb e) f0 f1 f3 f4 f5⟩
  self := fun _ _ _ _ _ st h => wpAny_pyIter_tupleiter st h
theorem turn_range {P : Program} {w : World} {K : PySem.W.Frag} {tg : Expr} (it : Addr) (lo : Int) (n : Nat) : Turn P w K tg (Itr lo n) [it] it (fun i h => IsRangeIter h it (lo + (i : Nat) * 1) ((n : Int) - (i : Nat)) 1) where
  mem := by simp
  obj := fun i h st b hb => by
    have e : b = it := by simpa using hb
    subst e
    exact ⟨_, st, fun v z => by
      have z' : Data.fields _ = Data.cell v := z
      cases z'⟩
  keep := fun i h h' st k => k it (by simp) _ st
  item := by
    intro X hP hw hK hc i pins s σ H E I hf st hg
    subst hP hw hK
    obtain ⟨f0, f1, f2, f3, f4, f5⟩ := hf it (by simp)
    have W := Walks.range (prog := X.prog) (w := X.w) (I.ok.hd hc) it lo 1 n
    refine W.item i s _ _ hg st fun v h' tk hv st' kk => ?_
    obtain ⟨t, rfl⟩ := hv
    have I1 : Inv X pins σ H { s with heap := h', toks := tk } := I.turned (fun b o hb e => kk b o (by simpa using hb) e) f0 f1 f3 f4 f5
    refine ⟨_, rfl, go_of (s := { s with heap := h', toks := tk }) (n := "range_iterator") st' rfl rfl (by decide) ⟨.int (lo + i), H, I1, ⟨t, ?_⟩, ⟨rfl, rfl⟩, st', fun b hb => (hf b hb).1⟩⟩
    rw [Int.mul_one]
  done := by
    intro X hP hw hK hc i pins s σ H E I hf st hg
    subst hP hw hK
    obtain ⟨f0, f1, f2, f3, f4, f5⟩ := hf it (by simp)
    exact wpAny_pyNext_range_end (I.ok.hd hc) st (by have : n ≤ i := hg; omega) fun h' eb => ⟨rfl, I.turned (t' := s.toks) (fun b o hb e => eb b o hb e) f0 f1 f3 f4 f5⟩
  self := fun _ _ _ _ _ st h => wpAny_pyIter_rangeiter st h
end L2
namespace L2
open PySem PySem.Spec PyProof.Rows
section
variable {X : Cx} {tg : Expr}
def iList (K : PySem.W.Frag) (tl : TE) : TI := fun σ H R => tl σ H fun x H1 => ∃ a, x = .ref a ∧ (∃ xs, SqL K H1 a xs) ∧ R (Itl K a) H1
def iTup (K : PySem.W.Frag) (tl : TE) : TI := fun σ H R => tl σ H fun x H1 => ∃ a, x = .ref a ∧ (∃ xs, SqT K H1 a xs) ∧ R (Itt K a) H1
theorem pi_list {l : Expr} {tl : TE} (hl : PE X l tl) : PI X tg l (iList X.K tl) := by
  intro pins s σ H R I h
  refine thn (hl pins s σ H _ I h) fun v s1 ⟨x, H1, I1, r1, q1⟩ => ?_
  obtain ⟨a, e, ⟨xs, hq⟩, q⟩ := q1
  subst e
  cases r1
  obtain ⟨its, rv, p, hz⟩ := I1.list hq
  refine wpAny_pyIter_list p.isList ?_
  refine ⟨s1.heap.objs.size, [s1.heap.objs.size], _, _, H1, rfl, I1.kept (t' := s1.toks) fun b o e => Heap.get?_push_of_some _ e, turn_list a _, ⟨_, Heap.get?_push_size _ rfl, rfl, rfl⟩, fun b hb => ?_, q⟩
  have e : b = s1.heap.objs.size := by simpa using hb
  subst e
  exact I1.fpOk (Nat.le_refl _) (I1.hok.fresh (Nat.le_refl _))
theorem pi_tup {l : Expr} {tl : TE} (hl : PE X l tl) : PI X tg l (iTup X.K tl) := by
  intro pins s σ H R I h
  refine thn (hl pins s σ H _ I h) fun v s1 ⟨x, H1, I1, r1, q1⟩ => ?_
  obtain ⟨a, e, ⟨xs, hq⟩, q⟩ := q1
  subst e
  cases r1
  obtain ⟨its, rv, p, hz⟩ := I1.tuple hq
  refine wpAny_pyIter_tuple (show s1.heap.IsTuple a its.toArray from p) ?_
  refine ⟨s1.heap.objs.size, [s1.heap.objs.size], _, _, H1, rfl, I1.kept (t' := s1.toks) fun b o e => Heap.get?_push_of_some _ e, turn_tuple a _, ⟨_, Heap.get?_push_size _ rfl, rfl, rfl⟩, fun b hb => ?_, q⟩
  have e : b = s1.heap.objs.size := by simpa using hb
  subst e
  exact I1.fpOk (Nat.le_refl _) (I1.hok.fresh (Nat.le_refl _))
theorem range_it {pins : List (Addr × Obj)} {σ : St} {H : Hp} {s : Shared} {R : It → Hp → Prop} {E : Value → Shared → Prop} {lo hi : Int} {t u v : Tok} {tk : Nat} (I : Inv X pins σ H s) (h1 : -(2 ^ 62) ≤ lo) (h2 : lo < 2 ^ 62) (h3 : -(2 ^ 62) ≤ hi) (h4 : hi < 2 ^ 62)
    (q : R (Itr lo (hi - lo).toNat) H) : wpAny (model X.prog X.w) X.A (pyIter (.ref s.heap.objs.size)) (PIE X pins σ tg R) E { s with heap := s.heap.push { cls := .type "range", data := .fields #[.int lo t, .int hi u, .int 1 v] }, toks := tk } := by
  refine wpAny_pyIter_range (IsRange.new ..) (small_one h1 h2 h3 h4) ?_
  have I1 : Inv X pins σ H { s with heap := s.heap.push { cls := .type "range", data := .fields #[.int lo t, .int hi u, .int 1 v] }, toks := tk } := I.kept fun b o e => Heap.get?_push_of_some _ e
  refine ⟨(s.heap.push { cls := .type "range", data := .fields #[.int lo t, .int hi u, .int 1 v] }).objs.size, [(s.heap.push { cls := .type "range", data := .fields #[.int lo t, .int hi u, .int 1 v] }).objs.size], _, _, H, rfl,
    I1.kept (t' := tk) fun b o e => Heap.get?_push_of_some _ e, turn_range _ lo (hi - lo).toNat, ?_, fun b hb => ?_, q⟩
  · have e1 : lo + ((0 : Nat) : Int) * 1 = lo := by simp
    have e2 : (((hi - lo).toNat : Nat) : Int) - ((0 : Nat) : Int) = Builtin.Range.rangeSize lo hi 1 := by rw [rangeSize_one]; split <;> omega
    show IsRangeIter _ _ (lo + ((0 : Nat) : Int) * 1) ((((hi - lo).toNat : Nat) : Int) - ((0 : Nat) : Int)) 1
    rw [e1, e2]
    exact Heap.get?_push_size _ rfl
  · have e : b = (s.heap.push { cls := .type "range", data := .fields #[.int lo t, .int hi u, .int 1 v] }).objs.size := by simpa using hb
    subst e
    exact I1.fpOk (Nat.le_refl _) (I1.hok.fresh (Nat.le_refl _))
def iRng1 (ta : TA) : TI := fun σ H R => ta σ H fun vs H1 => ∃ j : Int, vs = [.int j] ∧ -(2 ^ 62) ≤ j ∧ j < 2 ^ 62 ∧ R (Itr 0 j.toNat) H1
def iRng2 (ta : TA) : TI := fun σ H R => ta σ H fun vs H1 => ∃ i j : Int, vs = [.int i, .int j] ∧ (-(2 ^ 62) ≤ i ∧ i < 2 ^ 62 ∧ -(2 ^ 62) ≤ j ∧ j < 2 ^ 62) ∧ R (Itr i (j - i).toNat) H1
theorem pi_range1 {a : Expr} {ta : TA} {p pos : Pos} (hg : Gl X "range") (hm : X.mg "range" = none) (ha : PA X [a] ta) (hs : starEach [a] X.env = [(false, eval a X.env)] := by rfl) : PI X tg (.Call (.Name "range" p) [a] [] pos) (iRng1 ta) := by
  intro pins s σ H R I h
  refine Call_ (ld_blt I hg hm boot_range (PyProof.Rows.callWith_type1 (thn (ha pos pins s σ H _ I h) fun us s1 ⟨vs, H1, I1, r1, q1⟩ => ?_) hs rfl))
  obtain ⟨j, e, q1, q2, q⟩ := q1
  subst e
  cases r1 with
  | cons r rr =>
    cases rr
    obtain ⟨t, rfl⟩ := r
    exact call_range_1 (range_it I1 (by omega) (by omega) q1 q2 (by simpa using q))
theorem pi_range2 {a b : Expr} {ta : TA} {p pos : Pos} (hg : Gl X "range") (hm : X.mg "range" = none) (ha : PA X [a, b] ta) (hs : starEach [a, b] X.env = [(false, eval a X.env), (false, eval b X.env)] := by rfl) (hs2 : starEach [b] X.env = [(false, eval b X.env)] := by rfl) :
    PI X tg (.Call (.Name "range" p) [a, b] [] pos) (iRng2 ta) := by
  intro pins s σ H R I h
  refine Call_ (ld_blt I hg hm boot_range (PyProof.Rows.callWith_type1 (thn (ha pos pins s σ H _ I h) fun us s1 ⟨vs, H1, I1, r1, q1⟩ => ?_) (by rw [hs, hs2]) (by rw [hs2]; rfl)))
  obtain ⟨i, j, e, ⟨q1, q2, q3, q4⟩, q⟩ := q1
  subst e
  cases r1 with
  | cons r rr =>
    cases rr with
    | cons r' rr =>
      cases rr
      obtain ⟨t, rfl⟩ := r
      obtain ⟨t', rfl⟩ := r'
      exact call_range_2 (range_it I1 q1 q2 q3 q4 q)
def tFor (wi : TI) (g : TG) (tb : TS) : TS := fun D σ H => wi σ H fun J H1 => ∃ W : Nat → Nat → St → Hp → Prop, (∃ m, W 0 m σ H1) ∧ ∀ i m σ H, W i m σ H →
  (J.stop i H ∧ D.nx σ H) ∨ (J.go i H ∧ ∃ N : St → Hp → Prop, (∀ σ' H', N σ' H' → ∃ m', m' < m ∧ W (i + 1) m' σ' H') ∧ ∀ x H', J.yld i H x H' → g x σ H' fun σ2 H2 => tb { D with nx := N, ct := N, bk := D.nx } σ2 H2)
def pinsAt (fp : List Addr) (h : Heap) : List (Addr × Obj) := fp.filterMap fun b => (h.get? b).map fun o => (b, o)
theorem mem_pinsAt {fp : List Addr} {h : Heap} {b : Addr} {o : Obj} (hb : b ∈ fp) (e : h.get? b = some o) : (b, o) ∈ pinsAt fp h := List.mem_filterMap.mpr ⟨b, hb, by rw [e]; rfl⟩
theorem of_pinsAt {fp : List Addr} {h : Heap} {p : Addr × Obj} (hp : p ∈ pinsAt fp h) : p.1 ∈ fp ∧ h.get? p.1 = some p.2 := by
  obtain ⟨b, hb, e⟩ := List.mem_filterMap.mp hp
  cases q : h.get? b with
  | none => rw [q] at e; cases e
  | some o =>
    rw [q] at e
    have e' : (b, o) = p := Option.some.inj e
    subst e'
    exact ⟨hb, q⟩
theorem Inv.pinned {pins : List (Addr × Obj)} {σ : St} {H : Hp} {s : Shared} {fp : List Addr} (I : Inv X pins σ H s) (hf : ∀ b ∈ fp, FpOk X pins H b) (ho : ∀ b ∈ fp, ∃ o, s.heap.get? b = some o ∧ ∀ v, o.data ≠ .cell v) : Inv X (pins ++ pinsAt fp s.heap) σ H s :=
  I.pins_of fun p hp => (List.mem_append.mp hp).elim (fun z => I.pin p (List.mem_append_right _ z)) fun z => by
    obtain ⟨hb, e⟩ := of_pinsAt z
    obtain ⟨f0, f1, f2, _⟩ := hf p.1 hb
    obtain ⟨o, e', d⟩ := ho p.1 hb
    rw [e] at e'; cases e'
    exact ⟨e, f0, f1, f2, d⟩
theorem Inv.unpinned {pins pl : List (Addr × Obj)} {σ : St} {H : Hp} {s : Shared} (I : Inv X (pins ++ pl) σ H s) : Inv X pins σ H s := I.pins_of fun p hp => I.pin p (List.mem_append_right _ (List.mem_append_left _ hp))
theorem ps_for {iter : Expr} {body : List Stmt} {wi : TI} {g : TG} {tb : TS} {pos : Pos} (hp : PassesOwn (model X.prog X.w) X.A X.env X.xe) (hc : X.calm = true) (hi : PI X tg iter wi) (hg : PG X tg g) (hb : PSs X body tb)
    (hs : ∀ x, foldedSetIterable iter X.env x = pure x := by intro _; rfl) : PS X (.For tg iter body [] pos) (tFor wi g tb) := by
  intro pins s σ H D I h
  refine wpAny_For (thn (hi pins s σ H _ I h) fun v s1 h1 => thn h1 fun itv s2 h2 => ?_) hs
  obtain ⟨it, fp, tn, J, H2, e, I2, T, st2, f2, W, ⟨m0, w0⟩, turn⟩ := h2
  subst e
  -- what stays true of the iterator's objects through the loop
  have stat : ∀ {H' : Hp}, (∀ b ∈ fp, H' b = none) → ∀ b ∈ fp, FpOk X pins H' b := fun hn b hb => ⟨hn b hb, (f2 b hb).2⟩
  refine codeAny_forLoop_any (fun n s' => ∃ i σ' H', Inv X pins σ' H' s' ∧ tn i s'.heap ∧ (∀ b ∈ fp, H' b = none) ∧ W i n σ' H') ?_ m0 ⟨0, σ, H2, I2, st2, fun b hb => (f2 b hb).1, w0⟩
  rintro n s3 ⟨i, σ3, H3, I3, st3, fr3, w3⟩
  rcases turn i n σ3 H3 w3 with ⟨stop, qn⟩ | ⟨go, N, hN, step⟩
  · refine wpAny_passesOwn hp (thn (T.done X rfl rfl rfl hc i pins s3 σ3 H3 X.xe I3 (stat fr3) st3 stop) fun r s4 ⟨hr, I4⟩ => ?_)
    subst hr
    exact wpAny_execs_nil ⟨σ3, H3, I4, qn⟩
  · refine wpAny_passesOwn hp (thn (T.item X rfl rfl rfl hc i pins s3 σ3 H3 X.xe I3 (stat fr3) st3 go) fun r s4 ⟨u, hr, h4⟩ => ?_)
    subst hr
    refine wpAny_passesOwn hp (thn h4 fun _ s5 ⟨x, H5, I5, r5, y5, st5, fr5⟩ => ?_)
    have I5' := I5.pinned (stat fr5) (T.obj _ _ st5)
    refine wpAny_passesOwn hp (thn (hg _ s5 σ3 H5 x u _ I5' r5 (step x H5 y5)) fun _ s6 ⟨σ6, H6, I6, q6⟩ => ?_)
    refine wpAny_passesOwn hp (thn (hb _ s6 σ6 H6 _ I6 q6) fun f s7 q7 => ?_)
    have again : ∀ {σ7 : St} {H7 : Hp}, Inv X (pins ++ pinsAt fp s5.heap) σ7 H7 s7 → N σ7 H7 → ∃ m, m < n ∧ ∃ i σ' H', Inv X pins σ' H' s7 ∧ tn i s7.heap ∧ (∀ b ∈ fp, H' b = none) ∧ W i m σ' H' := fun {σ7 H7} I7 n7 => by
      obtain ⟨m', hm, w7⟩ := hN σ7 H7 n7
      refine ⟨m', hm, i + 1, σ7, H7, I7.unpinned, T.keep _ _ _ st5 fun b hb o e => (I7.pin (b, o) (List.mem_append_right _ (List.mem_append_right _ (mem_pinsAt hb e)))).1, fun b hb => ?_, w7⟩
      obtain ⟨o, e, d⟩ := T.obj _ _ st5 b hb
      exact (I7.pin (b, o) (List.mem_append_right _ (List.mem_append_right _ (mem_pinsAt hb e)))).2.1
    cases f with
    | next => obtain ⟨σ7, H7, I7, n7⟩ := q7; exact again I7 n7
    | cont => obtain ⟨σ7, H7, I7, n7⟩ := q7; exact again I7 n7
    | brk => obtain ⟨σ7, H7, I7, q7⟩ := q7; exact ⟨σ7, H7, I7.unpinned, q7⟩
    | ret v => obtain ⟨x7, σ7, H7, I7, r7, q7⟩ := q7; exact ⟨x7, σ7, H7, I7.unpinned, r7, q7⟩
end
theorem for_list {K : PySem.W.Frag} {a : Addr} {xs : List V} {g : TG} {tb : TS} {D : Ends} {σ : St} {H : Hp} (Pv : Nat → St → Hp → Prop) (h0 : Pv 0 σ H) (hl : ∀ i σ H, i ≤ xs.length → Pv i σ H → SqL K H a xs)
    (hs : ∀ i x σ H, xs[i]? = some x → Pv i σ H → g x σ H fun σ2 H2 => tb { D with nx := Pv (i + 1), ct := Pv (i + 1), bk := D.nx } σ2 H2) (hd : ∀ σ H, Pv xs.length σ H → D.nx σ H) :
    ∃ W : Nat → Nat → St → Hp → Prop, (∃ m, W 0 m σ H) ∧ ∀ i m σ H, W i m σ H →
      ((Itl K a).stop i H ∧ D.nx σ H) ∨ ((Itl K a).go i H ∧ ∃ N : St → Hp → Prop, (∀ σ' H', N σ' H' → ∃ m', m' < m ∧ W (i + 1) m' σ' H') ∧ ∀ x H', (Itl K a).yld i H x H' → g x σ H' fun σ2 H2 => tb { D with nx := N, ct := N, bk := D.nx } σ2 H2) := by
  refine ⟨fun i m σ H => m = xs.length - i ∧ i ≤ xs.length ∧ Pv i σ H, ⟨xs.length, by simp, Nat.zero_le _, h0⟩, ?_⟩
  rintro i m σ H ⟨rfl, hi, p⟩
  have q := hl i σ H hi p
  by_cases hlt : i < xs.length
  · refine .inr ⟨⟨xs, xs[i], q, by simp [hlt]⟩, Pv (i + 1), fun σ' H' p' => ⟨xs.length - (i + 1), by omega, rfl, hlt, p'⟩, fun x H' y => ?_⟩
    obtain ⟨e, y⟩ := y
    subst e
    exact hs i x σ _ (y xs q) p
  · have e : i = xs.length := by omega
    subst e
    exact .inl ⟨⟨xs, q, Nat.le_refl _⟩, hd σ H p⟩
theorem for_tup {K : PySem.W.Frag} {a : Addr} {xs : List V} {g : TG} {tb : TS} {D : Ends} {σ : St} {H : Hp} (Pv : Nat → St → Hp → Prop) (h0 : Pv 0 σ H) (hl : ∀ i σ H, i ≤ xs.length → Pv i σ H → SqT K H a xs)
    (hs : ∀ i x σ H, xs[i]? = some x → Pv i σ H → g x σ H fun σ2 H2 => tb { D with nx := Pv (i + 1), ct := Pv (i + 1), bk := D.nx } σ2 H2) (hd : ∀ σ H, Pv xs.length σ H → D.nx σ H) :
    ∃ W : Nat → Nat → St → Hp → Prop, (∃ m, W 0 m σ H) ∧ ∀ i m σ H, W i m σ H →
      ((Itt K a).stop i H ∧ D.nx σ H) ∨ ((Itt K a).go i H ∧ ∃ N : St → Hp → Prop, (∀ σ' H', N σ' H' → ∃ m', m' < m ∧ W (i + 1) m' σ' H') ∧ ∀ x H', (Itt K a).yld i H x H' → g x σ H' fun σ2 H2 => tb { D with nx := N, ct := N, bk := D.nx } σ2 H2) := by
  refine ⟨fun i m σ H => m = xs.length - i ∧ i ≤ xs.length ∧ Pv i σ H, ⟨xs.length, by simp, Nat.zero_le _, h0⟩, ?_⟩
  rintro i m σ H ⟨rfl, hi, p⟩
  have q := hl i σ H hi p
  by_cases hlt : i < xs.length
  · refine .inr ⟨⟨xs, xs[i], q, by simp [hlt]⟩, Pv (i + 1), fun σ' H' p' => ⟨xs.length - (i + 1), by omega, rfl, hlt, p'⟩, fun x H' y => ?_⟩
    obtain ⟨e, y⟩ := y
    subst e
    exact hs i x σ _ (y xs q) p
  · have e : i = xs.length := by omega
    subst e
    exact .inl ⟨⟨xs, q, Nat.le_refl _⟩, hd σ H p⟩
theorem for_range {lo : Int} {n : Nat} {g : TG} {tb : TS} {D : Ends} {σ : St} {H : Hp} (Pv : Nat → St → Hp → Prop) (h0 : Pv 0 σ H)
    (hs : ∀ i σ H, i < n → Pv i σ H → g (.int (lo + i)) σ H fun σ2 H2 => tb { D with nx := Pv (i + 1), ct := Pv (i + 1), bk := D.nx } σ2 H2) (hd : ∀ σ H, Pv n σ H → D.nx σ H) :
    ∃ W : Nat → Nat → St → Hp → Prop, (∃ m, W 0 m σ H) ∧ ∀ i m σ H, W i m σ H →
      ((Itr lo n).stop i H ∧ D.nx σ H) ∨ ((Itr lo n).go i H ∧ ∃ N : St → Hp → Prop, (∀ σ' H', N σ' H' → ∃ m', m' < m ∧ W (i + 1) m' σ' H') ∧ ∀ x H', (Itr lo n).yld i H x H' → g x σ H' fun σ2 H2 => tb { D with nx := N, ct := N, bk := D.nx } σ2 H2) := by
  refine ⟨fun i m σ H => m = n - i ∧ i ≤ n ∧ Pv i σ H, ⟨n, by simp, Nat.zero_le _, h0⟩, ?_⟩
  rintro i m σ H ⟨rfl, hi, p⟩
  by_cases hlt : i < n
  · refine .inr ⟨hlt, Pv (i + 1), fun σ' H' p' => ⟨n - (i + 1), by omega, rfl, hlt, p'⟩, fun x H' y => ?_⟩
    obtain ⟨e, y⟩ := y
    subst e y
    exact hs i σ _ hlt p
  · have e : i = n := by omega
    subst e
    exact .inl ⟨Nat.le_refl _, hd σ H p⟩
end L2
namespace L2
open PySem PySem.Spec PyProof.Rows
abbrev R2 := V → V → Hp → VK → Prop
def OpR (X : Cx) (f : Value → Value → Sem Value) (r : R2) : Prop :=
  ∀ (pins : List (Addr × Obj)) (s : Shared) (σ : St) (H : Hp) (x y : V) (v u : Value) (Q : VK), Inv X pins σ H s → RelV x v → RelV y u → r x y H Q →
    wpAny (model X.prog X.w) X.A (f v u) (EP X pins σ Q) X.xe s
def UnR (X : Cx) (f : Value → Sem Value) (r : V → Hp → VK → Prop) : Prop :=
  ∀ (pins : List (Addr × Obj)) (s : Shared) (σ : St) (H : Hp) (x : V) (v : Value) (Q : VK), Inv X pins σ H s → RelV x v → r x H Q →
    wpAny (model X.prog X.w) X.A (f v) (EP X pins σ Q) X.xe s
def CallR (X : Cx) (f : Value) (r : List V → Hp → VK → Prop) : Prop :=
  ∀ (pins : List (Addr × Obj)) (s : Shared) (σ : St) (H : Hp) (xs : List V) (us : List Value) (Q : VK), Inv X pins σ H s → Vals xs us → r xs H Q →
    wpAny (model X.prog X.w) X.A (call f us) (EP X pins σ Q) X.xe s
def tOp (r : R2) (ta tb : TE) : TE := fun σ H Q => ta σ H fun x H1 => tb σ H1 fun y H2 => r x y H2 Q
def tUn (r : V → Hp → VK → Prop) (ta : TE) : TE := fun σ H Q => ta σ H fun x H1 => r x H1 Q
def rI (C : Int → Int → Prop) (g : Int → Int → V) : R2 := fun x y H Q => ∃ i j, x = .int i ∧ y = .int j ∧ C i j ∧ Q (g i j) H
def rI0 (g : Int → Int → V) : R2 := fun x y H Q => ∃ i j, x = .int i ∧ y = .int j ∧ Q (g i j) H
def rU (g : Int → V) : V → Hp → VK → Prop := fun x H Q => ∃ i, x = .int i ∧ Q (g i) H
section
variable {X : Cx} {a b c : Expr} {ta tb tc : TE} {pos : Pos}
theorem binT (ha : PE X a ta) (hb : PE X b tb) {pins : List (Addr × Obj)} {s : Shared} {σ : St} {H : Hp} {R : V → V → Hp → Prop} (I : Inv X pins σ H s)
    (h : ta σ H fun x H1 => tb σ H1 fun y H2 => R x y H2) {Q : Value → Shared → Prop} {f : Value → Value → Sem Value}
    (hf : ∀ v u s2 x y H2, Inv X pins σ H2 s2 → RelV x v → RelV y u → R x y H2 → wpAny (model X.prog X.w) X.A (f v u) Q X.xe s2) :
    wpAny (model X.prog X.w) X.A (eval a X.env) (fun v s₁ => wpAny (model X.prog X.w) X.A (eval b X.env) (fun u s₂ => wpAny (model X.prog X.w) X.A (f v u) Q X.xe s₂) X.xe s₁) X.xe s := by
  refine thn (ha pins s σ H _ I h) fun v s1 ⟨x, H1, I1, r1, q1⟩ => ?_
  refine thn (hb pins s1 σ H1 _ I1 q1) fun u s2 ⟨y, H2, I2, r2, q2⟩ => ?_
  exact hf v u s2 x y H2 I2 r1 r2 q2
theorem pe_op {op : Operator} {r : R2} (ho : OpR X (binaryOp op) r) (ha : PE X a ta) (hb : PE X b tb) : PE X (.BinOp a op b pos) (tOp r ta tb) := by
  intro pins s σ H Q I h
  exact wpAny_BinOp (binT ha hb I h fun v u s2 x y H2 I2 rx ry q => ho pins s2 σ H2 x y v u Q I2 rx ry q)
theorem pe_un {op : UnaryOp} {r : V → Hp → VK → Prop} (ho : UnR X (unaryOp op) r) (ha : PE X a ta) : PE X (.UnaryOp op a pos) (tUn r ta) := by
  intro pins s σ H Q I h
  exact UnaryOp_ (thn (ha pins s σ H _ I h) fun v s1 ⟨x, H1, I1, r1, q1⟩ => ho pins s1 σ H1 x v Q I1 r1 q1)
theorem opI {f : Value → Value → Sem Value} {C : Int → Int → Prop} {g : Int → Int → Int}
    (rule : ∀ (i j : Int) (t u : Tok) (s : Shared) (Q : Value → Shared → Prop) (E : Value → Shared → Prop), C i j → Q (.int (g i j) s.toks) { s with toks := s.toks + 1 } → wpAny (model X.prog X.w) X.A (f (.int i t) (.int j u)) Q E s) :
    OpR X f (rI C fun i j => .int (g i j)) := by
  intro pins s σ H x y v u Q I rx ry h
  obtain ⟨i, j, rfl, rfl, hc, q⟩ := h
  obtain ⟨t, rfl⟩ := rx
  obtain ⟨t', rfl⟩ := ry
  exact rule i j t t' s _ _ hc ⟨.int (g i j), H, I.tok _, ⟨_, rfl⟩, q⟩
theorem opI0 {f : Value → Value → Sem Value} {g : Int → Int → Int}
    (rule : ∀ (i j : Int) (t u : Tok) (s : Shared) (Q : Value → Shared → Prop) (E : Value → Shared → Prop), Q (.int (g i j) s.toks) { s with toks := s.toks + 1 } → wpAny (model X.prog X.w) X.A (f (.int i t) (.int j u)) Q E s) :
    OpR X f (rI0 fun i j => .int (g i j)) := by
  intro pins s σ H x y v u Q I rx ry h
  obtain ⟨i, j, rfl, rfl, q⟩ := h
  obtain ⟨t, rfl⟩ := rx
  obtain ⟨t', rfl⟩ := ry
  exact rule i j t t' s _ _ ⟨.int (g i j), H, I.tok _, ⟨_, rfl⟩, q⟩
theorem opB0 {f : Value → Value → Sem Value} {g : Int → Int → Bool}
    (rule : ∀ (i j : Int) (t u : Tok) (s : Shared) (Q : Value → Shared → Prop) (E : Value → Shared → Prop), Q (.bool (g i j)) s → wpAny (model X.prog X.w) X.A (f (.int i t) (.int j u)) Q E s) :
    OpR X f (rI0 fun i j => .bl (g i j)) := by
  intro pins s σ H x y v u Q I rx ry h
  obtain ⟨i, j, rfl, rfl, q⟩ := h
  obtain ⟨t, rfl⟩ := rx
  obtain ⟨t', rfl⟩ := ry
  exact rule i j t t' s _ _ ⟨.bl (g i j), H, I, rfl, q⟩
def CPow (i j : Int) : Prop := 0 ≤ j ∧ j ≤ 1000000 ∧ i.natAbs < 2 ^ 64
def CMul (i j : Int) : Prop := (-(2 ^ 64) < i ∧ i < 2 ^ 64) ∨ (-(2 ^ 64) < j ∧ j < 2 ^ 64)
theorem CMul.ok {i j : Int} (h : CMul i j) : IntMulOk i j := by
  rcases h with ⟨h1, h2⟩ | ⟨h1, h2⟩
  · exact .of_left (intBits_le_64 h1 h2)
  · exact .of_right (intBits_le_64 h1 h2)
theorem op_add : OpR X (binaryOp .Add) (rI0 fun i j => .int (i + j)) := opI0 fun _ _ _ _ _ _ _ q => add_int q
theorem op_sub : OpR X (binaryOp .Sub) (rI0 fun i j => .int (i - j)) := opI0 fun _ _ _ _ _ _ _ q => sub_int q
theorem op_mod : OpR X (binaryOp .Mod) (rI (fun _ j => 0 < j) fun i j => .int (i % j)) := opI fun i j _ _ _ _ _ hc q => by
  have h1 : (0 : Int) < j := hc
  exact mod_int' (by omega) (by rw [Int.fmod_eq_emod_of_nonneg i (by omega)]; exact q)
theorem op_pow : OpR X (binaryOp .Pow) (rI CPow fun i j => .int (i ^ j.toNat)) := opI fun _ _ _ _ _ _ _ hc q => pow_int_small hc.1 hc.2.1 hc.2.2 q
theorem unI {f : Value → Sem Value} {g : Int → Int}
    (rule : ∀ (i : Int) (t : Tok) (s : Shared) (Q : Value → Shared → Prop) (E : Value → Shared → Prop), Q (.int (g i) s.toks) { s with toks := s.toks + 1 } → wpAny (model X.prog X.w) X.A (f (.int i t)) Q E s) :
    UnR X f (rU fun i => .int (g i)) := by
  intro pins s σ H x v Q I rx h
  obtain ⟨i, rfl, q⟩ := h
  obtain ⟨t, rfl⟩ := rx
  exact rule i t s _ _ ⟨.int (g i), H, I.tok _, ⟨_, rfl⟩, q⟩
theorem un_neg : UnR X (unaryOp .USub) (rU fun i => .int (-i)) := unI fun _ _ _ _ _ q => neg_int q
end
def scal : V → V → Bool
  | .non, .non => true | .non, .int _ => true | .int _, .non => true | .non, .bl _ => true | .bl _, .non => true | .non, .str _ => true | .str _, .non => true
  | .int _, .int _ => true | .bl _, .bl _ => true | .str _, .str _ => true | .byt _, .byt _ => true
  | .int _, .str _ => true | .str _, .int _ => true | .bl _, .str _ => true | .str _, .bl _ => true
  | _, _ => false
def rEq : R2 := fun x y H Q => scal x y = true ∧ Q (.bl (decide (x = y))) H
def rNe : R2 := fun x y H Q => scal x y = true ∧ Q (.bl (!decide (x = y))) H
theorem dec_int {i j : Int} : decide (V.int i = V.int j) = (i == j) := by
  rw [Bool.eq_iff_iff]
  simp
theorem dec_bl {i j : Bool} : decide (V.bl i = V.bl j) = (i == j) := by
  rw [Bool.eq_iff_iff]
  simp
theorem dec_str {i j : Str} : decide (V.str i = V.str j) = (i == j) := by
  rw [Bool.eq_iff_iff]
  simp
theorem dec_byt {i j : Array UInt8} : decide (V.byt i = V.byt j) = (i.toList == j.toList) := by
  rw [Bool.eq_iff_iff]
  cases i
  cases j
  simp
section
variable {X : Cx} {a b c : Expr} {ta tb tc : TE} {pos : Pos}
theorem fin_bl {pins : List (Addr × Obj)} {σ : St} {H : Hp} {s : Shared} {Q : VK} {k k' : Bool} (I : Inv X pins σ H s) (q : Q (.bl k) H) (e : k = k') : EP X pins σ Q (.bool k') s := by
  subst e
  exact ⟨.bl k, H, I, rfl, q⟩
theorem op_eq : OpR X (compareOp .Eq) rEq := by
  intro pins s σ H x y v u Q I rx ry h
  obtain ⟨hs, q⟩ := h
  cases x with
  | non =>
    cases rx
    cases y with
    | non => cases ry; exact PySem.EqNone.eq_none_none (fin_bl I q (by simp))
    | bl j => cases ry; exact PySem.EqNone.eq_none_bool (fin_bl I q (by simp))
    | int j => obtain ⟨t', rfl⟩ := ry; exact PySem.EqNone.eq_none_int (fin_bl I q (by simp))
    | str j => obtain ⟨t', rfl⟩ := ry; exact PySem.EqNone.eq_none_str (fin_bl I q (by simp))
    | _ => exact absurd (show false = true from hs) Bool.false_ne_true
  | bl i =>
    cases rx
    cases y with
    | non => cases ry; exact PySem.EqNone.eq_bool_none (fin_bl I q (by simp))
    | bl j => cases ry; exact eq_bool (fin_bl I q dec_bl)
    | str j => obtain ⟨t', rfl⟩ := ry; exact PySem.EqMixed.eq_bool_str (fin_bl I q (by simp))
    | _ => exact absurd (show false = true from hs) Bool.false_ne_true
  | int i =>
    obtain ⟨t, rfl⟩ := rx
    cases y with
    | non => cases ry; exact PySem.EqNone.eq_int_none (fin_bl I q (by simp))
    | int j => obtain ⟨t', rfl⟩ := ry; exact eq_int (fin_bl I q dec_int)
    | str j => obtain ⟨t', rfl⟩ := ry; exact PySem.EqMixed.eq_int_str (fin_bl I q (by simp))
    | _ => exact absurd (show false = true from hs) Bool.false_ne_true
  | str i =>
    obtain ⟨t, rfl⟩ := rx
    cases y with
    | non => cases ry; exact PySem.EqNone.eq_str_none (fin_bl I q (by simp))
    | bl j => cases ry; exact PySem.EqMixed.eq_str_bool (fin_bl I q (by simp))
    | int j => obtain ⟨t', rfl⟩ := ry; exact PySem.EqMixed.eq_str_int (fin_bl I q (by simp))
    | str j => obtain ⟨t', rfl⟩ := ry; exact eq_str (fin_bl I q dec_str)
    | _ => exact absurd (show false = true from hs) Bool.false_ne_true
  | byt i =>
    obtain ⟨t, rfl⟩ := rx
    cases y with
    | byt j => obtain ⟨t', rfl⟩ := ry; exact PySem.W.eq_bytes (fin_bl I q dec_byt)
    | _ => exact absurd (show false = true from hs) Bool.false_ne_true
  | _ => cases y <;> exact absurd (show false = true from hs) Bool.false_ne_true
theorem op_ne : OpR X (compareOp .NotEq) rNe := by
  intro pins s σ H x y v u Q I rx ry h
  obtain ⟨hs, q⟩ := h
  cases x with
  | non =>
    cases rx
    cases y with
    | non => cases ry; exact PySem.EqNone.ne_none_none (fin_bl I q (by simp))
    | bl j => cases ry; exact PySem.EqNone.ne_none_bool (fin_bl I q (by simp))
    | int j => obtain ⟨t', rfl⟩ := ry; exact PySem.EqNone.ne_none_int (fin_bl I q (by simp))
    | str j => obtain ⟨t', rfl⟩ := ry; exact PySem.EqNone.ne_none_str (fin_bl I q (by simp))
    | _ => exact absurd (show false = true from hs) Bool.false_ne_true
  | bl i =>
    cases rx
    cases y with
    | non => cases ry; exact PySem.EqNone.ne_bool_none (fin_bl I q (by simp))
    | bl j => cases ry; exact ne_bool (fin_bl I q (congrArg not dec_bl))
    | str j => obtain ⟨t', rfl⟩ := ry; exact PySem.EqMixed.ne_bool_str (fin_bl I q (by simp))
    | _ => exact absurd (show false = true from hs) Bool.false_ne_true
  | int i =>
    obtain ⟨t, rfl⟩ := rx
    cases y with
    | non => cases ry; exact PySem.EqNone.ne_int_none (fin_bl I q (by simp))
    | int j => obtain ⟨t', rfl⟩ := ry; exact ne_int (fin_bl I q (congrArg not dec_int))
    | str j => obtain ⟨t', rfl⟩ := ry; exact PySem.EqMixed.ne_int_str (fin_bl I q (by simp))
    | _ => exact absurd (show false = true from hs) Bool.false_ne_true
  | str i =>
    obtain ⟨t, rfl⟩ := rx
    cases y with
    | non => cases ry; exact PySem.EqNone.ne_str_none (fin_bl I q (by simp))
    | bl j => cases ry; exact PySem.EqMixed.ne_str_bool (fin_bl I q (by simp))
    | int j => obtain ⟨t', rfl⟩ := ry; exact PySem.EqMixed.ne_str_int (fin_bl I q (by simp))
    | str j => obtain ⟨t', rfl⟩ := ry; exact ne_str (fin_bl I q (congrArg not dec_str))
    | _ => exact absurd (show false = true from hs) Bool.false_ne_true
  | byt i =>
    obtain ⟨t, rfl⟩ := rx
    cases y with
    | byt j => obtain ⟨t', rfl⟩ := ry; exact PySem.W.ne_bytes (fin_bl I q (congrArg not dec_byt))
    | _ => exact absurd (show false = true from hs) Bool.false_ne_true
  | _ => cases y <;> exact absurd (show false = true from hs) Bool.false_ne_true
theorem op_lt : OpR X (compareOp .Lt) (rI0 fun i j => .bl (decide (i < j))) := opB0 fun _ _ _ _ _ _ _ q => lt_int q
theorem op_le : OpR X (compareOp .LtE) (rI0 fun i j => .bl (decide (i ≤ j))) := opB0 fun _ _ _ _ _ _ _ q => le_int q
theorem op_gt : OpR X (compareOp .Gt) (rI0 fun i j => .bl (decide (j < i))) := opB0 fun _ _ _ _ _ _ _ q => gt_int q
theorem op_ge : OpR X (compareOp .GtE) (rI0 fun i j => .bl (decide (j ≤ i))) := opB0 fun _ _ _ _ _ _ _ q => ge_int q
theorem nomark (b : Expr) {op : CmpOp} (h : op ≠ .In := by decide) (h2 : op ≠ .NotIn := by decide) : behindInMarks op b = false := by
  have e1 : (op == CmpOp.In) = false := by cases op <;> first | rfl | exact absurd rfl h
  have e2 : (op == CmpOp.NotIn) = false := by cases op <;> first | rfl | exact absurd rfl h2
  cases b <;> simp [behindInMarks, e1, e2]
theorem pe_cmpR {op : CmpOp} {r : R2} (ho : OpR X (compareOp op) r) (ha : PE X a ta) (hb : PE X b tb) (hm : behindInMarks op b = false) : PE X (.Compare a [op] [b] pos) (tOp r ta tb) := by
  intro pins s σ H Q I h
  exact wpAny_Compare1 (binT ha hb I h fun v u s2 x y H2 I2 rx ry q => ho pins s2 σ H2 x y v u Q I2 rx ry q) hm
def tTest (t : TE) : TT := fun σ H Q => t σ H fun x H' => ∃ k, x = .bl k ∧ Q k H'
theorem pt_cmpR {op : CmpOp} {r : R2} (ho : OpR X (compareOp op) r) (ha : PE X a ta) (hb : PE X b tb) (hm : behindInMarks op b = false) : PT X (.Compare a [op] [b] pos) (tTest (tOp r ta tb)) := by
  intro pins s σ H Q I h
  refine wpAny_isTrue_Compare1 (thn (ha pins s σ H _ I h) fun v s1 ⟨x, H1, I1, r1, q1⟩ => thn (hb pins s1 σ H1 _ I1 q1) fun u s2 ⟨y, H2, I2, r2, q2⟩ =>
    thn (ho pins s2 σ H2 x y v u _ I2 r1 r2 q2) fun c s3 ⟨z, H3, I3, r3, k, e, q3⟩ => ?_) hm
  subst e
  cases r3
  exact wpAny_truthy_bool ⟨H3, I3, q3⟩
def tChain (r r' : R2) (ta tb tc : TE) : TE := fun σ H Q => ta σ H fun x H1 => tb σ H1 fun y H2 => r x y H2 fun z H3 => ∃ k, z = .bl k ∧
  (if k = true then tc σ H3 fun w' H4 => r' y w' H4 Q else Q (.bl false) H3)
theorem pe_chain {op op' : CmpOp} {r r' : R2} (ho : OpR X (compareOp op) r) (ho' : OpR X (compareOp op') r') (ha : PE X a ta) (hb : PE X b tb) (hc : PE X c tc)
    (hm : lastMarks [op, op'] [b, c] = false := by with_unfolding_all rfl) : PE X (.Compare a [op, op'] [b, c] pos) (tChain r r' ta tb tc) := by
  intro pins s σ H Q I h
  refine Compare_chain (thn (ha pins s σ H _ I h) fun v s1 ⟨x, H1, I1, r1, q1⟩ => chain_link (thn (hb pins s1 σ H1 _ I1 q1) fun u s2 ⟨y, H2, I2, r2, q2⟩ =>
    thn (ho pins s2 σ H2 x y v u _ I2 r1 r2 q2) fun d s3 ⟨z, H3, I3, r3, k, e, q3⟩ => ?_)) hm
  subst e
  cases r3
  refine wpAny_truthy_bool ?_
  cases k with
  | false => exact ite_ff ⟨.bl false, H3, I3, rfl, q3⟩
  | true => exact ite_tt (chain_last (thn (hc pins s3 σ H3 _ I3 q3) fun w' s4 ⟨z', H4, I4, r4, q4⟩ => ho' pins s4 σ H4 y z' u w' Q I4 r2 r4 q4))
theorem pt_chain {op op' : CmpOp} {r r' : R2} (ho : OpR X (compareOp op) r) (ho' : OpR X (compareOp op') r') (ha : PE X a ta) (hb : PE X b tb) (hc : PE X c tc)
    (hm : lastMarks [op, op'] [b, c] = false := by with_unfolding_all rfl) : PT X (.Compare a [op, op'] [b, c] pos) (tTest (tChain r r' ta tb tc)) := by
  intro pins s σ H Q I h
  refine isTrue_chain (thn (ha pins s σ H _ I h) fun v s1 ⟨x, H1, I1, r1, q1⟩ => test_link (thn (hb pins s1 σ H1 _ I1 q1) fun u s2 ⟨y, H2, I2, r2, q2⟩ =>
    thn (ho pins s2 σ H2 x y v u _ I2 r1 r2 q2) fun d s3 ⟨z, H3, I3, r3, k, e, q3⟩ => ?_)) hm
  subst e
  cases r3
  refine wpAny_truthy_bool ?_
  cases k with
  | false =>
    obtain ⟨k', e', q'⟩ := q3
    cases e'
    exact ite_ff ⟨H3, I3, q'⟩
  | true =>
    refine ite_tt (test_last (thn (hc pins s3 σ H3 _ I3 q3) fun w' s4 ⟨z', H4, I4, r4, q4⟩ => thn (ho' pins s4 σ H4 y z' u w' _ I4 r2 r4 q4) fun d' s5 ⟨z2, H5, I5, r5, k2, e2, q5⟩ => ?_))
    subst e2
    cases r5
    exact wpAny_truthy_bool ⟨H5, I5, q5⟩
theorem line63 : (sizeLine : Nat) < 2 ^ 63 := by rw [sizeLine_eq]; decide
theorem vals1 {x : V} {us : List Value} (r : Vals [x] us) : ∃ u, us = [u] ∧ RelV x u := by
  cases r with
  | cons r1 r2 => cases r2; exact ⟨_, rfl, r1⟩
theorem vals2 {x y : V} {us : List Value} (r : Vals [x, y] us) : ∃ u w', us = [u, w'] ∧ RelV x u ∧ RelV y w' := by
  cases r with
  | cons r1 r2 =>
    cases r2 with
    | cons r3 r4 => cases r4; exact ⟨_, _, rfl, r1, r3⟩
theorem call_max2 (hc : X.calm = true) : CallR X (.builtin "max") (fun xs H Q => ∃ i j, xs = [.int i, .int j] ∧ Q (.int (if j > i then j else i)) H) := by
  intro pins s σ H xs us Q I r h
  obtain ⟨i, j, rfl, q⟩ := h
  obtain ⟨u, w', rfl, ⟨t, rfl⟩, ⟨t', rfl⟩⟩ := vals2 r
  refine max_two_ints (I.ok.hd hc) fun h' tk k => ⟨_, H, I.kept k, ?_, q⟩
  by_cases hj : j > i
  · rw [if_pos hj, if_pos hj]; exact ⟨_, rfl⟩
  · rw [if_neg hj, if_neg hj]; exact ⟨_, rfl⟩
theorem call_min2 (hc : X.calm = true) : CallR X (.builtin "min") (fun xs H Q => ∃ i j, xs = [.int i, .int j] ∧ Q (.int (if j < i then j else i)) H) := by
  intro pins s σ H xs us Q I r h
  obtain ⟨i, j, rfl, q⟩ := h
  obtain ⟨u, w', rfl, ⟨t, rfl⟩, ⟨t', rfl⟩⟩ := vals2 r
  refine min_two_ints (I.ok.hd hc) fun h' tk k => ⟨_, H, I.kept k, ?_, q⟩
  by_cases hj : j < i
  · rw [if_pos hj, if_pos hj]; exact ⟨_, rfl⟩
  · rw [if_neg hj, if_neg hj]; exact ⟨_, rfl⟩
end
end L2
namespace L2
open PySem PySem.Spec PyProof.Rows
structure ObjM (h : Heap) (x dx C : Addr) (mA : Str → Option Value) : Prop where
  obj : h.get? x = some (PySem.W.instObj C dx)
  ns : h.Ns1 dx mA
  ne : dx ≠ x
theorem lookIn_ns {h : Heap} {dx : Addr} {mA : Str → Option Value} (n : h.Ns1 dx mA) : ∃ od, h.get? dx = some od ∧ ∀ name, PySem.W.lookIn name od = some (mA name) := by
  obtain ⟨o, es, ep, ho, hd, hk, _, hm⟩ := n
  refine ⟨o, ho, fun name => ?_⟩
  have e := hm name
  unfold nsFind findBy at e
  rw [← Array.find?_toList] at e
  unfold PySem.W.lookIn
  rw [hd]
  dsimp only
  split
  · rename_i y q
    rw [q] at e
    exact congrArg some e
  · rename_i q
    rw [q] at e
    have a : es.toList.any (·.refKey) = false := by
      rw [List.any_eq_false]
      intro y hy
      obtain ⟨z, t, hkey⟩ := hk y (Array.mem_toList_iff.mp hy)
      simp [DictEntry.refKey, hkey]
    have a' : ¬ es.toList.any (·.refKey) = true := by rw [a]; exact Bool.false_ne_true
    rw [if_neg a']
    exact congrArg some e
theorem ObjM.look {h : Heap} {x dx C : Addr} {mA : Str → Option Value} (I : ObjM h x dx C mA) : ∃ od, PySem.W.InstAt h x (PySem.W.instObj C dx) C (some od) ∧ ∀ name, PySem.W.lookIn name od = some (mA name) :=
  let ⟨od, ho, hl⟩ := lookIn_ns I.ns
  ⟨od, ⟨I.obj, rfl, rfl, ho⟩, hl⟩
section
variable {prog : Program} {w : World} {A : Around} {E : Value → Shared → Prop} {s : Shared} {K : PySem.W.Frag} {x dx C f : Addr} {mA : Str → Option Value} {name : Str} {v : Value}
theorem set_map {ns : List Str} {Q : Unit → Shared → Prop} (X : K.In s.heap) (I : ObjM s.heap x dx C mA)
    (hs : PySem.W.findIn K (.ref C) "__setattr__" = some (some (.builtin "object.__setattr__"))) (hp : PySem.W.plainOver K C = true) (ht : PySem.W.takerIn K C name = some none) (hh : PySem.W.hasDictIn K C = true)
    (hw : PySem.Within mA ns) (hsz : ns.length ≤ sizeLine)
    (h : ∀ h', ObjM h' x dx C (fun y => if y = name then some v else mA y) → Heap.SameBut dx s.heap h' → Q () { s with heap := h', toks := s.toks + 2 }) :
    wpAny (model prog w) A (setAttr (.ref x) name v) Q E s := by
  obtain ⟨od, J, hl⟩ := I.look
  refine PySem.W.set_plain X J hs (PySem.W.osa_open (s := { s with toks := s.toks + 1 }) (r := none) X J hp ht fun b => ?_)
  obtain ⟨cd, hc, hd'⟩ := PySem.W.any_some hh
  have hx : s.heap.get? x = some ⟨.ref C, some dx, .plain, #[]⟩ := I.obj
  refine wpAny_bind (wpAny_pure (wpAny_bind (wpAny_bind (wpAny_loadPart hx (wpAny_bind (PySem.W.Looks.here (s := { s with toks := s.toks + 1 }) (PySem.W.looks_clsIn X hc) ?_))))))
  rw [hd']
  refine wpAny_pure (a := some dx) (wpAny_bind (wpAny_pure (wpAny_bind ?_)))
  refine wpAny_nsSet1 (s := { s with toks := s.toks + 1 }) I.ns fun h' hn2 hs2 => ?_
  obtain ⟨oD, esD, epD, hoD, hdD, hcD⟩ := hn2.count (PySem.Within.cons name v hw)
  refine wpAny_bind (wpAny_lookBehind hoD (by rw [hdD]; exact pastItsLine_dict (Nat.le_trans hcD (by rw [List.length_cons]; omega))) ?_)
  exact wpAny_pure (h _ ⟨(hs2.2 _ (Ne.symm I.ne)).trans I.obj, hn2, I.ne⟩ hs2)
theorem make_map {R : Result → Shared → Prop} {vs : List Value} {kw : List (Str × Value)} (X : K.In s.heap) (hm : PySem.W.makesIn K C = true)
    (hi : PySem.W.findIn K (.ref C) "__init__" = some (some (.ref f))) (hf : PySem.W.typeIn K (.ref f) = some (.type "function"))
    (h : codeAny (model prog w) (A.under (.builtin "type.__call__" ⟨.ref C :: vs, kw⟩)) (.call (.ref f) ⟨.ref (s.heap.objs.size + 1) :: vs, kw⟩) (PySem.W.InitBack (s.heap.objs.size + 1) R)
      { s with heap := (s.heap.push PySem.W.emptyDict).push (PySem.W.instObj C s.heap.objs.size) }) :
    codeAny (model prog w) A (.call (.ref C) ⟨vs, kw⟩) R s := by
  obtain ⟨hh, g, d, t, os⟩ := s
  exact PySem.W.make_core (PySem.W.makes_of X hm) (PySem.W.looks_findIn X hi) (fun self => PySem.W.bind_fn X self hf) (.inl rfl) h
end
def putF (f : Str) (v : V) : List (Str × V) → List (Str × V)
  | [] => [(f, v)]
  | (g, x) :: r => if g = f then (g, v) :: r else (g, x) :: putF f v r
theorem lookup_putF (f g : Str) (v : V) : ∀ fs : List (Str × V), (putF f v fs).lookup g = if g = f then some v else fs.lookup g
  | [] => by
    show List.lookup g [(f, v)] = _
    by_cases h : g = f
    · have hb : (g == f) = true := beq_iff_eq.mpr h
      simp only [List.lookup, hb, if_pos h]
    · have hb : (g == f) = false := beq_eq_false_iff_ne.mpr h
      simp only [List.lookup, hb, if_neg h]
  | (k, x) :: r => by
    have ih := lookup_putF f g v r
    rw [show putF f v ((k, x) :: r) = (if k = f then (k, v) :: r else (k, x) :: putF f v r) from rfl]
    by_cases hk : k = f
    · rw [if_pos hk]
      by_cases h : g = k
      · have hb : (g == k) = true := beq_iff_eq.mpr h
        simp only [List.lookup, hb, if_pos (h.trans hk)]
      · have hb : (g == k) = false := beq_eq_false_iff_ne.mpr h
        simp only [List.lookup, hb, if_neg (fun e : g = f => h (e.trans hk.symm))]
    · rw [if_neg hk]
      by_cases h : g = k
      · have hb : (g == k) = true := beq_iff_eq.mpr h
        simp only [List.lookup, hb, if_neg (fun e : g = f => hk (h.symm.trans e))]
      · have hb : (g == k) = false := beq_eq_false_iff_ne.mpr h
        simp only [List.lookup, hb]
        exact ih
theorem keys_putF (f : Str) (v : V) : ∀ fs : List (Str × V), f ∈ (putF f v fs).map (·.1) ∧ ∀ g, g ∈ fs.map (·.1) → g ∈ (putF f v fs).map (·.1)
  | [] => ⟨by simp [putF], fun g h => by simp at h⟩
  | (k, x) :: r => by
    obtain ⟨i1, i2⟩ := keys_putF f v r
    rw [show putF f v ((k, x) :: r) = (if k = f then (k, v) :: r else (k, x) :: putF f v r) from rfl]
    by_cases hk : k = f
    · rw [if_pos hk]
      subst hk
      exact ⟨by simp, fun g h => by simpa using h⟩
    · rw [if_neg hk]
      refine ⟨?_, fun g h => ?_⟩
      · rw [List.map_cons]
        exact List.mem_cons_of_mem _ i1
      · rw [List.map_cons] at h ⊢
        rcases List.mem_cons.mp h with e | e
        · exact List.mem_cons.mpr (.inl e)
        · exact List.mem_cons_of_mem _ (i2 g e)
theorem length_putF (f : Str) (v : V) : ∀ fs : List (Str × V), (putF f v fs).length ≤ fs.length + 1
  | [] => by simp [putF]
  | (k, x) :: r => by
    have ih := length_putF f v r
    rw [show putF f v ((k, x) :: r) = (if k = f then (k, v) :: r else (k, x) :: putF f v r) from rfl]
    by_cases hk : k = f
    · rw [if_pos hk, List.length_cons, List.length_cons]; omega
    · rw [if_neg hk, List.length_cons, List.length_cons]; omega
section
variable {P : Program} {w : World} {H H' : Hp} {h h' : Heap} {a C dx : Addr} {fs fs' : List (Str × V)}
theorem ins_get (hok : HOk P w H h) (e : H a = some (.ins C dx fs)) : ∃ mA, ObjM h a dx C mA ∧ (∀ f, RelO (fs.lookup f) (mA f)) ∧ PySem.Within mA (fs.map (·.1)) ∧ fs.length ≤ 1000 ∧ H dx = some (.own a) := by
  obtain ⟨d, z, ne, ob, mA, n, r, q⟩ := (show ObjOk P w H h a (.ins C dx fs) from hok a _ e)
  exact ⟨mA, ⟨ob, n, ne⟩, r, q, z, d⟩
end
structure Cls (K : PySem.W.Frag) (C : Addr) : Prop where
  pg : PySem.W.plainGet K C Str.empty = true
  hd : PySem.W.hasDictIn K C = true
  po : PySem.W.plainOver K C = true
  sa : PySem.W.findIn K (.ref C) "__setattr__" = some (some (.builtin "object.__setattr__"))
theorem Cls.get {K : PySem.W.Frag} {C : Addr} (c : Cls K C) (f : Str) : PySem.W.plainGet K C f = true := c.pg
def NoAttr (K : PySem.W.Frag) (C : Addr) (f : Str) : Prop := PySem.W.findIn K (.ref C) f = some none
theorem NoAttr.taker {K : PySem.W.Frag} {C : Addr} {f : Str} (n : NoAttr K C f) : PySem.W.takerIn K C f = some none := by
  unfold PySem.W.takerIn
  rw [show PySem.W.findIn K (.ref C) f = some none from n]
  rfl
section
variable {X : Cx} {pins : List (Addr × Obj)} {σ : St} {H : Hp} {s : Shared} {a C dx : Addr} {fs : List (Str × V)} {f : Str} {v : V} {A : Around} {E : Value → Shared → Prop}
theorem setattr_ok {y : V} {u : Value} {Q : Unit → Shared → Prop} (I : Inv X pins σ H s) (e : H a = some (.ins C dx fs)) (c : Cls X.K C) (n : NoAttr X.K C f) (hl : fs.length < 1000) (ry : RelV y u)
    (h : ∀ s', Inv X pins σ (upd H a (.ins C dx (putF f y fs))) s' → Q () s') : wpAny (model X.prog X.w) A (setAttr (.ref a) f u) Q E s := by
  obtain ⟨mA, O, r, wi, _, ho⟩ := ins_get I.hok e
  have hz : (fs.map (·.1)).length ≤ sizeLine := by rw [List.length_map, sizeLine_eq]; omega
  refine set_map I.kIn O c.sa c.po n.taker c.hd wi hz fun h' O' sb => h _ ?_
  have hd : ∃ o, h'.get? dx = some o := let ⟨o, _, _, e', _⟩ := O'.ns; ⟨o, e'⟩
  refine I.write (x := a) (e := dx) (by rw [e]; exact True.intro) (.inr ho) (fun b q hb z => (sb.2 b hb).trans z) hd ?_
  refine ⟨by rw [upd_ne O.ne]; exact ho, ?_, O.ne, O'.obj, _, O'.ns, fun g => ?_, fun g hg => ?_⟩
  · have := length_putF f y fs; omega
  · show RelO ((putF f y fs).lookup g) (if g = f then some u else mA g)
    rw [lookup_putF]
    by_cases q : g = f
    · rw [if_pos q, if_pos q]; exact ry
    · rw [if_neg q, if_neg q]; exact r g
  · by_cases q : g = f
    · rw [q]; exact (keys_putF f y fs).1
    · refine (keys_putF f y fs).2 g (wi g fun z => hg ?_)
      show (if g = f then some u else mA g) = none
      rw [if_neg q]; exact z
theorem Inv.made (I : Inv X pins σ H s) : Inv X pins σ (upd (upd H s.heap.objs.size (.own (s.heap.objs.size + 1))) (s.heap.objs.size + 1) (.ins C s.heap.objs.size []))
    { s with heap := (s.heap.push PySem.W.emptyDict).push (PySem.W.instObj C s.heap.objs.size) } := by
  have e1 : (s.heap.push PySem.W.emptyDict).get? s.heap.objs.size = some PySem.W.emptyDict := Heap.get?_push_size s.heap rfl
  have e2 : ((s.heap.push PySem.W.emptyDict).push (PySem.W.instObj C s.heap.objs.size)).get? (s.heap.objs.size + 1) = some (PySem.W.instObj C s.heap.objs.size) := by
    have := Heap.get?_push_size (s.heap.push PySem.W.emptyDict) (o := PySem.W.instObj C s.heap.objs.size) rfl
    rwa [Heap.size_push] at this
  have e3 : (s.heap.push PySem.W.emptyDict).Ns s.heap.objs.size (fun _ => none) := ⟨PySem.W.emptyDict, #[], _, e1, rfl, (fun e he => absurd he (by simp)), fun _ => rfl⟩
  have I1 := I.laid (a := s.heap.objs.size) (o := .own (s.heap.objs.size + 1)) (h' := s.heap.push PySem.W.emptyDict) (t' := s.toks) (fun b u q => Heap.get?_push_of_some _ q) (Nat.le_refl _) ⟨_, e1⟩
  refine I1.laid (a := s.heap.objs.size + 1) (o := .ins C s.heap.objs.size []) (t' := s.toks) (fun b u q => Heap.get?_push_of_some _ q) (Nat.le_of_eq (Heap.size_push _ _)) ?_
  have ne : s.heap.objs.size ≠ s.heap.objs.size + 1 := Nat.ne_of_lt (Nat.lt_succ_self _)
  refine ⟨by rw [upd_ne ne, upd_same], Nat.zero_le _, ne, e2, fun _ => none, (Heap.Ns1.of_empty e3).at fun o q => Heap.get?_push_of_some _ q, fun _ => True.intro, fun y hy => absurd rfl hy⟩
end
def sFld (K : PySem.W.Frag) (ta tv : TE) (f : Str) : TS := fun D σ H => tv σ H fun y H1 => ta σ H1 fun x H2 => ∃ a C dx fs, x = .ref a ∧ H2 a = some (.ins C dx fs) ∧ Cls K C ∧ NoAttr K C f ∧ fs.length < 1000 ∧
  D.nx σ (upd H2 a (.ins C dx (putF f y fs)))
section
variable {X : Cx} {o e value : Expr} {f : Str} {pos pos' tpos : Pos} {ta tv : TE}
theorem ps_fld (ha : PE X o ta) (hv : PE X value tv) (hs : swapsWith value (some (.Attribute o f pos')) pos.line X.env = pure false) : PS X (.Assign [.Attribute o f pos'] value pos) (sFld X.K ta tv f) := by
  intro pins s σ H D I h
  refine plainObj_wpAny_Assign_Attribute (thn (hv pins s σ H _ I h) fun u s1 ⟨y, H1, I1, ry, q⟩ => thn (ha pins s1 σ H1 _ I1 q) fun ov s2 ⟨x, H2, I2, rx, a, C, dx, fs, ex, ea, c, n, l, q2⟩ => ?_) hs
  subst ex
  obtain rfl : ov = Value.ref a := rx
  exact setattr_ok I2 ea c n l ry fun s3 I3 => ⟨σ, _, I3, q2⟩
end
section
variable {X : Cx} {pins : List (Addr × Obj)} {σ : St} {H : Hp} {s : Shared} {A : Around} {E : Value → Shared → Prop} {Q : Value → Shared → Prop} {c : Value} {b : Bool}
inductive TyOf (K : PySem.W.Frag) (H : Hp) : V → Value → Prop where
  | non : TyOf K H .non (.type "NoneType")
  | bl (x : Bool) : TyOf K H (.bl x) (.type "bool")
  | int (i : Int) : TyOf K H (.int i) (.type "int")
  | str (x : Str) : TyOf K H (.str x) (.type "str")
  | flt (x : UInt64) : TyOf K H (.flt x) (.type "float")
  | lst {a : Addr} {xs : List V} (e : H a = some (.lst xs)) : TyOf K H (.ref a) (.type "list")
  | frz {a : Addr} {o : Obj} {xs : List V} (e : H a = some (.frz o (.lst xs))) : TyOf K H (.ref a) (.type "list")
  | tup {a : Addr} {xs : List V} (e : H a = some (.tup xs)) : TyOf K H (.ref a) (.type "tuple")
  | dK {a : Addr} {kvs : List (Key × V)} (e : H a = some (.dK kvs)) : TyOf K H (.ref a) (.type "dict")
  | dT {a : Addr} {kvs : List (List Key × V)} (e : H a = some (.dT kvs)) : TyOf K H (.ref a) (.type "dict")
  | ins {a C dx : Addr} {fs : List (Str × V)} (e : H a = some (.ins C dx fs)) (cl : Cls K C) (ha : PySem.W.findIn K (.ref C) "__class__" = some (some (.builtin "object.__class__")))
      (hn : PySem.W.specialIn K (.builtin "object.__class__") "__get__" = some (some (.builtin "getset_descriptor.__get__"))) (htk : PySem.W.takesIn K (.builtin "object.__class__") = some true)
      (hm : PySem.W.mroIn K C (.type "object") = some true) : TyOf K H (.ref a) (.ref C)
theorem isinst_ok {x : V} {u t : Value} (I : Inv X pins σ H s) (rx : RelV x u) (ty : TyOf X.K H x t) (e : PySem.W.kitOne X.K t c = some b) (h : ∀ tk, Q (.bool b) { s with toks := tk }) :
    wpAny (model X.prog X.w) A (call (.builtin "isinstance") [u, c]) Q E s := by
  cases ty with
  | non => cases (show u = Value.none from rx); exact PySem.W.kia_one PySem.W.kitx_none I.kIn True.intro e (fun z => nomatch z) h
  | bl y => cases (show u = Value.bool y from rx); exact PySem.W.kia_one PySem.W.kitx_bool I.kIn True.intro e (fun z => nomatch z) h
  | int i => obtain ⟨t, q⟩ := (show ∃ t, u = Value.int i t from rx); cases q; exact PySem.W.kia_one PySem.W.kitx_int I.kIn True.intro e (fun z => nomatch z) h
  | str y => obtain ⟨t, q⟩ := (show ∃ t, u = Value.str y t from rx); cases q; exact PySem.W.kia_one PySem.W.kitx_str I.kIn True.intro e (fun z => nomatch z) h
  | flt y => obtain ⟨t, q⟩ := (show ∃ t, u = Value.float y t from rx); cases q; exact PySem.W.kia_one PySem.W.kitx_float I.kIn True.intro e (fun z => nomatch z) h
  | @lst a xs ea =>
    cases (show u = Value.ref a from rx)
    obtain ⟨_, _, n, _, h1⟩ := (show ObjOk X.prog X.w H s.heap a (.lst xs) from I.hok a _ ea)
    exact PySem.W.kia_one PySem.W.kitx_list I.kIn ⟨_, h1, rfl⟩ e (fun z => nomatch z) h
  | @frz a ob xs ea =>
    cases (show u = Value.ref a from rx)
    obtain ⟨_, _, _, n, _, h1⟩ := (show ObjOk X.prog X.w H s.heap a (.frz ob (.lst xs)) from I.hok a _ ea)
    exact PySem.W.kia_one PySem.W.kitx_list I.kIn ⟨_, h1, rfl⟩ e (fun z => nomatch z) h
  | @tup a xs ea =>
    cases (show u = Value.ref a from rx)
    obtain ⟨_, _, _, p⟩ := (show ObjOk X.prog X.w H s.heap a (.tup xs) from I.hok a _ ea)
    obtain ⟨o, h1, h2, _⟩ := p
    exact PySem.W.kia_one PySem.W.kitx_tuple I.kIn ⟨o, h1, h2⟩ e (fun z => nomatch z) h
  | @dK a kvs ea =>
    cases (show u = Value.ref a from rx)
    obtain ⟨_, _, vs, _, p⟩ := (show ObjOk X.prog X.w H s.heap a (.dK kvs) from I.hok a _ ea)
    obtain ⟨o, es, ep, h1, h2, _⟩ := p
    exact PySem.W.kia_one PySem.W.kitx_dict I.kIn ⟨o, h1, h2.1⟩ e (fun z => nomatch z) h
  | @dT a kvs ea =>
    cases (show u = Value.ref a from rx)
    obtain ⟨_, _, xs, _, o, es, ep, h1, h2, _⟩ := (show ObjOk X.prog X.w H s.heap a (.dT kvs) from I.hok a _ ea)
    exact PySem.W.kia_one PySem.W.kitx_dict I.kIn ⟨o, h1, h2.1⟩ e (fun z => nomatch z) h
  | @ins a C dx fs ea cl ha hn htk hm =>
    cases (show u = Value.ref a from rx)
    obtain ⟨mA, O, _⟩ := ins_get I.hok ea
    obtain ⟨od, J, _⟩ := O.look
    exact PySem.W.kia_one (PySem.W.kitx_own (cl.get _) cl.hd ha hn htk hm) I.kIn J e (fun z => nomatch z) h
end
end L2
namespace L2
open PySem PySem.Spec PyProof.Rows
structure Room (k : Nat) (A : Around) : Prop where
  hd : A.handled = none
  dp : A.depth + 3 * k + 5 < recursionLimit
  un : A.units + 16 * k + 200 < cLine
theorem Room.mono {j k : Nat} {A : Around} (r : Room k A) (h : j ≤ k) : Room j A := ⟨r.hd, by have := r.dp; omega, by have := r.un; omega⟩
theorem Room.deeper {k : Nat} {A : Around} (r : Room (k + 1) A) (env : Env) : Room k (A.deeper env) :=
  ⟨r.hd, by have := r.dp; show A.depth + 1 + 3 * k + 5 < _; omega, by have := r.un; show A.units + 3 + 16 * k + 200 < _; omega⟩
theorem Room.in1 {k : Nat} {A : Around} (r : Room (k + 1) A) : Room k A.in1 :=
  ⟨r.hd, by have := r.dp; show A.depth + 3 * k + 5 < _; omega, by have := r.un; show A.units + 1 + 16 * k + 200 < _; omega⟩
theorem make_depth {A : Around} {C : Addr} {us : List Value} {kw : List (Str × Value)} : (A.under (.builtin "type.__call__" ⟨.ref C :: us, kw⟩)).depth = A.depth + 1 := by
  first | rfl | simp [Around.under, Code.weight, Code.isCreation, Code.isGuard, Code.isCaller, Code.frames, Code.isFrame, guardIds]
theorem make_units {A : Around} {C : Addr} {us : List Value} {kw : List (Str × Value)} : (A.under (.builtin "type.__call__" ⟨.ref C :: us, kw⟩)).units = A.units + 1 := by
  first | rfl | simp [Around.under, Code.cUnits, Code.frames, Code.isFrame]
theorem Room.make {k : Nat} {A : Around} (r : Room (k + 1) A) (C : Addr) (us : List Value) (kw : List (Str × Value)) : Room k (A.under (.builtin "type.__call__" ⟨.ref C :: us, kw⟩)) :=
  ⟨r.hd, by have := r.dp; rw [make_depth]; omega, by have := r.un; rw [make_units]; omega⟩
theorem Room.depth {k : Nat} {A : Around} (r : Room k A) : A.depth < recursionLimit := by have := r.dp; omega
theorem Room.units {k : Nat} {A : Around} (r : Room k A) : A.units + 64 < cLine := by have := r.un; omega
theorem Room.units0 {k : Nat} {A : Around} (r : Room k A) : A.units < cLine := by have := r.un; omega
def tNil : TA := fun _ H Q => Q [] H
def tCons (ta : TE) (tr : TA) : TA := fun σ H Q => ta σ H fun x H1 => tr σ H1 fun xs H2 => Q (x :: xs) H2
section
variable {X : Cx} {e : Expr} {es : List Expr} {te : TE} {t : TA} {pos : Pos}
theorem pa_nil : PA X [] tNil := fun _ _ _ _ H Q I h => Calls.spliced_nil ⟨[], H, I, .nil, h⟩
theorem pa_cons (ha : PE X e te) (hr : PA X es t) (hs : starEach (e :: es) X.env = (false, eval e X.env) :: starEach es X.env := by rfl) : PA X (e :: es) (tCons te t) := by
  intro pos pins s σ H Q I h
  rw [hs]
  show wpAny _ _ (spliced ((false, eval e X.env) :: backTo pos (starEach es X.env))) _ _ s
  refine Calls.spliced_cons (thn (ha pins s σ H _ I h) fun u s1 ⟨x, H1, I1, r1, q1⟩ => ?_)
  exact thn (hr pos pins s1 σ H1 _ I1 q1) fun us s2 ⟨xs, H2, I2, r2, q2⟩ => ⟨x :: xs, H2, I2, .cons r1 r2, q2⟩
def tTup (t : TA) : TE := fun σ H Q => t σ H fun xs H1 => xs.length ≤ sizeLine ∧ ∀ p, H1 p = none → Q (.ref p) (upd H1 p (.tup xs))
def tLst (t : TA) : TE := fun σ H Q => t σ H fun xs H1 => xs.length ≤ sizeLine ∧ ∀ p, H1 p = none → Q (.ref p) (upd H1 p (.lst xs))
theorem pe_tup {x1} (h : PA X es t) : PE X (.Tuple es x1 pos) (tTup t) := by
  intro pins s σ H Q I hq
  refine wpAny_Tuple_spliced (thn (h pos pins s σ H _ I hq) fun us s1 ⟨xs, H1, I1, r, z, q⟩ => ⟨by rw [← r.length]; exact z, ?_⟩)
  have hf : H1 s1.heap.objs.size = none := I1.hok.fresh (Nat.le_refl _)
  refine ⟨.ref s1.heap.objs.size, upd H1 s1.heap.objs.size (.tup xs), I1.laid (t' := s1.toks) (fun b u e => Heap.get?_push_of_some _ e) (Nat.le_refl _) ?_, rfl, q _ hf⟩
  exact ⟨z, us, r, ⟨_, Heap.get?_push_size _ rfl, rfl, _, rfl⟩⟩
theorem pe_lst (h : PA X es t) : PE X (.List es pos) (tLst t) := by
  intro pins s σ H Q I hq
  refine wpAny_List_spliced (thn (h pos pins s σ H _ I hq) fun us s1 ⟨xs, H1, I1, r, z, q⟩ => ⟨by rw [← r.length]; exact z, ?_⟩)
  have hf : H1 s1.heap.objs.size = none := I1.hok.fresh (Nat.le_refl _)
  refine ⟨.ref s1.heap.objs.size, upd H1 s1.heap.objs.size (.lst xs), I1.laid (t' := s1.toks) (fun b u e => Heap.get?_push_of_some _ e) (Nat.le_refl _) ?_, rfl, q _ hf⟩
  exact ⟨z, us, 0, r, Heap.get?_push_size _ rfl⟩
end
abbrev Sp := List V → Hp → VK → XK → Prop
abbrev CXT := List Env → Hp → Shared → XK → Value → Shared → Prop
structure Env0 (P : Program) (w : World) (K : PySem.W.Frag) (mg : Str → Option Value) (base : Heap) (A : Around) (outer : List Env) (s : Shared) (H : Hp) : Prop where
  frames : A.frames = some outer
  mod : Mod K mg base
  bs : ∀ b o, base.get? b = some o → s.heap.get? b = some o ∧ H b = none
  bsz : base.objs.size ≤ s.heap.objs.size
  funs : s.heap.FunFrames base outer
  frf : ∀ b ∈ frs outer, H b = none
  hok : HOk P w H s.heap
  bare : AllBare s.gens
def CE (outer : List Env) (P : Program) (w : World) (H : Hp) (s : Shared) (Q : VK) (u : Value) (s' : Shared) : Prop :=
  ∃ v H', s'.os = s.os ∧ AllBare s'.gens ∧ Un (frs outer) [] H H' s.heap s'.heap ∧ HOk P w H' s'.heap ∧ RelV v u ∧ Q v H'
def CR (CX : CXT) (outer : List Env) (P : Program) (w : World) (H : Hp) (s : Shared) (Q : VK) (E : XK) (r : Result) (s' : Shared) : Prop :=
  match r with
  | .ok (.ret u) => CE outer P w H s Q u s'
  | .ok _ => False
  | .error e => CX outer H s E e s'
structure FnOk (P : Program) (w : World) (K : PySem.W.Frag) (mg : Str → Option Value) (base : Heap) (CX : CXT) (k : Nat) (f : Addr) (fd : FuncData) (ps : List Str) (sp : Sp) : Prop where
  len : ∀ vs H Q E, sp vs H Q E → vs.length = ps.length
  run : ∀ (A : Around) (outer : List Env) (s : Shared) (H : Hp) (args : Args) (us : List Value) (vs : List V) (Q : VK) (E : XK), Room k A → Env0 P w K mg base A outer s H → BindsTo s fd args (ps.zip us) → Vals vs us → sp vs H Q E →
    codeAny (model P w) A (.call (.ref f) args) (CR CX outer P w H s Q E) s
theorem FnOk.mono {P : Program} {w : World} {K : PySem.W.Frag} {mg : Str → Option Value} {base : Heap} {CX : CXT} {j k : Nat} {f : Addr} {fd : FuncData} {ps : List Str} {sp : Sp} (F : FnOk P w K mg base CX j f fd ps sp) (h : j ≤ k) :
    FnOk P w K mg base CX k f fd ps sp := ⟨F.len, fun A outer s H args us vs Q E hr => F.run A outer s H args us vs Q E (hr.mono h)⟩
theorem FnOk.imp {P : Program} {w : World} {K : PySem.W.Frag} {mg : Str → Option Value} {base : Heap} {CX : CXT} {k : Nat} {f : Addr} {fd : FuncData} {ps : List Str} {sp sp' : Sp} (F : FnOk P w K mg base CX k f fd ps sp)
    (h : ∀ vs H Q E, sp' vs H Q E → sp vs H Q E) : FnOk P w K mg base CX k f fd ps sp' :=
  ⟨fun vs H Q E q => F.len vs H Q E (h _ _ _ _ q), fun A outer s H args us vs Q E hr he hb hv hs => F.run A outer s H args us vs Q E hr he hb hv (h _ _ _ _ hs)⟩
theorem Env0.make {P : Program} {w : World} {K : PySem.W.Frag} {mg : Str → Option Value} {base : Heap} {A : Around} {outer : List Env} {s : Shared} {H : Hp} (e : Env0 P w K mg base A outer s H) (C : Addr) (us : List Value) (kw : List (Str × Value)) :
    Env0 P w K mg base (A.under (.builtin "type.__call__" ⟨.ref C :: us, kw⟩)) outer s H := ⟨by first | exact e.frames | (simpa [Around.under, Code.envs, Code.isFrame, pushEnvs] using e.frames), e.mod, e.bs, e.bsz, e.funs, e.frf, e.hok, e.bare⟩
theorem Env0.in1 {P : Program} {w : World} {K : PySem.W.Frag} {mg : Str → Option Value} {base : Heap} {A : Around} {outer : List Env} {s : Shared} {H : Hp} (e : Env0 P w K mg base A outer s H) :
    Env0 P w K mg base A.in1 outer s H := ⟨e.frames, e.mod, e.bs, e.bsz, e.funs, e.frf, e.hok, e.bare⟩
section
variable {X : Cx} {pins : List (Addr × Obj)} {σ : St} {H : Hp} {s s' : Shared}
theorem Inv.env0 (I : Inv X pins σ H s) : Env0 X.prog X.w X.K X.mg X.base X.A X.stack s H :=
  ⟨I.ok.frames, I.ok.mod, I.bs, Nat.le_trans I.ok.bsz I.sz, I.stack, I.stkFree, I.hok, I.bare⟩
theorem Inv.after {Q : VK} {u : Value} (I : Inv X pins σ H s) (h : CE X.stack X.prog X.w H s Q u s') : EP X pins σ Q u s' := by
  obtain ⟨v, H', os, bare, un, hok, r, q⟩ := h
  obtain ⟨hh, g, d, t, os'⟩ := s'
  obtain rfl : os' = s.os := os
  exact ⟨v, H', I.call (h' := hh) (g' := g) (d' := d) (t' := t) (ch := []) un hok bare (fun b z => absurd z (by simp)), r, q⟩
end
def tCall (sp : Sp) (dvs : List V) (E : XK) (t : TA) : TE := fun σ H Q => t σ H fun vs H1 => sp (vs ++ dvs) H1 Q E
def tMake (C : Addr) (sp : Sp) (dvs : List V) (E : XK) (t : TA) : TE := fun σ H Q => t σ H fun vs H1 => ∀ x dx, H1 x = none → H1 dx = none → dx ≠ x →
  sp (.ref x :: (vs ++ dvs)) (upd (upd H1 dx (.own x)) x (.ins C dx [])) (fun v H2 => v = .non ∧ Q (.ref x) H2) E
def Binds (K : PySem.W.Frag) (fd : FuncData) (ps : List Str) (ds : List Value) : Prop :=
  ∀ (s : Shared) (us : List Value), K.In s.heap → (us ++ ds).length = ps.length → BindsTo s fd ⟨us, []⟩ (ps.zip (us ++ ds))
theorem Binds.all {K : PySem.W.Frag} {fd : FuncData} {ps : List Str} (h : ∀ us : List Value, us.length = ps.length → bindArgs fd ⟨us, []⟩ = pure (ps.zip us)) : Binds K fd ps [] := fun s us _ hl => by
  rw [List.append_nil] at hl ⊢
  exact .of_eq (h us hl)
def Passes (CX : CXT) (X : Cx) (E : XK) : Prop := ∀ (pins : List (Addr × Obj)) (σ : St) (H : Hp) (s : Shared) (e : Value) (s' : Shared), Inv X pins σ H s → CX X.stack H s E e s' → X.xe e s'
section
variable {X : Cx} {CX : CXT} {k : Nat} {f C : Addr} {fd : FuncData} {ps : List Str} {sp : Sp} {dvs : List V} {ds : List Value} {E : XK} {x m : Str} {p pos apos : Pos} {e o : Expr} {es : List Expr} {ta : TE} {t : TA}
theorem run_fn {pins : List (Addr × Obj)} {σ : St} {H : Hp} {s : Shared} {Q : VK} {us : List Value} {vs : List V} (F : FnOk X.prog X.w X.K X.mg X.base CX k f fd ps sp) (hr : Room k X.A) (hb : Binds X.K fd ps ds) (hd : Vals dvs ds) (hx : Passes CX X E)
    (I : Inv X pins σ H s) (r : Vals vs us) (h : sp (vs ++ dvs) H Q E) : wpAny (model X.prog X.w) X.A (call (.ref f) us) (EP X pins σ Q) X.xe s := by
  have r2 : Vals (vs ++ dvs) (us ++ ds) := r.append hd
  have hl : (us ++ ds).length = ps.length := by rw [← r2.length]; exact F.len _ _ _ _ h
  refine wpAny_call (codeAny_mono (F.run X.A X.stack s H ⟨us, []⟩ (us ++ ds) (vs ++ dvs) Q E hr I.env0 (hb s us I.kIn hl) r2 h) fun r s' hq => ?_)
  cases r with
  | error e => exact hx pins σ H s e s' I hq
  | ok fl =>
    cases fl with
    | ret u => exact I.after hq
    | next => exact False.elim hq
    | brk => exact False.elim hq
    | cont => exact False.elim hq
theorem pe_call (F : FnOk X.prog X.w X.K X.mg X.base CX k f fd ps sp) (hr : Room k X.A) (hg : Gl X x) (hm : X.mg x = some (.ref f)) (hk : PySem.W.keepIn X.K (.ref f) = true) (hb : Binds X.K fd ps ds) (hd : Vals dvs ds) (hx : Passes CX X E)
    (ha : PA X (e :: es) t) (hdb : (x == ("__debug__" : Str)) = false := by decide) (he : starEach (e :: es) X.env = (false, eval e X.env) :: starEach es X.env := by rfl) (hpl : (backTo pos (starEach es X.env)).any (·.1) = false := by rfl) :
    PE X (.Call (.Name x p) (e :: es) [] pos) (tCall sp dvs E t) := by
  intro pins s σ H Q I h
  refine wpAny_Call_Name_kw (ld_glob I hg hm ?_ hdb)
  refine PySem.W.callWith_K (h₀ := X.base) I.ok.mod.kin hk (thn (ha pos pins s σ H _ I h) fun us s1 ⟨vs, H1, I1, r, q⟩ => ⟨I1.kIn, ?_⟩) he hpl
  exact run_fn F hr hb hd hx I1 r q
structure Mk (K : PySem.W.Frag) (C f : Addr) : Prop where
  makes : PySem.W.makesIn K C = true
  init : PySem.W.findIn K (.ref C) "__init__" = some (some (.ref f))
  fn : PySem.W.isFn K (.ref f) = true
  kp : PySem.W.keepIn K (.ref C) = true
theorem run_make {pins : List (Addr × Obj)} {σ : St} {H : Hp} {s : Shared} {Q : VK} {us : List Value} {vs : List V} (M : Mk X.K C f) (F : FnOk X.prog X.w X.K X.mg X.base CX k f fd ps sp) (hr : Room (k + 1) X.A) (hb : Binds X.K fd ps ds) (hd : Vals dvs ds)
    (hx : Passes CX X E) (I : Inv X pins σ H s) (r : Vals vs us)
    (h : ∀ x dx, H x = none → H dx = none → dx ≠ x → sp (.ref x :: (vs ++ dvs)) (upd (upd H dx (.own x)) x (.ins C dx [])) (fun v H2 => v = .non ∧ Q (.ref x) H2) E) :
    wpAny (model X.prog X.w) X.A (call (.ref C) us) (EP X pins σ Q) X.xe s := by
  have hq := h (s.heap.objs.size + 1) s.heap.objs.size (I.hok.fresh (Nat.le_succ _)) (I.hok.fresh (Nat.le_refl _)) (Nat.ne_of_lt (Nat.lt_succ_self _))
  have I2 := Inv.made (C := C) I
  have r2 : Vals (V.ref (s.heap.objs.size + 1) :: (vs ++ dvs)) (Value.ref (s.heap.objs.size + 1) :: (us ++ ds)) := .cons rfl (r.append hd)
  have hl : (Value.ref (s.heap.objs.size + 1) :: us ++ ds).length = ps.length := by
    have e := r2.length
    rw [F.len _ _ _ _ hq] at e
    exact e.symm
  refine wpAny_call (make_map (f := f) I.kIn M.makes M.init (beq_iff_eq.mp M.fn) (codeAny_mono (F.run _ X.stack _ _ ⟨Value.ref (s.heap.objs.size + 1) :: us, []⟩ (Value.ref (s.heap.objs.size + 1) :: (us ++ ds)) _ _ E (hr.make C us [])
    (I2.env0.make C us []) (hb _ (Value.ref (s.heap.objs.size + 1) :: us) I2.kIn hl) r2 hq) fun r s' hq' => ?_))
  cases r with
  | error e => exact hx pins σ _ _ e s' I2 hq'
  | ok fl =>
    cases fl with
    | ret u =>
      obtain ⟨v, H', I3, rv, ev, q3⟩ := I2.after hq'
      subst ev
      exact ⟨rv, ⟨V.ref (s.heap.objs.size + 1), H', I3, rfl, q3⟩⟩
    | next => exact False.elim hq'
    | brk => exact False.elim hq'
    | cont => exact False.elim hq'
theorem pe_make (M : Mk X.K C f) (F : FnOk X.prog X.w X.K X.mg X.base CX k f fd ps sp) (hr : Room (k + 1) X.A) (hg : Gl X x) (hm : X.mg x = some (.ref C)) (hb : Binds X.K fd ps ds) (hd : Vals dvs ds) (hx : Passes CX X E)
    (ha : PA X (e :: es) t) (hdb : (x == ("__debug__" : Str)) = false := by decide) (he : starEach (e :: es) X.env = (false, eval e X.env) :: starEach es X.env := by rfl) (hpl : (backTo pos (starEach es X.env)).any (·.1) = false := by rfl) :
    PE X (.Call (.Name x p) (e :: es) [] pos) (tMake C sp dvs E t) := by
  intro pins s σ H Q I h
  refine wpAny_Call_Name_kw (ld_glob I hg hm ?_ hdb)
  refine PySem.W.callWith_K (h₀ := X.base) I.ok.mod.kin M.kp (thn (ha pos pins s σ H _ I h) fun us s1 ⟨vs, H1, I1, r, q⟩ => ⟨I1.kIn, ?_⟩) he hpl
  exact run_make M F hr hb hd hx I1 r q
end
section
variable {X : Cx} {CX : CXT} {k : Nat} {f C : Addr} {fd : FuncData} {ps ks : List Str} {sp : Sp} {E : XK} {x m : Str} {p pos apos kpos : Pos} {e o : Expr} {es : List Expr} {kws : List Keyword} {te ta : TE} {t tk : TA} {nm : Option Str}
variable {g : List Value → List Value → List Value} {gV : List V → List V → List V}
end
structure FnScope (N P : List Str) (sc : Scope) : Prop where
  kind : sc.kind = .function
  co : sc.isCoroutine = false
  gen : sc.isGenerator = false
  nd : N.Nodup
  pre : N.take P.length = P
  par : ∀ x ∈ P, sc.names.lookup x = some .local ∨ sc.names.lookup x = some .cell
  nofree : ∀ y ∈ sc.names, y.2 ≠ .free
theorem bindL_out {kindOf : Str → Option NameKind} {x : Str} : ∀ {binds : List (Str × Value)} {m : Str → Option Value}, (∀ v, (x, v) ∉ binds) → bindL kindOf binds m x = m x
  | [], _, _ => rfl
  | (n, v) :: r, m, h => by
    unfold bindL
    rw [bindL_out fun w hw => h w (List.mem_cons_of_mem _ hw)]
    split
    · have : x ≠ n := by rintro rfl; exact h v List.mem_cons_self
      simp [this]
    · rfl
theorem bindC_out {kindOf : Str → Option NameKind} {x : Str} : ∀ {binds : List (Str × Value)} {m : Str → Option Value}, (∀ v, (x, v) ∉ binds) → bindC kindOf binds m x = m x
  | [], _, _ => rfl
  | (n, v) :: r, m, h => by
    unfold bindC
    rw [bindC_out fun w hw => h w (List.mem_cons_of_mem _ hw)]
    split
    · rfl
    · have : x ≠ n := by rintro rfl; exact h v List.mem_cons_self
      simp [this]
theorem bindL_get {kindOf : Str → Option NameKind} {x : Str} {v : Value} : ∀ {P : List Str} {vs : List Value} {i : Nat} {m : Str → Option Value}, P.Nodup → P[i]? = some x → vs[i]? = some v → kindOf x = some .local →
    bindL kindOf (P.zip vs) m x = some v
  | [], _, _, _, _, h, _, _ => by simp at h
  | _ :: _, [], _, _, _, _, h, _ => by simp at h
  | p :: P, w :: vs, 0, m, nd, h1, h2, hk => by
    simp at h1 h2; subst h1; subst h2
    show bindL kindOf ((p, w) :: P.zip vs) m p = _
    unfold bindL
    rw [bindL_out fun v hv => (List.nodup_cons.mp nd).1 (List.of_mem_zip hv).1, if_pos hk]
    simp
  | p :: P, w :: vs, i + 1, m, nd, h1, h2, hk => by
    show bindL kindOf ((p, w) :: P.zip vs) m x = _
    unfold bindL
    exact bindL_get (i := i) (List.nodup_cons.mp nd).2 (by simpa using h1) (by simpa using h2) hk
theorem bindC_get {kindOf : Str → Option NameKind} {x : Str} {v : Value} : ∀ {P : List Str} {vs : List Value} {i : Nat} {m : Str → Option Value}, P.Nodup → P[i]? = some x → vs[i]? = some v → kindOf x ≠ some .local →
    bindC kindOf (P.zip vs) m x = some v
  | [], _, _, _, _, h, _, _ => by simp at h
  | _ :: _, [], _, _, _, _, h, _ => by simp at h
  | p :: P, w :: vs, 0, m, nd, h1, h2, hk => by
    simp at h1 h2; subst h1; subst h2
    show bindC kindOf ((p, w) :: P.zip vs) m p = _
    unfold bindC
    rw [bindC_out fun v hv => (List.nodup_cons.mp nd).1 (List.of_mem_zip hv).1, if_neg hk]
    simp
  | p :: P, w :: vs, i + 1, m, nd, h1, h2, hk => by
    show bindC kindOf ((p, w) :: P.zip vs) m x = _
    unfold bindC
    exact bindC_get (i := i) (List.nodup_cons.mp nd).2 (by simpa using h1) (by simpa using h2) hk
def start (N : List Str) (vs : List V) : St := vs.map some ++ List.replicate (N.length - vs.length) none
def cxOf (CX : CXT) (P : Program) (w : World) (K : PySem.W.Frag) (mg : Str → Option Value) (base : Heap) (N : List Str) (qual : Str) (scope : Scope) (f : Addr) (cd : Value) (A : Around) (outer : List Env) (s : Shared) (H : Hp) (E : XK) : Cx where
  prog := P
  w := w
  K := K
  mg := mg
  base := base
  A := A.deeper (envOfC qual scope s.heap.objs.size f cd)
  N := N
  s₀ := s
  H₀ := H
  env := envOfC qual scope s.heap.objs.size f cd
  outer := outer
  stack := envOfC qual scope s.heap.objs.size f cd :: outer
  ex := []
  calm := true
  fn := fun _ => true
  pn := []
  xe := fun e s' => wpAny (model P w) (A.deeper (envOfC qual scope s.heap.objs.size f cd)) (leaving (envOfC qual scope s.heap.objs.size f cd) e) (fun _ s'' => CX outer H s E e s'') (fun e' s'' => CX outer H s E e' s'') s'
theorem cell_has {sc : Scope} {n : Nat} {x : Str} (h : sc.names.lookup x = some .cell) : ∃ c, (cellsFrom n sc.names []).lookup x = some c := by
  have q := PySem.W.cellsFrom_some sc.names n [] (.inl h)
  exact Option.isSome_iff_exists.mp q
theorem inv_start {CX : CXT} {P : Program} {w : World} {K : PySem.W.Frag} {mg : Str → Option Value} {base : Heap} {N ps : List Str} {qual : Str} {scope : Scope} {f : Addr} {cd : Value} {A : Around} {outer : List Env} {s s1 : Shared} {H : Hp} {E : XK} {us : List Value} {vs : List V}
    (S : FnScope N ps scope) (hd : A.handled = none) (e0 : Env0 P w K mg base A outer s H) (hl : vs.length = ps.length) (r : Vals vs us)
    (x : InCallC s s.heap.objs.size (bindL (envOfC qual scope s.heap.objs.size f cd).kindOf (ps.zip us) fun _ => none) (cellsFrom (s.heap.objs.size + 1) scope.names []) (bindC (envOfC qual scope s.heap.objs.size f cd).kindOf (ps.zip us) fun _ => none) s1) :
    Inv (cxOf CX P w K mg base N qual scope f cd A outer s H E) [] (start N vs) H s1 := by
  have hpl : ps.length ≤ N.length := by have := congrArg List.length S.pre; rw [List.length_take] at this; omega
  obtain ⟨h1, tk, rfl, hk⟩ := x.done
  have noA : ∀ b : Addr, b ∉ (cxOf CX P w K mg base N qual scope f cd A outer s H E).ex := fun b z => absurd (show b ∈ ([] : List Addr) from z) (by simp)
  refine ⟨⟨e0.mod, S.kind, rfl, rfl, Nat.le_refl _, fun y z c h1 h2 => ?_, fun y hy => ?_, fun y c _ h => ?_, fun _ => hd, Around.frames_deeper e0.frames, .inr ⟨rfl, rfl⟩, fun b z => absurd z (noA b), e0.bs, e0.bsz, fun b _ _ => noA b, fun b z => absurd z (noA b), e0.funs, e0.frf⟩,
    rfl, e0.bare, Un.kept hk, ⟨_, x.toInCall.ns, fun i y v h1 h2 h3 => ?_⟩, fun y c h => ⟨_, x.cell y c h⟩, e0.hok.fresh (Nat.le_refl _), fun y c h => ?_, fun p hp => absurd (show p ∈ ([] : List (Addr × Obj)) from hp) (by simp), e0.hok.kept hk, ?_⟩
  · exact name_of_addr x.apart (PySem.mem_of_lookup h1) (PySem.mem_of_lookup h2)
  · have hy : scope.names.lookup y = some .cell ∨ scope.names.lookup y = some .free := hy
    rcases hy with hy | hy
    · exact cell_has hy
    · exact absurd rfl (S.nofree _ (PySem.mem_of_lookup hy))
  · exact Nat.le_of_lt (x.above y c (PySem.mem_of_lookup h))
  · have hi : i < vs.length := by
      unfold start at h2
      by_cases hi : i < vs.length
      · exact hi
      · rw [List.getElem?_append_right (by simpa using hi)] at h2
        rw [List.getElem?_replicate] at h2
        split at h2 <;> cases h2
    have ha : vs[i]? = some v := by
      unfold start at h2
      rw [List.getElem?_append_left (by simpa using hi), List.getElem?_map] at h2
      cases e : vs[i]? with
      | none => rw [e] at h2; cases h2
      | some a => rw [e] at h2; cases h2; rfl
    obtain ⟨u, hu, rv⟩ := r.get ha
    have hp : ps[i]? = some y := by
      rw [← S.pre, List.getElem?_take_of_lt (by omega)]; exact h1
    have ndP : ps.Nodup := by rw [← S.pre]; exact S.nd.sublist (List.take_sublist _ _)
    refine ⟨u, rv, ?_⟩
    rcases S.par y (List.mem_of_getElem? hp) with k | k
    · exact .inl ⟨k, bindL_get ndP hp hu k⟩
    · obtain ⟨c, e⟩ := cell_has (n := s.heap.objs.size + 1) k
      refine .inr ⟨.inl k, c, e, ?_⟩
      have q := x.cell y c e
      rw [bindC_get ndP hp hu (by show scope.names.lookup y ≠ _; rw [k]; decide)] at q
      exact q
  · exact e0.hok.fresh (Nat.le_of_lt (x.above y c (PySem.mem_of_lookup h)))
  · unfold start
    show _ = N.length
    rw [List.length_append, List.length_map, List.length_replicate]
    omega
theorem fn_of {CX : CXT} {P : Program} {w : World} {K : PySem.W.Frag} {mg : Str → Option Value} {base : Heap} {k : Nat} {f : Addr} {name qual : Str} {params : Arguments} {body : List Stmt} {scope : Scope} {dV kV doc pm cdv ct oc : Value} {an od : Option Addr}
    {osl : Array (Option Value)} {N ps : List Str} {sp : Sp} (lk : K.lookup f = some ⟨oc, od, .func (PySem.W.fnOf name qual params body scope dV kV doc pm an cdv ct), osl⟩) (hcd : PySem.W.codeIn K cdv qual = true) (S : FnScope N ps scope)
    (len : ∀ vs H Q E, sp vs H Q E → vs.length = ps.length)
    (hbody : ∀ (A : Around) (outer : List Env) (s : Shared) (H : Hp) (vs : List V) (Q : VK) (E : XK), Room k (A.deeper (envOfC qual scope s.heap.objs.size f cdv)) → sp vs H Q E →
      ∃ t, PSs (cxOf CX P w K mg base N qual scope f cdv A outer s H E) body t ∧ t { nx := fun _ H' => Q .non H', rt := Q } (start N vs) H) :
    FnOk P w K mg base CX (k + 1) f (PySem.W.fnOf name qual params body scope dV kV doc pm an cdv ct) ps sp := by
  refine ⟨len, fun A outer s H args us vs Q E hr e0 hb r hsp => ?_⟩
  have hl := len _ _ _ _ hsp
  have KX : K.In s.heap := e0.mod.kin.keeps fun b o e => (e0.bs b o e).1
  have lim : s.heap.NoLimit := e0.mod.nolimit.keeps fun b o e => (e0.bs b o e).1
  have hkind : ∀ y ∈ ps.zip us, scope.names.lookup y.1 = some .local ∨ (scope.names.lookup y.1 = some .cell ∧ ((cellsFrom (s.heap.objs.size + 1) scope.names []).lookup y.1).isSome = true) := fun ⟨n, v⟩ hy => by
    rcases S.par n (List.of_mem_zip hy).1 with q | q
    · exact .inl q
    · exact .inr ⟨q, PySem.W.cellsFrom_some _ _ _ (.inl q)⟩
  refine codeAny_call_function hr.depth (KX _ _ lk) rfl S.co S.gen rfl (PySem.W.codeRec_of KX hcd) (hb _ _ _ _ ?_)
  refine wpAny_newFunctionEnv_cells S.kind hkind fun env he s1 x => ?_
  subst he
  refine ⟨lim.keeps x.toInCall.keep, codeAny_func ?_⟩
  obtain ⟨t, ht, hq⟩ := hbody A outer s H vs Q E (hr.deeper _) hsp
  have I : Inv (cxOf CX P w K mg base N qual scope f cdv A outer s H E) [] (start N vs) H s1 := inv_start S hr.hd e0 hl r x
  refine wpAny_mono (ht [] s1 (start N vs) H _ I hq) (fun fl s' hs => ?_) fun e s' hs => hs
  have fin : ∀ {σ' : St} {H' : Hp} {v : V} {u : Value}, Inv (cxOf CX P w K mg base N qual scope f cdv A outer s H E) [] σ' H' s' → RelV v u → Q v H' → CE outer P w H s Q u s' :=
    fun {σ' H' v u} J rv q => ⟨v, H', J.os, J.bare, J.base, J.hok, rv, q⟩
  cases fl with
  | ret u =>
    obtain ⟨v, σ', H', J, rv, q⟩ := hs
    exact fin J rv q
  | next =>
    obtain ⟨σ', H', J, q⟩ := hs
    exact fin (v := V.non) (u := Value.none) J rfl q
  | brk =>
    obtain ⟨_, _, _, q⟩ := hs
    exact False.elim q
  | cont =>
    obtain ⟨_, _, _, q⟩ := hs
    exact False.elim q
end L2
namespace L2
open PySem PySem.Spec PyProof.Rows
section
variable {X : Cx} {x : Str} {p pos : Pos} {e : Expr} {es : List Expr} {t : TA} {id T : String} {r : List V → Hp → VK → Prop}
def tCB (r : List V → Hp → VK → Prop) (t : TA) : TE := fun σ H Q => t σ H fun vs H1 => r vs H1 Q
theorem pe_callB (hc : CallR X (.builtin id) r) (hg : Gl X x) (hm : X.mg x = none) (hv : bootBuiltins x = some (.builtin id)) (ha : PA X (e :: es) t) (hn : x ≠ "__name__" := by decide) (hdb : (x == ("__debug__" : Str)) = false := by decide)
    (he : starEach (e :: es) X.env = (false, eval e X.env) :: starEach es X.env := by rfl) (hpl : (backTo pos (starEach es X.env)).any (·.1) = false := by rfl) : PE X (.Call (.Name x p) (e :: es) [] pos) (tCB r t) := by
  intro pins s σ H Q I h
  refine wpAny_Call_Name_kw (ld_blt I hg hm hv ?_ hn hdb)
  exact PyProof.Rows.callWith_builtin1 (thn (ha pos pins s σ H _ I h) fun us s1 ⟨vs, H1, I1, r1, q1⟩ => hc pins s1 σ H1 vs us Q I1 r1 q1) he hpl
theorem pe_callTy (hc : CallR X (.type T) r) (hg : Gl X x) (hm : X.mg x = none) (hv : bootBuiltins x = some (.type T)) (ha : PA X (e :: es) t) (hn : x ≠ "__name__" := by decide) (hdb : (x == ("__debug__" : Str)) = false := by decide)
    (he : starEach (e :: es) X.env = (false, eval e X.env) :: starEach es X.env := by rfl) (hpl : (backTo pos (starEach es X.env)).any (·.1) = false := by rfl) : PE X (.Call (.Name x p) (e :: es) [] pos) (tCB r t) := by
  intro pins s σ H Q I h
  refine wpAny_Call_Name_kw (ld_blt I hg hm hv ?_ hn hdb)
  exact PyProof.Rows.callWith_type1 (thn (ha pos pins s σ H _ I h) fun us s1 ⟨vs, H1, I1, r1, q1⟩ => hc pins s1 σ H1 vs us Q I1 r1 q1) he hpl
end
end L2
namespace HT
open PySem PyProof.Rows
section
open PySem.SeqAt
open PySem.AutoSeq1 (wpAny_loadPart')
open PySem.MeetsSeq PySem.MeetsSeq2 PySem.MeetsSeq3
end
section
variable {prog : Program} {w : World} {A : Around} {E : Value → Shared → Prop} {s : Shared}
theorem cat_tup {t b : Addr} {vs ws : List Value} {Q : Value → Shared → Prop} (ht : IsTup s.heap t vs.toArray) (hb : IsTup s.heap b ws.toArray) (hv : vs ≠ [])
    (h1 : ws = [] → Q (.ref t) s) (h2 : ws ≠ [] → Q (.ref s.heap.objs.size) { s with heap := s.heap.push { cls := .type "tuple", data := .seq (vs ++ ws).toArray } })
    (hsz : vs.length + ws.length ≤ sizeLine) : wpAny (model prog w) A (binaryOp .Add (.ref t) (.ref b)) Q E s := by
  obtain ⟨⟨cls, dd, data, sl⟩, ho, hc, n, hd⟩ := id ht
  obtain ⟨⟨cls2, dd2, data2, sl2⟩, ho2, hc2, n2, hd2⟩ := id hb
  simp only at hc hd hc2 hd2
  subst hc hd hc2 hd2
  have e : vs.toArray ++ ws.toArray = (vs ++ ws).toArray := by simp
  by_cases hw : ws = []
  · exact concat_meets ⟨_, ho, rfl⟩ ⟨_, ho2, rfl⟩ noFill_tuple_add seq_tuple_add PySem.F.slot_tuple_add PySem.F.entry_tuple_add (PySem.F.args_tuple_add_2 _ _)
      (tuple_addW1 t b vs.toArray ws.toArray n n2 dd dd2 sl sl2 (by simpa using hv) (by simp [hw])) ⟨ho, ho2, h1 hw⟩
  · refine concat_meets ⟨_, ho, rfl⟩ ⟨_, ho2, rfl⟩ noFill_tuple_add seq_tuple_add PySem.F.slot_tuple_add PySem.F.entry_tuple_add (PySem.F.args_tuple_add_2 _ _)
      (tuple_addW2 t b vs.toArray ws.toArray n n2 dd dd2 sl sl2 (by simpa using hv) (by simpa using hw) (by rw [List.size_toArray, List.size_toArray]; exact hsz)) ⟨ho, ho2, ?_⟩
    rw [e]
    exact h2 hw
def sIx (n d : Nat) : Option Int → Nat
  | none => d
  | some v => if v < 0 then (v + (n : Int)).toNat else min v.toNat n
theorem sIx_none (n d : Nat) : sIx n d none = d := rfl
theorem sIx_nat (n d k : Nat) : sIx n d (some (k : Int)) = min k n := by
  show (if (k : Int) < 0 then ((k : Int) + (n : Int)).toNat else min (k : Int).toNat n) = min k n
  rw [if_neg (by omega), Int.toNat_natCast]
theorem sIx_le (n d : Nat) (hd : d ≤ n) (o : Option Int) : sIx n d o ≤ n := by
  cases o with
  | none => exact hd
  | some v =>
    show (if v < 0 then (v + (n : Int)).toNat else min v.toNat n) ≤ n
    by_cases hv : v < 0
    · rw [if_pos hv]; omega
    · rw [if_neg hv]; exact Nat.min_le_right _ _
theorem clip_eq (v : Int) (n d : Nat) : (if v < 0 then max (v + (n : Int)) 0 else min v (n : Int)) = ((sIx n d (some v) : Nat) : Int) := by
  show (if v < 0 then max (v + (n : Int)) 0 else min v (n : Int)) = (((if v < 0 then (v + (n : Int)).toNat else min v.toNat n) : Nat) : Int)
  by_cases hv : v < 0
  · simp only [if_pos hv]; omega
  · simp only [if_neg hv]; omega
theorem adjust_gen (lo hi : Option Int) (n : Nat) : Builtin.Slice.sliceAdjust lo hi 1 (n : Int) = (((sIx n 0 lo : Nat) : Int), ((sIx n n hi : Nat) : Int)) := by
  have h1 : ¬ ((1 : Int) < 0) := by omega
  unfold Builtin.Slice.sliceAdjust
  simp only [h1, if_false]
  refine Prod.ext ?_ ?_
  · cases lo with
    | none => rfl
    | some v => exact clip_eq v n 0
  · cases hi with
    | none => rfl
    | some v => exact clip_eq v n n
theorem places_gen (i j : Nat) : Builtin.Slice.slicePlaces (i : Int) (j : Int) 1 = j - i := by
  unfold Builtin.Slice.slicePlaces
  have h1 : (1 : Int) > 0 := by omega
  simp only [h1, if_true, Int.ediv_one]
  split <;> omega
theorem slicePart_ {v : Value} {o : Option Int} {Q : Option Int → Shared → Prop} (p : IsPart v o) (h : Q o s) : wpAny (model prog w) A (Builtin.Slice.slicePartIndex v) Q E s := by
  cases p with
  | none => exact slicePart_none h
  | int i t => exact slicePart_int h
theorem sliceApplied_gen {sl : Addr} {vl vu : Value} {lo hi : Option Int} {n : Nat} {Q : Int × Int × Nat → Shared → Prop} (hs : s.heap.IsSliceOf sl vl vu .none) (pl : IsPart vl lo) (pu : IsPart vu hi)
    (h : Q (((sIx n 0 lo : Nat) : Int), 1, sIx n n hi - sIx n 0 lo) s) : wpAny (model prog w) A (Builtin.Slice.sliceApplied (.ref sl) (pure (n : Int))) Q E s := by
  obtain ⟨os, hos, hcs, hds⟩ := id hs
  unfold Builtin.Slice.sliceApplied Builtin.Slice.sliceFields
  refine wpAny_bind (wpAny_bind (wpAny_field hos hds (x := vl) rfl (wpAny_bind (wpAny_field hos hds (x := vu) rfl (wpAny_bind (wpAny_field hos hds (x := .none) rfl (wpAny_pure ?_)))))))
  refine wpAny_bind (slicePart_none ?_)
  show wpAny _ _ (if ((1 : Int) == 0) = true then _ else _) _ _ s
  rw [if_neg (by decide)]
  refine wpAny_bind (slicePart_ pl (wpAny_bind (slicePart_ pu (wpAny_bind (wpAny_pure ?_)))))
  show wpAny _ _ (match Builtin.Slice.sliceAdjust lo hi 1 (n : Int) with | (lo, hi) => pure (lo, (1 : Int), Builtin.Slice.slicePlaces lo hi 1)) _ _ s
  rw [adjust_gen lo hi n]
  show wpAny _ _ (pure (((sIx n 0 lo : Nat) : Int), (1 : Int), Builtin.Slice.slicePlaces ((sIx n 0 lo : Nat) : Int) ((sIx n n hi : Nat) : Int) 1)) _ _ s
  rw [places_gen]
  exact wpAny_pure h
theorem pick_gen (xs : Array Value) (i k : Nat) : ((List.range k).filterMap fun (m : Nat) => xs[((i : Int) + (m : Int) * 1).toNat]?).toArray = ((xs.toList.drop i).take k).toArray := by
  have e : (fun (m : Nat) => xs[((i : Int) + (m : Int) * 1).toNat]?) = fun m => xs[i + m]? := by
    funext m
    have : ((i : Int) + (m : Int) * 1).toNat = i + m := by omega
    rw [this]
  rw [e]
  have := pick_run xs i k
  rw [List.filterMap_map] at this
  have e2 : ((fun x => xs[x]?) ∘ fun x => i + x) = fun m => xs[i + m]? := rfl
  rw [e2] at this
  rw [this]
theorem getItem_tuple_cut {t sl : Addr} {items : Array Value} {vl vu : Value} {lo hi : Option Int} {Q : Value → Shared → Prop} (ht : IsTup s.heap t items) (hs : s.heap.IsSliceOf sl vl vu .none) (pl : IsPart vl lo) (pu : IsPart vu hi)
    (hw : ¬ (sIx items.size 0 lo = 0 ∧ sIx items.size items.size hi = items.size))
    (h : Q (.ref s.heap.objs.size) { s with heap := s.heap.push { cls := .type "tuple", data := .seq ((items.toList.drop (sIx items.size 0 lo)).take (sIx items.size items.size hi - sIx items.size 0 lo)).toArray } })
    (hsz : items.size ≤ sizeLine) : wpAny (model prog w) A (getItem (.ref t) (.ref sl)) Q E s := by
  have htake : sizeOk (.seq ((items.toList.drop (sIx items.size 0 lo)).take (sIx items.size items.size hi - sIx items.size 0 lo)).toArray) := by
    show ((items.toList.drop (sIx items.size 0 lo)).take (sIx items.size items.size hi - sIx items.size 0 lo)).toArray.size ≤ sizeLine
    rw [List.size_toArray, List.length_take, List.length_drop, Array.length_toList]
    omega
  have hj : sIx items.size items.size hi ≤ items.size := sIx_le _ _ (Nat.le_refl _) hi
  obtain ⟨os, hos, hcs, hds⟩ := id hs
  have hTs : s.TypeIs (.ref sl) "slice" := ⟨os, hos, hcs⟩
  unfold getItem
  try with_reducible refine wpAny_holding ?_
  first | refine wpAny_bind (wpAny_pure ?_) | skip
  refine wpAny_bind (wpAny_sequenceKey ht.typeIs (by decide) ?_)
  refine wpAny_bind (wpAny_callSpecial?_slot (name := Str.ofString "__getitem__") ht.typeIs PyProof.Rows.slot_tuple_getitem
    (wpAny_call_entry PyProof.Rows.slot_tuple_getitem ht.typeIs entry_tuple_getitem ?_ (args_tuple_getitem _ _)))
  show wpAny _ _ (Builtin.Tuple.tupleItemsOf (.ref t) >>= _) _ _ s
  refine wpAny_bind (tupleItemsOf_ ht ?_)
  refine wpAny_bind (wpAny_typeOf hTs ?_)
  rw [if_pos (by decide)]
  refine wpAny_bind (sliceApplied_gen hs pl pu ?_)
  have hno : ¬ ((((sIx items.size 0 lo : Nat) : Int) == 0 && (1 : Int) == 1 && (sIx items.size items.size hi - sIx items.size 0 lo) == items.size) = true) := by
    intro q
    rw [Bool.and_eq_true, Bool.and_eq_true] at q
    have q1 : ((sIx items.size 0 lo : Nat) : Int) = 0 := eq_of_beq q.1.1
    have q2 : sIx items.size items.size hi - sIx items.size 0 lo = items.size := eq_of_beq q.2
    exact hw ⟨by omega, by omega⟩
  show wpAny _ _ (if (((sIx items.size 0 lo : Nat) : Int) == 0 && (1 : Int) == 1 && (sIx items.size items.size hi - sIx items.size 0 lo) == items.size) = true then _ else _) _ _ s
  rw [if_neg hno, pick_gen]
  first
    | exact wpAny_bind (m := Builtin.Tuple.tupleExact _) (wpAny_newObj_type (wpAny_pure ⟨_, rfl, wpAny_pure h⟩) htake)
    | exact wpAny_bind (m := Builtin.Tuple.tupleExact _) (wpAny_newObj_type (wpAny_bind (wpAny_pure (wpAny_pure ⟨_, rfl, wpAny_pure h⟩))) htake)
    | exact wpAny_bind (wpAny_bind (m := Builtin.Tuple.tupleExact _) (wpAny_newObj_type (wpAny_pure (wpAny_pure ⟨_, rfl, wpAny_pure h⟩)) htake))
    | exact wpAny_bind (wpAny_bind (m := Builtin.Tuple.tupleExact _) (wpAny_newObj_type (wpAny_pure ⟨_, rfl, wpAny_pure h⟩) htake))
end
end HT
namespace L2
open PySem PySem.Spec PyProof.Rows
abbrev TO := St → Hp → (Option Int → Hp → Prop) → Prop
def PO (X : Cx) (e : Option Expr) (t : TO) : Prop :=
  ∀ (pins : List (Addr × Obj)) (s : Shared) (σ : St) (H : Hp) (Q : Option Int → Hp → Prop), Inv X pins σ H s → t σ H Q →
    wpAny (model X.prog X.w) X.A (evalPart e X.env) (fun u s' => ∃ o H', Inv X pins σ H' s' ∧ IsPart u o ∧ Q o H') X.xe s
def tNoPart : TO := fun _ H Q => Q none H
def tPart (t : TE) : TO := fun σ H Q => t σ H fun x H1 => ∃ i, x = .int i ∧ Q (some i) H1
section
variable {X : Cx} {e : Expr} {te : TE} {lo hi : Option Expr} {tl th : TO} {pos p2 : Pos}
theorem po_none : PO X none tNoPart := by
  intro pins s σ H Q I h
  rw [evalPart_none]
  exact wpAny_pure ⟨none, H, I, .none, h⟩
theorem po_some (h : PE X e te) : PO X (some e) (tPart te) := by
  intro pins s σ H Q I hw
  rw [evalPart_some]
  refine thn (h pins s σ H _ I hw) fun u s1 ⟨x, H1, I1, r1, q1⟩ => ?_
  obtain ⟨i, rfl, q⟩ := q1
  obtain ⟨t, rfl⟩ := r1
  exact ⟨some i, H1, I1, .int i t, q⟩
def SlR (X : Cx) (r : V → Option Int → Option Int → Hp → VK → Prop) : Prop :=
  ∀ (pins : List (Addr × Obj)) (s : Shared) (σ : St) (H : Hp) (x : V) (v vl vu : Value) (lo hi : Option Int) (sl : Addr) (Q : VK), Inv X pins σ H s → RelV x v → s.heap.IsSliceOf sl vl vu .none → IsPart vl lo → IsPart vu hi → r x lo hi H Q →
    ∃ T id, typeLookup (.type T) "__getitem__" = pure (some (.builtin id)) ∧ s.TypeIs v T ∧ wpAny (model X.prog X.w) X.A (getItem v (.ref sl)) (EP X pins σ Q) X.xe s
def tSl (r : V → Option Int → Option Int → Hp → VK → Prop) (te : TE) (tl th : TO) : TE := fun σ H Q => te σ H fun x H1 => tl σ H1 fun l H2 => th σ H2 fun u H3 => r x l u H3 Q
theorem pe_slice {r : V → Option Int → Option Int → Hp → VK → Prop} (hr : SlR X r) (he : PE X e te) (hl : PO X lo tl) (hu : PO X hi th) : PE X (.Subscript e (.Slice lo hi none p2) pos) (tSl r te tl th) := by
  intro pins s σ H Q I h
  refine Subscript_ (thn (he pins s σ H _ I h) fun v s1 ⟨x, H1, I1, r1, q1⟩ => ?_)
  refine wpAny_Slice (thn (hl pins s1 σ H1 _ I1 q1) fun vl s2 ⟨l, H2, I2, pl, q2⟩ => thn (hu pins s2 σ H2 _ I2 q2) fun vu s3 ⟨u, H3, I3, pu, q3⟩ => ?_)
  rw [evalPart_none]
  refine wpAny_pure ?_
  have I4 : Inv X pins σ H3 { s3 with heap := s3.heap.push { cls := .type "slice", data := .fields #[vl, vu, .none] } } := I3.kept (t' := s3.toks) fun b ob q => Heap.get?_push_of_some _ q
  obtain ⟨T, id, hT, ht, hg⟩ := hr pins { s3 with heap := s3.heap.push { cls := .type "slice", data := .fields #[vl, vu, .none] } } σ H3 x v vl vu l u s3.heap.objs.size Q I4 r1 (Heap.IsSliceOf.new ..) pl pu q3
  show wpAny (model X.prog X.w) X.A (subscriptTail e (.Slice lo hi none p2) v (.ref s3.heap.objs.size)) (EP X pins σ Q) X.xe { s3 with heap := s3.heap.push { cls := .type "slice", data := .fields #[vl, vu, .none] } }
  exact tail_any (ops := [.ref s3.heap.objs.size, v]) ht hT hg (by with_unfolding_all rfl)
def cutV (xs : List V) (lo hi : Option Int) : List V := (xs.drop (HT.sIx xs.length 0 lo)).take (HT.sIx xs.length xs.length hi - HT.sIx xs.length 0 lo)
theorem cutV_length (xs : List V) (lo hi : Option Int) : (cutV xs lo hi).length ≤ xs.length := by
  unfold cutV
  rw [List.length_take, List.length_drop]
  omega
def rSlT (K : PySem.W.Frag) : V → Option Int → Option Int → Hp → VK → Prop := fun x lo hi H Q => ∃ a xs, x = .ref a ∧ SqT K H a xs ∧
  ¬ (HT.sIx xs.length 0 lo = 0 ∧ HT.sIx xs.length xs.length hi = xs.length) ∧ ∀ p, H p = none → Q (.ref p) (upd H p (.tup (cutV xs lo hi)))
theorem sl_tup : SlR X (rSlT X.K) := by
  intro pins s σ H x v vl vu lo hi sl Q I rx hs pl pu h
  obtain ⟨a, xs, rfl, hx, hw, q⟩ := h
  cases rx
  obtain ⟨its, r, ht, hz⟩ := I.tuple hx
  have hlen : its.toArray.size = xs.length := by rw [List.size_toArray]; exact r.length.symm
  refine ⟨"tuple", _, PyProof.Rows.slot_tuple_getitem.lookup, ht.typeIs, ?_⟩
  refine HT.getItem_tuple_cut ht hs pl pu (by rw [hlen]; exact hw) ?_ (by rw [hlen]; exact hz)
  rw [hlen]
  refine ⟨.ref s.heap.objs.size, _, I.laid (t' := s.toks) (o := .tup (cutV xs lo hi)) (fun b ob q => Heap.get?_push_of_some _ q) (Nat.le_refl _) ?_, rfl, q _ (I.hok.fresh (Nat.le_refl _))⟩
  exact ⟨Nat.le_trans (cutV_length xs lo hi) hz, _, (r.drop (HT.sIx xs.length 0 lo)).take (HT.sIx xs.length xs.length hi - HT.sIx xs.length 0 lo), IsTup.new _ _⟩
def rCatT (K : PySem.W.Frag) : R2 := fun x y H Q => ∃ a b xs ys, x = .ref a ∧ y = .ref b ∧ SqT K H a xs ∧ SqT K H b ys ∧ xs ≠ [] ∧ xs.length + ys.length ≤ sizeLine ∧
  (ys = [] → Q (.ref a) H) ∧ (ys ≠ [] → ∀ p, H p = none → Q (.ref p) (upd H p (.tup (xs ++ ys))))
theorem Vals.nil_iff {xs : List V} {us : List Value} (r : Vals xs us) : us = [] ↔ xs = [] := by
  cases r with
  | nil => simp
  | cons _ _ => simp
theorem op_catT : OpR X (binaryOp .Add) (rCatT X.K) := by
  intro pins s σ H x y v u Q I rx ry h
  obtain ⟨a, b, xs, ys, rfl, rfl, ha, hb, hx, hz, q1, q2⟩ := h
  cases rx
  cases ry
  obtain ⟨its, r1, p1, _⟩ := I.tuple ha
  obtain ⟨its2, r2, p2, _⟩ := I.tuple hb
  refine HT.cat_tup p1 p2 (fun z => hx (r1.nil_iff.mp z)) (fun z => ⟨.ref a, H, I, rfl, q1 (r2.nil_iff.mp z)⟩) (fun z => ?_) (by rw [← r1.length, ← r2.length]; exact hz)
  refine ⟨.ref s.heap.objs.size, _, I.laid (t' := s.toks) (o := .tup (xs ++ ys)) (fun b ob q => Heap.get?_push_of_some _ q) (Nat.le_refl _) ?_, rfl, q2 (fun w => z (r2.nil_iff.mpr w)) _ (I.hok.fresh (Nat.le_refl _))⟩
  exact ⟨by rw [List.length_append]; exact hz, _, r1.append r2, IsTup.new _ _⟩
end
end L2
namespace L2
open PySem PySem.Spec PyProof.Rows
def ixN (n : Nat) (i : Int) : Option Nat := if 0 ≤ i then (if i < n then some i.toNat else none) else if -(n : Int) ≤ i then some (i + n).toNat else none
def atI {α : Type} (xs : List α) (i : Int) : Option α := (ixN xs.length i).bind fun j => xs[j]?
theorem ixN_seq {n : Nat} {i : Int} {j : Nat} (h : ixN n i = some j) : seqIndex? i n = some j ∧ j < n ∧ -(n : Int) ≤ i ∧ i < n := by
  unfold ixN at h
  by_cases h0 : 0 ≤ i
  · rw [if_pos h0] at h
    by_cases h1 : i < n
    · rw [if_pos h1] at h
      have e : i.toNat = j := Option.some.inj h
      exact ⟨by rw [seqIndex_of h0 h1, e], by omega, by omega, h1⟩
    · rw [if_neg h1] at h; cases h
  · rw [if_neg h0] at h
    by_cases h1 : -(n : Int) ≤ i
    · rw [if_pos h1] at h
      have e : (i + n).toNat = j := Option.some.inj h
      exact ⟨by rw [seqIndex_neg (by omega) h1, e], by omega, h1, by omega⟩
    · rw [if_neg h1] at h; cases h
theorem atI_get {α : Type} {xs : List α} {i : Int} {v : α} (h : atI xs i = some v) : ∃ j, seqIndex? i xs.length = some j ∧ xs[j]? = some v ∧ j < xs.length ∧ -(xs.length : Int) ≤ i ∧ i < xs.length := by
  unfold atI at h
  cases e : ixN xs.length i with
  | none => rw [e] at h; cases h
  | some j =>
    rw [e] at h
    obtain ⟨h1, h2, h3, h4⟩ := ixN_seq e
    exact ⟨j, h1, h, h2, h3, h4⟩
theorem atI_nat {α : Type} {xs : List α} {j : Nat} {v : α} (h : xs[j]? = some v) : atI xs (j : Int) = some v := by
  have hj : j < xs.length := (List.getElem?_eq_some_iff.mp h).1
  have e : ixN xs.length (j : Int) = some j := by
    unfold ixN
    rw [if_pos (by omega), if_pos (by omega)]; simp
  unfold atI; rw [e]; exact h
def PlainIx (b : Expr) : Prop := ∀ o i, subscripted b false o i = operate [o, i] (getItem o i)
def IxR (X : Cx) (r : R2) : Prop :=
  ∀ (value slice : Expr) (pins : List (Addr × Obj)) (s : Shared) (σ : St) (H : Hp) (x y : V) (v u : Value) (Q : VK), Inv X pins σ H s → RelV x v → RelV y u → r x y H Q →
    subscripted slice false v u = operate [v, u] (getItem v u) → wpAny (model X.prog X.w) X.A (subscriptTail value slice v u) (EP X pins σ Q) X.xe s
def MtR (X : Cx) (id : String) (r : V → List V → Hp → VK → Prop) : Prop :=
  ∀ (pins : List (Addr × Obj)) (s : Shared) (σ : St) (H : Hp) (x : V) (xs : List V) (v : Value) (us : List Value) (Q : VK), Inv X pins σ H s → RelV x v → Vals xs us → r x xs H Q →
    wpAny (model X.prog X.w) X.A (call (.builtin id) (v :: us)) (EP X pins σ Q) X.xe s
section
variable {X : Cx} {a b : Expr} {ta tb : TE} {pos : Pos}
theorem pe_ix {r : R2} (hr : IxR X r) (ha : PE X a ta) (hb : PE X b tb) (hs : PlainIx b) : PE X (.Subscript a b pos) (tOp r ta tb) := by
  intro pins s σ H Q I h
  exact Subscript_ (binT ha hb I h fun v u s2 x y H2 I2 rx ry q => hr a b pins s2 σ H2 x y v u Q I2 rx ry q (hs _ _))
def rIxL (K : PySem.W.Frag) : R2 := fun x y H Q => ∃ p xs i v, x = .ref p ∧ y = .int i ∧ SqL K H p xs ∧ atI xs i = some v ∧ Q v H
def rIxT (K : PySem.W.Frag) : R2 := fun x y H Q => ∃ p xs i v, x = .ref p ∧ y = .int i ∧ SqT K H p xs ∧ atI xs i = some v ∧ Q v H
theorem ix_list : IxR X (rIxL X.K) := by
  intro value slice pins s σ H x y v u Q I rx ry h hs
  obtain ⟨p, xs, i, z, rfl, rfl, hq, he, q⟩ := h
  cases rx
  obtain ⟨t, rfl⟩ := ry
  obtain ⟨its, r, pl, hz⟩ := I.list hq
  obtain ⟨j, h1, h2, h3, h4, h5⟩ := atI_get he
  obtain ⟨w, ew, rw'⟩ := r.get h2
  have hl := r.length
  have hn := line63
  have fin : EP X pins σ Q w s := ⟨z, H, I, rw', q⟩
  by_cases h0 : 0 ≤ i
  · have hj : i.toNat = j := by
      rw [seqIndex_of h0 h5] at h1
      exact Option.some.inj h1
    exact item_listR pl.isList h0 (by omega) (by rw [hj]; simpa using ew) fin hs
  · have hj : (i + (its.toArray.size : Int)).toNat = j := by
      rw [seqIndex_neg (by omega) h4] at h1
      rw [List.size_toArray, ← hl]
      exact Option.some.inj h1
    exact subscriptTail_builtinR (x := w) pl.isList.typeIs slot_list_getitem.lookup
      (wpAny_getItem_list_neg (Q := fun r s' => r = w ∧ EP X pins σ Q r s') pl.isList (by omega) (by rw [List.size_toArray] <;> omega) (by omega) (by rw [hj]; simpa using ew) ⟨rfl, fin⟩) hs
theorem ix_tup : IxR X (rIxT X.K) := by
  intro value slice pins s σ H x y v u Q I rx ry h hs
  obtain ⟨p, xs, i, z, rfl, rfl, hq, he, q⟩ := h
  cases rx
  obtain ⟨t, rfl⟩ := ry
  obtain ⟨its, r, pl, hz⟩ := I.tuple hq
  obtain ⟨j, h1, h2, h3, h4, h5⟩ := atI_get he
  obtain ⟨w, ew, rw'⟩ := r.get h2
  have hl := r.length
  have hn := line63
  have fin : EP X pins σ Q w s := ⟨z, H, I, rw', q⟩
  exact subscriptTail_builtinR (x := w) pl.typeIs slot_tuple_getitem.lookup
    (getItem_tuple (j := j) (Q := fun r s' => r = w ∧ EP X pins σ Q r s') pl (by omega) (by omega) (by rw [List.size_toArray, ← hl]; exact h1) (by simpa using ew) ⟨rfl, fin⟩) hs
theorem Inv.lst {pins : List (Addr × Obj)} {σ : St} {H : Hp} {s : Shared} {p : Addr} {xs : List V} (I : Inv X pins σ H s) (h : H p = some (.lst xs)) :
    ∃ (its : List Value) (n : Nat), Vals xs its ∧ s.heap.get? p = some { cls := .type "list", data := .seq its.toArray n } ∧ xs.length ≤ sizeLine := by
  obtain ⟨z, its, n, r, e⟩ := I.hok p _ h
  exact ⟨its, n, r, e, z⟩
theorem slice_bounds (lo hi : Option Int) (n : Nat) : (sliceBounds lo hi none n).1 = ((HT.sIx n 0 lo : Nat) : Int) ∧ (sliceBounds lo hi none n).2.1 = ((HT.sIx n n hi : Nat) : Int) ∧ (sliceBounds lo hi none n).2.2 = 1 := by
  refine ⟨?_, ?_, rfl⟩
  · cases lo with
    | none => simp [sliceBounds, HT.sIx]
    | some i =>
      simp only [sliceBounds, HT.sIx, Option.getD_none, show (1 : Int) > 0 by decide, if_true]
      by_cases h : i < 0
      · simp only [h, if_true] <;> omega
      · simp only [h, if_false] <;> omega
  · cases hi with
    | none => simp [sliceBounds, HT.sIx]
    | some i =>
      simp only [sliceBounds, HT.sIx, Option.getD_none, show (1 : Int) > 0 by decide, if_true]
      by_cases h : i < 0
      · simp only [h, if_true] <;> omega
      · simp only [h, if_false] <;> omega
theorem slicePick_cut (its : List Value) (lo hi : Option Int) : slicePick its.toArray lo hi none = ((its.drop (HT.sIx its.length 0 lo)).take (HT.sIx its.length its.length hi - HT.sIx its.length 0 lo)).toArray := by
  obtain ⟨h1, h2, h3⟩ := slice_bounds lo hi its.toArray.size
  unfold slicePick
  rw [h1, h2, h3]
  simp only [sliceRange_one, pick_run, List.size_toArray] <;> rfl
def rSlL (K : PySem.W.Frag) : V → Option Int → Option Int → Hp → VK → Prop := fun x lo hi H Q => ∃ a xs, x = .ref a ∧ SqL K H a xs ∧ ∀ p, H p = none → Q (.ref p) (upd H p (.lst (cutV xs lo hi)))
theorem sl_list : SlR X (rSlL X.K) := by
  intro pins s σ H x v vl vu lo hi sl Q I rx hs pl pu h
  obtain ⟨a, xs, rfl, hx, q⟩ := h
  cases rx
  obtain ⟨its, r, ht, hz⟩ := I.list hx
  have hlen := r.length
  refine ⟨"list", _, slot_list_getitem.lookup, ht.isList.typeIs, ?_⟩
  refine wpAny_getItem_list_slice ht.isList hs pl pu .none (by simp) ?_ (by rw [List.size_toArray] <;> omega)
  rw [slicePick_cut, ← hlen]
  refine ⟨.ref s.heap.objs.size, _, I.laid (t' := s.toks) (o := .lst (cutV xs lo hi)) (fun b ob q => Heap.get?_push_of_some _ q) (Nat.le_refl _) ?_, rfl, q _ (I.hok.fresh (Nat.le_refl _))⟩
  exact ⟨Nat.le_trans (cutV_length xs lo hi) hz, _, 0, (r.drop (HT.sIx xs.length 0 lo)).take (HT.sIx xs.length xs.length hi - HT.sIx xs.length 0 lo), Heap.get?_push_size _ rfl⟩
def flatV : V → Bool
  | .non => true
  | .bl _ => true
  | .int _ => true
  | .str _ => true
  | _ => false
def eqV : V → V → Bool
  | .non, .non => true
  | .bl a, .bl b => a == b
  | .bl a, .int b => (if a then 1 else 0) == b
  | .int a, .bl b => a == (if b then 1 else 0)
  | .int a, .int b => a == b
  | .str a, .str b => a == b
  | _, _ => false
theorem eqAt_V {A : Around} {s : Shared} {y x : V} {u v : Value} (ry : RelV y u) (rx : RelV x v) (fy : flatV y = true) (fx : flatV x = true) : SeqAt.EqAt A s u v (eqV y x) := by
  cases y with
  | non =>
    cases ry
    cases x with
    | non => cases rx; exact SeqAt.EqAt.same _
    | bl b => cases rx; exact SeqAt.EqAt.none_bool b
    | int b => obtain ⟨t, rfl⟩ := rx; exact SeqAt.EqAt.none_int b t
    | str b => obtain ⟨t, rfl⟩ := rx; exact SeqAt.EqAt.none_str b t
    | _ => exact absurd (show false = true from fx) Bool.false_ne_true
  | bl a =>
    cases ry
    cases x with
    | non => cases rx; exact SeqAt.EqAt.bool_none a
    | bl b => cases rx; exact SeqAt.EqAt.bool_bool a b
    | int b => obtain ⟨t, rfl⟩ := rx; exact SeqAt.EqAt.bool_int a b t
    | str b => obtain ⟨t, rfl⟩ := rx; exact SeqAt.EqAt.bool_str a b t
    | _ => exact absurd (show false = true from fx) Bool.false_ne_true
  | int a =>
    obtain ⟨t', rfl⟩ := ry
    cases x with
    | non => cases rx; exact SeqAt.EqAt.int_none a t'
    | bl b => cases rx; exact SeqAt.EqAt.int_bool a t' b
    | int b => obtain ⟨t, rfl⟩ := rx; exact SeqAt.EqAt.int_int a t' b t
    | str b => obtain ⟨t, rfl⟩ := rx; exact SeqAt.EqAt.int_str a t' b t
    | _ => exact absurd (show false = true from fx) Bool.false_ne_true
  | str a =>
    obtain ⟨t', rfl⟩ := ry
    cases x with
    | non => cases rx; exact SeqAt.EqAt.str_none a t'
    | bl b => cases rx; exact SeqAt.EqAt.str_bool a t' b
    | int b => obtain ⟨t, rfl⟩ := rx; exact SeqAt.EqAt.str_int a t' b t
    | str b => obtain ⟨t, rfl⟩ := rx; exact SeqAt.EqAt.str_str a t' b t
    | _ => exact absurd (show false = true from fx) Bool.false_ne_true
  | _ => exact absurd (show false = true from fy) Bool.false_ne_true
theorem call_len_seq : CallR X (.builtin "len") (fun xs H Q => ∃ p ys, xs = [.ref p] ∧ (SqL X.K H p ys ∨ SqT X.K H p ys) ∧ Q (.int ys.length) H) := by
  intro pins s σ H xs us Q I r h
  obtain ⟨p, ys, rfl, hq, q⟩ := h
  obtain ⟨u, rfl, rx⟩ := vals1 r
  cases rx
  have hn := line63
  rcases hq with hq | hq
  · obtain ⟨its, r', pl, hz⟩ := I.list hq
    have hlen := r'.length
    exact Calls.call_len_list pl.isList (by simp only [List.size_toArray] <;> omega) ⟨.int ys.length, H, I.tok _, ⟨s.toks + 1, by rw [List.size_toArray, hlen]⟩, q⟩
  · obtain ⟨its, r', pl, hz⟩ := I.tuple hq
    have hlen := r'.length
    exact len_tuple pl (by simp only [List.size_toArray] <;> omega) ⟨.int ys.length, H, I.tok _, ⟨s.toks + 1, by rw [List.size_toArray, hlen]⟩, q⟩
theorem call_len_str : CallR X (.builtin "len") (fun xs H Q => ∃ z, xs = [.str z] ∧ z.length ≤ sizeLine ∧ Q (.int z.length) H) := by
  intro pins s σ H xs us Q I r h
  obtain ⟨z, rfl, hz, q⟩ := h
  obtain ⟨u, rfl, t, rfl⟩ := vals1 r
  have hn := line63
  exact len_str (by omega) ⟨.int z.length, H, I.tok _, ⟨_, rfl⟩, q⟩
theorem call_list_of : CallR X (.type "list") (fun xs H Q => ∃ p ys, xs = [.ref p] ∧ (SqL X.K H p ys ∨ SqT X.K H p ys) ∧ ∀ l, H l = none → Q (.ref l) (upd H l (.lst ys))) := by
  intro pins s σ H xs us Q I r h
  obtain ⟨p, ys, rfl, hq, q⟩ := h
  obtain ⟨u, rfl, rx⟩ := vals1 r
  cases rx
  have fin : ∀ (its : List Value), Vals ys its → ys.length ≤ sizeLine → ∀ (h' : Heap) (c' : Nat), (∀ b o', s.heap.get? b = some o' → h'.get? b = some o') →
      h'.get? s.heap.objs.size = some { cls := .type "list", dict := none, data := .seq its.toArray c', slots := #[] } → EP X pins σ Q (.ref s.heap.objs.size) { s with heap := h' } := fun its r' hz h' c' kp e =>
    ⟨.ref s.heap.objs.size, _, I.laid (t' := s.toks) kp (Nat.le_refl _) (show ObjOk X.prog X.w _ h' _ (.lst ys) from ⟨hz, its, c', r', e⟩), rfl, q _ (I.hok.fresh (Nat.le_refl _))⟩
  rcases hq with hq | hq
  · obtain ⟨its, r', pl, hz⟩ := I.list hq
    have hlen := r'.length
    obtain ⟨o, ho, hc, n, hd⟩ := pl.isList
    exact call_list_seq p (.inl rfl) ho hc hd (fun h' c' kp e => fin its r' hz h' c' kp e) (by simp only [List.size_toArray] <;> omega)
  · obtain ⟨its, r', pl, hz⟩ := I.tuple hq
    have hlen := r'.length
    obtain ⟨o, ho, hc, n, hd⟩ := pl
    exact call_list_seq p (.inr rfl) ho hc hd (fun h' c' kp e => fin its r' hz h' c' kp e) (by simp only [List.size_toArray] <;> omega)
theorem call_tuple_of : CallR X (.type "tuple") (fun xs H Q => ∃ p ys, xs = [.ref p] ∧ ((SqL X.K H p ys ∧ ∀ l, H l = none → Q (.ref l) (upd H l (.tup ys))) ∨ (SqT X.K H p ys ∧ Q (.ref p) H))) := by
  intro pins s σ H xs us Q I r h
  obtain ⟨p, ys, rfl, h⟩ := h
  obtain ⟨u, rfl, rx⟩ := vals1 r
  cases rx
  rcases h with ⟨hq, q⟩ | ⟨hq, q⟩
  · obtain ⟨its, r', pl, hz⟩ := I.list hq
    have hlen := r'.length
    refine call_tuple_list pl.isList (fun h' kp => ?_) (by simp only [List.size_toArray] <;> omega)
    have I1 : Inv X pins σ H { s with heap := h' } := I.kept (t' := s.toks) kp
    have I2 : Inv X pins σ (upd H h'.objs.size (.tup ys)) { s with heap := h'.push { cls := .type "tuple", data := .seq its.toArray } } :=
      I1.laid (t' := s.toks) (fun b o e => Heap.get?_push_of_some _ e) (Nat.le_refl _) (show ObjOk X.prog X.w _ _ _ (.tup ys) from ⟨hz, its, r', IsTup.new _ _⟩)
    exact ⟨.ref h'.objs.size, _, I2, rfl, q _ (I1.hok.fresh (Nat.le_refl _))⟩
  · obtain ⟨its, r', pl, hz⟩ := I.tuple hq
    exact call_tuple_same pl ⟨.ref p, H, I, rfl, q⟩
def tyV (K : PySem.W.Frag) (T : String) (x : V) (H : Hp) : Prop := match x with
  | .str _ => T = "str"
  | .int _ => T = "int"
  | .ref p => (T = "list" ∧ ∃ xs, SqL K H p xs) ∨ (T = "tuple" ∧ ∃ o, K.lookup p = some o ∧ o.cls = .type "tuple" ∧ o.dict = none) ∨
      (T = "dict" ∧ ((∃ kvs, H p = some (.dK kvs)) ∨ ∃ kvs, H p = some (.dT kvs))) ∨ (T = "set" ∧ ∃ S n, H p = some (.set S n))
  | _ => False
theorem tyV_is {pins : List (Addr × Obj)} {σ : St} {H : Hp} {s : Shared} {T : String} {x : V} {v : Value} (I : Inv X pins σ H s) (r : RelV x v) (ty : tyV X.K T x H) :
    s.TypeIs v T ∧ ∀ a, v = .ref a → ∃ ob, s.heap.get? a = some ob ∧ ob.dict = none := by
  cases x with
  | str z =>
    obtain ⟨t, rfl⟩ := r
    cases (show T = "str" from ty)
    exact ⟨typeIs_str s z t, fun _ e => nomatch e⟩
  | int i =>
    obtain ⟨t, rfl⟩ := r
    cases (show T = "int" from ty)
    exact ⟨typeIs_int s i t, fun _ e => nomatch e⟩
  | ref p =>
    cases r
    rcases ty with ⟨rfl, xs, hq⟩ | ⟨rfl, o, hk, hc, hd⟩ | ⟨rfl, hk⟩ | ⟨rfl, S, n, hk⟩
    · obtain ⟨its, _, pl, _⟩ := I.list hq
      refine ⟨pl.isList.typeIs, fun a e => ?_⟩
      cases e
      obtain ⟨o, n, e, c, hd, _⟩ := pl
      exact ⟨o, e, hd⟩
    · refine ⟨⟨o, I.kIn p o hk, hc⟩, fun a e => ?_⟩
      cases e
      exact ⟨o, I.kIn _ o hk, hd⟩
    · have z : ∃ o, s.heap.get? p = some o ∧ o.ExactDict := by
        rcases hk with ⟨kvs, hk⟩ | ⟨kvs, hk⟩
        · obtain ⟨_, _, _, _, o, _, _, e, ex, _⟩ := I.hok p _ hk
          exact ⟨o, e, ex⟩
        · obtain ⟨_, _, _, _, o, _, _, e, ex, _⟩ := I.hok p _ hk
          exact ⟨o, e, ex⟩
      obtain ⟨o, e, ex⟩ := z
      refine ⟨⟨o, e, ex.1⟩, fun a e2 => ?_⟩
      cases e2
      exact ⟨o, e, ex.2.1⟩
    · obtain ⟨o, _, _, _, e, ex, _⟩ := I.hok p _ hk
      refine ⟨⟨o, e, ex.1⟩, fun a e2 => ?_⟩
      cases e2
      exact ⟨o, e, ex.2.1⟩
  | _ => exact False.elim ty
def tBM (K : PySem.W.Frag) (T : String) (r : V → List V → Hp → VK → Prop) (to : TE) (t : TA) : TE := fun σ H Q => to σ H fun x H1 => tyV K T x H1 ∧ t σ H1 fun xs H2 => r x xs H2 Q
variable {o e : Expr} {es : List Expr} {to : TE} {t : TA} {name : Str} {apos cpos : Pos} {T id : String} {r : V → List V → Hp → VK → Prop}
theorem pe_bm (pa : PlainAttrs T) (slot : Slot T name id) (hty : typeOf (.builtin id) = pure (.type "method_descriptor")) (hm : MtR X id r) (ho : PE X o to) (ha : PA X (e :: es) t)
    (hbase : attributeBase o name X.env (eval o X.env) = eval o X.env := by rfl)
    (hfew : ((backTo cpos (starEach (e :: es) X.env)).all (fun x => !x.1) && (backToKw cpos (keywordEach [] X.env)).all (fun x => x.1.isSome)
      && decide ((e :: es).length + ([] : List Keyword).length + (if ([] : List Keyword).isEmpty then 0 else 1) < 30)) = true := by rfl)
    (hline : (apos.endLine == cpos.line) = true := by rfl) (hs : starEach (e :: es) X.env = (false, eval e X.env) :: starEach es X.env := by rfl) (hplain : (backTo cpos (starEach es X.env)).any (·.1) = false := by rfl) :
    PE X (.Call (.Attribute o name apos) (e :: es) [] cpos) (tBM X.K T r to t) := by
  intro pins s σ H Q I h
  refine wpAny_Call_method_late hbase hfew hline rfl (thn (ho pins s σ H _ I h) fun v s1 ⟨x, H1, I1, r1, ty, q1⟩ => ?_)
  obtain ⟨h1, h2⟩ := tyV_is I1 r1 ty
  refine ⟨T, id, pa, slot, hty, h1, h2, ?_⟩
  have hA := ha cpos pins s1 σ H1 _ I1 q1
  rw [hs] at hA ⊢
  refine Calls.callWith_builtin (by show (false || (backTo cpos (starEach es X.env)).any (·.1)) = false; rw [hplain] <;> rfl) (Calls.evalArgs_plain ?_)
  exact thn hA fun us s2 ⟨vs, H2, I2, r2, q2⟩ => hm pins s2 σ H2 x vs v us Q I2 r1 r2 q2
end
end L2
namespace L2
open PySem PySem.Spec PyProof.Rows
def MtM (X : Cx) (id : String) (r : V → List V → Hp → VK → Prop) : Prop :=
  ∀ (pins : List (Addr × Obj)) (s : Shared) (σ : St) (H : Hp) (x : V) (xs : List V) (v : Value) (us : List Value) (Q : VK), Inv X pins σ H s → RelV x v → Vals xs us → r x xs H Q →
    wpAny (model X.prog X.w) X.A (call (.builtin id) (v :: us)) (EP X pins σ Q) X.xe s
theorem Vals.one : ∀ {x : V} {us : List Value}, Vals [x] us → ∃ u, us = [u] ∧ RelV x u
  | _, _, .cons r .nil => ⟨_, rfl, r⟩
theorem Vals.zero : ∀ {us : List Value}, Vals [] us → us = []
  | _, .nil => rfl
theorem Vals.rep {xs : List V} {us : List Value} (h : Vals xs us) : ∀ k : Nat, Vals (List.replicate k xs).flatten (List.replicate k us).flatten
  | 0 => .nil
  | k + 1 => by
    rw [List.replicate_succ, List.replicate_succ, List.flatten_cons, List.flatten_cons]
    exact Vals.append h (Vals.rep h k)
theorem foldl_rep (its : List Value) : ∀ (k : Nat) (acc : List Value),
    List.foldl (fun x1 x2 => x1 ++ x2) acc.toArray (List.replicate k its.toArray) = (acc ++ (List.replicate k its).flatten).toArray
  | 0, acc => by simp
  | k + 1, acc => by
    have e : acc.toArray ++ its.toArray = (acc ++ its).toArray := by simp
    have e2 : (acc ++ its) ++ (List.replicate k its).flatten = acc ++ (List.replicate (k + 1) its).flatten := by
      rw [List.replicate_succ, List.flatten_cons, List.append_assoc]
    rw [← e2, ← foldl_rep its k (acc ++ its), ← e, List.replicate_succ, List.foldl_cons]
section
variable {X : Cx} {pins : List (Addr × Obj)} {σ : St} {H : Hp} {s : Shared} {l b : Addr} {xs ys zs : List V}
theorem Inv.lset {its its' : List Value} {n : Nat} {f : Array Value → Array Value} {t' : Nat} (I : Inv X pins σ H s) (hH : H l = some (.lst xs))
    (e : s.heap.get? l = some { cls := .type "list", data := .seq its.toArray n }) (hf : f its.toArray = its'.toArray) (hv : Vals ys its') (hz : ys.length ≤ sizeLine) :
    Inv X pins σ (upd H l (.lst ys)) { s with heap := s.heap.update l (Obj.mapSeq f), toks := t' } := by
  have q := PySem.IsL.update e f
  rw [hf] at q
  refine I.write (x := l) (e := l) (by rw [hH]; exact trivial) (.inl rfl) (fun b' u hb hu => (Heap.get?_update_other s.heap (Obj.mapSeq f) (Ne.symm hb)).trans hu) ⟨_, q⟩ ?_
  exact ⟨hz, its', _, hv, q⟩
theorem Inv.lnew {its : List Value} {t' : Nat} (I : Inv X pins σ H s) (hv : Vals ys its) (hz : ys.length ≤ sizeLine) :
    Inv X pins σ (upd H s.heap.objs.size (.lst ys)) { s with heap := s.heap.push { cls := .type "list", data := .seq its.toArray }, toks := t' } :=
  I.laid (fun _ _ q => Heap.get?_push_of_some _ q) (Nat.le_refl _) ⟨hz, its, 0, hv, Heap.get?_push_size _ rfl⟩
theorem Inv.fresh (I : Inv X pins σ H s) : H s.heap.objs.size = none := I.hok.fresh (Nat.le_refl _)
theorem Inv.lstM (I : Inv X pins σ H s) (hH : H l = some (.lst xs)) : xs.length ≤ sizeLine ∧ ∃ (its : List Value) (n : Nat), Vals xs its ∧ xs.length = its.length ∧ s.heap.get? l = some { cls := .type "list", data := .seq its.toArray n } := by
  obtain ⟨z, its, n, r, e⟩ := I.hok l _ hH
  exact ⟨z, its, n, r, r.length, e⟩
theorem notLongL {n : Nat} (h : n ≤ sizeLine) : Builtin.List.listTooLong n = false := by
  unfold Builtin.List.listTooLong
  exact decide_eq_false (by omega)
end
section
variable {X : Cx}
def rAppend : V → List V → Hp → VK → Prop := fun x vs H Q => ∃ l xs y, x = .ref l ∧ vs = [y] ∧ H l = some (.lst xs) ∧ xs.length < sizeLine ∧ Q .non (upd H l (.lst (xs ++ [y])))
theorem mt_append : MtM X "list.append" rAppend := by
  intro pins s σ H x vs v us Q I rx rv h
  obtain ⟨l, xs, y, rfl, rfl, hH, hz, q⟩ := h
  cases rx
  obtain ⟨u, rfl, ru⟩ := rv.one
  obtain ⟨z, its, n, r, hl, e⟩ := I.lstM hH
  refine call_meets F.slot_list_append ⟨_, e, rfl⟩ F.entry_list_append (F.args_list_append_2 _ _) (PySem.list_append l its.toArray n u (by rw [List.size_toArray]; omega)) ⟨e, ?_⟩
  refine ⟨.non, _, I.lset (its' := its ++ [u]) hH e (by simp) (r.append (.cons ru .nil)) ?_, rfl, q⟩
  rw [List.length_append, List.length_singleton]
  omega
def rExtend : V → List V → Hp → VK → Prop := fun x vs H Q => ∃ l b xs zs, x = .ref l ∧ vs = [.ref b] ∧ H l = some (.lst xs) ∧ H b = some (.lst zs) ∧ xs.length + zs.length ≤ sizeLine ∧ Q .non (upd H l (.lst (xs ++ zs)))
theorem mt_extend : MtM X "list.extend" rExtend := by
  intro pins s σ H x vs v us Q I rx rv h
  obtain ⟨l, b, xs, zs, rfl, rfl, hH, hB, hz, q⟩ := h
  cases rx
  obtain ⟨u, rfl, ru⟩ := rv.one
  cases ru
  obtain ⟨z, its, n, r, hl, e⟩ := I.lstM hH
  obtain ⟨z2, its2, n2, r2, hl2, e2⟩ := I.lstM hB
  have hsz : its.toArray.size + its2.toArray.size ≤ sizeLine := by rw [List.size_toArray, List.size_toArray]; omega
  have hlong : ¬ (!its.toArray.isEmpty && Builtin.List.listTooLong (its.toArray.size + its2.toArray.size)) = true := by
    rw [notLongL hsz, Bool.and_false]
    exact Bool.false_ne_true
  refine call_meets F.slot_list_extend ⟨_, e, rfl⟩ F.entry_list_extend (F.args_list_extend_2 _ _)
    (AutoSeq1.list_extend_list_list_0 l its.toArray n b its2.toArray n2 hlong (by rw [List.size_toArray]; omega) (by omega)) ⟨e, e2, ?_⟩
  refine ⟨.non, _, I.lset (its' := its ++ its2) hH e (by simp) (r.append r2) ?_, rfl, q⟩
  rw [List.length_append]
  omega
def rCat : R2 := fun x y H Q => ∃ l b xs zs, x = .ref l ∧ y = .ref b ∧ H l = some (.lst xs) ∧ H b = some (.lst zs) ∧ xs.length + zs.length ≤ sizeLine ∧ ∀ p, H p = none → Q (.ref p) (upd H p (.lst (xs ++ zs)))
theorem op_cat : OpR X (binaryOp .Add) rCat := by
  intro pins s σ H x y v u Q I rx ry h
  obtain ⟨l, b, xs, zs, rfl, rfl, hH, hB, hz, q⟩ := h
  cases rx
  cases ry
  obtain ⟨z, its, n, r, hl, e⟩ := I.lstM hH
  obtain ⟨z2, its2, n2, r2, hl2, e2⟩ := I.lstM hB
  refine PySem.P.add_list e e2 ?_ (by rw [List.size_toArray, List.size_toArray]; omega)
  have ea : its.toArray ++ its2.toArray = (its ++ its2).toArray := by simp
  rw [ea]
  exact ⟨.ref _, _, I.lnew (t' := s.toks) (r.append r2) (by rw [List.length_append]; omega), rfl, q _ I.fresh⟩
theorem len_rep {α : Type} (xs : List α) (k : Nat) : (List.replicate k xs).flatten.length = k * xs.length := by
  induction k with
  | zero => simp
  | succ k ih => rw [List.replicate_succ, List.flatten_cons, List.length_append, ih, Nat.succ_mul, Nat.add_comm]
end
section
variable {prog : Program} {w : World} {A : Around} {E : Value → Shared → Prop} {s : Shared}
end
section
variable {X : Cx}
end
end L2
namespace Att
open PySem PySem.W PySem.Calls PyProof.Rows
theorem ints_of_wellAll {P : Params} {h : Heap} : ∀ (ns : List Int) (vs : List Value), WellAll P h vs (ns.map WData.int) → IntsAre vs ns := by
  intro ns
  induction ns with
  | nil =>
    intro vs w
    rw [List.map_nil] at w
    cases w
    exact .nil
  | cons n ns ih =>
    intro vs w
    rw [List.map_cons] at w
    cases w with
    | cons a b =>
      cases a
      exact .cons _ _ (ih _ b)
theorem script_of {l : OpenLaw} {n : Nat} (hn : l.most = some n) {P : Params} {h : Heap} {args : List WData} {vals : List Value}
    (hpre : l.row.toRowW.claim.pre args = true) (hwl : WellAll P h vals args) :
    ∃ a vs ns, vals = [Value.ref a] ∧ args = [WData.list (ns.map WData.int)] ∧ h.get? a = some { cls := .type "list", data := .seq vs.toArray } ∧ IntsAre vs ns ∧ ns.length ≤ n := by
  have hsh : WShape.hasAll [] args [.list .int] = true := (pre_splitW hpre).1
  have hc : l.pre.holds [] { args := args } = true := (pre_splitW hpre).2
  obtain ⟨d, r, rfl, h1, h2⟩ := hasAllW_cons hsh
  obtain rfl := hasAllW_nil h2
  obtain ⟨xs, rfl, h3⟩ := hasW_list h1
  obtain ⟨ns, rfl⟩ := items_int h3
  have hlen : ns.length ≤ n := by
    unfold OpenLaw.pre at hc
    have h4 : (WTm.not (.lt (.lit (.int (n : Int))) (.len (.arg 0)))).holds [] { args := [.list (ns.map .int)] } = true := by
      have h4 := (holds_andW hc).1
      rw [hn] at h4
      exact h4
    have h5 := condW_of h4 (w_not (w_lt w_lit (w_len_list (w_arg rfl))))
    rw [List.length_map] at h5
    refine Nat.le_of_not_lt fun q => ?_
    have q' : (n : Int) < ((ns.length : Nat) : Int) := by omega
    first
      | (rw [decide_eq_true q'] at h5; exact absurd h5 (by decide))
      | (simp at h5; omega)
  cases hwl with
  | cons w1 w2 =>
    cases w2
    cases w1 with
    | list ho hall => exact ⟨_, _, ns, rfl, rfl, ho, ints_of_wellAll ns _ hall, hlen⟩
theorem post_true (l : OpenLaw) (args : List WData) : l.row.toRowW.claim.post args (.bool true) args = true :=
  postW_of (r := l.row.toRowW) (X := (true == true))
    (show WShape.has [] (.bool true) .bool = true by first | rfl | decide | simp [WShape.has, WShape.arms, WShape.armsAll])
    (show (WTm.eq .res (.lit (.bool true))).value [] { args := args, res := some (.bool true), after := args } = some (.bool (true == true)) from w_eq_bool (w_res rfl) w_lit) rfl
theorem attach_call {l : OpenLaw} {n : Nat} {q : Program} {loose : List Str} {XP : (Str → Option Value) → Heap → Prop} {YP : World → Heap → Prop} {d : DefRec}
    (hn : l.most = some n) (hdf : d.params.defaults = [])
    (call : ∀ (w : World) (s₀ s₁ : Shared) (mg mb : Str → Option Value) (fa : Addr) (o : Obj) (pm cd doc : Value) (a : Addr) (vs : List Value) (ns : List Int),
      Ground q loose [] XP w s₀ mg mb s₁.heap → YP w s₁.heap →
      s₁.heap.get? fa = some o → o.data = .func (docDef d.name d.params d.body d.scope pm cd doc) → s₁.heap.CodeRec cd d.name → mg d.name = some (.ref fa) →
      s₁.heap.get? a = some { cls := .type "list", data := .seq vs.toArray } → IntsAre vs ns → ns.length ≤ n → s₁.gens = #[] →
      codeAny (model l.prog w) callerA (.call (.ref fa) ⟨[.ref a], []⟩) (fun r s' => r = .ok (.ret (.bool true)) ∧ OldK s₁.heap s'.heap ∧ s'.os = s₁.os ∧ AllBare s'.gens) s₁) :
    WalkO q loose XP YP l.row.toRowW d [] (fun f vs => PySem.call f vs) := by
  intro w s₀ s₁ mg mb G Y fa o pm cd doc dV kV ho hd hcd hD hmg hg args vals as hpre hlay hrd hwl hlo
  obtain rfl : dV = .none := Dflts.none hD hdf
  obtain rfl : kV = .none := Dflts.noKw hD
  obtain ⟨a, vs, ns, rfl, rfl, hobj, hints, hlen⟩ := script_of hn hpre hwl
  refine enter_call (codeAny_mono (call w s₀ s₁ mg mb fa o pm cd doc a vs ns G Y ho (fd_plain hd) hcd hmg hobj hints hlen hg) fun r s' hq => ?_)
  obtain ⟨rfl, h2, h3, h4⟩ := hq
  exact ⟨.inl ⟨.bool true, .bool true, [], rfl, fun _ => rfl, .bool true, post_true l _, fun _ => ⟨List.Pairwise.nil, fun _ hm => (nomatch hm)⟩⟩, h2, h3, h4⟩
section
variable {prog : Program} {w : World} {A : Around} {E : Value → Shared → Prop} {s : Shared} {K : Frag}
end
end Att
namespace L2
open PySem PySem.Spec PyProof.Rows
theorem vals_ints : ∀ {vs : List Value} {ns : List Int}, IntsAre vs ns → Vals (ns.map V.int) vs
  | _, _, .nil => .nil
  | _, _, .cons n t h => .cons ⟨t, rfl⟩ (vals_ints h)
def Only (H : Hp) : Prop := ∀ b, H b = none ∨ ∃ o xs, H b = some (.frz o (.lst xs))
theorem law_call {P : Program} {w : World} {K : PySem.W.Frag} {mg mb : Str → Option Value} {CX : CXT} {k : Nat} {fa a : Addr} {fd : FuncData} {x : Str} {sp : Sp} {s₁ : Shared} {vs : List Value} {ns : List Int}
    (KX : K.In s₁.heap) (hns : s₁.heap.Ns mainGlobals mg) (hb : s₁.heap.Ns builtinsNs mb) (hbb : ∀ x : Str, x ≠ "__name__" → mb x = bootBuiltins x) (hlim : s₁.heap.NoLimit) (hg : s₁.gens = #[])
    (ha : s₁.heap.get? a = some { cls := .type "list", data := .seq vs.toArray }) (hi : IntsAre vs ns) (hl : ns.length ≤ sizeLine) (hr : Room k callerA)
    (F : ∀ base : Heap, K.In base → base.Ns mainGlobals mg → FnOk P w K mg base CX k fa fd [x] sp) (hbind : ∀ (s : Shared) (u : Value), BindsTo s fd ⟨[u], []⟩ [(x, u)])
    (hsp : ∀ H : Hp, Only H → SqL K H a (ns.map V.int) → sp [.ref a] H (fun v _ => v = .bl true) fun _ _ _ => False)
    (hCX : ∀ H e s', CX [] H s₁ (fun _ _ _ => False) e s' → False) :
    codeAny (model P w) callerA (.call (.ref fa) ⟨[.ref a], []⟩) (fun r s' => r = .ok (.ret (.bool true)) ∧ OldK s₁.heap s'.heap ∧ s'.os = s₁.os ∧ AllBare s'.gens) s₁ := by
  have rv := vals_ints hi
  have lenV := hi.length
  -- from an abstract heap in which nothing but the script may be tracked
  have core : ∀ H : Hp, Only H → SqL K H a (ns.map V.int) → HOk P w H s₁.heap → (∀ b, H b ≠ none → b = a) → (H a ≠ none → K.lookup a = none) →
      codeAny (model P w) callerA (.call (.ref fa) ⟨[.ref a], []⟩) (fun r s' => r = .ok (.ret (.bool true)) ∧ OldK s₁.heap s'.heap ∧ s'.os = s₁.os ∧ AllBare s'.gens) s₁ := by
    intro H hO hS hok hA hK
    have base_of : ∀ {b : Addr} {o : Obj}, s₁.heap.get? b = some o → H b = none → (hidT s₁.heap H).get? b = some o := fun e n => hidT_get e n
    have noA : ∀ {b : Addr} {o : Obj} {es : Array DictEntry} {ep : Nat}, s₁.heap.get? b = some o → o.data = .dict es ep → H b = none := fun {b o es ep} e d => by
      cases q : H b with
      | none => rfl
      | some u =>
        have e' : b = a := hA b (by rw [q]; simp)
        subst e'
        rw [ha] at e; cases e
        have d' : Data.seq vs.toArray _ = Data.dict es ep := d
        cases d'
    have nsK : ∀ {b : Addr} {m : Str → Option Value}, s₁.heap.Ns b m → (hidT s₁.heap H).Ns b m := fun {b m} ⟨o, es, ep, e, d, r⟩ => ⟨o, es, ep, base_of e (noA e d), d, r⟩
    have hKb : K.In (hidT s₁.heap H) := fun b o e => base_of (KX b o e) (by
      cases q : H b with
      | none => rfl
      | some u =>
        have e' : b = a := hA b (by rw [q]; simp)
        subst e'
        rw [hK (by rw [q]; simp)] at e; cases e)
    have hM : Mod K mg (hidT s₁.heap H) := ⟨hKb, nsK hns, ⟨mb, nsK hb, hbb⟩, let ⟨mc, h1, h2⟩ := hlim; ⟨mc, nsK h1, h2⟩⟩
    have e0 : Env0 P w K mg (hidT s₁.heap H) callerA [] s₁ H := ⟨rfl, hM, fun b o e => of_hidT e, Nat.le_of_eq (hidT_size _ _), trivial, fun b hb => absurd (show b ∈ ([] : List Addr) from hb) (by simp), hok, .of_eq hg⟩
    refine codeAny_mono ((F _ hKb (nsK hns)).run callerA [] s₁ H ⟨[.ref a], []⟩ [.ref a] [.ref a] _ _ hr e0 (hbind s₁ (.ref a)) (.cons rfl .nil) (hsp H hO hS)) fun r s' h => ?_
    cases r with
    | error e => exact (hCX H e s' h).elim
    | ok fl =>
      cases fl with
      | next => exact False.elim h
      | brk => exact False.elim h
      | cont => exact False.elim h
      | ret u =>
        obtain ⟨v, H', os, bare, un, hok', r', q⟩ := h
        have q' : v = .bl true := q
        subst q'
        obtain rfl : u = Value.bool true := r'
        refine ⟨rfl, OldK.of_keep fun b o e => ?_, os, bare⟩
        cases q : H b with
        | none => exact un.keep b o e q (by intro z; exact absurd (show b ∈ ([] : List Addr) from z) (by simp)) (by simp)
        | some u =>
          rcases hO b with z | ⟨ob, xs, z⟩
          · rw [q] at z; cases z
          · have z2 := un.frzs b ob _ z
            obtain ⟨e1, _⟩ := hok b _ z
            obtain ⟨e2, _⟩ := hok' b _ z2
            rw [e] at e1; cases e1
            exact e2
  cases hk : K.lookup a with
  | some o =>
    -- the script is one of the module's own objects
    have e := KX a o hk
    rw [ha] at e
    cases e
    refine core (fun _ => none) (fun _ => .inl rfl) (.inr ⟨_, vs.toArray, _, hk, rfl, rfl, rfl, by rw [List.size_toArray, lenV]; exact hl, by simpa using rv⟩) (fun b u z => by have z' : (none : Option HO) = some u := z; cases z') (fun b z => absurd rfl z) fun z => absurd rfl z
  | none =>
    refine core (fun b => if b = a then some (.frz { cls := .type "list", data := .seq vs.toArray } (.lst (ns.map V.int))) else none) (fun b => ?_) (.inl (.inr ⟨{ cls := .type "list", data := .seq vs.toArray }, if_pos rfl⟩)) (fun b u z => ?_) (fun b z => ?_) fun _ => hk
    · by_cases hb : b = a
      · exact .inr ⟨_, _, if_pos hb⟩
      · exact .inl (if_neg hb)
    · by_cases hb : b = a
      · have z' := (if_pos hb).symm.trans z
        cases z'
        subst hb
        exact ⟨ha, by rw [List.length_map]; exact hl, vs, _, rv, ha⟩
      · have z' := (if_neg hb).symm.trans z
        cases z'
    · by_cases hb : b = a
      · exact hb
      · exact absurd (if_neg hb) z
end L2
namespace L2
open PySem PySem.Spec PyProof.Rows
theorem walk_of {l : PySem.W.OpenLaw} {n k : Nat} {q : Program} {loose : List Str} {XP : (Str → Option Value) → Heap → Prop} {YP : World → Heap → Prop} {d : DefRec} {K : Params → PySem.W.Frag} {CX : World → CXT} {sp : World → Sp} {x : Str}
    (hn : l.most = some n) (hn2 : n ≤ sizeLine) (hdf : d.params.defaults = []) (hr : Room k callerA)
    (hY : ∀ (w : World) (h : Heap), YP w h → (K w.params).In h)
    (F : ∀ (w : World) (mg : Str → Option Value) (fa : Addr) (h : Heap), (K w.params).In h → h.Ns mainGlobals mg → mg d.name = some (.ref fa) →
      ∃ fd : FuncData, (∀ (s : Shared) (u : Value), BindsTo s fd ⟨[u], []⟩ [(x, u)]) ∧
        ∀ base : Heap, (K w.params).In base → base.Ns mainGlobals mg → FnOk l.prog w (K w.params) mg base (CX w) k fa fd [x] (sp w))
    (hsp : ∀ (w : World) (H : Hp) (a : Addr) (ns : List Int), ns.length ≤ n → Only H → SqL (K w.params) H a (ns.map V.int) → sp w [.ref a] H (fun v _ => v = .bl true) fun _ _ _ => False)
    (hCX : ∀ (w : World) (H : Hp) (s : Shared) (e : Value) (s' : Shared), CX w [] H s (fun _ _ _ => False) e s' → False) :
    PySem.W.WalkO q loose XP YP l.row.toRowW d [] (fun f vs => PySem.call f vs) := by
  refine Att.attach_call hn hdf fun w s₀ s₁ mg mb fa o pm cd doc a vs ns G Y ho hd hcd hmg hobj hints hlen hg => ?_
  have KX := hY w _ Y
  obtain ⟨fd, hb, hF⟩ := F w mg fa _ KX G.T.g hmg
  exact law_call KX G.T.g G.T.b G.T.builtins G.T.nolimit hg hobj hints (Nat.le_trans hlen hn2) hr hF hb (fun H hO hS => hsp w H a ns hlen hO hS) fun H e s' => hCX w H s₁ e s'
end L2
namespace L2
open PySem PySem.Spec PyProof.Rows
def inClass (s : Stmt) (j : Nat) : Stmt := match s with
  | .ClassDef _ _ _ body _ _ _ _ _ _ _ => body.getD j (.Pass ⟨0, 0, 0, 0⟩)
  | _ => .Pass ⟨0, 0, 0, 0⟩
def defArgs (s : Stmt) : Arguments := match s with
  | .FunctionDef _ a _ _ _ _ _ _ _ _ => a
  | _ => { posonlyargs := [], args := [], vararg := none, kwonlyargs := [], kw_defaults := [], kwarg := none, defaults := [] }
def defBody (s : Stmt) : List Stmt := match s with
  | .FunctionDef _ _ b _ _ _ _ _ _ _ => b
  | _ => []
def defScope (s : Stmt) : Scope := match s with
  | .FunctionDef _ _ _ _ _ _ sc _ _ _ => sc
  | _ => { kind := .function, names := [], isGenerator := false, isCoroutine := false }
abbrev CX0 : CXT := fun _ _ _ _ _ _ => False
abbrev E0 : XK := fun _ _ _ => False
theorem pass0 {X : Cx} : Passes CX0 X E0 := fun _ _ _ _ _ _ _ h => h.elim
structure Fun (K : PySem.W.Frag) (x qual : Str) (st : Stmt) (f : Addr) (fd : FuncData) : Prop where
  ex : ∃ (oc : Value) (od : Option Addr) (kV doc pm : Value) (an : Option Addr) (cdv ct : Value) (osl : Array (Option Value)),
    fd = PySem.W.fnOf x qual (defArgs st) (defBody st) (defScope st) .none kV doc pm an cdv ct ∧ K.lookup f = some ⟨oc, od, .func fd, osl⟩ ∧ PySem.W.codeIn K cdv qual = true
  kp : PySem.W.keepIn K (.ref f) = true
section
variable {P : Program} {w : World} {K : PySem.W.Frag} {mg : Str → Option Value} {base : Heap}
theorem Fun.ok {x qual : Str} {st : Stmt} {f : Addr} {fd : FuncData} {N ps : List Str} {k : Nat} {sp : Sp} (F : Fun K x qual st f fd) (S : FnScope N ps (defScope st)) (len : ∀ vs H Q E, sp vs H Q E → vs.length = ps.length)
    (hbody : ∀ (cdv : Value) (A : Around) (outer : List Env) (s : Shared) (H : Hp) (vs : List V) (Q : VK) (E : XK), Room k (A.deeper (envOfC qual (defScope st) s.heap.objs.size f cdv)) → sp vs H Q E →
      ∃ t, PSs (cxOf CX0 P w K mg base N qual (defScope st) f cdv A outer s H E).nox (defBody st) t ∧ t { nx := fun _ H' => Q .non H', rt := Q } (start N vs) H) : FnOk P w K mg base CX0 (k + 1) f fd ps sp := by
  obtain ⟨oc, od, kV, doc, pm, an, cdv, ct, osl, rfl, lk, hcd⟩ := F.ex
  refine fn_of lk hcd S len fun A outer s H vs Q E hr hsp => ?_
  obtain ⟨t, h, q⟩ := hbody cdv A outer s H vs Q E hr hsp
  exact ⟨t, h.nox, q⟩
theorem Fun.binds {x qual : Str} {st : Stmt} {f : Addr} {fd : FuncData} {ps : List Str} (F : Fun K x qual st f fd)
    (h : ∀ (kV doc pm : Value) (an : Option Addr) (cdv ct : Value) (us : List Value), us.length = ps.length → bindArgs (PySem.W.fnOf x qual (defArgs st) (defBody st) (defScope st) .none kV doc pm an cdv ct) ⟨us, []⟩ = pure (ps.zip us)) : Binds K fd ps [] := by
  obtain ⟨oc, od, kV, doc, pm, an, cdv, ct, osl, rfl, lk, hcd⟩ := F.ex
  exact .all (h kV doc pm an cdv ct)
theorem fun_mk {x qual : Str} {st : Stmt} {f : Addr} {oc : Value} {od an : Option Addr} {osl : Array (Option Value)} {kV doc pm cdv ct : Value} (l : K.lookup f = some ⟨oc, od, .func (PySem.W.fnOf x qual (defArgs st) (defBody st) (defScope st) .none kV doc pm an cdv ct), osl⟩)
    (c : PySem.W.codeIn K cdv qual = true) (k : PySem.W.keepIn K (.ref f) = true) : Fun K x qual st f (PySem.W.fnOf x qual (defArgs st) (defBody st) (defScope st) .none kV doc pm an cdv ct) := ⟨⟨oc, od, kV, doc, pm, an, cdv, ct, osl, rfl, l, c⟩, k⟩
end
section
variable {X : Cx}
theorem pv (i : Nat) {x : Str} {pos : Pos} (hN : X.N[i]? = some x := by rfl) (hv : Vis X.env.scope x := by first | exact Or.inl rfl | exact Or.inr (Or.inl rfl) | exact Or.inr (Or.inr rfl)) (hd : (x == ("__debug__" : Str)) = false := by decide)
    (hcd : (x == ("__classdict__" : Str)) = false := by decide) : PE X (.Name x pos) (tVar i) := pe_var hN hv hd hcd
end
theorem iteF {A B : Prop} (h : B) : if false = true then A else B := by
  rw [if_neg Bool.false_ne_true]
  exact h
theorem iteT {A B : Prop} (h : A) : if true = true then A else B := by
  rw [if_pos rfl]
  exact h
theorem ite2 {c A B : Prop} [Decidable c] (h1 : c → A) (h2 : ¬ c → B) : if c then A else B := by
  by_cases h : c
  · rw [if_pos h]
    exact h1 h
  · rw [if_neg h]
    exact h2 h
def Same (H H' : Hp) : Prop := ∀ b o, H b = some o → H' b = some o
theorem Same.refl (H : Hp) : Same H H := fun _ _ h => h
theorem Same.trans {H H1 H2 : Hp} (a : Same H H1) (b : Same H1 H2) : Same H H2 := fun c o h => b c o (a c o h)
theorem Same.free {H H' : Hp} (e : Same H H') {l : Addr} (h : H' l = Option.none) : H l = Option.none := by
  cases q : H l with
  | none => rfl
  | some o =>
    rw [e l o q] at h
    cases h
theorem Same.seq {K : PySem.W.Frag} {H H' : Hp} {a : Addr} {xs : List V} (e : Same H H') (h : SqL K H a xs) : SqL K H' a xs := by
  rcases h with (h | ⟨o, h⟩) | h
  · exact .inl (.inl (e _ _ h))
  · exact .inl (.inr ⟨o, e _ _ h⟩)
  · exact .inr h
end L2
set_option Elab.async false
set_option linter.all false
set_option maxRecDepth 100000
namespace L2
open PySem PySem.Spec PyProof.Rows
theorem relabel_some {env : Env} : ∀ {names : List (Str × NameKind)} {x : Str} {k : NameKind}, names.lookup x = some k →
    ∃ k', (names.map fun (n, k) => if (k == NameKind.free && env.scope.kind == .function && env.kindOf n == some .cell) then (n, NameKind.cell) else (n, k)).lookup x = some k' ∧ (k' = k ∨ (k = .free ∧ k' = .cell))
  | [], _, _, h => by simp at h
  | (n, k0) :: r, x, k, h => by
    have ih := @relabel_some env r x k
    show ∃ k', List.lookup x ((if (k0 == NameKind.free && env.scope.kind == .function && env.kindOf n == some .cell) = true then (n, NameKind.cell) else (n, k0)) :: _) = some k' ∧ _
    cases hx : x == n with
    | true =>
      simp only [List.lookup_cons, hx] at h
      cases h
      by_cases hc : (k0 == NameKind.free && env.scope.kind == .function && env.kindOf n == some .cell) = true
      · rw [if_pos hc]
        refine ⟨.cell, by simp only [List.lookup_cons, hx], .inr ⟨?_, rfl⟩⟩
        have q : (k0 == NameKind.free) = true := by
          rw [Bool.and_eq_true, Bool.and_eq_true] at hc
          exact hc.1.1
        cases k0 <;> first | rfl | exact absurd q (by decide)
      · rw [if_neg hc]
        exact ⟨k0, by simp only [List.lookup_cons, hx], .inl rfl⟩
    | false =>
      simp only [List.lookup_cons, hx] at h
      obtain ⟨k', e, q⟩ := ih h
      by_cases hc : (k0 == NameKind.free && env.scope.kind == .function && env.kindOf n == some .cell) = true
      · rw [if_pos hc]; exact ⟨k', by simp only [List.lookup_cons, hx]; exact e, q⟩
      · rw [if_neg hc]; exact ⟨k', by simp only [List.lookup_cons, hx]; exact e, q⟩
theorem relabel_none {env : Env} : ∀ {names : List (Str × NameKind)} {x : Str}, names.lookup x = none →
    (names.map fun (n, k) => if (k == NameKind.free && env.scope.kind == .function && env.kindOf n == some .cell) then (n, NameKind.cell) else (n, k)).lookup x = none
  | [], _, _ => rfl
  | (n, k0) :: r, x, h => by
    have ih := @relabel_none env r x
    show List.lookup x ((if (k0 == NameKind.free && env.scope.kind == .function && env.kindOf n == some .cell) = true then (n, NameKind.cell) else (n, k0)) :: _) = none
    cases hx : x == n with
    | true => simp only [List.lookup_cons, hx] at h; cases h
    | false =>
      simp only [List.lookup_cons, hx] at h
      by_cases hc : (k0 == NameKind.free && env.scope.kind == .function && env.kindOf n == some .cell) = true
      · rw [if_pos hc]; simp only [List.lookup_cons, hx]; exact ih h
      · rw [if_neg hc]; simp only [List.lookup_cons, hx]; exact ih h
theorem closure_go {env : Env} : ∀ (names : List (Str × NameKind)) (cs : List (Str × Addr)), (∀ y ∈ names, y.2 = NameKind.free → ∃ c, env.cells.lookup y.1 = some c) →
    (∀ y c, cs.lookup y = some c → env.cells.lookup y = some c) →
    ∃ cl, (forIn names cs fun x r => (match x with
      | (name, kind) => if (kind == NameKind.free) = true then (do let a ← cellOf env name; pure (ForInStep.yield ((name, a) :: r))) else pure (ForInStep.yield r)) : Sem (List (Str × Addr))) = pure cl ∧
      (∀ y c, cl.lookup y = some c → env.cells.lookup y = some c) ∧ (∀ y, ((∃ c, cs.lookup y = some c) ∨ (y, NameKind.free) ∈ names) → ∃ c, cl.lookup y = some c)
  | [], cs, _, h => ⟨cs, by simp, h, fun y q => q.elim id fun z => absurd z (by simp)⟩
  | (n, k) :: r, cs, hf, h => by
    by_cases hk : (k == NameKind.free) = true
    · have hk' : k = NameKind.free := by cases k <;> first | rfl | exact absurd hk (by decide)
      obtain ⟨c, hc⟩ := hf (n, k) List.mem_cons_self hk'
      have h' : ∀ y c', ((n, c) :: cs).lookup y = some c' → env.cells.lookup y = some c' := fun y c' e => by
        cases hy : y == n with
        | true =>
          simp only [List.lookup_cons, hy] at e
          cases e
          have : y = n := by simpa using hy
          rw [this]; exact hc
        | false =>
          simp only [List.lookup_cons, hy] at e
          exact h y c' e
      obtain ⟨cl, e, q1, q2⟩ := closure_go r ((n, c) :: cs) (fun y hy => hf y (List.mem_cons_of_mem _ hy)) h'
      refine ⟨cl, ?_, q1, fun y q => q2 y ?_⟩
      · rw [List.forIn_cons]
        have ec : cellOf env n = pure c := by unfold cellOf; rw [hc]
        simp only [hk, if_true, ec, pure_bind]
        exact e
      · rcases q with ⟨c', q⟩ | q
        · left
          cases hy : y == n with
          | true => exact ⟨c, by simp only [List.lookup_cons, hy]⟩
          | false => exact ⟨c', by simp only [List.lookup_cons, hy]; exact q⟩
        · rcases List.mem_cons.mp q with z | z
          · cases z
            left
            exact ⟨c, by simp [List.lookup_cons]⟩
          · exact .inr z
    · obtain ⟨cl, e, q1, q2⟩ := closure_go r cs (fun y hy => hf y (List.mem_cons_of_mem _ hy)) h
      refine ⟨cl, ?_, q1, fun y q => q2 y ?_⟩
      · rw [List.forIn_cons]
        simp only [hk, if_false, pure_bind]
        exact e
      · rcases q with q | q
        · exact .inl q
        · rcases List.mem_cons.mp q with z | z
          · cases z
            exact absurd rfl hk
          · exact .inr z
theorem closure_of {scope : Scope} {env : Env} (h : ∀ y ∈ scope.names, y.2 = NameKind.free → ∃ c, env.cells.lookup y.1 = some c) :
    ∃ cl, closureFor scope env = pure cl ∧ (∀ y c, cl.lookup y = some c → env.cells.lookup y = some c) ∧ (∀ y, (y, NameKind.free) ∈ scope.names → ∃ c, cl.lookup y = some c) := by
  obtain ⟨cl, e, q1, q2⟩ := closure_go (env := env) scope.names [] h (fun y c e => by simp at e)
  refine ⟨cl, ?_, q1, fun y hy => q2 y (.inr hy)⟩
  unfold closureFor
  dsimp only
  rw [show (forIn scope.names ([] : List (Str × Addr)) fun x r => (match x with
      | (name, kind) => if (kind == NameKind.free) = true then (do let a ← cellOf env name; pure (ForInStep.yield ((name, a) :: r))) else pure (ForInStep.yield r)) : Sem (List (Str × Addr))) = pure cl from e]
  rfl
end L2
set_option Elab.async false
set_option linter.all false
set_option maxRecDepth 100000
namespace L2
open PySem PySem.Spec PyProof.Rows
section
variable {prog : Program} {w : World} {A : Around} {R : Result → Shared → Prop} {s : Shared}
theorem compLoop_gen {elt target iter : Expr} {ifs : List Expr} {scope : Scope} {pos : Pos} {it acc : Value} {env : Env} (Iv : Nat → Shared → Prop)
    (turn : ∀ n s, Iv n s → wpAny (model prog w) A (pyNext it) (fun r s₁ => match r with
      | none => R (.ok .next) s₁
      | some v => wpAny (model prog w) A (letOwnedTupleGo target it v) (fun _ s₁' => wpAny (model prog w) A (assign target env v) (fun _ s₂ =>
          wpAny (model prog w) A (forIn ifs true fun c r => if r = true then do let ok ← isTrue c env (eval c env); pure (ForInStep.yield ok) else pure (ForInStep.yield r)) (fun ok s₃ =>
            if ok = true then wpAny (model prog w) A (eval elt env) (fun x s₄ =>
              wpAny (model prog w) A (call (.builtin "list.append") [acc, x]) (fun _ s₅ => ∃ m, m < n ∧ Iv m s₅) (fun _ _ => False) s₄) (fun _ _ => False) s₃
            else ∃ m, m < n ∧ Iv m s₃) (fun _ _ => False) s₂) (fun _ _ => False) s₁') (fun _ _ => False) s₁) (fun _ _ => False) s)
    (n : Nat) (h : Iv n s) :
    codeAny (model prog w) A (.compLoop (.ListComp elt [⟨target, iter, ifs, 0⟩] scope pos) 0 it acc env) R s := by
  refine codeAny_loop rfl Iv (fun n s hI => ?_) n h
  show wpAny _ A ((compTurn (.ListComp elt [⟨target, iter, ifs, 0⟩] scope pos) 0 it acc env).onRaise (fun x => do noteFrame x env; theTreesLotGoes x)) _ _ s
  refine wpAny_noted ?_
  rw [compTurn_list]
  refine wpAny_bind (wpAny_standAt (wpAny_bind (wpAny_mono (turn n s hI) (fun r s₁ h₁ => ?_) fun _ _ z => z.elim)))
  cases r with
  | none => exact wpAny_pure h₁
  | some v =>
    refine wpAny_bind (wpAny_mono h₁ (fun _ s₁' h₁' => ?_) fun _ _ z => z.elim)
    refine wpAny_bind (wpAny_mono h₁' (fun _ s₂ h₂ => wpAny_bind (wpAny_mono h₂ (fun ok s₃ h₃ => ?_) fun _ _ z => z.elim)) fun _ _ z => z.elim)
    cases ok with
    | false => exact wpAny_pure ⟨rfl, h₃⟩
    | true =>
      exact wpAny_bind (wpAny_bind (wpAny_mono h₃ (fun x s₄ h₄ => wpAny_bind (wpAny_mono h₄ (fun _ s₅ h₅ => wpAny_pure (wpAny_pure ⟨rfl, h₅⟩)) fun _ _ z => z.elim)) fun _ _ z => z.elim))
end
def inSt (M : List (Option Nat)) (σ : St) : St := M.map fun o => o.bind fun j => (σ[j]?).join
theorem inSt_length (M : List (Option Nat)) (σ : St) : (inSt M σ).length = M.length := by unfold inSt; rw [List.length_map]
theorem inSt_get {M : List (Option Nat)} {σ : St} {i : Nat} {v : V} (h : (inSt M σ)[i]? = some (some v)) : ∃ j, M[i]? = some (some j) ∧ σ[j]? = some (some v) := by
  unfold inSt at h
  rw [List.getElem?_map] at h
  cases e : M[i]? with
  | none => rw [e] at h; cases h
  | some o =>
    rw [e] at h
    cases o with
    | none => cases h
    | some j =>
      refine ⟨j, rfl, ?_⟩
      have h' : (σ[j]?).join = some v := Option.some.inj h
      cases q : σ[j]? with
      | none => rw [q] at h'; cases h'
      | some o2 => rw [q] at h'; cases o2 with
        | none => cases h'
        | some v2 => cases h'; rfl
def cxLc (X : Cx) (N' : List Str) (scope : Scope) (cl : List (Str × Addr)) (C : Addr) (s : Shared) (H : Hp) (fp : List Addr) : Cx :=
  { X with N := N', s₀ := s, H₀ := H, env := compEnvC scope cl C X.env, outer := X.stack, stack := X.stack, ex := fp, fn := fun _ => false, pn := [], xe := fun _ _ => False }
structure LcSc (N N' : List Str) (M : List (Option Nat)) (sc osc : Scope) : Prop where
  kind : sc.kind = .function
  len : N'.length = M.length
  cell : ∀ y ∈ sc.names, y.2 ≠ NameKind.cell
  own : ∀ y ∈ sc.names, y.2 = NameKind.local → sc.names.lookup y.1 = some NameKind.local
  fre : ∀ y ∈ sc.names, y.2 = NameKind.free → osc.names.lookup y.1 = some NameKind.cell ∨ osc.names.lookup y.1 = some NameKind.free
  at_ : ∀ (i j : Nat), M[i]? = some (some j) → ∃ y, N'[i]? = some y ∧ N[j]? = some y ∧ sc.names.lookup y = some NameKind.free
def Frm (M : List (Option Nat)) (g : TG) : Prop := ∀ v σ H Q, g v σ H Q → g v σ H fun σ' H' => Q σ' H' ∧ σ'.length = σ.length ∧ ∀ (i j : Nat), M[i]? = some (some j) → σ'[i]? = σ[i]?
theorem frm_name {M : List (Option Nat)} {i : Nat} (h : M[i]? = some none) : Frm M (gName i) := fun v σ H Q q => by
  refine ⟨q, List.length_set .., fun k j e => ?_⟩
  have : i ≠ k := by rintro rfl; rw [h] at e; cases e
  exact List.getElem?_set_ne this
def PTs (X : Cx) (ifs : List Expr) (t : TT) : Prop :=
  ∀ (pins : List (Addr × Obj)) (s : Shared) (σ : St) (H : Hp) (Q : Bool → Hp → Prop), Inv X pins σ H s → t σ H Q →
    wpAny (model X.prog X.w) X.A (forIn ifs true fun c r => if r = true then do let ok ← isTrue c X.env (eval c X.env); pure (ForInStep.yield ok) else pure (ForInStep.yield r)) (TP X pins σ Q) X.xe s
def tYes : TT := fun _ H Q => Q true H
theorem pts_nil {X : Cx} : PTs X [] tYes := fun pins s σ H Q I h => wpAny_tests_nil ⟨H, I, h⟩
def tLc (wi : TI) (M : List (Option Nat)) (g : TG) (tc : TT) (te : TE) (σ : St) (H : Hp) (F : List V → Hp → Prop) : Prop := wi σ H fun J H1 =>
  ∃ W : Nat → Nat → List V → Hp → Prop, (∃ m, W 0 m [] H1) ∧ ∀ i m ys H, W i m ys H → ys.length ≤ sizeLine ∧
    ((J.stop i H ∧ F ys H) ∨ (J.go i H ∧ ys.length < sizeLine ∧ ∃ N : List V → Hp → Prop, (∀ ys' H', N ys' H' → ∃ m', m' < m ∧ W (i + 1) m' ys' H') ∧ ∀ x H', J.yld i H x H' → g x (inSt M σ) H' fun σ2 H2 => tc σ2 H2 fun b H3 =>
      if b = true then te σ2 H3 fun v H4 => N (ys ++ [v]) H4 else N ys H3))
theorem lc_block {X : Cx} {N' : List Str} {M : List (Option Nat)} {scope : Scope} {cl : List (Str × Addr)} {tg elt iter : Expr} {ifs : List Expr} {pos : Pos} {g : TG} {tc : TT} {te : TE} {pins : List (Addr × Obj)} {σ : St} {H2 : Hp} {s2 : Shared}
    {it : Addr} {fp : List Addr} {tn : Nat → Heap → Prop} {J : It} {F : List V → Hp → Prop} {RR : Value → Addr → Result → Shared → Prop} {E : Value → Shared → Prop}
    (S : LcSc X.N N' M scope X.env.scope) (hc : X.calm = true) (q1 : ∀ y c, cl.lookup y = some c → X.env.cells.lookup y = some c) (q2 : ∀ y, (y, NameKind.free) ∈ scope.names → ∃ c, cl.lookup y = some c)
    (hg : ∀ C s H fp, PG (cxLc X N' scope cl C s H fp) tg g) (hf : Frm M g) (ht : ∀ C s H fp, PTs (cxLc X N' scope cl C s H fp) ifs tc) (he : ∀ C s H fp, PE (cxLc X N' scope cl C s H fp) elt te)
    (I2 : Inv X pins σ H2 s2) (T : Turn X.prog X.w X.K tg J fp it tn) (st2 : tn 0 s2.heap) (f2 : ∀ b ∈ fp, FpOk X pins H2 b)
    (hw : ∃ W : Nat → Nat → List V → Hp → Prop, (∃ m, W 0 m [] H2) ∧ ∀ i m ys H, W i m ys H → ys.length ≤ sizeLine ∧
      ((J.stop i H ∧ F ys H) ∨ (J.go i H ∧ ys.length < sizeLine ∧ ∃ N : List V → Hp → Prop, (∀ ys' H', N ys' H' → ∃ m', m' < m ∧ W (i + 1) m' ys' H') ∧ ∀ x H', J.yld i H x H' → g x (inSt M σ) H' fun σ2 H2 => tc σ2 H2 fun b H3 =>
        if b = true then te σ2 H3 fun v H4 => N (ys ++ [v]) H4 else N ys H3)))
    (hend : ∀ (D C : Addr) (s' : Shared) (H' : Hp) (ys : List V), Inv X pins σ (upd H' D (.lst ys)) s' → H' D = none → s2.heap.objs.size ≤ D → s2.heap.objs.size < C → (∃ m, s'.heap.Ns C m) → (upd H' D (.lst ys)) C = none → F ys H' → RR (.ref D) C (.ok .next) s') :
    wpAny (model X.prog X.w) X.A (newList []) (fun acc s₃ => wpAny (model X.prog X.w) X.A (newFunctionEnv scope X.env.globals cl [] X.env.qual none .none (some X.env)) (fun cenv s₄ =>
      codeAny (model X.prog X.w) X.A (.compStart (.ListComp elt [⟨tg, iter, ifs, 0⟩] scope pos) 0 (.ref it) acc { cenv with scope := relabel scope X.env }) (RR acc cenv.locals) s₄) E s₃) E s2 := by
  obtain ⟨W, ⟨m0, w0⟩, turn⟩ := hw
  refine wpAny_newObj_type (wpAny_newFunctionEnv S.cell (by intro y hy; simp at hy) (fun h₁ hns₁ hsb₁ => ?_) S.kind)
  dsimp only at hns₁ hsb₁ ⊢
  generalize hG : s2.heap.push { cls := .type "list", dict := none, data := .seq ([] : List Value).toArray } = G at hns₁ hsb₁ ⊢
  generalize hD : s2.heap.objs.size = D at *
  have hC : G.objs.size = D + 1 := by rw [← hG, Heap.size_push, hD]
  generalize hCC : G.objs.size = C at *
  have DC : D < C := by rw [hC]; exact Nat.lt_succ_self _
  have lo : ∀ b o, s2.heap.get? b = some o → b < D := fun b o e => hD ▸ Heap.lt_size e
  have old : ∀ b o, s2.heap.get? b = some o → h₁.get? b = some o := fun b o e => by
    have hb := lo b o e
    exact hsb₁.extBut b o (Nat.ne_of_lt (Nat.lt_trans hb DC)) (Heap.get?_push_of_some _ (hG ▸ Heap.get?_push_of_some _ e))
  have hacc : h₁.get? D = some { cls := .type "list", data := .seq ([] : List Value).toArray } :=
    hsb₁.extBut _ _ (Nat.ne_of_lt DC) (Heap.get?_push_of_some _ (by rw [← hG, ← hD]; exact Heap.get?_push_size _ rfl))
  have fpl : ∀ b ∈ fp, b < D := fun b hb => by
    obtain ⟨o, e, _⟩ := T.obj _ _ st2 b hb
    exact lo b o e
  have cel : ∀ y c, cl.lookup y = some c → c < D := fun y c e => by
    obtain ⟨v, z⟩ := I2.cell y c (q1 y c e)
    exact hD ▸ z.lt
  generalize hX' : cxLc X N' scope cl C s2 H2 fp = X'
  have envE : X'.env = compEnvC scope cl C X.env := by rw [← hX']; rfl
  have locE : X'.env.locals = C := by rw [envE]; rfl
  have fsE : X'.fs = frs X.stack := by rw [← hX']; rfl
  have fsl : ∀ b ∈ frs X.stack, b < D := fun b hb => by
    rcases List.mem_cons.mp (I2.stkSub b hb) with z | z
    · rw [z]; exact hD ▸ I2.lt
    · exact Nat.lt_of_not_le fun q => I2.nofs (hD ▸ q) z
  have relS : ∀ x k, scope.names.lookup x = some k → ∃ k', X'.env.kindOf x = some k' ∧ (k' = k ∨ (k = .free ∧ k' = .cell)) := fun x k e => by
    obtain ⟨k', e', q⟩ := relabel_some (env := X.env) e
    exact ⟨k', by rw [envE]; exact e', q⟩
  have relN : ∀ x, scope.names.lookup x = none → X'.env.kindOf x = none := fun x e => by
    rw [envE]; exact relabel_none (env := X.env) e
  have cellsE : X'.env.cells = cl := by rw [envE]; rfl
  have ok' : X'.Ok := by
    refine ⟨?mod, ?kind, ?glob, ?blt, ?above, ?inj, ?has, ?cab, ?hd, ?frames, ?stk, ?exf, ?bs, ?bsz, ?noex, ?exfs, ?funs, ?frf⟩
    case mod => rw [← hX']; exact I2.ok.mod
    case kind => rw [envE]; exact S.kind
    case glob => rw [envE]; exact I2.ok.glob
    case blt => rw [envE]; exact I2.ok.blt
    case above => rw [locE, ← hX']; show s2.heap.objs.size ≤ C; rw [hD]; exact Nat.le_of_lt DC
    case inj => intro x y c e1 e2; rw [cellsE] at e1 e2; exact I2.ok.inj x y c (q1 x c e1) (q1 y c e2)
    case has =>
      intro x hx
      rw [cellsE]
      cases e : scope.names.lookup x with
      | none => rw [relN x e] at hx; rcases hx with z | z <;> cases z
      | some k =>
        obtain ⟨k', e', q⟩ := relS x k e
        rw [e'] at hx
        have kf : k = .free := by
          rcases q with q | q
          · rcases hx with z | z
            · cases z; exact absurd q.symm (S.cell _ (PySem.mem_of_lookup e))
            · cases z; exact q.symm
          · exact q.1
        subst kf
        exact q2 x (PySem.mem_of_lookup e)
    case cab => intro x c h; rw [← hX'] at h; exact absurd h (by show ¬ (false = true); decide)
    case hd => rw [← hX']; exact I2.ok.hd
    case frames => rw [← hX']; exact I2.ok.frames
    case stk => rw [← hX']; exact .inl rfl
    case exf =>
      intro b hb
      have hb' : b ∈ fp := by rw [← hX'] at hb; exact hb
      refine ⟨by rw [locE]; exact Nat.ne_of_lt (Nat.lt_trans (fpl b hb') DC), fun x c e => ?_⟩
      rw [cellsE] at e
      exact (f2 b hb').2.2.2.2.1 x c (q1 x c e)
    case bs => rw [← hX']; exact I2.bs
    case bsz => rw [← hX']; exact Nat.le_trans I2.ok.bsz I2.sz
    case noex =>
      intro b o e hb
      have hb' : b ∈ fp := by rw [← hX'] at hb; exact hb
      have e' : X.base.get? b = some o := by rw [← hX'] at e; exact e
      rcases (f2 b hb').2.2.2.1 with z | z
      · exact I2.ok.noex b o e' z
      · exact absurd (Nat.lt_of_lt_of_le (Heap.lt_size e') (Nat.le_trans I2.ok.bsz z)) (Nat.lt_irrefl _)
    case exfs =>
      intro b hb
      have hb' : b ∈ fp := by rw [← hX'] at hb; exact hb
      rw [fsE]
      intro z
      rcases List.mem_cons.mp (I2.stkSub b z) with q | q
      · exact (f2 b hb').2.1 q
      · exact (f2 b hb').2.2.1 q
    case funs => rw [← hX']; exact I2.stack
    case frf => rw [fsE, ← hX']; exact I2.stkFree
  have c0 : H2 C = none := I2.hok.fresh (by rw [hD]; exact Nat.le_of_lt DC)
  have d0 : H2 D = none := I2.hok.fresh (by rw [hD]; exact Nat.le_refl _)
  have I3 : Inv X' [] (inSt M σ) H2 { s2 with heap := h₁, toks := s2.toks + ([] : List (Str × Value)).length } := by
    refine ⟨ok', ?os, ?bare, ?base, ?loc, ?cell, ?free, ?freeC, ?pin, ?hok, ?len⟩
    case os => rw [← hX']; rfl
    case bare => exact I2.bare
    case base => rw [fsE, ← hX']; exact Un.kept old
    case loc =>
      refine ⟨_, by rw [locE]; exact hns₁, fun i x v e1 e2 _ => ?_⟩
      obtain ⟨j, eM, eσ⟩ := inSt_get e2
      obtain ⟨y, n1, n2, n3⟩ := S.at_ i j eM
      have e1' : N'[i]? = some x := by rw [← hX'] at e1; exact e1
      rw [n1] at e1'; cases e1'
      have hyf : (x, NameKind.free) ∈ scope.names := PySem.mem_of_lookup n3
      have kd := S.fre _ hyf rfl
      obtain ⟨m, hn, hl⟩ := id I2.loc
      obtain ⟨u, ru, lk⟩ := hl j x v n2 eσ (kd.elim (fun z => .inr (.inl z)) fun z => .inr (.inr z))
      refine ⟨u, ru, ?_⟩
      rcases lk with ⟨k, _⟩ | ⟨k, c, ec, z⟩
      · have k' : X.env.scope.names.lookup x = some NameKind.local := k
        rcases kd with q | q <;> (rw [k'] at q; cases q)
      · obtain ⟨c', ec'⟩ := q2 x hyf
        have hcc := q1 x c' ec'
        rw [ec] at hcc; cases hcc
        obtain ⟨k', e', q⟩ := relS x _ n3
        refine .inr ⟨?_, c, by rw [cellsE]; exact ec', ?_⟩
        · rw [e']; rcases q with q | q
          · right; rw [q]
          · left; rw [q.2]
        · obtain ⟨o, ho, hd'⟩ := z
          exact ⟨o, old _ _ ho, hd'⟩
    case cell =>
      intro x c e
      rw [cellsE] at e
      obtain ⟨v, o, ho, hd'⟩ := I2.cell x c (q1 x c e)
      exact ⟨v, o, old _ _ ho, hd'⟩
    case free => rw [locE]; exact c0
    case freeC => intro x c e; rw [cellsE] at e; exact I2.freeC x c (q1 x c e)
    case pin => intro p hp; rw [← hX'] at hp; exact absurd (show p ∈ ([] : List (Addr × Obj)) from hp) (by simp)
    case hok => rw [← hX']; exact I2.hok.kept old
    case len => rw [inSt_length, ← hX']; exact S.len.symm
  have xE : ∀ (e : Value) (s' : Shared), ¬ X'.xe e s' := fun e s' z => by rw [← hX'] at z; exact z
  have progE : X'.prog = X.prog := by rw [← hX']; rfl
  have wE : X'.w = X.w := by rw [← hX']; rfl
  have KE' : X'.K = X.K := by rw [← hX']; rfl
  have AE : X'.A = X.A := by rw [← hX']; rfl
  have cE : X'.calm = true := by rw [← hX']; exact hc
  have exE : X'.ex = fp := by rw [← hX']; rfl
  have s0E : X'.s₀ = s2 := by rw [← hX']; rfl
  have pnE : X'.pn = [] := by rw [← hX']; rfl
  have hgX : PG X' tg g := by rw [← hX']; exact hg C s2 H2 fp
  have htX : PTs X' ifs tc := by rw [← hX']; exact ht C s2 H2 fp
  have heX : PE X' elt te := by rw [← hX']; exact he C s2 H2 fp
  have Dfp : D ∉ fp := fun z => Nat.lt_irrefl _ (fpl D z)
  have Dcl : ∀ x c, X'.env.cells.lookup x = some c → c ≠ D := fun x c e => by rw [cellsE] at e; exact Nat.ne_of_lt (cel x c e)
  have Dloc : D ≠ X'.env.locals := by rw [locE]; exact Nat.ne_of_lt DC
  have Dfs : D ∉ X'.fs := by rw [fsE]; exact fun z => Nat.lt_irrefl _ (fsl D z)
  have D0 : D ∈ X'.ex ∨ X'.s₀.heap.objs.size ≤ D := .inr (by rw [s0E, hD]; exact Nat.le_refl _)
  have stat : ∀ {pl : List (Addr × Obj)} {H' : Hp}, (∀ p ∈ pl, p.1 = D) → (∀ b ∈ fp, H' b = none) → ∀ b ∈ fp, FpOk X' pl H' b := fun {pl H'} hpl hn b hb => by
    refine ⟨hn b hb, by rw [locE]; exact Nat.ne_of_lt (Nat.lt_trans (fpl b hb) DC), ?_, .inl (by rw [exE]; exact hb), fun x c e => ?_, fun p hp => ?_⟩
    · exact ok'.exfs b (by rw [exE]; exact hb)
    · rw [cellsE] at e; exact (f2 b hb).2.2.2.2.1 x c (q1 x c e)
    · rw [pnE, List.nil_append] at hp
      rw [hpl p hp]; exact (Nat.ne_of_lt (fpl b hb)).symm
  have loop : codeAny (model X.prog X.w) X.A (.compLoop (.ListComp elt [⟨tg, iter, ifs, 0⟩] scope pos) 0 (.ref it) (.ref D) X'.env) (RR (.ref D) C) { s2 with heap := h₁, toks := s2.toks + ([] : List (Str × Value)).length } := by
    refine compLoop_gen (fun n s' => ∃ i ys H', Inv X' [] (inSt M σ) H' s' ∧ tn i s'.heap ∧ (∀ b ∈ fp, H' b = none) ∧ (∃ (its : List Value) (k : Nat), Vals ys its ∧ s'.heap.get? D = some { cls := .type "list", data := .seq its.toArray k }) ∧ H' D = none ∧ W i n ys H') ?_ m0
      ⟨0, [], H2, I3, T.keep _ _ _ st2 fun b hb o e => old b o e, fun b hb => (f2 b hb).1, ⟨[], 0, .nil, hacc⟩, d0, w0⟩
    rintro n s3 ⟨i, ys, H3, J3, st3, fr3, ⟨its, k, rv, hDs⟩, dn, w3⟩
    obtain ⟨hsz, hcase⟩ := turn i n ys H3 w3
    -- the list's record is pinned
    have J3' : Inv X' [(D, { cls := .type "list", data := .seq its.toArray k })] (inSt M σ) H3 s3 := J3.pins_of fun p hp => by
      have e : p = (D, { cls := .type "list", data := .seq its.toArray k }) := by simpa using hp
      subst e
      exact ⟨hDs, dn, Dloc, Dfs, fun v z => by cases z⟩
    have hpl : ∀ p ∈ [((D, { cls := .type "list", data := .seq its.toArray k }) : Addr × Obj)], p.1 = D := fun p hp => by
      have e : p = (D, { cls := .type "list", data := .seq its.toArray k }) := by simpa using hp
      rw [e]
    rcases hcase with ⟨stop, qF⟩ | ⟨go, hlt, N, hN, step⟩
    · have q := T.done X' progE wE KE' cE i _ s3 _ H3 (fun _ _ => False) J3' (stat hpl fr3) st3 stop
      rw [AE] at q
      refine thn q fun r s4 ⟨hr, J4⟩ => ?_
      subst hr
      have hD4 : s4.heap.get? D = some { cls := .type "list", data := .seq its.toArray k } := (J4.pin _ (List.mem_append_right _ (List.mem_singleton.mpr rfl))).1
      obtain ⟨mC, hnC, _⟩ := id J4.loc
      rw [locE] at hnC
      have b4 := J4.base
      rw [fsE, exE, s0E, show X'.H₀ = H2 by rw [← hX']; rfl] at b4
      refine hend D C s4 H3 ys ?_ dn (Nat.le_refl _) DC ⟨mC, hnC⟩ (by rw [upd_ne (Nat.ne_of_gt DC)]; have := J4.free; rw [locE] at this; exact this) qF
      have hok4 := J4.hok
      rw [progE, wE] at hok4
      refine I2.call' (ch := fp) (H' := upd H3 D (.lst ys)) (by rw [J4.os, s0E]) ⟨b4.keep, b4.slot, fun b o e nn hb => ?_, b4.there, fun b xs e => ?_, fun b o u e => ?_, fun b ps e => ?_⟩ ?_ J4.bare fun b hb => ?_
      · rw [upd_ne (Nat.ne_of_lt (lo b o e))]; exact b4.free b o e nn hb
      · rw [upd_ne (ne_of_none (b4.tups b xs e) dn)]; exact b4.tups b xs e
      · rw [upd_ne (ne_of_none (b4.frzs b o u e) dn)]; exact b4.frzs b o u e
      · obtain ⟨more, e'⟩ := b4.tbls b ps e
        exact ⟨more, by rw [upd_ne (ne_of_none e' dn)]; exact e'⟩
      · intro b u e
        by_cases hb : b = D
        · subst hb
          rw [upd_same] at e; cases e
          exact ⟨hsz, its, k, rv, hD4⟩
        · rw [upd_ne hb] at e
          exact (hok4 b u e).stay (fun c v _ q => q) (fun c q => by rw [upd_ne (ne_of_none q dn)]; exact q) fun c xs q => by rw [upd_ne (ne_of_none q dn)]; exact q
      · obtain ⟨f0, f1, f3, f4, f5, f6⟩ := f2 b hb
        exact ⟨f4, f1, f5, f6⟩
    · have q := T.item X' progE wE KE' cE i _ s3 _ H3 (fun _ _ => False) J3' (stat hpl fr3) st3 go
      rw [AE] at q
      refine thn q fun r s4 ⟨u, hr, h4⟩ => ?_
      subst hr
      dsimp only
      refine thn h4 fun _ s5 ⟨x, H5, J5, r5, y5, st5, fr5⟩ => ?_
      have J5' := J5.pinned (stat hpl fr5) (T.obj _ _ st5)
      have qg := hgX _ s5 (inSt M σ) H5 x u _ J5' r5 (hf _ _ _ _ (step x H5 y5))
      rw [progE, wE, AE] at qg
      refine wpAny_mono qg (fun _ s6 h6 => ?_) fun e s' z => xE e s' z
      obtain ⟨σ6, H6, J6, q6, l6, k6⟩ := h6
      have qt := htX _ s6 σ6 H6 _ J6 q6
      rw [progE, wE, AE] at qt
      refine wpAny_mono qt (fun b s7 h7 => ?_) fun e s' z => xE e s' z
      obtain ⟨H7, J7, q7⟩ := h7
      have fin : ∀ {ys' : List V} {σ8 : St} {H8 : Hp} {s8 : Shared}, σ8 = σ6 → Inv X' ([(D, { cls := .type "list", data := .seq its.toArray k })] ++ pinsAt fp s5.heap) σ8 H8 s8 →
          s8.heap.get? D = some { cls := .type "list", data := .seq its.toArray k } ∧ H8 D = none ∧ tn (i + 1) s8.heap ∧ (∀ b ∈ fp, H8 b = none) ∧ Inv X' [] (inSt M σ) H8 s8 := fun {ys' σ8 H8 s8} e8 J8 => by
        subst e8
        obtain ⟨p1, p2, _⟩ := J8.pin _ (List.mem_append_right _ (List.mem_append_left _ (List.mem_singleton.mpr rfl)))
        refine ⟨p1, p2, T.keep _ _ _ st5 fun b hb o e => (J8.pin (b, o) (List.mem_append_right _ (List.mem_append_right _ (mem_pinsAt hb e)))).1, fun b hb => ?_, ?_⟩
        · obtain ⟨o, e, d⟩ := T.obj _ _ st5 b hb
          exact (J8.pin (b, o) (List.mem_append_right _ (List.mem_append_right _ (mem_pinsAt hb e)))).2.1
        · have J9 : Inv X' [] σ8 H8 s8 := J8.pins_of fun p hp => absurd hp (by simp)
          refine J9.weak (l6.symm) fun a v e => ?_
          obtain ⟨j, eM, _⟩ := inSt_get e
          rw [k6 a j eM]; exact e
      cases b with
      | false =>
        rw [if_neg (by decide)] at q7
        rw [if_neg (by decide)]
        obtain ⟨m', hm, w7⟩ := hN _ _ q7
        obtain ⟨a1, a2, a3, a4, a5⟩ := fin (ys' := ys) rfl J7
        exact ⟨m', hm, i + 1, ys, H7, a5, a3, a4, ⟨its, k, rv, a1⟩, a2, w7⟩
      | true =>
        rw [if_pos rfl] at q7
        rw [if_pos rfl]
        have qe := heX _ s7 σ6 H7 _ J7 q7
        rw [progE, wE, AE] at qe
        refine wpAny_mono qe (fun v8 s8 h8 => ?_) fun e s' z => xE e s' z
        obtain ⟨y8, H8, J8, r8, n8⟩ := h8
        obtain ⟨m', hm, w8⟩ := hN _ _ n8
        obtain ⟨a1, a2, a3, a4, a5⟩ := fin (ys' := ys) rfl J8
        refine wpAny_list_append_plain (items := its.toArray) ⟨k, a1⟩ (fun h9 hl9 hs9 => ?_) (by have := rv.length; rw [List.size_toArray, ← this]; exact hsz)
        have J9 : Inv X' [] (inSt M σ) H8 { s8 with heap := h9 } := a5.turned (t' := s8.toks) (fun b o hb e => (hs9.2 b hb).trans e) a2 Dloc D0 Dcl fun p hp => by rw [pnE] at hp; exact absurd hp (by simp)
        obtain ⟨k9, e9⟩ := hl9
        refine ⟨m', hm, i + 1, ys ++ [y8], H8, J9, T.keep _ _ _ a3 fun b hb o e => (hs9.2 b (fun z => Dfp (z ▸ hb))).trans e, a4, ⟨its ++ [v8], k9, rv.append (.cons r8 .nil), ?_⟩, a2, w8⟩
        rw [show (its ++ [v8]).toArray = its.toArray.push v8 by simp]
        exact e9
  have loop' : codeAny (model X.prog X.w) X.A (.compLoop (.ListComp elt [⟨tg, iter, ifs, 0⟩] scope pos) 0 (.ref it) (.ref D) (compEnvC scope cl C X.env)) (RR (.ref D) C) { s2 with heap := h₁, toks := s2.toks + ([] : List (Str × Value)).length } := envE ▸ loop
  exact codeAny_compStart_list loop' (T.self _ 0 _ _ _ (T.keep _ _ _ st2 fun b hb o e => old b o e) loop')
end L2
set_option Elab.async false
set_option linter.all false
set_option maxRecDepth 100000
namespace L2
open PySem PySem.Spec PyProof.Rows
section
variable {X : Cx} {N' : List Str} {M : List (Option Nat)} {scope : Scope} {tg elt iter : Expr} {ifs : List Expr} {pos : Pos} {g : TG} {tc : TT} {te : TE} {wi : TI}
theorem lc_clos {pins : List (Addr × Obj)} {σ : St} {H : Hp} {s : Shared} (S : LcSc X.N N' M scope X.env.scope) (I : Inv X pins σ H s) :
    ∃ cl, closureFor scope X.env = pure cl ∧ (∀ y c, cl.lookup y = some c → X.env.cells.lookup y = some c) ∧ (∀ y, (y, NameKind.free) ∈ scope.names → ∃ c, cl.lookup y = some c) :=
  closure_of fun y hy hk => I.ok.has y.1 (S.fre y hy hk)
theorem Inv.gone {pins : List (Addr × Obj)} {σ : St} {H : Hp} {s s' : Shared} {C : Addr} {h' : Heap} (I : Inv X pins σ H s) (hs : Heap.SameBut C s.heap h') (hn : H C = none) (hC : C ≠ X.env.locals) (h1 : X.s₀.heap.objs.size ≤ C)
    (h2 : ∀ x c, X.env.cells.lookup x = some c → c ≠ C) (h3 : ∀ p ∈ X.pn ++ pins, p.1 ≠ C) : Inv X pins σ H { s with heap := h' } :=
  I.turned (t' := s.toks) (fun b o hb e => (hs.2 b hb).trans e) hn hC (.inr h1) h2 h3
theorem Inv.young {pins : List (Addr × Obj)} {σ : St} {H : Hp} {s : Shared} {C : Addr} (I : Inv X pins σ H s) (h : s.heap.objs.size ≤ C) :
    C ≠ X.env.locals ∧ X.s₀.heap.objs.size ≤ C ∧ (∀ x c, X.env.cells.lookup x = some c → c ≠ C) ∧ ∀ p ∈ X.pn ++ pins, p.1 ≠ C := by
  refine ⟨(Nat.ne_of_lt (Nat.lt_of_lt_of_le I.lt h)).symm, Nat.le_trans I.sz h, fun x c e => ?_, fun p hp => ?_⟩
  · obtain ⟨v, z⟩ := I.cell x c e
    exact Nat.ne_of_lt (Nat.lt_of_lt_of_le z.lt h)
  · exact Nat.ne_of_lt (Nat.lt_of_lt_of_le (Heap.lt_size (I.pin p hp).1) h)
theorem pe_lc (S : LcSc X.N N' M scope X.env.scope) (hc : X.calm = true) (hi : PI X tg iter wi) (hg : ∀ cl C s H fp, PG (cxLc X N' scope cl C s H fp) tg g) (hf : Frm M g)
    (ht : ∀ cl C s H fp, PTs (cxLc X N' scope cl C s H fp) ifs tc) (he : ∀ cl C s H fp, PE (cxLc X N' scope cl C s H fp) elt te)
    (hs : ∀ x, foldedSetIterable iter X.env x = pure x := by intro _; rfl) :
    PE X (.ListComp elt [⟨tg, iter, ifs, 0⟩] scope pos) (fun σ H Q => tLc wi M g tc te σ H fun ys H' => ∀ p, H' p = none → Q (.ref p) (upd H' p (.lst ys))) := by
  intro pins s σ H Q I h
  obtain ⟨cl, hclos, q1, q2⟩ := lc_clos S I
  rw [eval_ListComp]
  refine wpAny_comprehension_free (use := none) rfl hs hclos S.kind S.own (thn (hi pins s σ H _ I h) fun v s1 h1 => thn h1 fun itv s2 h2 => ?_)
  obtain ⟨it, fp, tn, J, H2, e, I2, T, st2, f2, hw⟩ := h2
  subst e
  refine lc_block (RR := fun acc C => compPost (model X.prog X.w) X.A X.xe none (EP X pins σ Q) acc C) S hc q1 q2 (hg cl) hf (ht cl) (he cl) I2 T st2 f2 hw ?_
  intro D C s' H' ys I' dn hD hC ⟨m, hn⟩ hCn q
  obtain ⟨y1, y2, y3, y4⟩ := I2.young (Nat.le_of_lt hC)
  exact ⟨m, hn, fun h' hs' => ⟨.ref D, _, I'.gone (s' := s') hs' hCn y1 y2 y3 y4, rfl, q D dn⟩⟩
theorem ps_lc {i : Nat} {x : Str} {pos' spos : Pos} (hN : X.N.Nodup) (hi : X.N[i]? = some x) (hx : X.env.scope.names.lookup x = some NameKind.local)
    (S : LcSc X.N N' M scope X.env.scope) (hc : X.calm = true) (hit : PI X tg iter wi) (hg : ∀ cl C s H fp, PG (cxLc X N' scope cl C s H fp) tg g) (hf : Frm M g)
    (ht : ∀ cl C s H fp, PTs (cxLc X N' scope cl C s H fp) ifs tc) (he : ∀ cl C s H fp, PE (cxLc X N' scope cl C s H fp) elt te)
    (hsw : swapsWith (.ListComp elt [⟨tg, iter, ifs, 0⟩] scope pos) (some (.Name x pos')) spos.line X.env = pure true := by rfl)
    (hs : ∀ x, foldedSetIterable iter X.env x = pure x := by intro _; rfl) :
    PS X (.Assign [.Name x pos'] (.ListComp elt [⟨tg, iter, ifs, 0⟩] scope pos) spos) (fun D σ H => tLc wi M g tc te σ H fun ys H' => ∀ p, H' p = none → D.nx (σ.set i (some (.ref p))) (upd H' p (.lst ys))) := by
  intro pins s σ H Dn I h
  obtain ⟨cl, hclos, q1, q2⟩ := lc_clos S I
  rw [exec_Assign_Name_used _ _ _ _ hsw]
  refine wpAny_bind (wpAny_standAt (wpAny_bind ?_))
  show wpAny _ X.A (do let _ ← comprehension (.ListComp elt [⟨tg, iter, ifs, 0⟩] scope pos) scope X.env _ (newList []) false (eval iter X.env) (some (assign (.Name x pos') X.env))) _ _ s
  refine wpAny_bind (wpAny_mono (wpAny_comprehension_free (use := some (assign (.Name x pos') X.env)) (Q := fun _ s' => SP X pins Dn .next s') rfl hs hclos S.kind S.own
    (thn (hit pins s σ H _ I h) fun v s1 h1 => thn h1 fun itv s2 h2 => ?_)) (fun _ s' hq => wpAny_pure (wpAny_pure hq)) fun _ _ e => e)
  obtain ⟨it, fp, tn, J, H2, e, I2, T, st2, f2, hw⟩ := h2
  subst e
  refine lc_block (RR := fun acc C => compPost (model X.prog X.w) X.A X.xe (some (assign (.Name x pos') X.env)) (fun _ s' => SP X pins Dn .next s') acc C) S hc q1 q2 (hg cl) hf (ht cl) (he cl) I2 T st2 f2 hw ?_
  intro D C s' H' ys I' dn hD hC ⟨m, hn⟩ hCn q
  obtain ⟨y1, y2, y3, y4⟩ := I2.young (Nat.le_of_lt hC)
  show wpAny _ X.A (assign (.Name x pos') X.env (.ref D)) _ _ s'
  refine wpAny_assign_Name (store_ok2 I' hN hi (.inl hx) (v := .ref D) rfl (fun s'' I'' ⟨a, hsb, ha⟩ => ?_) (.inr hx))
  have hCa : C ≠ a := by
    rcases ha with z | z
    · rw [z]; exact y1
    · exact (y3 x a z).symm
  exact ⟨m, hn.sameBut hsb hCa, fun h' hs' => ⟨_, _, I''.gone (s' := s'') hs' hCn y1 y2 y3 y4, q D dn⟩⟩
end
end L2
set_option Elab.async false
set_option linter.all false
set_option maxRecDepth 100000
namespace L2
open PySem PySem.Spec PyProof.Rows
theorem Same.seqT {K : PySem.W.Frag} {H H' : Hp} {a : Addr} {xs : List V} (e : Same H H') (h : SqT K H a xs) : SqT K H' a xs := by
  rcases h with (h | ⟨o, h⟩) | h
  · exact .inl (.inl (e _ _ h))
  · exact .inl (.inr ⟨o, e _ _ h⟩)
  · exact .inr h
theorem Same.new {H : Hp} {p : Addr} {o : HO} (h : H p = none) : Same H (upd H p o) := fun b u e => by rw [upd_ne (ne_of_none e h)]; exact e
theorem Same.new2 {H H1 : Hp} {p : Addr} {o : HO} (e : Same H H1) (h : H1 p = none) : Same H (upd H1 p o) := e.trans (Same.new h)
theorem Same.put {H H1 : Hp} {p : Addr} {o : HO} (e : Same H H1) (h : H p = none) : Same H (upd H1 p o) := fun b u q => by rw [upd_ne (ne_of_none q h)]; exact e b u q
section
variable {X : Cx}
theorem op_mulW : OpR X (binaryOp .Mult) (rI IntMulOk fun i j => .int (i * j)) := opI fun _ _ _ _ _ _ _ hc q => mul_int q hc
def CDivW (i j : Int) : Prop := 0 < j ∧ j.natAbs.log2 < 9000
theorem op_fdivW : OpR X (binaryOp .FloorDiv) (rI CDivW fun i j => .int (i / j)) := opI fun i j _ _ _ _ _ hc q => by
  have e : i.fdiv j = i / j := Int.fdiv_eq_ediv_of_nonneg i (Int.le_of_lt hc.1)
  exact floordiv_int (Int.ne_of_gt hc.1) (by rw [e]; exact q) (.inl (PyProof.noPylong_of_log2 hc.2))
theorem mulOk_l {a b : Int} (h : -(2 ^ 64) < a ∧ a < 2 ^ 64) : IntMulOk a b := CMul.ok (.inl h)
theorem mulOk_r {a b : Int} (h : -(2 ^ 64) < b ∧ b < 2 ^ 64) : IntMulOk a b := CMul.ok (.inr h)
theorem old_keptT {s : Shared} {l : Addr} {h' : Heap} (hk : ∀ b o, b ∉ [s.heap.objs.size] → (s.heap.push { cls := .type "tuple_iterator", data := .fields #[.ref l, .int 0 0] }).get? b = some o → h'.get? b = some o) :
    ∀ b o, s.heap.get? b = some o → h'.get? b = some o := fun b o e => hk b o (fun hm => absurd (Heap.lt_size e) (by rw [List.mem_singleton.mp hm]; exact Nat.lt_irrefl _)) (Heap.get?_push_of_some _ e)
theorem seq_walk {pins : List (Addr × Obj)} {σ : St} {H : Hp} {s : Shared} {a : Addr} {xs : List V} {A : Around} {E : Value → Shared → Prop} {Q : Value → Shared → Prop} (I : Inv X pins σ H s) (hh : A.handled = none) (hq : SqL X.K H a xs ∨ SqT X.K H a xs)
    (h : ∀ (its : List Value) (I' : Addr) (fp wr : List Addr) (St' : Nat → Heap → Prop) (s2 : Shared), Vals xs its → Walks X.prog X.w A I' fp wr its.toArray.size (fun i v => its.toArray[i]? = some v) St' → St' 0 s2.heap → (∀ b ∈ fp, b < s2.heap.objs.size) →
      s2.toks = s.toks → s2.os = s.os → s2.gens = s.gens → s2.drawn = s.drawn → (∀ h' tk, (∀ b o, b ∉ wr → s2.heap.get? b = some o → h'.get? b = some o) → Inv X pins σ H { s2 with heap := h', toks := tk }) → Q (.ref I') s2) :
    wpAny (model X.prog X.w) A (pyIter (.ref a)) Q E s := by
  rcases hq with hq | hq
  · obtain ⟨its, rv, p, hz⟩ := I.list hq
    obtain ⟨o, ho, _⟩ := id p.isList
    have hlt := Heap.lt_size ho
    refine wpAny_pyIter_list p.isList (h its s.heap.objs.size [s.heap.objs.size, a] [s.heap.objs.size] _ _ rv (Walks.list hh _ a (Nat.ne_of_lt hlt) its.toArray) ⟨⟨_, Heap.get?_push_size _ rfl, rfl, rfl⟩, p.isList.push _⟩ (fun b hb => ?_) rfl rfl rfl rfl fun h' tk hk => ?_)
    · show b < (s.heap.push _).objs.size
      rw [Heap.size_push]
      rcases List.mem_cons.mp hb with rfl | hb
      · exact Nat.lt_succ_self _
      · rw [List.mem_singleton.mp hb]; exact Nat.lt_succ_of_lt hlt
    · exact I.kept (t' := tk) (old_kept hk)
  · obtain ⟨its, rv, p, hz⟩ := I.tuple hq
    obtain ⟨o, ho, _⟩ := id p
    have hlt := Heap.lt_size ho
    have p' : s.heap.IsTuple a its.toArray := p
    refine wpAny_pyIter_tuple p' (h its s.heap.objs.size [s.heap.objs.size, a] [s.heap.objs.size] _ _ rv (Walks.tuple hh _ a (Nat.ne_of_lt hlt) its.toArray) ⟨⟨_, Heap.get?_push_size _ rfl, rfl, rfl⟩, p'.push _⟩ (fun b hb => ?_) rfl rfl rfl rfl fun h' tk hk => ?_)
    · show b < (s.heap.push _).objs.size
      rw [Heap.size_push]
      rcases List.mem_cons.mp hb with rfl | hb
      · exact Nat.lt_succ_self _
      · rw [List.mem_singleton.mp hb]; exact Nat.lt_succ_of_lt hlt
    · exact I.kept (t' := tk) (old_keptT hk)
theorem vals_int_at {ns : List Int} {its : List Value} (r : Vals (ns.map V.int) its) {i : Nat} {v : Value} (h : its.toArray[i]? = some v) : ∃ t, v = .int (ns.getD i 0) t ∧ i < ns.length := by
  have h' : its[i]? = some v := by simpa using h
  have hl := r.length
  rw [List.length_map] at hl
  have hi : i < ns.length := by rw [hl]; exact (List.getElem?_eq_some_iff.mp h').1
  obtain ⟨u, hu, ru⟩ := r.get (i := i) (x := V.int (ns[i])) (by rw [List.getElem?_map, List.getElem?_eq_getElem hi]; rfl)
  rw [hu] at h'; cases h'
  obtain ⟨t, rfl⟩ := ru
  exact ⟨t, by rw [List.getD_eq_getElem?_getD, List.getElem?_eq_getElem hi]; rfl, hi⟩
def IsMax (ns : List Int) (m : Int) : Prop := m ∈ ns ∧ ∀ a ∈ ns, a ≤ m
theorem getD_mem' {ns : List Int} {i : Nat} (h : i < ns.length) : ns.getD i 0 ∈ ns := by
  rw [List.getD_eq_getElem?_getD, List.getElem?_eq_getElem h]; exact List.getElem_mem h
theorem mem_getD' {ns : List Int} {a : Int} (h : a ∈ ns) : ∃ i, i < ns.length ∧ ns.getD i 0 = a := by
  obtain ⟨i, hi, e⟩ := List.mem_iff_getElem.mp h
  exact ⟨i, hi, by rw [List.getD_eq_getElem?_getD, List.getElem?_eq_getElem hi]; exact e⟩
theorem call_maxL (hc : X.calm = true) : CallR X (.builtin "max") (fun xs H Q => ∃ (a : Addr) (ns : List Int), xs = [.ref a] ∧ (SqL X.K H a (ns.map V.int) ∨ SqT X.K H a (ns.map V.int)) ∧ ns ≠ [] ∧ ∀ m, IsMax ns m → Q (.int m) H) := by
  intro pins s σ H xs us Q I r h
  obtain ⟨a, ns, rfl, hq, hne, q⟩ := h
  obtain ⟨u, rfl, ru⟩ := vals1 r
  cases ru
  refine call_max_walk (seq_walk I (A := X.A.in1) (I.ok.hd hc) hq fun its I' fp wr St' s2 rv W st hfp _ _ _ _ hI => ?_)
  have hlen : its.toArray.size = ns.length := by rw [List.size_toArray, ← rv.length, List.length_map]
  have hpos : 0 < ns.length := List.length_pos_iff.mpr hne
  refine ⟨_, _, _, _, _, _, _, rfl, W, st, hfp, by rw [hlen]; exact hpos, CmpOf.ints_gt (fun i => ns.getD i 0) (fun i v hv => (vals_int_at rv hv).imp fun t e => e.1), fun v h' tk hP hk => ?_⟩
  obtain ⟨t, rfl, hi⟩ := vals_int_at rv hP
  obtain ⟨h1, h2⟩ := argBest_gt (fun i => ns.getD i 0) (its.toArray.size - 1)
  refine ⟨.int _, H, hI h' tk hk, ⟨t, rfl⟩, q _ ⟨getD_mem' hi, fun b hb => ?_⟩⟩
  obtain ⟨j, hj, rfl⟩ := mem_getD' hb
  exact h2 j (by omega)
theorem call_sumL (hc : X.calm = true) : CallR X (.builtin "sum") (fun xs H Q => ∃ (a : Addr) (ns : List Int), xs = [.ref a] ∧ (SqL X.K H a (ns.map V.int) ∨ SqT X.K H a (ns.map V.int)) ∧ Q (.int ns.sum) H) := by
  intro pins s σ H xs us Q I r h
  obtain ⟨a, ns, rfl, hq, q⟩ := h
  obtain ⟨u, rfl, ru⟩ := vals1 r
  cases ru
  refine call_sum_walkG (seq_walk I (A := X.A.in1) (I.ok.hd hc) hq fun its I' fp wr St' s2 rv W st hfp _ _ _ _ hI => ?_)
  refine ⟨_, _, _, _, _, _, fun i => ns.getD i 0, rfl, W, st, hfp, (fun i v hv => (vals_int_at rv hv).imp fun t e => e.1), fun h' tk t' hk => ?_⟩
  have hlen : its.toArray.size = ns.length := by rw [List.size_toArray, ← rv.length, List.length_map]
  refine ⟨.int _, H, hI h' tk hk, ⟨t', rfl⟩, ?_⟩
  have e : preSum (fun i => ns.getD i 0) its.toArray.size = ns.sum := by
    rw [hlen]
    have gen : ∀ n, n ≤ ns.length → preSum (fun i => ns.getD i 0) n = (ns.take n).sum := by
      intro n
      induction n with
      | zero => intro _; rfl
      | succ n ih =>
        intro hn
        have e1 : preSum (fun i => ns.getD i 0) (n + 1) = preSum (fun i => ns.getD i 0) n + ns.getD n 0 := rfl
        have hn' : n < ns.length := hn
        have e2 : ns.take (n + 1) = ns.take n ++ [ns[n]] := by simp
        rw [e1, ih (by omega), e2, List.getD_eq_getElem?_getD, List.getElem?_eq_getElem hn', List.sum_append]
        simp
    rw [gen _ (Nat.le_refl _), List.take_length]
  rw [e]; exact q
theorem vals_bl_at {bs : List Bool} {its : List Value} (r : Vals (bs.map V.bl) its) {i : Nat} {v : Value} (h : its.toArray[i]? = some v) : v = .bool (bs.getD i true) ∧ i < bs.length := by
  have h' : its[i]? = some v := by simpa using h
  have hl := r.length
  rw [List.length_map] at hl
  have hi : i < bs.length := by rw [hl]; exact (List.getElem?_eq_some_iff.mp h').1
  obtain ⟨u, hu, ru⟩ := r.get (i := i) (x := V.bl (bs[i])) (by rw [List.getElem?_map, List.getElem?_eq_getElem hi]; rfl)
  rw [hu] at h'; cases h'
  cases (show v = Value.bool (bs[i]) from ru)
  exact ⟨by rw [List.getD_eq_getElem?_getD, List.getElem?_eq_getElem hi]; rfl, hi⟩
theorem range_all (bs : List Bool) (d : Bool) : (List.range bs.length).all (fun i => bs.getD i d) = bs.all id := by
  rw [Bool.eq_iff_iff, List.all_eq_true, List.all_eq_true]
  constructor
  · intro h b hb
    obtain ⟨i, hi, e⟩ := List.mem_iff_getElem.mp hb
    have := h i (List.mem_range.mpr hi)
    rw [List.getD_eq_getElem?_getD, List.getElem?_eq_getElem hi] at this
    rw [← e]; exact this
  · intro h i hi
    have hi := List.mem_range.mp hi
    rw [List.getD_eq_getElem?_getD, List.getElem?_eq_getElem hi]
    exact h _ (List.getElem_mem hi)
theorem call_allL (hc : X.calm = true) : CallR X (.builtin "all") (fun xs H Q => ∃ (a : Addr) (bs : List Bool), xs = [.ref a] ∧ (SqL X.K H a (bs.map V.bl) ∨ SqT X.K H a (bs.map V.bl)) ∧ Q (.bl (bs.all id)) H) := by
  intro pins s σ H xs us Q I r h
  obtain ⟨a, bs, rfl, hq, q⟩ := h
  obtain ⟨u, rfl, ru⟩ := vals1 r
  cases ru
  refine call_all_walk (seq_walk I (A := X.A.in1) (I.ok.hd hc) hq fun its I' fp wr St' s2 rv W st hfp _ _ _ _ hI => ?_)
  refine ⟨_, _, _, _, _, _, fun i => bs.getD i true, rfl, W, st, (fun i v s Q E hv hQ => by rw [(vals_bl_at rv hv).1]; exact wpAny_truthy_bool hQ), fun h' tk hk => ?_⟩
  have hlen : its.toArray.size = bs.length := by rw [List.size_toArray, ← rv.length, List.length_map]
  rw [hlen, range_all]
  exact ⟨.bl _, H, hI h' tk hk, rfl, q⟩
theorem call_isi : CallR X (.builtin "isinstance") (fun xs H Q => ∃ x n t b, xs = [x, .ty n] ∧ TyOf X.K H x t ∧ PySem.W.kitOne X.K t (.type n) = some b ∧ Q (.bl b) H) := by
  intro pins s σ H xs us Q I r h
  obtain ⟨x, n, t, b, rfl, ty, e, q⟩ := h
  obtain ⟨u, w', rfl, rx, ru⟩ := vals2 r
  cases (show w' = Value.type n from ru)
  exact isinst_ok I rx ty e fun tk => ⟨.bl b, H, I.tok tk, rfl, q⟩
end
end L2
set_option Elab.async false
set_option linter.all false
set_option maxRecDepth 100000
namespace L2
open PySem PySem.Spec PyProof.Rows
section
variable {prog : Program} {w : World} {A : Around} {E : Value → Shared → Prop} {s : Shared}
theorem isExact_tup {t : Addr} {items : Array Value} {Q : Bool → Shared → Prop} (ht : IsTup s.heap t items) (h : Q true s) : wpAny (model prog w) A (Builtin.Tuple.tupleIsExact (.ref t)) Q E s := by
  unfold Builtin.Tuple.tupleIsExact
  exact wpAny_bind (wpAny_typeOf ht.typeIs (wpAny_pure h))
theorem getItem_tuple_all {t sl : Addr} {items : Array Value} {vl vu : Value} {lo hi : Option Int} {Q : Value → Shared → Prop} (ht : IsTup s.heap t items) (hs : s.heap.IsSliceOf sl vl vu .none) (pl : IsPart vl lo) (pu : IsPart vu hi)
    (hw : HT.sIx items.size 0 lo = 0 ∧ HT.sIx items.size items.size hi = items.size) (h : Q (.ref t) s) : wpAny (model prog w) A (getItem (.ref t) (.ref sl)) Q E s := by
  obtain ⟨os, hos, hcs, hds⟩ := id hs
  have hTs : s.TypeIs (.ref sl) "slice" := ⟨os, hos, hcs⟩
  unfold getItem
  try with_reducible refine wpAny_holding ?_
  first | refine wpAny_bind (wpAny_pure ?_) | skip
  refine wpAny_bind (wpAny_sequenceKey ht.typeIs (by decide) ?_)
  refine wpAny_bind (wpAny_callSpecial?_slot (name := Str.ofString "__getitem__") ht.typeIs PyProof.Rows.slot_tuple_getitem
    (wpAny_call_entry PyProof.Rows.slot_tuple_getitem ht.typeIs entry_tuple_getitem ?_ (args_tuple_getitem _ _)))
  show wpAny _ _ (Builtin.Tuple.tupleItemsOf (.ref t) >>= _) _ _ s
  refine wpAny_bind (tupleItemsOf_ ht ?_)
  refine wpAny_bind (wpAny_typeOf hTs ?_)
  rw [if_pos (by decide)]
  refine wpAny_bind (HT.sliceApplied_gen hs pl pu ?_)
  have hyes : ((((HT.sIx items.size 0 lo : Nat) : Int) == 0 && (1 : Int) == 1 && (HT.sIx items.size items.size hi - HT.sIx items.size 0 lo) == items.size) = true) := by
    rw [hw.1, hw.2]; simp
  show wpAny _ _ (if (((HT.sIx items.size 0 lo : Nat) : Int) == 0 && (1 : Int) == 1 && (HT.sIx items.size items.size hi - HT.sIx items.size 0 lo) == items.size) = true then _ else _) _ _ s
  rw [if_pos hyes]
  refine wpAny_bind (isExact_tup ht ?_)
  rw [if_pos rfl]
  exact wpAny_bind (wpAny_rule (wpAny_bind (wpAny_pure (wpAny_pure ⟨_, rfl, wpAny_pure h⟩))))
end
section
variable {X : Cx}
theorem sl_tupA : SlR X (fun x lo hi H Q => ∃ a xs, x = .ref a ∧ SqT X.K H a xs ∧ ∀ p H', Same H H' → SqT X.K H' p (cutV xs lo hi) → Q (.ref p) H') := by
  intro pins s σ H x v vl vu lo hi sl Q I rx hs pl pu h
  obtain ⟨a, xs, rfl, hx, q⟩ := h
  by_cases hw : HT.sIx xs.length 0 lo = 0 ∧ HT.sIx xs.length xs.length hi = xs.length
  · cases rx
    obtain ⟨its, r, ht, hz⟩ := I.tuple hx
    have hlen : its.toArray.size = xs.length := by rw [List.size_toArray]; exact r.length.symm
    refine ⟨"tuple", _, PyProof.Rows.slot_tuple_getitem.lookup, ht.typeIs, ?_⟩
    refine getItem_tuple_all ht hs pl pu (by rw [hlen]; exact hw) ⟨.ref a, H, I, rfl, q a H (Same.refl H) ?_⟩
    have e : cutV xs lo hi = xs := by unfold cutV; rw [hw.1, hw.2]; simp
    rw [e]; exact hx
  · exact sl_tup pins s σ H _ v vl vu lo hi sl Q I rx hs pl pu ⟨a, xs, rfl, hx, hw, fun p hp => q p _ (Same.new hp) (SqT.of upd_same)⟩
theorem op_catA : OpR X (binaryOp .Add) (fun x y H Q => ∃ a b xs ys, x = .ref a ∧ y = .ref b ∧ SqT X.K H a xs ∧ SqT X.K H b ys ∧ xs.length + ys.length ≤ sizeLine ∧ ∀ p H', Same H H' → SqT X.K H' p (xs ++ ys) → Q (.ref p) H') := by
  intro pins s σ H x y v u Q I rx ry h
  obtain ⟨a, b, xs, ys, rfl, rfl, ha, hb, hz, q⟩ := h
  by_cases hx : xs = []
  · cases rx
    cases ry
    obtain ⟨its, r1, p1, _⟩ := I.tuple ha
    obtain ⟨its2, r2, p2, _⟩ := I.tuple hb
    have hv : its = [] := r1.nil_iff.mpr hx
    obtain ⟨⟨cls, dd, data, sl⟩, ho, hc, n, hd⟩ := id p1
    obtain ⟨⟨cls2, dd2, data2, sl2⟩, ho2, hc2, n2, hd2⟩ := id p2
    simp only at hc hd hc2 hd2
    subst hc hd hc2 hd2
    refine concat_meets ⟨_, ho, rfl⟩ ⟨_, ho2, rfl⟩ noFill_tuple_add seq_tuple_add PySem.F.slot_tuple_add PySem.F.entry_tuple_add (PySem.F.args_tuple_add_2 _ _)
      (tuple_addW0 a b its.toArray its2.toArray n n2 dd dd2 sl sl2 (by simp [hv])) ⟨ho, ho2, ?_⟩
    exact ⟨.ref b, H, I, rfl, q b H (Same.refl H) (by rw [hx, List.nil_append]; exact hb)⟩
  · refine op_catT pins s σ H _ _ v u Q I rx ry ⟨a, b, xs, ys, rfl, rfl, ha, hb, hx, hz, fun e => q a H (Same.refl H) (by rw [e, List.append_nil]; exact ha), fun _ p hp => q p _ (Same.new hp) (SqT.of upd_same)⟩
end
theorem noFill_tuple_mul : fillsNumberSlot (.type "tuple") "mul" = pure false :=
  PySem.fillsNumberSlot_seq (id := "tuple.__mul__") (r := some (.builtin "tuple.__rmul__")) F.slot_tuple_mul.lookup (by decide +kernel) F.slot_tuple_rmul.lookup (by decide +kernel)
theorem repeat_tuple : seqRepeat? (.type "tuple") = pure (some (.builtin "tuple.__mul__")) := by
  unfold seqRepeat?
  rw [PySem.seqSlot_of (T := "tuple") (name := "__mul__") (id := "tuple.__mul__") F.slot_tuple_mul.lookup (by decide +kernel), PySem.seqSlot_of (T := "tuple") (name := "__rmul__") (id := "tuple.__rmul__") F.slot_tuple_rmul.lookup (by decide +kernel)]
  rfl
theorem rmul_int_tuple (a : Int) (t : Tok) (l : Addr) (items : Array Value) (n : Nat) (dd : Option Addr) (sl : Array (Option Value)) :
    Meets (Builtin.«int.__rmul__» ⟨[.int a t, .ref l], []⟩) (fun _ R s => s.heap.get? l = some { cls := .type "tuple", dict := dd, data := .seq items n, slots := sl } ∧ R (.ok (.ret Value.notImplemented)) s) :=
  .of_wp fun prog w A R s h => by obtain ⟨hp, g, d, tk, os⟩ := s; obtain ⟨hl, h⟩ := h; wp_walk; exact ⟨_, rfl, h⟩
theorem mul_tup_one (l : Addr) (items : Array Value) (n : Nat) (dd : Option Addr) (sl : Array (Option Value)) (k : Int) (u : Tok) (h1 : (decide (k < -(2 ^ 63)) || decide (k ≥ 2 ^ 63)) = false) (h2 : (items.isEmpty || k == 1) = true) :
    Meets (Builtin.«tuple.__mul__» ⟨[.ref l, .int k u], []⟩) (fun _ R s => s.heap.get? l = some { cls := .type "tuple", dict := dd, data := .seq items n, slots := sl } ∧ R (.ok (.ret (.ref l))) s) :=
  .of_wp fun prog w A R s h => by
    obtain ⟨hp, g, d, tk, os⟩ := s; obtain ⟨hl, h⟩ := h; have f1 := AutoSeq1.idx_int
    wp_walk
    refine wpAny_ite_false (decide_eq_false (by rw [h1]; exact Bool.false_ne_true)) ?_
    wp_walk using wpAny_loadPart' hl
    exact ⟨_, rfl, h⟩
theorem mul_tup_nil (l : Addr) (items : Array Value) (n : Nat) (dd : Option Addr) (sl : Array (Option Value)) (k : Int) (u : Tok) (h1 : (decide (k < -(2 ^ 63)) || decide (k ≥ 2 ^ 63)) = false) (h2 : (items.isEmpty || k == 1) = false) (h3 : (decide (k ≤ 0) || items.isEmpty) = true) :
    Meets (Builtin.«tuple.__mul__» ⟨[.ref l, .int k u], []⟩) (fun _ R s => s.heap.get? l = some { cls := .type "tuple", dict := dd, data := .seq items n, slots := sl } ∧ R (.ok (.ret (.ref s.heap.objs.size))) { s with heap := s.heap.push { cls := .type "tuple", data := .seq #[] } }) :=
  .of_wp fun prog w A R s h => by
    obtain ⟨hp, g, d, tk, os⟩ := s; obtain ⟨hl, h⟩ := h; have f1 := AutoSeq1.idx_int
    wp_walk
    refine wpAny_ite_false (decide_eq_false (by rw [h1]; exact Bool.false_ne_true)) ?_
    wp_walk using wpAny_loadPart' hl
    exact ⟨_, rfl, h⟩
theorem mul_tup_more (l : Addr) (items : Array Value) (n : Nat) (dd : Option Addr) (sl : Array (Option Value)) (k : Int) (u : Tok) (h1 : (decide (k < -(2 ^ 63)) || decide (k ≥ 2 ^ 63)) = false) (h2 : (items.isEmpty || k == 1) = false) (h3 : (decide (k ≤ 0) || items.isEmpty) = false)
    (h4 : ¬ (items.size : Int) * k > (2 ^ 63 - 1) / 8) (h5 : Builtin.Tuple.tupleTooMany ((items.size : Int) * k) = false) (hsz : (List.foldl (fun x1 x2 => x1 ++ x2) #[] (List.replicate k.toNat items)).size ≤ sizeLine) :
    Meets (Builtin.«tuple.__mul__» ⟨[.ref l, .int k u], []⟩) (fun _ R s => s.heap.get? l = some { cls := .type "tuple", dict := dd, data := .seq items n, slots := sl } ∧ R (.ok (.ret (.ref s.heap.objs.size))) { s with heap := s.heap.push { cls := .type "tuple", data := .seq (List.foldl (fun x1 x2 => x1 ++ x2) #[] (List.replicate k.toNat items)) } }) :=
  .of_wp fun prog w A R s h => by
    obtain ⟨hp, g, d, tk, os⟩ := s; obtain ⟨hl, h⟩ := h; have f1 := AutoSeq1.idx_int
    wp_walk
    refine wpAny_ite_false (decide_eq_false (by rw [h1]; exact Bool.false_ne_true)) ?_
    wp_walk using wpAny_loadPart' hl
    refine wpAny_ite_false (decide_eq_false h4) ?_
    wp_walk
    exact ⟨_, rfl, h⟩
section
variable {X : Cx}
theorem op_repA : OpR X (binaryOp .Mult) (fun x y H Q => ∃ a k xs, x = .ref a ∧ y = .int k ∧ SqT X.K H a xs ∧ xs ≠ [] ∧ k ≤ 1000 ∧ -1000 ≤ k ∧ xs.length ≤ 1000 ∧ ∀ p H', Same H H' → SqT X.K H' p (List.replicate k.toNat xs).flatten → Q (.ref p) H') := by
  intro pins s σ H x y v u Q I rx ry h
  obtain ⟨l, k, xs, rfl, rfl, hH, hne, hk1, hk0, hxl, q⟩ := h
  cases rx
  obtain ⟨t, rfl⟩ := ry
  obtain ⟨its, r, p1, hz⟩ := I.tuple hH
  obtain ⟨⟨cls, dd, data, sl⟩, ho, hc, n, hd⟩ := id p1
  simp only at hc hd
  subst hc hd
  have hl := r.length
  have hine : its.toArray.isEmpty = false := by
    cases its with
    | nil => exact absurd (r.nil_iff.mp rfl) hne
    | cons a b => rfl
  have h1 : (decide (k < -(2 ^ 63)) || decide (k ≥ 2 ^ 63)) = false := by
    rw [decide_eq_false (by omega), decide_eq_false (by omega)]; rfl
  refine wpAny_binaryOp_repeat_ref (T := "tuple") (U := "int") (by decide) ⟨_, ho, rfl⟩ (fun s' => typeIs_int s' k t) noFill_tuple_mul F.fills_int_mul F.slot_int_rmul repeat_tuple F.slot_int_index.lookup
    (call_meets F.slot_int_rmul (typeIs_int s k t) F.entry_int_rmul (F.args_int_rmul_2 _ _) (rmul_int_tuple k t l its.toArray n dd sl) ⟨ho, rfl, ⟨_, ho, rfl⟩, ?_⟩)
  by_cases e1 : k = 1
  · refine call_meets F.slot_tuple_mul ⟨_, ho, rfl⟩ F.entry_tuple_mul (F.args_tuple_mul_2 _ _) (mul_tup_one l its.toArray n dd sl k t h1 (by rw [e1]; simp)) ⟨ho, ?_⟩
    exact ⟨.ref l, H, I, rfl, q l H (Same.refl H) (by rw [e1]; simpa using hH)⟩
  · have h2 : (its.toArray.isEmpty || k == 1) = false := by rw [hine, Bool.false_or]; simpa using e1
    by_cases e0 : k ≤ 0
    · refine call_meets F.slot_tuple_mul ⟨_, ho, rfl⟩ F.entry_tuple_mul (F.args_tuple_mul_2 _ _) (mul_tup_nil l its.toArray n dd sl k t h1 h2 (by rw [decide_eq_true e0]; rfl)) ⟨ho, ?_⟩
      refine ⟨.ref s.heap.objs.size, _, I.laid (t' := s.toks) (o := .tup []) (fun b ob q => Heap.get?_push_of_some _ q) (Nat.le_refl _) ?_, rfl, q _ _ (Same.new (I.hok.fresh (Nat.le_refl _))) ?_⟩
      · exact ⟨Nat.zero_le _, [], .nil, IsTup.new _ _⟩
      · rw [show k.toNat = 0 by omega]; exact SqT.of upd_same
    · have hs0 : its.toArray.size ≤ 1000 := by rw [List.size_toArray, ← hl]; exact hxl
      have hprod : its.toArray.size * k.toNat ≤ 1000000 := Nat.le_trans (Nat.mul_le_mul hs0 (show k.toNat ≤ 1000 by omega)) (by decide)
      have hprodI : (its.toArray.size : Int) * k ≤ 1000000 := by
        have : (its.toArray.size : Int) * k = ((its.toArray.size * k.toNat : Nat) : Int) := by
          rw [Int.natCast_mul, Int.toNat_of_nonneg (by omega)]
        rw [this]; omega
      have hsz : (List.foldl (fun x1 x2 => x1 ++ x2) #[] (List.replicate k.toNat its.toArray)).size ≤ sizeLine := by
        rw [AutoListH.size_joined, sizeLine_eq, Array.size_empty, Nat.mul_comm]; omega
      have hnew : List.foldl (fun x1 x2 => x1 ++ x2) #[] (List.replicate k.toNat its.toArray) = (List.replicate k.toNat its).flatten.toArray := by
        have := foldl_rep its k.toNat []
        rw [List.nil_append] at this
        exact this
      refine call_meets F.slot_tuple_mul ⟨_, ho, rfl⟩ F.entry_tuple_mul (F.args_tuple_mul_2 _ _) (mul_tup_more l its.toArray n dd sl k t h1 h2 (by rw [decide_eq_false e0, hine]; rfl) (by omega) ?_ hsz) ⟨ho, ?_⟩
      · unfold Builtin.Tuple.tupleTooMany
        exact decide_eq_false (by rw [sizeLine_eq]; omega)
      · rw [hnew]
        refine ⟨.ref s.heap.objs.size, _, I.laid (t' := s.toks) (o := .tup (List.replicate k.toNat xs).flatten) (fun b ob q => Heap.get?_push_of_some _ q) (Nat.le_refl _) ?_, rfl, q _ _ (Same.new (I.hok.fresh (Nat.le_refl _))) (SqT.of upd_same)⟩
        refine ⟨?_, _, r.rep k.toNat, IsTup.new _ _⟩
        rw [len_rep, sizeLine_eq, hl, Nat.mul_comm]
        rw [List.size_toArray] at hprod
        omega
theorem draw_list {prog : Program} {w : World} {A : Around} {E : Value → Shared → Prop} {it t : Addr} {items : Array Value} (hne : t ≠ it) : ∀ (n i : Nat) (s : Shared) (Q : List Value → Shared → Prop), s.heap.IsListIter it t i → s.heap.IsList t items → i + n ≤ items.size →
    (∀ h', h'.IsListIter it t (i + n) → Heap.SameBut it s.heap h' → Q ((items.toList.drop i).take n) { s with heap := h' }) → wpAny (model prog w) A (draw (.ref it) n) Q E s
  | 0, i, s, Q, hit, _, _, hQ => by
    show wpAny _ _ (pure []) Q E s
    exact wpAny_pure (by simpa using hQ s.heap hit (Heap.SameBut.refl ..))
  | n + 1, i, s, Q, hit, ht, hle, hQ => by
    have hlt : i < items.size := by omega
    show wpAny _ _ (pyNext (.ref it) >>= _) Q E s
    refine wpAny_bind (wpAny_pyNext_list_item hit ht (x := items[i]) (by simp [hlt]) fun h₁ hit₁ hs₁ => ?_)
    refine wpAny_bind (wpAny_holding (draw_list hne n (i + 1) _ _ hit₁ (ht.extBut hs₁.extBut hne) (by omega) fun h₂ hit₂ hs₂ => wpAny_pure ?_))
    have hd : items.toList.drop i = items[i] :: items.toList.drop (i + 1) := by simp [List.drop_eq_getElem_cons, hlt]
    have := hQ h₂ (by rw [show i + (n + 1) = i + 1 + n by omega]; exact hit₂) (hs₁.trans hs₂)
    rw [hd, List.take_succ_cons] at this
    exact this
theorem unpackItems_list {prog : Program} {w : World} {A : Around} {E : Value → Shared → Prop} {s : Shared} {t : Addr} {items : Array Value} {Q : List Value → Shared → Prop} (hh : A.handled = none) (ht : s.heap.IsList t items)
    (hQ : ∀ h', Heap.ExtBut s.heap.objs.size s.heap h' → Q items.toList { s with heap := h' }) : wpAny (model prog w) A (unpackItems (.ref t) items.size none) Q E s := by
  have hlt : t ≠ s.heap.objs.size := by obtain ⟨o, ho, _⟩ := ht; exact Nat.ne_of_lt (Heap.lt_size ho)
  unfold unpackItems
  refine wpAny_bind ?_
  unfold notIterableAtAll
  refine wpAny_bind (wpAny_specialOf ht.typeIs slot_list_iter.lookup ?_)
  refine wpAny_pure ?_
  simp only [Bool.false_eq_true, if_false]
  refine wpAny_bind (wpAny_holding (wpAny_pyIter_list ht ?_))
  refine wpAny_bind (wpAny_holding (draw_list hlt items.size 0 _ _ ⟨_, Heap.get?_push_size _ rfl, rfl, rfl⟩ (ht.push _) (by omega) fun h₁ hit₁ hs₁ => ?_))
  have hall : List.take items.size (List.drop 0 items.toList) = items.toList := by
    rw [List.drop_zero]; exact List.take_of_length_le (by simp)
  rw [hall]
  rw [if_neg (by simp)]
  have ht₁ : h₁.IsList t items := (ht.push _).extBut hs₁.extBut hlt
  refine wpAny_bind (wpAny_holding (wpAny_pyNext_list_end hh hit₁ ht₁ (by simp) fun h₂ he₂ => ?_))
  simp only [Option.isSome_none, Bool.false_eq_true, if_false]
  refine wpAny_pure (hQ h₂ fun b o hb e => he₂ b o hb (hs₁.extBut b o hb (Heap.get?_push_of_some _ e)))
def gLst (K : PySem.W.Frag) (n : Nat) (t : TGs) : TG := fun v σ H Q => ∃ a xs, v = .ref a ∧ SqL K H a xs ∧ xs.length = n ∧ t xs σ H Q
theorem pg_lst {es : List Expr} {k : Nat} {t : TGs} {n : Nat} {pos : Pos} (hc : X.calm = true) (h : PGs X es t)
    (hn : (assignEach es X.env).length = n := by rfl) (hst : (assignEach es X.env).findIdx? (·.1) = none := by rfl) : PG X (.Tuple es k pos) (gLst X.K n t) := by
  intro pins s σ H v u Q I r hw
  obtain ⟨a, xs, e1, hq, hl, hw⟩ := hw
  subst e1
  cases r
  obtain ⟨its, rv, ht, hz⟩ := I.list hq
  rw [assign_Tuple]
  refine wpAny_bind (wpAny_standAt ?_)
  unfold unpack
  rw [show (assignEach es X.env).length = its.toArray.size by rw [hn, ← hl, rv.length, List.size_toArray], hst]
  refine wpAny_bind (wpAny_holding (unpackItems_list (I.ok.hd hc) ht.isList fun h' hx => ?_))
  have I1 : Inv X pins σ H { s with heap := h' } := I.kept (t' := s.toks) fun b o e => hx b o (Nat.ne_of_lt (Heap.lt_size e)) e
  exact h pins _ σ H xs _ Q I1 (by simpa using rv) hw
end
end L2
set_option Elab.async false
set_option linter.all false
set_option maxRecDepth 100000
namespace L2
open PySem PySem.Spec PyProof.Rows
def lcChk (N N' : List Str) (M : List (Option Nat)) (sc osc : Scope) : Bool :=
  (sc.kind == .function) && (N'.length == M.length) && (sc.names.all fun y => y.2 != NameKind.cell) && (sc.names.all fun y => y.2 != NameKind.local || sc.names.lookup y.1 == some NameKind.local) &&
  (sc.names.all fun y => y.2 != NameKind.free || (osc.names.lookup y.1 == some NameKind.cell || osc.names.lookup y.1 == some NameKind.free)) &&
  ((N'.zip M).all fun p => match p.2 with | none => true | some j => N[j]? == some p.1 && sc.names.lookup p.1 == some NameKind.free)
theorem nk_eq {a b : NameKind} (h : (a == b) = true) : a = b := by
  cases a <;> cases b <;> first | rfl | exact absurd h (by decide)
theorem nko_eq {a : Option NameKind} {b : NameKind} (h : (a == some b) = true) : a = some b := by
  cases a with
  | none => exact absurd h (by cases b <;> decide)
  | some x => rw [nk_eq (show (x == b) = true from h)]
theorem nk_ne {a b : NameKind} (h : (a != b) = true) : a ≠ b := by
  cases a <;> cases b <;> first | (intro z; cases z; done) | exact absurd h (by decide)
theorem lcSc_of {N N' : List Str} {M : List (Option Nat)} {sc osc : Scope} (h : lcChk N N' M sc osc = true) : LcSc N N' M sc osc := by
  unfold lcChk at h
  simp only [Bool.and_eq_true] at h
  obtain ⟨⟨⟨⟨⟨h1, h2⟩, h3⟩, h4⟩, h5⟩, h6⟩ := h
  have hl : N'.length = M.length := by simpa using h2
  refine ⟨?_, hl, fun y hy => nk_ne (List.all_eq_true.mp h3 y hy), fun y hy hk => ?_, fun y hy hk => ?_, fun i j e => ?_⟩
  · revert h1; cases sc.kind <;> intro h1 <;> first | rfl | exact absurd h1 (by decide)
  · have q := List.all_eq_true.mp h4 y hy
    rw [Bool.or_eq_true] at q
    rcases q with q | q
    · exact absurd hk (nk_ne q)
    · exact nko_eq q
  · have q := List.all_eq_true.mp h5 y hy
    rw [Bool.or_eq_true, Bool.or_eq_true] at q
    rcases q with q | q | q
    · exact absurd hk (nk_ne q)
    · exact .inl (nko_eq q)
    · exact .inr (nko_eq q)
  · have hi : i < M.length := (List.getElem?_eq_some_iff.mp e).1
    have hi' : i < N'.length := by rw [hl]; exact hi
    have em : (N'[i], some j) ∈ N'.zip M := by
      refine List.mem_iff_getElem?.mpr ⟨i, ?_⟩
      rw [List.getElem?_zip_eq_some]
      exact ⟨List.getElem?_eq_getElem hi', e⟩
    have q := List.all_eq_true.mp h6 _ em
    simp only [Bool.and_eq_true] at q
    exact ⟨N'[i], List.getElem?_eq_getElem hi', by simpa using q.1, nko_eq q.2⟩
section
variable {K : PySem.W.Frag} {a : Addr} {xs : List V} {M : List (Option Nat)} {σ : St} {g : TG} {tc : TT} {te : TE} {F : List V → Hp → Prop} {H : Hp}
abbrev LcGoal (J : It) (M : List (Option Nat)) (σ : St) (g : TG) (tc : TT) (te : TE) (F : List V → Hp → Prop) (H1 : Hp) : Prop :=
  ∃ W : Nat → Nat → List V → Hp → Prop, (∃ m, W 0 m [] H1) ∧ ∀ i m ys H, W i m ys H → ys.length ≤ sizeLine ∧
    ((J.stop i H ∧ F ys H) ∨ (J.go i H ∧ ys.length < sizeLine ∧ ∃ N : List V → Hp → Prop, (∀ ys' H', N ys' H' → ∃ m', m' < m ∧ W (i + 1) m' ys' H') ∧ ∀ x H', J.yld i H x H' → g x (inSt M σ) H' fun σ2 H2 => tc σ2 H2 fun b H3 =>
      if b = true then te σ2 H3 fun v H4 => N (ys ++ [v]) H4 else N ys H3))
theorem lc_list (Pv : Nat → List V → Hp → Prop) (hz : xs.length ≤ sizeLine) (h0 : Pv 0 [] H) (hl : ∀ i ys H, i ≤ xs.length → Pv i ys H → SqL K H a xs ∧ ys.length ≤ i)
    (hs : ∀ i x ys H, xs[i]? = some x → Pv i ys H → g x (inSt M σ) H fun σ2 H2 => tc σ2 H2 fun b H3 => if b = true then te σ2 H3 fun v H4 => Pv (i + 1) (ys ++ [v]) H4 else Pv (i + 1) ys H3)
    (hd : ∀ ys H, Pv xs.length ys H → F ys H) : LcGoal (Itl K a) M σ g tc te F H := by
  refine ⟨fun i m ys H => m = xs.length - i ∧ i ≤ xs.length ∧ Pv i ys H, ⟨xs.length, by simp, Nat.zero_le _, h0⟩, ?_⟩
  rintro i m ys H ⟨rfl, hi, p⟩
  obtain ⟨q, hy⟩ := hl i ys H hi p
  refine ⟨by omega, ?_⟩
  by_cases hlt : i < xs.length
  · refine .inr ⟨⟨xs, xs[i], q, by simp [hlt]⟩, by omega, Pv (i + 1), fun ys' H' p' => ⟨xs.length - (i + 1), by omega, rfl, hlt, p'⟩, fun x H' y => ?_⟩
    obtain ⟨e, y⟩ := y
    subst e
    exact hs i x ys _ (y xs q) p
  · have e : i = xs.length := by omega
    subst e
    exact .inl ⟨⟨xs, q, Nat.le_refl _⟩, hd ys H p⟩
theorem lc_range {lo : Int} {n : Nat} (Pv : Nat → List V → Hp → Prop) (hz : n ≤ sizeLine) (h0 : Pv 0 [] H) (hl : ∀ i ys H, i ≤ n → Pv i ys H → ys.length ≤ i)
    (hs : ∀ i ys H, i < n → Pv i ys H → g (.int (lo + i)) (inSt M σ) H fun σ2 H2 => tc σ2 H2 fun b H3 => if b = true then te σ2 H3 fun v H4 => Pv (i + 1) (ys ++ [v]) H4 else Pv (i + 1) ys H3)
    (hd : ∀ ys H, Pv n ys H → F ys H) : LcGoal (Itr lo n) M σ g tc te F H := by
  refine ⟨fun i m ys H => m = n - i ∧ i ≤ n ∧ Pv i ys H, ⟨n, by simp, Nat.zero_le _, h0⟩, ?_⟩
  rintro i m ys H ⟨rfl, hi, p⟩
  have hy := hl i ys H hi p
  refine ⟨by omega, ?_⟩
  by_cases hlt : i < n
  · refine .inr ⟨hlt, by omega, Pv (i + 1), fun ys' H' p' => ⟨n - (i + 1), by omega, rfl, hlt, p'⟩, fun x H' y => ?_⟩
    obtain ⟨e, y⟩ := y
    subst e y
    exact hs i ys _ hlt p
  · have e : i = n := by omega
    subst e
    exact .inl ⟨Nat.le_refl _, hd ys H p⟩
theorem map_snoc {α : Type} (f : Nat → α) (i : Nat) : (List.range i).map f ++ [f i] = (List.range (i + 1)).map f := by rw [List.range_succ, List.map_append]; rfl
end
structure Cal (P : Program) (w : World) (K : PySem.W.Frag) (mg : Str → Option Value) (base : Heap) (k : Nat) (x : Str) (dvs : List V) (sp : Sp) : Prop where
  ex : ∃ f fd ps ds, FnOk P w K mg base CX0 k f fd ps sp ∧ mg x = some (.ref f) ∧ PySem.W.keepIn K (.ref f) = true ∧ Binds K fd ps ds ∧ Vals dvs ds
theorem pe_cal {X : Cx} {k : Nat} {x : Str} {dvs : List V} {sp : Sp} {e : Expr} {es : List Expr} {t : TA} {p pos : Pos} (c : Cal X.prog X.w X.K X.mg X.base k x dvs sp) (hr : Room k X.A) (hg : Gl X x) (ha : PA X (e :: es) t) (hd : (x == ("__debug__" : Str)) = false := by decide)
    (he : starEach (e :: es) X.env = (false, eval e X.env) :: starEach es X.env := by rfl) (hpl : (backTo pos (starEach es X.env)).any (·.1) = false := by rfl) :
    PE X (.Call (.Name x p) (e :: es) [] pos) (tCall sp dvs E0 t) := by
  obtain ⟨f, fd, ps, ds, F, hm, hk, hb, hv⟩ := c.ex
  exact pe_call F hr hg hm hk hb hv pass0 ha hd he hpl
end L2
set_option Elab.async false
set_option linter.all false
set_option maxRecDepth 100000
namespace L2
open PySem
abbrev Drawn' : List Int → List Int → Prop := Paired fun l r => 0 ≤ r ∧ r < l
def LimOk (l : Int) : Prop := 0 < l ∧ l.natAbs.log2 < 9000
def spDraw (K : PySem.W.Frag) : Sp := fun vs H Q _ => ∃ (c : Int) (a : Addr) (ls : List Int), vs = [.int c, .ref a] ∧ SqL K H a (ls.map V.int) ∧ (∀ l ∈ ls, LimOk l) ∧ ls.length ≤ 1000 ∧
  ∀ (p : Addr) (rs : List Int) (H' : Hp), H p = none → Same H H' → H' p = some (.lst (rs.map V.int)) → Drawn' ls rs → Q (.ref p) H'
def spCell (K : PySem.W.Frag) : Sp := fun vs H Q _ => ∃ (a : Addr) (ns : List Int) (k : Int), vs = [.ref a, .int k] ∧ SqL K H a (ns.map V.int) ∧ 0 ≤ k ∧ k ≤ 1000 ∧ ns.length ≤ 1000 ∧ ∀ z, Q (.int z) H
def spMany (K : PySem.W.Frag) : Sp := fun vs H Q _ => ∃ (a : Addr) (ns : List Int) (f : Int), vs = [.ref a, .int f] ∧ SqL K H a (ns.map V.int) ∧ ∀ z, f ≤ z → (z ≤ 63 ∨ z = f) → Q (.int z) H
def spSplit : Sp := fun vs H Q _ => ∃ (c n : Int) (w : Int), vs = [.int c, .int n, .int w] ∧ 0 ≤ n ∧ n ≤ 100 ∧ 0 ≤ w ∧ w ≤ 2 ∧
  ∀ (p : Addr) (rs : List Int) (H' : Hp), H p = none → Same H H' → H' p = some (.lst (rs.map V.int)) → rs.length = n.toNat → Q (.ref p) H'
def wayGo : Int → List Int → Bool
  | _, [] => true
  | f, w :: r => decide (0 ≤ w) && decide (w ≤ f) && wayGo (if w = f then f + 1 else f) r
def isWay (ns : List Int) : Bool := decide (1 ≤ ns.length) && decide (ns.length ≤ 9) && wayGo 0 ns
def spWay (K : PySem.W.Frag) : Sp := fun vs H Q _ => ∃ (c n : Int), vs = [.int c, .int n] ∧ 1 ≤ n ∧ n ≤ 9 ∧
  ∀ (p : Addr) (ws : List Int) (H' : Hp), H p = none → Same H H' → H' p = some (.tup (ws.map V.int)) → ws.length = n.toNat → isWay ws = true → Q (.ref p) H'
theorem getI {ns : List Int} {i : Nat} {y : V} (h : (ns.map V.int)[i]? = some y) : ∃ z, y = V.int z ∧ ns[i]? = some z ∧ i < ns.length := by
  rw [List.getElem?_map] at h
  cases e : ns[i]? with
  | none => rw [e] at h; cases h
  | some z => rw [e] at h; exact ⟨z, (Option.some.inj h).symm, rfl, (List.getElem?_eq_some_iff.mp e).1⟩
theorem mapV {ns : List Int} {z : Int} : ns.map V.int ++ [V.int z] = (ns ++ [z]).map V.int := by rw [List.map_append]; rfl
theorem nn63 : (sizeLine : Nat) = 16777216 := by decide
theorem le_line {n : Nat} (h : n ≤ 16777216) : n ≤ sizeLine := by rw [nn63]; exact h
theorem lt_line {n : Nat} (h : n < 16777216) : n < sizeLine := by rw [nn63]; exact h
theorem ltm (l : List Int) : (l.map V.int).length = l.length := List.length_map ..
theorem drawn_snoc {ls rs : List Int} {l r : Int} (h : Drawn' ls rs) (h1 : 0 ≤ r) (h2 : r < l) : Drawn' (ls ++ [l]) (rs ++ [r]) := Paired.snoc h ⟨h1, h2⟩
theorem take_snoc {α : Type} {l : List α} {i : Nat} {x : α} (h : l[i]? = some x) : l.take (i + 1) = l.take i ++ [x] := by
  rw [List.take_add_one, h]; rfl
theorem modB (z : Int) {l : Int} (h : 0 < l) : 0 ≤ z % l ∧ z % l < l := ⟨Int.emod_nonneg _ (Int.ne_of_gt h), Int.emod_lt_of_pos _ h⟩
theorem p0 {n : Nat} : (0 : Int) < ((n + 1 : Nat) : Int) := Int.natCast_pos.mpr (Nat.succ_pos n)
theorem ite_P {c : Prop} [Decidable c] {ta tb : TE} {σ : St} {H : Hp} {Q : VK} (P : Int → Prop) (h : ∀ r, P r → Q (.int r) H) (ha : ∀ Q' : VK, (∀ r, P r → Q' (.int r) H) → ta σ H Q') (hb : ∀ Q' : VK, (∀ r, P r → Q' (.int r) H) → tb σ H Q') : if c then ta σ H Q else tb σ H Q := by
  split
  · exact ha _ h
  · exact hb _ h
end L2
set_option Elab.async false
set_option linter.all false
set_option maxRecDepth 100000
namespace L2
open PySem PySem.Spec PyProof.Rows
structure FunD (K : PySem.W.Frag) (x qual : Str) (st : Stmt) (f : Addr) (fd : FuncData) (ds : List Value) : Prop where
  ex : ∃ (oc : Value) (od : Option Addr) (T : Addr) (oT : Obj) (nT : Nat) (kV doc pm : Value) (an : Option Addr) (cdv ct : Value) (osl : Array (Option Value)),
    fd = PySem.W.fnOf x qual (defArgs st) (defBody st) (defScope st) (.ref T) kV doc pm an cdv ct ∧ K.lookup f = some ⟨oc, od, .func fd, osl⟩ ∧ PySem.W.codeIn K cdv qual = true ∧ K.lookup T = some oT ∧ oT.data = .seq ds.toArray nT
  kp : PySem.W.keepIn K (.ref f) = true
section
variable {P : Program} {w : World} {K : PySem.W.Frag} {mg : Str → Option Value} {base : Heap}
theorem FunD.ok {x qual : Str} {st : Stmt} {f : Addr} {fd : FuncData} {ds : List Value} {N ps : List Str} {k : Nat} {sp : Sp} (F : FunD K x qual st f fd ds) (S : FnScope N ps (defScope st)) (len : ∀ vs H Q E, sp vs H Q E → vs.length = ps.length)
    (hbody : ∀ (cdv : Value) (A : Around) (outer : List Env) (s : Shared) (H : Hp) (vs : List V) (Q : VK) (E : XK), Room k (A.deeper (envOfC qual (defScope st) s.heap.objs.size f cdv)) → sp vs H Q E →
      ∃ t, PSs (cxOf CX0 P w K mg base N qual (defScope st) f cdv A outer s H E).nox (defBody st) t ∧ t { nx := fun _ H' => Q .non H', rt := Q } (start N vs) H) : FnOk P w K mg base CX0 (k + 1) f fd ps sp := by
  obtain ⟨oc, od, T, oT, nT, kV, doc, pm, an, cdv, ct, osl, rfl, lk, hcd, _, _⟩ := F.ex
  refine fn_of lk hcd S len fun A outer s H vs Q E hr hsp => ?_
  obtain ⟨t, h, q⟩ := hbody cdv A outer s H vs Q E hr hsp
  exact ⟨t, h.nox, q⟩
theorem FunD.binds {x qual : Str} {st : Stmt} {f : Addr} {fd : FuncData} {ds es : List Value} {ps : List Str} (F : FunD K x qual st f fd ds)
    (h : ∀ (T : Addr) (kV doc pm : Value) (an : Option Addr) (cdv ct : Value) (us : List Value), (us ++ es).length = ps.length → ∃ kk, bindArgs (PySem.W.fnOf x qual (defArgs st) (defBody st) (defScope st) (.ref T) kV doc pm an cdv ct) ⟨us, []⟩ = seqItems? (.ref T) >>= kk ∧ kk (some ds.toArray) = pure (ps.zip (us ++ es))) : Binds K fd ps es := by
  obtain ⟨oc, od, T, oT, nT, kV, doc, pm, an, cdv, ct, osl, rfl, lk, hcd, lT, dT⟩ := F.ex
  intro s us KX hl
  obtain ⟨kk, e1, e2⟩ := h T kV doc pm an cdv ct us hl
  exact BindsTo.of_defaults rfl (KX _ _ lT) dT e1 e2
theorem funD_mk {x qual : Str} {st : Stmt} {f T : Addr} {oT : Obj} {nT : Nat} {ds : List Value} {oc : Value} {od an : Option Addr} {osl : Array (Option Value)} {kV doc pm cdv ct : Value} (l : K.lookup f = some ⟨oc, od, .func (PySem.W.fnOf x qual (defArgs st) (defBody st) (defScope st) (.ref T) kV doc pm an cdv ct), osl⟩)
    (c : PySem.W.codeIn K cdv qual = true) (k : PySem.W.keepIn K (.ref f) = true) (lT : K.lookup T = some oT) (dT : oT.data = .seq ds.toArray nT) : FunD K x qual st f (PySem.W.fnOf x qual (defArgs st) (defBody st) (defScope st) (.ref T) kV doc pm an cdv ct) ds := ⟨⟨oc, od, T, oT, nT, kV, doc, pm, an, cdv, ct, osl, rfl, l, c, lT, dT⟩, k⟩
theorem Fun.cal {x : Str} {qual : Str} {st : Stmt} {f : Addr} {fd : FuncData} {ps : List Str} {k : Nat} {sp : Sp} (F : Fun K x qual st f fd) (G : FnOk P w K mg base CX0 k f fd ps sp) (hm : mg x = some (.ref f))
    (h : ∀ (kV doc pm : Value) (an : Option Addr) (cdv ct : Value) (us : List Value), us.length = ps.length → bindArgs (PySem.W.fnOf x qual (defArgs st) (defBody st) (defScope st) .none kV doc pm an cdv ct) ⟨us, []⟩ = pure (ps.zip us)) : Cal P w K mg base k x [] sp :=
  ⟨f, fd, ps, [], G, hm, F.kp, F.binds h, .nil⟩
end
end L2
set_option Elab.async false
set_option linter.all false
namespace L2
open PySem
theorem IsMax.uniq {l : List Int} {m n : Int} (h : IsMax l m) (h' : IsMax l n) : m = n := Int.le_antisymm (h'.2 m h.1) (h.2 n h'.1)
def maxL : List Int → Int
  | [] => 0
  | a :: r => r.foldl max a
theorem foldl_max : ∀ (r : List Int) (a : Int), IsMax (a :: r) (r.foldl max a)
  | [], a => ⟨List.mem_cons_self, fun b hb => by rw [List.mem_singleton.mp hb]; exact Int.le_refl _⟩
  | b :: r, a => by
    obtain ⟨h1, h2⟩ := foldl_max r (max a b)
    refine ⟨?_, fun c hc => ?_⟩
    · show r.foldl max (max a b) ∈ a :: b :: r
      rcases List.mem_cons.mp h1 with e | e
      · rw [e]
        by_cases q : a ≤ b
        · rw [Int.max_eq_right q]; exact List.mem_cons_of_mem _ List.mem_cons_self
        · rw [Int.max_eq_left (by omega)]; exact List.mem_cons_self
      · exact List.mem_cons_of_mem _ (List.mem_cons_of_mem _ e)
    · show c ≤ r.foldl max (max a b)
      have q := h2 (max a b) List.mem_cons_self
      rcases List.mem_cons.mp hc with e | e
      · rw [e]; have := Int.le_max_left a b; omega
      · rcases List.mem_cons.mp e with e | e
        · rw [e]; have := Int.le_max_right a b; omega
        · exact h2 c (List.mem_cons_of_mem _ e)
theorem maxL_is {l : List Int} (h : l ≠ []) : IsMax l (maxL l) := by
  cases l with
  | nil => exact absurd rfl h
  | cons a r => exact foldl_max r a
theorem IsMax.eq {l : List Int} {m : Int} (h : IsMax l m) : m = maxL l := h.uniq (maxL_is (by rintro rfl; exact absurd h.1 (by simp)))
def fresh (f : Int) (xs : List Int) : Int := xs.foldl (fun f w => if w = f then f + 1 else f) f
theorem fresh_snoc (f : Int) (xs : List Int) (z : Int) : fresh f (xs ++ [z]) = if z = fresh f xs then fresh f xs + 1 else fresh f xs := by
  unfold fresh; rw [List.foldl_append]; rfl
theorem wayGo_snoc : ∀ (xs : List Int) (f z : Int), wayGo f (xs ++ [z]) = (wayGo f xs && (decide (0 ≤ z) && decide (z ≤ fresh f xs)))
  | [], f, z => by
    show (decide (0 ≤ z) && decide (z ≤ f) && true) = (true && _)
    rw [Bool.and_true, Bool.true_and]; rfl
  | w :: r, f, z => by
    show (decide (0 ≤ w) && decide (w ≤ f) && wayGo (if w = f then f + 1 else f) (r ++ [z])) = ((decide (0 ≤ w) && decide (w ≤ f) && wayGo (if w = f then f + 1 else f) r) && _)
    rw [wayGo_snoc r, Bool.and_assoc, Bool.and_assoc, Bool.and_assoc]; rfl
theorem snoc_ind {α : Type} {P : List α → Prop} (h0 : P []) (h1 : ∀ xs z, P xs → P (xs ++ [z])) (l : List α) : P l := by
  have : ∀ n (l : List α), l.length = n → P l := by
    intro n
    induction n with
    | zero => intro l e; rw [List.length_eq_zero_iff.mp e]; exact h0
    | succ n ih =>
      intro l e
      have hl : l ≠ [] := by rintro rfl; simp at e
      rw [← List.dropLast_concat_getLast hl]
      exact h1 _ _ (ih _ (by rw [List.length_dropLast, e]; rfl))
  exact this _ l rfl
theorem fresh_max (xs : List Int) : wayGo 0 xs = true → IsMax (-1 :: xs) (fresh 0 xs - 1) := by
  refine snoc_ind (P := fun xs => wayGo 0 xs = true → IsMax (-1 :: xs) (fresh 0 xs - 1)) ?_ ?_ xs
  · intro _
    exact ⟨by simp [fresh], fun a ha => by simp at ha; simp [fresh, ha]⟩
  · intro xs z ih h
    rw [wayGo_snoc, Bool.and_eq_true, Bool.and_eq_true] at h
    obtain ⟨h1, h2, h3⟩ := h
    have h2 := of_decide_eq_true h2
    have h3 := of_decide_eq_true h3
    obtain ⟨i1, i2⟩ := ih h1
    rw [fresh_snoc]
    by_cases e : z = fresh 0 xs
    · rw [if_pos e]
      refine ⟨by rw [e]; simp, fun a ha => ?_⟩
      rcases List.mem_cons.mp ha with q | q
      · omega
      · rcases List.mem_append.mp q with q | q
        · have := i2 a (List.mem_cons_of_mem _ q); omega
        · rw [List.mem_singleton.mp q]; omega
    · rw [if_neg e]
      refine ⟨?_, fun a ha => ?_⟩
      · rcases List.mem_cons.mp i1 with q | q
        · rw [q]; exact List.mem_cons_self
        · exact List.mem_cons_of_mem _ (List.mem_append_left _ q)
      · rcases List.mem_cons.mp ha with q | q
        · rw [q]; exact i2 _ List.mem_cons_self
        · rcases List.mem_append.mp q with q | q
          · exact i2 a (List.mem_cons_of_mem _ q)
          · rw [List.mem_singleton.mp q]; omega
theorem fresh_pos {xs : List Int} (h : wayGo 0 xs = true) (hne : xs ≠ []) : 1 ≤ fresh 0 xs ∧ IsMax xs (fresh 0 xs - 1) := by
  obtain ⟨i1, i2⟩ := fresh_max xs h
  cases xs with
  | nil => exact absurd rfl hne
  | cons w r =>
    have hw : 0 ≤ w := by
      have h' : (decide (0 ≤ w) && decide (w ≤ 0) && wayGo (if w = 0 then 0 + 1 else 0) r) = true := h
      rw [Bool.and_eq_true, Bool.and_eq_true] at h'
      exact of_decide_eq_true h'.1.1
    have := i2 w (by simp)
    refine ⟨by omega, ?_, fun a ha => i2 a (List.mem_cons_of_mem _ ha)⟩
    rcases List.mem_cons.mp i1 with q | q
    · omega
    · exact q
def rowAll (ns : List Int) : Bool := (List.range (ns.length - 1)).all fun i => decide (0 ≤ ns.getD (i + 1) 0) && decide (ns.getD (i + 1) 0 ≤ maxL (ns.take (i + 1)) + 1)
def rowOk (ns : List Int) : Bool := decide (1 ≤ ns.length) && decide (ns.length ≤ 9) && decide (ns.getD 0 1 = 0) && rowAll ns
theorem rowAll_snoc {xs : List Int} (h : xs ≠ []) (z : Int) : rowAll (xs ++ [z]) = (rowAll xs && (decide (0 ≤ z) && decide (z ≤ maxL xs + 1))) := by
  unfold rowAll
  have hp : 0 < xs.length := List.length_pos_iff.mpr h
  have e1 : (xs ++ [z]).length - 1 = (xs.length - 1) + 1 := by rw [List.length_append]; simp; omega
  rw [e1, List.range_succ, List.all_append]
  congr 1
  · rw [Bool.eq_iff_iff, List.all_eq_true, List.all_eq_true]
    constructor
    · intro q i hi
      have q := q i hi
      have hi := List.mem_range.mp hi
      rw [List.getD_eq_getElem?_getD, List.getElem?_append_left (by omega), ← List.getD_eq_getElem?_getD, List.take_append_of_le_length (by omega)] at q
      exact q
    · intro q i hi
      have q := q i hi
      have hi := List.mem_range.mp hi
      rw [List.getD_eq_getElem?_getD, List.getElem?_append_left (by omega), ← List.getD_eq_getElem?_getD, List.take_append_of_le_length (by omega)]
      exact q
  · have e2 : xs.length - 1 + 1 = xs.length := by omega
    simp only [List.all_cons, List.all_nil, Bool.and_true]
    rw [e2, List.getD_eq_getElem?_getD, List.getElem?_append_right (Nat.le_refl _), Nat.sub_self, List.take_append_of_le_length (Nat.le_refl _), List.take_length]
    rfl
theorem way_row (xs : List Int) : xs ≠ [] → wayGo 0 xs = (decide (xs.getD 0 1 = 0) && rowAll xs) := by
  refine snoc_ind (P := fun xs => xs ≠ [] → wayGo 0 xs = (decide (xs.getD 0 1 = 0) && rowAll xs)) (fun h => absurd rfl h) ?_ xs
  intro xs z ih _
  by_cases hx : xs = []
  · subst hx
    show (decide (0 ≤ z) && decide (z ≤ 0) && true) = (decide (z = 0) && true)
    rw [Bool.and_true, Bool.and_true, Bool.eq_iff_iff, Bool.and_eq_true, decide_eq_true_iff, decide_eq_true_iff, decide_eq_true_iff]
    omega
  · have e0 : (xs ++ [z]).getD 0 1 = xs.getD 0 1 := by
      rw [List.getD_eq_getElem?_getD, List.getElem?_append_left (List.length_pos_iff.mpr hx), ← List.getD_eq_getElem?_getD]
    rw [wayGo_snoc, rowAll_snoc hx, e0, ih hx, ← Bool.and_assoc (decide (xs.getD 0 1 = 0))]
    cases e : (decide (xs.getD 0 1 = 0) && rowAll xs) with
    | false => simp
    | true =>
      rw [Bool.true_and, Bool.true_and]
      have q := (fresh_pos (by rw [ih hx]; exact e) hx).2.eq
      rw [show fresh 0 xs = maxL xs + 1 by omega]
theorem way_rowOk (ns : List Int) : isWay ns = rowOk ns := by
  unfold isWay rowOk
  by_cases h : ns = []
  · subst h; rfl
  · rw [way_row ns h, ← Bool.and_assoc]
end L2
set_option Elab.async false
set_option linter.all false
namespace L2
open PySem
theorem cut_take (xs : List V) (k : Nat) : cutV xs none (some (k : Int)) = xs.take k := by
  unfold cutV
  rw [HT.sIx_none, HT.sIx_nat, List.drop_zero, Nat.sub_zero]
  by_cases h : k ≤ xs.length
  · rw [Nat.min_eq_left h]
  · rw [Nat.min_eq_right (by omega), List.take_of_length_le (Nat.le_refl _), List.take_of_length_le (by omega)]
theorem cut_drop (xs : List V) (k : Nat) : cutV xs (some (k : Int)) none = xs.drop k := by
  unfold cutV
  rw [HT.sIx_none, HT.sIx_nat]
  by_cases h : k ≤ xs.length
  · rw [Nat.min_eq_left h, List.take_of_length_le (by rw [List.length_drop]; exact Nat.le_refl _)]
  · rw [Nat.min_eq_right (by omega), List.drop_of_length_le (Nat.le_refl _), List.drop_of_length_le (by omega)]
    simp
theorem cut_ints (ns : List Int) (lo hi : Option Int) : ∃ ms : List Int, cutV (ns.map V.int) lo hi = ms.map V.int ∧ ms.length ≤ ns.length := by
  refine ⟨(ns.drop (HT.sIx ns.length 0 lo)).take (HT.sIx ns.length ns.length hi - HT.sIx ns.length 0 lo), ?_, ?_⟩
  · unfold cutV; rw [ltm, List.map_take, List.map_drop]
  · rw [List.length_take, List.length_drop]; omega
theorem cut_take_int (ns : List Int) (k : Nat) : cutV (ns.map V.int) none (some (k : Int)) = (ns.take k).map V.int := by rw [cut_take, List.map_take]
theorem cut_drop_int (ns : List Int) (k : Nat) : cutV (ns.map V.int) (some (k : Int)) none = (ns.drop k).map V.int := by rw [cut_drop, List.map_drop]
theorem atI_int {ns : List Int} {i : Int} {z : Int} (h0 : 0 ≤ i) (h : ns[i.toNat]? = some z) : atI (ns.map V.int) i = some (V.int z) := by
  have := atI_nat (xs := ns.map V.int) (j := i.toNat) (v := V.int z) (by rw [List.getElem?_map, h]; rfl)
  rw [Int.toNat_of_nonneg h0] at this
  exact this
theorem atI_lt {ns : List Int} {i : Int} (h0 : 0 ≤ i) (h1 : i < ns.length) : atI (ns.map V.int) i = some (V.int (ns.getD i.toNat 0)) := by
  refine atI_int h0 ?_
  have : i.toNat < ns.length := by omega
  rw [List.getElem?_eq_getElem this, List.getD_eq_getElem?_getD, List.getElem?_eq_getElem this]; rfl
theorem mapV2 (f : Nat → Int) (n : Nat) : ((List.range n).map fun j => V.int (f j)) = ((List.range n).map f).map V.int := by rw [List.map_map]; rfl
theorem mapB2 (f : Nat → Bool) (n : Nat) : ((List.range n).map fun j => V.bl (f j)) = ((List.range n).map f).map V.bl := by rw [List.map_map]; rfl
theorem Drawn'.uncons {l : Int} {ls rs : List Int} (h : Drawn' (l :: ls) rs) : ∃ r rs', rs = r :: rs' ∧ 0 ≤ r ∧ r < l ∧ Drawn' ls rs' := by
  cases h with
  | cons h t => exact ⟨_, _, rfl, h.1, h.2, t⟩
theorem limOk_small {l : Int} (h0 : 0 < l) (h1 : l < 1000000) : LimOk l := by
  refine ⟨h0, ?_⟩
  by_cases h : l.natAbs = 0
  · omega
  · exact Nat.lt_of_lt_of_le (Nat.log2_lt h |>.mpr (show l.natAbs < 2 ^ 20 by omega)) (by decide)
end L2
set_option Elab.async false
set_option linter.all false
namespace L2
open PySem PySem.Spec PyProof.Rows
section
variable {X : Cx} {K : PySem.W.Frag}
theorem kix_list (h : X.K = K := by rfl) : IxR X (rIxL K) := by subst h; exact ix_list
theorem kix_tup (h : X.K = K := by rfl) : IxR X (rIxT K) := by subst h; exact ix_tup
theorem ksl_list (h : X.K = K := by rfl) : SlR X (rSlL K) := by subst h; exact sl_list
theorem ksl_tup (h : X.K = K := by rfl) : SlR X (fun x lo hi H Q => ∃ a xs, x = .ref a ∧ SqT K H a xs ∧ ∀ p H', Same H H' → SqT K H' p (cutV xs lo hi) → Q (.ref p) H') := by subst h; exact sl_tupA
theorem kop_cat (h : X.K = K := by rfl) : OpR X (binaryOp .Add) (fun x y H Q => ∃ a b xs ys, x = .ref a ∧ y = .ref b ∧ SqT K H a xs ∧ SqT K H b ys ∧ xs.length + ys.length ≤ sizeLine ∧ ∀ p H', Same H H' → SqT K H' p (xs ++ ys) → Q (.ref p) H') := by subst h; exact op_catA
theorem kop_rep (h : X.K = K := by rfl) : OpR X (binaryOp .Mult) (fun x y H Q => ∃ a k xs, x = .ref a ∧ y = .int k ∧ SqT K H a xs ∧ xs ≠ [] ∧ k ≤ 1000 ∧ -1000 ≤ k ∧ xs.length ≤ 1000 ∧ ∀ p H', Same H H' → SqT K H' p (List.replicate k.toNat xs).flatten → Q (.ref p) H') := by subst h; exact op_repA
theorem kc_len (h : X.K = K := by rfl) : CallR X (.builtin "len") (fun xs H Q => ∃ p ys, xs = [.ref p] ∧ (SqL K H p ys ∨ SqT K H p ys) ∧ Q (.int ys.length) H) := by subst h; exact call_len_seq
theorem kc_max (hc : X.calm = true := by rfl) (h : X.K = K := by rfl) : CallR X (.builtin "max") (fun xs H Q => ∃ (a : Addr) (ns : List Int), xs = [.ref a] ∧ (SqL K H a (ns.map V.int) ∨ SqT K H a (ns.map V.int)) ∧ ns ≠ [] ∧ ∀ m, IsMax ns m → Q (.int m) H) := by subst h; exact call_maxL hc
theorem kc_sum (hc : X.calm = true := by rfl) (h : X.K = K := by rfl) : CallR X (.builtin "sum") (fun xs H Q => ∃ (a : Addr) (ns : List Int), xs = [.ref a] ∧ (SqL K H a (ns.map V.int) ∨ SqT K H a (ns.map V.int)) ∧ Q (.int ns.sum) H) := by subst h; exact call_sumL hc
theorem kc_all (hc : X.calm = true := by rfl) (h : X.K = K := by rfl) : CallR X (.builtin "all") (fun xs H Q => ∃ (a : Addr) (bs : List Bool), xs = [.ref a] ∧ (SqL K H a (bs.map V.bl) ∨ SqT K H a (bs.map V.bl)) ∧ Q (.bl (bs.all id)) H) := by subst h; exact call_allL hc
theorem kc_isi (h : X.K = K := by rfl) : CallR X (.builtin "isinstance") (fun xs H Q => ∃ x n t b, xs = [x, .ty n] ∧ TyOf K H x t ∧ PySem.W.kitOne K t (.type n) = some b ∧ Q (.bl b) H) := by subst h; exact call_isi
theorem kc_tuple (h : X.K = K := by rfl) : CallR X (.type "tuple") (fun xs H Q => ∃ p ys, xs = [.ref p] ∧ ((SqL K H p ys ∧ ∀ l, H l = none → Q (.ref l) (upd H l (.tup ys))) ∨ (SqT K H p ys ∧ Q (.ref p) H))) := by subst h; exact call_tuple_of
theorem kc_list (h : X.K = K := by rfl) : CallR X (.type "list") (fun xs H Q => ∃ p ys, xs = [.ref p] ∧ (SqL K H p ys ∨ SqT K H p ys) ∧ ∀ l, H l = none → Q (.ref l) (upd H l (.lst ys))) := by subst h; exact call_list_of
theorem kc_max2 (hc : X.calm = true := by rfl) : CallR X (.builtin "max") (fun xs H Q => ∃ i j, xs = [.int i, .int j] ∧ Q (.int (if j > i then j else i)) H) := call_max2 hc
theorem kc_min2 (hc : X.calm = true := by rfl) : CallR X (.builtin "min") (fun xs H Q => ∃ i j, xs = [.int i, .int j] ∧ Q (.int (if j < i then j else i)) H) := call_min2 hc
theorem kpi_list {tg l : Expr} {tl : TE} (hl : PE X l tl) (h : X.K = K := by rfl) : PI X tg l (iList K tl) := by subst h; exact pi_list hl
theorem kpi_tup {tg l : Expr} {tl : TE} (hl : PE X l tl) (h : X.K = K := by rfl) : PI X tg l (iTup K tl) := by subst h; exact pi_tup hl
end
theorem mulOk_of {a b : Int} (h : (decide (Builtin.Int.intBits a ≤ 2 ^ 20) && decide (Builtin.Int.intBits b ≤ 2 ^ 20)) = true) : IntMulOk a b := by
  rw [Bool.and_eq_true] at h
  exact IntMulOk.of_bits (of_decide_eq_true h.1) (of_decide_eq_true h.2)
theorem lcN {i : Nat} {x : V} {te : TE} {σ : St} {H : Hp} {N : V → Hp → Prop} {N' : Hp → Prop} (h : te (σ.set i (some x)) H N) : gName i x σ H fun σ2 H2 => tYes σ2 H2 fun b H3 => if b = true then te σ2 H3 N else N' H3 := by
  show if true = true then te (σ.set i (some x)) H N else N' H
  rw [if_pos rfl]; exact h
end L2
set_option Elab.async false
set_option linter.all false
set_option maxRecDepth 100000
namespace L2
open PySem PySem.Spec PyProof.Rows
def CXE (P : Program) (w : World) : CXT := fun outer H s E e s' => ∃ (ea : Addr) (cls : Value) (H' : Hp) (B : Heap), e = .ref ea ∧ s'.os = s.os ∧ AllBare s'.gens ∧ Un (frs outer) [] H H' s.heap s'.heap ∧ HOk P w H' s'.heap ∧
  (∃ a0, Heap.FlyingW B outer ea cls a0 s'.heap) ∧ (∀ b o u, s'.heap.get? b = some o → H' b = some u → B.get? b = some o) ∧ (∀ b o, s.heap.get? b = some o → H b = none → b ∉ frs outer → B.get? b = some o) ∧
  (∀ b o, s.heap.get? b = some o → b ∉ frs outer → ∃ o', B.get? b = some o') ∧ E cls none H'
theorem ObjOk.get {P : Program} {w : World} {H : Hp} {h : Heap} {a : Addr} {o : HO} (x : ObjOk P w H h a o) : ∃ ob, h.get? a = some ob := by
  cases o with
  | lst xs => obtain ⟨_, _, _, _, e⟩ := x; exact ⟨_, e⟩
  | tup xs => obtain ⟨_, _, _, ob, e, _⟩ := x; exact ⟨ob, e⟩
  | dK kvs => obtain ⟨_, _, _, _, ob, _, _, e, _⟩ := x; exact ⟨ob, e⟩
  | dT kvs => obtain ⟨_, _, _, _, ob, _, _, e, _⟩ := x; exact ⟨ob, e⟩
  | set S n => obtain ⟨ob, _, _, _, e, _⟩ := x; exact ⟨ob, e⟩
  | ins C dx fs => obtain ⟨_, _, _, e, _⟩ := x; exact ⟨_, e⟩
  | own y => exact x
  | xd fs => obtain ⟨_, ⟨ob, _, _, e, _⟩, _⟩ := x; exact ⟨ob, e⟩
  | rng lo hi => obtain ⟨_, _, _, e⟩ := x; exact ⟨_, e⟩
  | frz ob u => obtain ⟨e, _⟩ := x; exact ⟨_, e⟩
  | tbl ps => exact ⟨_, x⟩
  | met f y => exact ⟨_, x⟩
  | ext φ => obtain ⟨_, e, _⟩ := x; exact e
section
variable {X : Cx} {pins : List (Addr × Obj)} {σ : St} {H : Hp} {s : Shared}
theorem cxe_mk {B h' : Heap} {ea : Addr} {cls a0 : Value} {E : XK} (I : Inv X pins σ H s) (hex : X.ex = []) (fl : Heap.FlyingW B X.outer ea cls a0 h')
    (fr : ∀ b ∈ frs X.outer, ∀ o, s.heap.get? b = some o → (∀ vs, o.data ≠ .fields vs) → ∃ sl, h'.get? b = some { o with slots := sl })
    (c1 : ∀ b o u, s.heap.get? b = some o → H b = some u → B.get? b = some o) (c2 : ∀ b o, X.s₀.heap.get? b = some o → X.H₀ b = none → b ∉ X.fs → B.get? b = some o)
    (c3 : ∀ b o, X.s₀.heap.get? b = some o → b ∉ X.fs → ∃ o', B.get? b = some o') (hE : E cls none H) : CXE X.prog X.w X.outer X.H₀ X.s₀ E (.ref ea) { s with heap := h' } := by
  have nex : ∀ b : Addr, b ∉ X.ex := fun b => by rw [hex]; simp
  have hfr : ∀ b ∈ X.fs, ∃ o, s.heap.get? b = some o ∧ ∀ vs, o.data ≠ .fields vs := fun b hb => (I.funs.mem hb).2
  have tr : ∀ b o u, s.heap.get? b = some o → H b = some u → h'.get? b = some o := fun b o u e q => fl.1 b o (c1 b o u e q)
  refine ⟨ea, cls, H, B, rfl, I.os, I.bare, ⟨fun b o e n hb _ => fl.1 b o (c2 b o e n hb), fun b o e n hb _ => ?_, fun b o e n _ => I.base.free b o e n (nex b), fun b o e _ => ?_, I.base.tups, I.base.frzs, I.base.tbls⟩, fun b u e => ?_, ⟨a0, fl⟩, fun b o u e q => ?_, c2, c3, hE⟩
  · obtain ⟨sl, e1⟩ := I.base.slot b o e n hb (nex b)
    obtain ⟨o1, e2, hd⟩ := hfr b hb
    obtain ⟨sl2, e3⟩ := fr b hb _ e2 hd
    rw [e1] at e2; cases e2
    exact ⟨sl2, e3⟩
  · by_cases hb : b ∈ X.fs
    · obtain ⟨o1, e2, hd⟩ := hfr b hb
      obtain ⟨sl2, e3⟩ := fr b hb _ e2 hd
      exact ⟨_, e3⟩
    · obtain ⟨o', e'⟩ := c3 b o e hb
      exact ⟨o', fl.1 b o' e'⟩
  · refine (I.hok b u e).stay (fun c v hc q => ?_) (fun _ q => q) fun _ _ q => q
    rcases hc with z | z
    · subst z; exact tr c v u q e
    · exact tr c v _ q z
  · obtain ⟨o1, e0⟩ := (I.hok b u q).get
    have q1 := tr b o1 u e0 q
    rw [e] at q1; cases q1
    exact c1 b o u e0 q
structure Fn0 (X : Cx) (E : XK) : Prop where
  xe : X.xe = fun e s' => wpAny (model X.prog X.w) X.A (leaving X.env e) (fun _ s'' => CXE X.prog X.w X.outer X.H₀ X.s₀ E e s'') (fun e' s'' => CXE X.prog X.w X.outer X.H₀ X.s₀ E e' s'') s'
  stk : X.stack = X.env :: X.outer
  frm : X.env.frame = some X.env.locals
  ex : X.ex = []
theorem Fn0.nstk (F : Fn0 X E) (I : Inv X pins σ H s) {b : Addr} {o : Obj} (e : X.s₀.heap.get? b = some o) (hb : b ∉ X.fs) : b ∉ frs X.stack := fun z => by
  rcases List.mem_cons.mp (I.stkSub b z) with q | q
  · exact absurd (Nat.lt_of_lt_of_le (Heap.lt_size e) I.ok.above) (by rw [q]; exact Nat.lt_irrefl _)
  · exact hb q
theorem pass_fn {E : XK} (F : Fn0 X E) : Passes (CXE X.prog X.w) X E := by
  intro pins σ H s e s' I h
  obtain ⟨ea, cls, H', B, rfl, os, bare, un, hok, ⟨a0, fl⟩, c1, c2, c3, hE⟩ := h
  have J : Inv X pins σ H' s' := I.call' os un hok bare fun b z => absurd z (by simp)
  rw [F.xe]
  rw [F.stk] at fl
  refine wpAny_leaves_onW (by rw [I.ok.frames, F.stk]) F.frm fl fun h'' fl'' ups => ?_
  have nex : ∀ b : Addr, b ∉ X.ex := fun b => by rw [F.ex]; simp
  refine cxe_mk J F.ex fl'' (fun b hb o e hd => ups b o e hd) c1 (fun b o e n hb => ?_) (fun b o e hb => ?_) hE
  · exact c2 b o (I.base.keep b o e n hb (nex b)) (I.base.free b o e n (nex b)) (F.nstk I e hb)
  · obtain ⟨o', e'⟩ := I.base.there b o e (nex b)
    exact c3 b o' e' (F.nstk I e hb)
abbrev bmV : List Value := [.type "ValueError", .type "Exception", .type "BaseException", .type "object"]
theorem excObj {K : PySem.W.Frag} {h : Heap} {C : Addr} (X : K.In h) (q : PySem.W.excIn K C bmV "ValueError.__new__" = true) :
    ∃ bm N nm q bs hdct sn sub ab col dd k0 k1 k2 k3 k5 mN, h.get? C = some (excClassObj nm q C N bs bm hdct sn sub ab col dd k0 k1 k2 k3 k5 "ValueError.__new__") ∧ h.Ns N mN ∧ mN "__init__" = none ∧ OwnTail h bmV bm := by
  unfold PySem.W.excIn at q
  split at q
  · rename_i dd cd sl ho
    split at q
    · rename_i C' bm k0 k1 k2 k3 n k5 hm hs
      simp only [Bool.and_eq_true, beq_iff_eq, Bool.not_eq_true'] at q
      obtain ⟨⟨⟨⟨⟨rfl, rfl⟩, hdel⟩, ht⟩, hok⟩, hni⟩ := q
      obtain ⟨nm, bs, mro, ns, qn, hd, sn, sub, ab, col, del⟩ := cd
      dsimp only at hm hdel hok hni
      subst hm hdel
      obtain ⟨l⟩ := sl
      simp only at hs
      subst hs
      exact ⟨bm, ns, nm, qn, bs, hd, sn, sub, ab, col, dd, k0, k1, k2, k3, k5, _, X _ _ ho, .of_isNs (PySem.W.isNs_of_in X hok), PySem.W.nsMap_none_of_in X hok hni, PySem.W.tail_of_in X ht⟩
    · cases q
  · cases q
theorem ps_raise {E : XK} {x : Str} {C : Addr} {e₀ : Expr} {rest : List Expr} {t : TA} {np cpos pos : Pos} (F : Fn0 X E) (hc : X.calm = true) (hg : Gl X x) (hm : X.mg x = some (.ref C)) (hq : PySem.W.excIn X.K C bmV "ValueError.__new__" = true) (ha : PA X (e₀ :: rest) t)
    (he : starEach (e₀ :: rest) X.env = (false, eval e₀ X.env) :: starEach rest X.env := by rfl) (hplain : (backTo cpos (starEach rest X.env)).any (·.1) = false := by rfl) (hd : (x == ("__debug__" : Str)) = false := by decide) :
    PS X (.Raise (some (.Call (.Name x np) (e₀ :: rest) [] cpos)) none pos) (fun _ σ H => t σ H fun vs H1 => vs.length ≤ sizeLine ∧ E (.ref C) none H1) := by
  intro pins s σ H D I h
  obtain ⟨bm, N, nm, q, bs, hdct, sn, sub, ab, col, dd, k0, k1, k2, k3, k5, mN, hC, hN, hni, T⟩ := excObj I.ok.mod.kin hq
  refine wpAny_Raise_call_subT (C := C) (nm := nm) (q := q) (N := N) (bs := bs) (bm := bm) (hdct := hdct) (sn := sn) (sub := sub) (ab := ab) (col := col) (dd := dd) (k0 := k0) (k1 := k1) (k2 := k2) (k3 := k3) (k5 := k5)
    PySem.F.excBase_ValueError (mN := mN) (T.hasType (by decide +kernel)) (I.ok.hd hc) (by rw [he]; show (false || (backTo cpos (starEach rest X.env)).any (·.1)) = false; rw [hplain]; rfl) hni (ld_glob I hg hm ⟨rfl, ?_⟩ hd)
  have hA := ha cpos pins s σ H _ I h
  rw [he] at hA ⊢
  refine Calls.evalArgs_plain (wpAny_mono hA (fun us s2 h2 => ?_) fun _ _ y => y)
  obtain ⟨vs, H1, I1, r, hl, hE⟩ := h2
  refine ⟨rfl, by rw [← r.length]; exact hl, I1.bk _ _ hC, hN.keeps I1.bk, T.keeps I1.bk, fun h' e hme => ?_⟩
  rw [F.xe]
  have hin : ∀ env ∈ X.env :: X.outer, ∀ b, env.frame = some b → b ∈ frs X.stack := fun env he b hb => by
    rw [F.stk]; exact List.mem_filterMap.mpr ⟨env, he, hb⟩
  have hstk := I1.stack
  rw [F.stk] at hstk
  refine wpAny_leaves_madeW (base := PySem.W.hideAll s2.heap (frs X.stack)) (by rw [I1.ok.frames, F.stk]) F.frm (fun b o q => PySem.W.of_hideAll _ q) (PySem.W.funFrames_hide hstk hin) hme fun h'' t fl tup bt ups => ?_
  have nex : ∀ b : Addr, b ∉ X.ex := fun b => by rw [F.ex]; simp
  show CXE X.prog X.w X.outer X.H₀ X.s₀ E (.ref e) { s2 with heap := h'' }
  refine cxe_mk I1 F.ex fl (fun b hb o e hd => ups b o (hme.keeps b o e) hd) (fun b o u e q => PySem.W.hideAll_get _ e fun z => ?_) (fun b o e n hb => PySem.W.hideAll_get _ (I1.base.keep b o e n hb (nex b)) (F.nstk I1 e hb)) (fun b o e hb => ?_) hE
  · rw [I1.stkFree b z] at q; cases q
  · obtain ⟨o', e'⟩ := I1.base.there b o e (nex b)
    exact ⟨o', PySem.W.hideAll_get _ e' (F.nstk I1 e hb)⟩
theorem Inv.slots {B h' : Heap} (I : Inv X pins σ H s) (hB : B.StaysIn h') (ups : s.heap.UpToSlots h') (c1 : ∀ b o u, s.heap.get? b = some o → H b = some u → B.get? b = some o)
    (c2 : ∀ b o, X.s₀.heap.get? b = some o → X.H₀ b = none → b ∉ X.fs → b ∉ X.ex → B.get? b = some o) (c3 : ∀ b o, X.s₀.heap.get? b = some o → b ∉ X.fs → b ∉ X.ex → ∃ o', B.get? b = some o')
    (c4 : ∀ p ∈ X.pn ++ pins, B.get? p.1 = some p.2) : Inv X pins σ H { s with heap := h' } := by
  have hfr : ∀ b ∈ X.fs, ∃ o, s.heap.get? b = some o ∧ ∀ vs, o.data ≠ .fields vs := fun b hb => (I.funs.mem hb).2
  have tr : ∀ b o u, s.heap.get? b = some o → H b = some u → h'.get? b = some o := fun b o u e q => hB b o (c1 b o u e q)
  have cl : ∀ c v, s.heap.IsCell c v → h'.IsCell c v := fun c v z => by
    obtain ⟨o, ho, hd⟩ := z
    obtain ⟨sl, e⟩ := ups c o ho fun vs q => by rw [hd] at q; cases q
    exact ⟨_, e, hd⟩
  refine ⟨I.ok, I.os, I.bare, ⟨fun b o e n hb hx => hB b o (c2 b o e n hb hx), fun b o e n hb hx => ?_, I.base.free, fun b o e hx => ?_, I.base.tups, I.base.frzs, I.base.tbls⟩, ?_, fun x c e => ?_, I.free, I.freeC, fun p hp => ?_, fun b u e => ?_, I.len⟩
  · obtain ⟨sl, e1⟩ := I.base.slot b o e n hb hx
    obtain ⟨o1, e2, hd⟩ := hfr b hb
    obtain ⟨sl2, e3⟩ := ups b _ e2 hd
    rw [e1] at e2; cases e2
    exact ⟨sl2, e3⟩
  · by_cases hb : b ∈ X.fs
    · obtain ⟨o1, e2, hd⟩ := hfr b hb
      obtain ⟨sl2, e3⟩ := ups b _ e2 hd
      exact ⟨_, e3⟩
    · obtain ⟨o', e'⟩ := c3 b o e hb hx
      exact ⟨o', hB b o' e'⟩
  · obtain ⟨m, hn, hl⟩ := I.loc
    refine ⟨m, ups.ns hn, fun i x v e1 e2 e3 => ?_⟩
    obtain ⟨u, ru, lk⟩ := hl i x v e1 e2 e3
    refine ⟨u, ru, ?_⟩
    rcases lk with lk | ⟨k, c, ec, z⟩
    · exact .inl lk
    · exact .inr ⟨k, c, ec, cl c _ z⟩
  · obtain ⟨v, z⟩ := I.cell x c e
    exact ⟨v, cl c v z⟩
  · obtain ⟨_, n, ne, nf, d⟩ := I.pin p hp
    exact ⟨hB _ _ (c4 p hp), n, ne, nf, d⟩
  · refine (I.hok b u e).stay (fun c v hc q => ?_) (fun _ q => q) fun _ _ q => q
    rcases hc with z | z
    · subst z; exact tr c v u q e
    · exact tr c v _ q z
abbrev Cx.alt (X : Cx) (pn : List (Addr × Obj)) (A : Around) (cm : Bool) (E : Value → Shared → Prop) : Cx := { X with pn := pn, A := A, calm := cm, xe := E }
theorem Inv.alt {pn : List (Addr × Obj)} {A : Around} {cm : Bool} {E : Value → Shared → Prop} {pins' : List (Addr × Obj)} (I : Inv X pins σ H s) (hfr : A.frames = X.A.frames) (hcm : cm = true → A.handled = none) (hp : ∀ p ∈ pn ++ pins', p ∈ X.pn ++ pins) : Inv (X.alt pn A cm E) pins' σ H s :=
  ⟨⟨I.ok.mod, I.ok.kind, I.ok.glob, I.ok.blt, I.ok.above, I.ok.inj, I.ok.has, I.ok.cab, hcm, hfr.trans I.ok.frames, I.ok.stk, I.ok.exf, I.ok.bs, I.ok.bsz, I.ok.noex, I.ok.exfs, I.ok.funs, I.ok.frf⟩, I.os, I.bare, I.base, I.loc, I.cell, I.free, I.freeC, fun p h => I.pin p (hp p h), I.hok, I.len⟩
def XB (X : Cx) (pins : List (Addr × Obj)) (E : XK) : Value → Shared → Prop := fun e s1 => ∃ (ea : Addr) (cls : Value) (H' : Hp) (B : Heap) (σ' : St), e = .ref ea ∧ Inv (X.alt (X.pn ++ pins) X.A X.calm fun _ _ => False) [] σ' H' s1 ∧ (∃ a0, Heap.FlyingW B X.stack ea cls a0 s1.heap) ∧
  (∀ b o u, s1.heap.get? b = some o → H' b = some u → B.get? b = some o) ∧ (∀ b o, X.s₀.heap.get? b = some o → X.H₀ b = none → b ∉ X.fs → b ∉ X.ex → B.get? b = some o) ∧ (∀ b o, X.s₀.heap.get? b = some o → b ∉ X.fs → b ∉ X.ex → ∃ o', B.get? b = some o') ∧ (∀ p ∈ X.pn ++ pins, B.get? p.1 = some p.2) ∧ E cls none H'
abbrev tryCx (X : Cx) (pins : List (Addr × Obj)) (E : XK) : Cx := X.alt (X.pn ++ pins) X.A X.calm (XB X pins E)
theorem pass_try {E : XK} : Passes (CXE X.prog X.w) (tryCx X pins E) E := by
  intro pins' σ H s e s' I h
  obtain ⟨ea, cls, H', B, rfl, os, bare, un, hok, fl, c1, c2, c3, hE⟩ := h
  have J : Inv (tryCx X pins E) pins' σ H' s' := I.call' os un hok bare fun b z => absurd z (by simp)
  have nst : ∀ b o, X.s₀.heap.get? b = some o → b ∉ X.fs → b ∉ frs X.stack := fun b o e hb z => by
    rcases List.mem_cons.mp (I.stkSub b z) with q | q
    · exact absurd (Nat.lt_of_lt_of_le (Heap.lt_size e) I.ok.above) (by rw [q]; exact Nat.lt_irrefl _)
    · exact hb q
  refine ⟨ea, cls, H', B, σ, rfl, J.alt rfl J.ok.hd fun p hp => ?_, fl, c1, fun b o e n hb hx => c2 b o (I.base.keep b o e n hb hx) (I.base.free b o e n hx) (nst b o e hb), fun b o e hb hx => ?_, fun p hp => ?_, hE⟩
  · exact List.mem_append_left _ (by simpa using hp)
  · obtain ⟨o', e'⟩ := I.base.there b o e hx
    exact c3 b o' e' (nst b o e hb)
  · obtain ⟨e, n, ne, nf, d⟩ := I.pin p (List.mem_append_left _ hp)
    refine c2 _ _ e n fun z => ?_
    rcases List.mem_cons.mp (I.stkSub _ z) with q | q
    · exact ne q
    · exact nf q
abbrev hndCx (X : Cx) (pins : List (Addr × Obj)) (ea : Addr) : Cx := X.alt (X.pn ++ pins) (X.A.mark (some (.ref ea))) false fun _ _ => False
def tTry (C : Addr) (n : Nat) (tb : XK → TS) (th : TS) : TS := fun D σ H => tb (fun c _ H' => c = .ref C ∧ th D (List.replicate n none) H') D σ H
theorem ps_try {x : Str} {C : Addr} {body : List Stmt} {b₀ : Stmt} {suite : List Stmt} {tb : XK → TS} {th : TS} {np hpos pos : Pos} (hst : X.stack = X.env :: X.outer) (hfm : X.env.frame = some X.env.locals) (hc : X.calm = true)
    (hg : Gl X x) (hm : X.mg x = some (.ref C)) (hq : PySem.W.excIn X.K C bmV "ValueError.__new__" = true) (hb : ∀ pins E, PSs (tryCx X pins E) body (tb E)) (hh : ∀ pins ea, PSs (hndCx X pins ea) (b₀ :: suite) th) (hd : (x == ("__debug__" : Str)) = false := by decide) :
    PS X (.Try body [.ExceptHandler (some (.Name x np)) none (b₀ :: suite) hpos] [] [] pos) (tTry C X.N.length tb th) := by
  intro pins s σ H D I h
  have back : ∀ {A : Around} {cm : Bool} {E : Value → Shared → Prop} {f : Flow} {s' : Shared}, SP (X.alt (X.pn ++ pins) A cm E) [] D f s' → SP X pins D f s' := fun {A cm E f s'} q => by
    have un : ∀ {σ' : St} {H' : Hp}, Inv (X.alt (X.pn ++ pins) A cm E) [] σ' H' s' → Inv X pins σ' H' s' := fun {σ' H'} J =>
      ⟨I.ok, J.os, J.bare, J.base, J.loc, J.cell, J.free, J.freeC, fun p hp => J.pin p (by simpa using hp), J.hok, J.len⟩
    cases f with
    | next => obtain ⟨σ', H', J, q⟩ := q; exact ⟨σ', H', un J, q⟩
    | brk => obtain ⟨σ', H', J, q⟩ := q; exact ⟨σ', H', un J, q⟩
    | cont => obtain ⟨σ', H', J, q⟩ := q; exact ⟨σ', H', un J, q⟩
    | ret v => obtain ⟨x', σ', H', J, r, q⟩ := q; exact ⟨x', σ', H', un J, r, q⟩
  have I0 : Inv (tryCx X pins (fun c _ H' => c = .ref C ∧ th D (List.replicate X.N.length none) H')) [] σ H s := I.alt rfl I.ok.hd fun p hp => by simpa using hp
  refine wpAny_Try_except (wpAny_mono (hb pins _ [] s σ H D I0 h) (fun f s1 q => ?_) (fun e s1 q => ?_))
  · have q' := back q
    cases f with
    | next => exact wpAny_execs_nil q'
    | brk => exact q'
    | cont => exact q'
    | ret v => exact q'
  · obtain ⟨ea, cls, H', B, σ', rfl, J, ⟨a0, fl⟩, c1, c2, c3, c4, hcls, hE⟩ := q
    subst hcls
    rw [hst] at fl
    refine wpAny_looks_onW (by rw [I.ok.frames, hst]) hfm fl fun h4 hheld hsm4 => ?_
    refine wpAny_landsW hheld fun h5 fl5 hsm5 => ?_
    have sm5 := hsm4.trans hsm5
    have J5 := J.slots fl5.1 sm5 c1 c2 c3 (fun p hp => c4 p (by simpa using hp))
    obtain ⟨ob, hob, hobc⟩ := fl5.there
    have Jh : Inv (hndCx X pins ea) [] σ' H' { s1 with heap := h5 } := J5.alt rfl (fun z => by cases z) fun p hp => hp
    refine wpAny_handleBy_cons (codeAny_handlers_test (ld_glob Jh hg hm ?_ hd)) (by intro q; cases q)
    obtain ⟨bm, N, nm, q, bs, hdct, sn, sub, ab, col, dd, k0, k1, k2, k3, k5, mN, hC, hN, hni, TL⟩ := excObj Jh.ok.mod.kin hq
    refine wpAny_excMatches_sub_self (Jh.bk _ _ hC) hob hobc (TL.hasType (by decide +kernel)) (codeAny_handlers_suite ?_)
    refine lands_againW fl5 fun h6 fl6 hsm6 => ?_
    have J6 := J.slots fl6.1 (sm5.trans hsm6) c1 c2 c3 (fun p hp => c4 p (by simpa using hp))
    have Jh6 : Inv (hndCx X pins ea) [] σ' H' { s1 with heap := h6 } := J6.alt rfl (fun z => by cases z) fun p hp => hp
    have Jw : Inv (hndCx X pins ea) [] (List.replicate X.N.length none) H' { s1 with heap := h6 } := Jh6.weak (by rw [List.length_replicate]; exact Jh6.len.symm) fun i v e => by
      rw [List.getElem?_replicate] at e
      split at e <;> cases e
    exact wpAny_mono (hh pins ea [] _ _ H' D Jw hE) (fun f s2 q2 => back q2) fun _ _ z => z.elim
end
section
variable {P : Program} {w : World} {K : PySem.W.Frag} {mg : Str → Option Value} {base : Heap}
theorem Fun.okE {x qual : Str} {st : Stmt} {f : Addr} {fd : FuncData} {N ps : List Str} {k : Nat} {sp : Sp} (F : Fun K x qual st f fd) (S : FnScope N ps (defScope st)) (len : ∀ vs H Q E, sp vs H Q E → vs.length = ps.length)
    (hbody : ∀ (cdv : Value) (A : Around) (outer : List Env) (s : Shared) (H : Hp) (vs : List V) (Q : VK) (E : XK), Room k (A.deeper (envOfC qual (defScope st) s.heap.objs.size f cdv)) → Fn0 (cxOf (CXE P w) P w K mg base N qual (defScope st) f cdv A outer s H E) E → sp vs H Q E →
      ∃ t, PSs (cxOf (CXE P w) P w K mg base N qual (defScope st) f cdv A outer s H E) (defBody st) t ∧ t { nx := fun _ H' => Q .non H', rt := Q } (start N vs) H) : FnOk P w K mg base (CXE P w) (k + 1) f fd ps sp := by
  obtain ⟨oc, od, kV, doc, pm, an, cdv, ct, osl, rfl, lk, hcd⟩ := F.ex
  exact fn_of lk hcd S len fun A outer s H vs Q E hr hsp => hbody cdv A outer s H vs Q E hr ⟨rfl, rfl, rfl, rfl⟩ hsp
structure CalE (P : Program) (w : World) (K : PySem.W.Frag) (mg : Str → Option Value) (base : Heap) (k : Nat) (x : Str) (dvs : List V) (sp : Sp) : Prop where
  ex : ∃ f fd ps ds, FnOk P w K mg base (CXE P w) k f fd ps sp ∧ mg x = some (.ref f) ∧ PySem.W.keepIn K (.ref f) = true ∧ Binds K fd ps ds ∧ Vals dvs ds
theorem Fun.calE {x : Str} {qual : Str} {st : Stmt} {f : Addr} {fd : FuncData} {ps : List Str} {k : Nat} {sp : Sp} (F : Fun K x qual st f fd) (G : FnOk P w K mg base (CXE P w) k f fd ps sp) (hm : mg x = some (.ref f))
    (h : ∀ (kV doc pm : Value) (an : Option Addr) (cdv ct : Value) (us : List Value), us.length = ps.length → bindArgs (PySem.W.fnOf x qual (defArgs st) (defBody st) (defScope st) .none kV doc pm an cdv ct) ⟨us, []⟩ = pure (ps.zip us)) : CalE P w K mg base k x [] sp :=
  ⟨f, fd, ps, [], G, hm, F.kp, F.binds h, .nil⟩
end
theorem pe_calE {X : Cx} {k : Nat} {x : Str} {dvs : List V} {sp : Sp} {E : XK} {e : Expr} {es : List Expr} {t : TA} {p pos : Pos} (c : CalE X.prog X.w X.K X.mg X.base k x dvs sp) (hr : Room k X.A) (hg : Gl X x) (hx : Passes (CXE X.prog X.w) X E) (ha : PA X (e :: es) t) (hd : (x == ("__debug__" : Str)) = false := by decide)
    (he : starEach (e :: es) X.env = (false, eval e X.env) :: starEach es X.env := by rfl) (hpl : (backTo pos (starEach es X.env)).any (·.1) = false := by rfl) :
    PE X (.Call (.Name x p) (e :: es) [] pos) (tCall sp dvs E t) := by
  obtain ⟨f, fd, ps, ds, F, hm, hk, hb, hv⟩ := c.ex
  exact pe_call F hr hg hm hk hb hv hx ha hd he hpl
end L2
set_option Elab.async false
set_option linter.all false
set_option maxRecDepth 100000
namespace L2
open PySem PySem.Spec PyProof.Rows
section
variable {κ : Type} [DecidableEq κ]
def valV (kvs : List (κ × V)) (k : κ) : Option V := (kvs.find? fun kv => decide (kv.1 = k)).map (·.2)
def putK (kvs : List (κ × V)) (k : κ) (v : V) : List (κ × V) :=
  if (kvs.any fun kv => decide (kv.1 = k)) = true then kvs.map (fun kv => if kv.1 = k then (kv.1, v) else kv) else kvs ++ [(k, v)]
def dropK (kvs : List (κ × V)) (k : κ) : List (κ × V) := kvs.filter fun kv => decide (kv.1 ≠ k)
theorem valV_pos {p : κ × V} {r : List (κ × V)} {k : κ} (e : p.1 = k) : valV (p :: r) k = some p.2 := by simp [valV, List.find?_cons, e]
theorem valV_neg {p : κ × V} {r : List (κ × V)} {k : κ} (e : ¬ p.1 = k) : valV (p :: r) k = valV r k := by simp [valV, List.find?_cons, e]
theorem valV_any (k : κ) : ∀ kvs : List (κ × V), (kvs.any fun kv => decide (kv.1 = k)) = (valV kvs k).isSome
  | [] => rfl
  | p :: r => by
    rw [List.any_cons]
    by_cases e : p.1 = k
    · simp only [valV_pos e, decide_eq_true e, Bool.true_or, Option.isSome_some]
    · rw [valV_neg e, decide_eq_false e, Bool.false_or]; exact valV_any k r
theorem RelO.isSome_eq {o : Option V} {u : Option Value} (r : RelO o u) : o.isSome = u.isSome := by
  cases o with
  | none => cases u with
    | none => rfl
    | some _ => exact (show False from r).elim
  | some _ => cases u with
    | none => exact (show False from r).elim
    | some _ => rfl
theorem RelO.getD {o : Option V} {u : Option Value} {d : V} {d' : Value} (r : RelO o u) (rd : RelV d d') : RelV (o.getD d) (u.getD d') := by
  cases o with
  | none => cases u with
    | none => exact rd
    | some _ => exact (show False from r).elim
  | some _ => cases u with
    | none => exact (show False from r).elim
    | some _ => exact r
theorem KV.val {kvs : List (κ × V)} {vs : List (κ × Value)} (r : KV kvs vs) (k : κ) : RelO (valV kvs k) (valueAt vs k) := by
  unfold KV at r
  induction r with
  | nil => exact True.intro
  | @cons p q ps qs h t ih =>
    obtain ⟨h1, h2⟩ := h
    by_cases e : p.1 = k
    · have e' : q.1 = k := h1.symm.trans e
      have b : valueAt (q :: qs) k = some q.2 := by simp [valueAt, List.find?_cons, e']
      rw [valV_pos e, b]; exact h2
    · have e' : ¬ q.1 = k := fun z => e (h1.trans z)
      have b : valueAt (q :: qs) k = valueAt qs k := by simp [valueAt, List.find?_cons, e']
      rw [valV_neg e, b]; exact ih
theorem KV.any {kvs : List (κ × V)} {vs : List (κ × Value)} (r : KV kvs vs) (k : κ) : (kvs.any fun kv => decide (kv.1 = k)) = vs.any fun kv => decide (kv.1 = k) := by
  unfold KV at r
  induction r with
  | nil => rfl
  | cons h t ih => rw [List.any_cons, List.any_cons, ih, h.1]
theorem KV.repl {kvs : List (κ × V)} {vs : List (κ × Value)} (r : KV kvs vs) (k : κ) {y : V} {u : Value} (ry : RelV y u) :
    KV (kvs.map fun kv => if kv.1 = k then (kv.1, y) else kv) (vs.map fun kv => if kv.1 = k then (kv.1, u) else kv) := by
  unfold KV at r ⊢
  induction r with
  | nil => exact .nil
  | @cons p q ps qs h t ih =>
    rw [List.map_cons, List.map_cons]
    refine .cons ?_ ih
    obtain ⟨h1, h2⟩ := h
    by_cases e : p.1 = k
    · rw [if_pos e, if_pos (h1.symm.trans e)]; exact ⟨h1, ry⟩
    · rw [if_neg e, if_neg (fun z => e (h1.trans z))]; exact ⟨h1, h2⟩
theorem KV.put {kvs : List (κ × V)} {vs : List (κ × Value)} (r : KV kvs vs) (k : κ) {y : V} {u : Value} (ry : RelV y u) : KV (putK kvs k y) (stored vs k u) := by
  unfold putK stored
  rw [r.any k]
  by_cases e : (vs.any fun kv => decide (kv.1 = k)) = true
  · rw [if_pos e, if_pos e]; exact r.repl k ry
  · rw [if_neg e, if_neg e]; exact Paired.snoc r ⟨rfl, ry⟩
theorem KV.drop {kvs : List (κ × V)} {vs : List (κ × Value)} (r : KV kvs vs) (k : κ) : KV (dropK kvs k) (without vs k) := by
  unfold KV at r ⊢
  unfold dropK without
  induction r with
  | nil => exact .nil
  | @cons p q ps qs h t ih =>
    obtain ⟨h1, h2⟩ := h
    rw [List.filter_cons, List.filter_cons]
    by_cases e : p.1 = k
    · have a : ¬ decide (p.1 ≠ k) = true := by simp [e]
      have b : ¬ decide (q.1 ≠ k) = true := by simp [h1.symm.trans e]
      rw [if_neg a, if_neg b]; exact ih
    · have e' : ¬ q.1 = k := fun z => e (h1.trans z)
      have a : decide (p.1 ≠ k) = true := by simp [e]
      have b : decide (q.1 ≠ k) = true := by simp [e']
      rw [if_pos a, if_pos b]; exact .cons ⟨h1, h2⟩ ih
theorem KV.keys {kvs : List (κ × V)} {vs : List (κ × Value)} (r : KV kvs vs) : kvs.map (·.1) = vs.map (·.1) := by
  unfold KV at r
  induction r with
  | nil => rfl
  | cons h t ih => rw [List.map_cons, List.map_cons, ih, h.1]
theorem KV.length {kvs : List (κ × V)} {vs : List (κ × Value)} (r : KV kvs vs) : kvs.length = vs.length := Paired.length r
end
abbrev KT (H : Hp) : List (List Key × V) → List (List Key × Addr × Value) → Prop := Paired fun p q => p.1 = q.1 ∧ H q.2.1 = some (.tup (p.1.map kV)) ∧ RelV p.2 q.2.2
theorem KT.val {H : Hp} {kvs : List (List Key × V)} {xs : List (List Key × Addr × Value)} (r : KT H kvs xs) (k : List Key) : RelO (valV kvs k) ((atKey xs k).map (·.2)) := by
  induction r with
  | nil => exact True.intro
  | @cons p q ps qs h t ih =>
    obtain ⟨h1, _, h2⟩ := h
    by_cases e : p.1 = k
    · have e' : q.1 = k := h1.symm.trans e
      have b : atKey (q :: qs) k = some q.2 := by simp [atKey, List.find?_cons, e']
      rw [valV_pos e, b]; exact h2
    · have e' : ¬ q.1 = k := fun z => e (h1.trans z)
      have b : atKey (q :: qs) k = atKey qs k := by simp [atKey, List.find?_cons, e']
      rw [valV_neg e, b]; exact ih
theorem KT.repl {H : Hp} {kvs : List (List Key × V)} {xs : List (List Key × Addr × Value)} (r : KT H kvs xs) (k : List Key) {y : V} {u : Value} (ry : RelV y u) :
    KT H (kvs.map fun kv => if kv.1 = k then (kv.1, y) else kv) (xs.map (putAt k u)) := by
  induction r with
  | nil => exact .nil
  | @cons p q ps qs h t ih =>
    rw [List.map_cons, List.map_cons]
    refine .cons ?_ ih
    obtain ⟨h1, h2, h3⟩ := h
    unfold putAt
    by_cases e : p.1 = k
    · rw [if_pos e, if_pos (h1.symm.trans e)]; exact ⟨h1, h2, ry⟩
    · rw [if_neg e, if_neg (fun z => e (h1.trans z))]; exact ⟨h1, h2, h3⟩
theorem KT.put {H : Hp} {kvs : List (List Key × V)} {xs : List (List Key × Addr × Value)} (r : KT H kvs xs) (k : List Key) {b : Addr} {y : V} {u : Value} (hb : H b = some (.tup (k.map kV))) (ry : RelV y u) :
    KT H (putK kvs k y) (storedH xs k b u) := by
  have e : (kvs.any fun kv => decide (kv.1 = k)) = (atKey xs k).isSome := by
    rw [valV_any, (r.val k).isSome_eq, Option.isSome_map]
  unfold putK storedH
  rw [e]
  by_cases q : (atKey xs k).isSome = true
  · rw [if_pos q, if_pos q]; exact r.repl k ry
  · rw [if_neg q, if_neg q]; exact Paired.snoc r ⟨rfl, hb, ry⟩
theorem KT.keeps {H H' : Hp} {kvs : List (List Key × V)} {xs : List (List Key × Addr × Value)} (r : KT H kvs xs) (ht : ∀ b ys, H b = some (.tup ys) → H' b = some (.tup ys)) : KT H' kvs xs :=
  Paired.mapP r fun _ _ z => ⟨z.1, ht _ _ z.2.1, z.2.2⟩
section
variable {P : Program} {w : World} {H : Hp} {h : Heap} {a : Addr}
end
def DGet (H : Hp) (a : Addr) (y : V) (r : Option V) : Prop :=
  (∃ kvs k, Rd H a (.dK kvs) ∧ y = kV k ∧ r = valV kvs k) ∨ ∃ kvs k b, Rd H a (.dT kvs) ∧ y = .ref b ∧ H b = some (.tup (k.map kV)) ∧ r = valV kvs k
def DPut (H : Hp) (a : Addr) (y v : V) (H' : Hp) : Prop :=
  (∃ kvs k, H a = some (.dK kvs) ∧ y = kV k ∧ kvs.length < sizeLine ∧ H' = upd H a (.dK (putK kvs k v))) ∨
  ∃ kvs k b, H a = some (.dT kvs) ∧ y = .ref b ∧ H b = some (.tup (k.map kV)) ∧ kvs.length < sizeLine ∧ H' = upd H a (.dT (putK kvs k v))
theorem DGet.k {H : Hp} {a : Addr} {kvs : List (Key × V)} {k : Key} (e : H a = some (.dK kvs)) : DGet H a (kV k) (valV kvs k) := .inl ⟨kvs, k, .inl e, rfl, rfl⟩
theorem DGet.t {H : Hp} {a b : Addr} {kvs : List (List Key × V)} {k : List Key} (e : H a = some (.dT kvs)) (eb : H b = some (.tup (k.map kV))) : DGet H a (.ref b) (valV kvs k) := .inr ⟨kvs, k, b, .inl e, rfl, eb, rfl⟩
theorem DPut.k {H : Hp} {a : Addr} {kvs : List (Key × V)} {k : Key} {v : V} (e : H a = some (.dK kvs)) (hl : kvs.length < sizeLine) : DPut H a (kV k) v (upd H a (.dK (putK kvs k v))) := .inl ⟨kvs, k, e, rfl, hl, rfl⟩
theorem DPut.t {H : Hp} {a b : Addr} {kvs : List (List Key × V)} {k : List Key} {v : V} (e : H a = some (.dT kvs)) (eb : H b = some (.tup (k.map kV))) (hl : kvs.length < sizeLine) :
    DPut H a (.ref b) v (upd H a (.dT (putK kvs k v))) := .inr ⟨kvs, k, b, e, rfl, eb, hl, rfl⟩
section
variable {X : Cx} {pins : List (Addr × Obj)} {σ : St} {H : Hp} {s : Shared} {a : Addr} {y v : V} {u r : Value} {o : Option V} {A : Around} {E : Value → Shared → Prop}
end
section
variable {X : Cx} {pins : List (Addr × Obj)} {σ : St} {H : Hp} {s : Shared} {a : Addr} {kvs : List (Key × V)} {k : Key} {u : Value} {A : Around} {E : Value → Shared → Prop}
end
section
variable {X : Cx} {o i e value : Expr} {pos pos' tpos : Pos} {td ty tv : TE}
end
section
variable {X : Cx} {pos : Pos}
end
section
variable {X : Cx} {pins : List (Addr × Obj)} {σ : St} {H : Hp} {s : Shared} {a : Addr} {y d : V} {u r : Value} {o : Option V} {A : Around} {E : Value → Shared → Prop}
end
section
variable {X : Cx} {o e f : Expr} {apos cpos : Pos} {td ty tx : TE}
end
section
variable {X : Cx} {pins : List (Addr × Obj)} {σ : St} {H : Hp} {s : Shared} {a : Addr} {kvs : List (Key × V)} {A : Around} {E : Value → Shared → Prop}
end
section
variable {X : Cx} {pins : List (Addr × Obj)} {σ : St} {H : Hp} {s : Shared} {a : Addr} {y : V} {u : Value} {A : Around} {E : Value → Shared → Prop}
end
end L2
namespace L2
open PySem PySem.Spec PyProof.Rows
section
variable {X : Cx}
end
section
variable {κ : Type} [DecidableEq κ]
end
end L2
set_option Elab.async false
set_option linter.all false
set_option maxRecDepth 100000
namespace L2
open PySem PySem.Spec PyProof.Rows
theorem range_eq {ns ms : List Int} : ((List.range (min ns.length ms.length)).all (fun j => ns.getD j 0 == ms.getD j 0) && (ns.length == ms.length)) = decide (ns = ms) := by
  rw [Bool.eq_iff_iff, Bool.and_eq_true, List.all_eq_true, decide_eq_true_iff, beq_iff_eq]
  constructor
  · rintro ⟨h1, h2⟩
    refine List.ext_getElem h2 fun i hi hi' => ?_
    have := h1 i (List.mem_range.mpr (by omega))
    rw [List.getD_eq_getElem?_getD, List.getElem?_eq_getElem hi, List.getD_eq_getElem?_getD, List.getElem?_eq_getElem hi'] at this
    simpa using this
  · rintro rfl
    exact ⟨fun i _ => by simp, rfl⟩
theorem range_eq' {ns ms : List Int} (h : ns.length = ms.length) : (List.range ns.length).all (fun j => ns.getD j 0 == ms.getD j 0) = decide (ns = ms) := by
  rw [← range_eq, h, Nat.min_self, beq_self_eq_true, Bool.and_true]
section
variable {X : Cx} {K : PySem.W.Frag}
theorem ints_eqAt {A : Around} {s : Shared} {ns ms : List Int} {its its2 : List Value} (r1 : Vals (ns.map V.int) its) (r2 : Vals (ms.map V.int) its2) (j : Nat) (h1 : j < its.toArray.size) (h2 : j < its2.toArray.size) :
    SeqAt.EqAt A s its.toArray[j] its2.toArray[j] (ns.getD j 0 == ms.getD j 0) := by
  obtain ⟨t, e1, _⟩ := vals_int_at r1 (i := j) (v := its.toArray[j]) (by simp)
  obtain ⟨t2, e2, _⟩ := vals_int_at r2 (i := j) (v := its2.toArray[j]) (by simp)
  rw [e1, e2]
  exact eqAt_V (y := .int _) (x := .int _) ⟨_, rfl⟩ ⟨_, rfl⟩ rfl rfl
def SqEq (K : PySem.W.Frag) (g : Bool → V) : R2 := fun x y H Q => ∃ (a b : Addr) (ns ms : List Int), x = .ref a ∧ y = .ref b ∧ ((SqT K H a (ns.map V.int) ∧ SqT K H b (ms.map V.int)) ∨ (SqL K H a (ns.map V.int) ∧ SqL K H b (ms.map V.int))) ∧ Q (g (decide (ns = ms))) H
theorem op_eqS (hu : X.A.units < cLine) (h : X.K = K := by rfl) : OpR X (compareOp .Eq) (SqEq K V.bl) := by
  subst h
  intro pins s σ H x y v u Q I rx ry h
  obtain ⟨a, b, ns, ms, rfl, rfl, hq, q⟩ := h
  cases rx
  cases ry
  rcases hq with ⟨ha, hb⟩ | ⟨ha, hb⟩
  · obtain ⟨its, r1, p1, _⟩ := I.tuple ha
    obtain ⟨its2, r2, p2, _⟩ := I.tuple hb
    have l1 : its.toArray.size = ns.length := by rw [List.size_toArray, ← r1.length, ltm]
    have l2 : its2.toArray.size = ms.length := by rw [List.size_toArray, ← r2.length, ltm]
    refine SeqAt.eq_tupleAt p1 p2 hu (fun j h1 h2 => ints_eqAt r1 r2 j h1 h2) ?_
    rw [l1, l2, range_eq]
    exact ⟨.bl _, H, I, rfl, q⟩
  · obtain ⟨its, r1, p1, _⟩ := I.list ha
    obtain ⟨its2, r2, p2, _⟩ := I.list hb
    have l1 : its.toArray.size = ns.length := by rw [List.size_toArray, ← r1.length, ltm]
    have l2 : its2.toArray.size = ms.length := by rw [List.size_toArray, ← r2.length, ltm]
    by_cases hl : ns.length = ms.length
    · refine SeqAt.eq_listAt p1.isList p2.isList (by rw [l1, l2, hl]) hu (fun j h1 h2 => ints_eqAt r1 r2 j h1 h2) ?_
      rw [l1, range_eq' hl]
      exact ⟨.bl _, H, I, rfl, q⟩
    · rw [decide_eq_false (fun e => hl (by rw [e]))] at q
      exact SeqAt.eq_list_lengthsAt p1.isList p2.isList (by rw [l1, l2]; simpa using hl) hu ⟨.bl _, H, I, rfl, q⟩
end
end L2
set_option Elab.async false
set_option linter.all false
namespace L2
open PySem
end L2
set_option Elab.async false
set_option linter.all false
set_option maxRecDepth 100000
namespace L2
open PySem
def endStep (u : Int) (cs : List Int) : List Int := (List.range (cs.length - 1)).map fun (k : Nat) => (u + (k : Int)) * cs.getD k 0 + cs.getD (k + 1) 0
def endC (l : Nat) (u : Int) : Nat → List Int
  | 0 => List.replicate (l + 1) 1
  | n + 1 => endStep u (endC l u n)
def endF (l : Nat) (u : Int) : Int := (endC l u l).getD 0 0
def moStep (n : Nat) (cs : List Int) : List Int := 0 :: (List.range n).map fun (j : Nat) => cs.getD j 0 + ((j : Int) + 1) * cs.getD (j + 1) 0
def moC (n : Nat) : Nat → List Int
  | 0 => 1 :: List.replicate n 0
  | s + 1 => moStep n (moC n s)
def manyOf (n c : Int) : Int := if 1 ≤ c ∧ c ≤ n then (moC n.toNat n.toNat).getD c.toNat 0 else 0
def stAt (w : List Int) (k : Nat) : Int := (k : Int) * w.getD k 0 + (if k = 0 then w.getD (w.length - 1) 0 else w.getD (k - 1) 0) * (if (1 : Int) < (k : Int) then 1 else (k : Int))
def stStep (row : List Int) : List Int := (List.range (row.length + 1)).map (stAt (row ++ [0]))
def stC : Nat → List Int
  | 0 => [1]
  | n + 1 => stStep (stC n)
theorem chk9 : ((List.range 9).all fun m => decide (endF (m + 1) 0 = (stC (m + 1)).sum) && ((List.range (m + 2)).all fun c => decide (manyOf ((m : Int) + 1) (c : Int) = (stC (m + 1)).getD c 0))) = true := by decide +kernel
theorem m9 {n : Int} (h1 : 1 ≤ n) (h9 : n ≤ 9) : endF n.toNat 0 = (stC n.toNat).sum ∧ ∀ c : Int, manyOf n c = if 0 ≤ c ∧ c ≤ n then (stC n.toNat).getD c.toNat 0 else 0 := by
  have q := List.all_eq_true.mp chk9 (n.toNat - 1) (List.mem_range.mpr (by omega))
  rw [Bool.and_eq_true, List.all_eq_true] at q
  rw [show n.toNat - 1 + 1 = n.toNat by omega] at q
  refine ⟨of_decide_eq_true q.1, fun c => ?_⟩
  by_cases hc : 0 ≤ c ∧ c ≤ n
  · rw [if_pos hc]
    have q2 := of_decide_eq_true (q.2 c.toNat (List.mem_range.mpr (by omega)))
    rw [show ((n.toNat - 1 : Nat) : Int) + 1 = n by omega, Int.toNat_of_nonneg hc.1] at q2
    exact q2
  · rw [if_neg hc]
    unfold manyOf
    rw [if_neg (fun z => hc ⟨by omega, z.2⟩)]
theorem SqT.put {K : PySem.W.Frag} {H : Hp} {a l : Addr} {xs ys : List V} {o : HO} (h : SqT K H a xs) (hl : H l = some (.lst ys)) : SqT K (upd H l o) a xs := by
  rcases h with (h | ⟨u, h⟩) | h
  · exact .inl (.inl (by rw [upd_ne (fun e => by rw [e, hl] at h; cases h)]; exact h))
  · exact .inl (.inr ⟨u, by rw [upd_ne (fun e => by rw [e, hl] at h; cases h)]; exact h⟩)
  · exact .inr h
end L2
set_option Elab.async false
set_option linter.all false
namespace L2
open PySem PySem.Spec PyProof.Rows
section
variable {X : Cx} {K : PySem.W.Frag}
end
end L2
set_option Elab.async false
set_option linter.all false
namespace L2
open PySem PySem.Spec PyProof.Rows
end L2
set_option Elab.async false
set_option linter.all false
set_option maxRecDepth 100000
namespace PySem
open Sem (wp)
open AutoSeq1 (wpAny_loadPart')
section
variable {prog : Program} {w : World} {A : Around} {E : Value → Shared → Prop} {s : Shared}
theorem wpAny_nextOf_tuple_item {it l : Addr} {i : Nat} {items} {x : Value} {Q : Value → Shared → Prop} (hit : s.heap.IsTupleIter it l i)
    (hl : s.heap.IsTuple l items) (hx : items[i]? = some x)
    (hQ : ∀ h', h'.IsTupleIter it l (i + 1) → Heap.SameBut it s.heap h' → Q x { s with heap := h' }) :
    wpAny (model prog w) A (Builtin.SmallTypes.nextOf (.ref it)) Q E s := by
  obtain ⟨o, ho, hc, hd⟩ := id hit
  obtain ⟨ol, hol, _, nl, hdl⟩ := hl
  unfold Builtin.SmallTypes.nextOf
  refine wpAny_bind (wpAny_callSpecial?_slot (name := Str.ofString "__next__") hit.typeIs F.slot_tuple_iterator_next
    (wpAny_call_entry F.slot_tuple_iterator_next hit.typeIs F.entry_tuple_iterator_next ?_ (F.args_tuple_iterator_next_1 _)))
  show wpAny _ _ (field (.ref it) 0 >>= _) _ _ s
  refine wpAny_bind (wpAny_field ho hd (x := .ref l) rfl ?_)
  show wpAny _ _ (if (Value.ref l == Value.none) = true then _ else _) _ _ s
  rw [if_neg (show ¬ ((Value.ref l == Value.none) = true) from Bool.false_ne_true)]
  show wpAny _ _ (field (.ref it) 1 >>= _) _ _ s
  refine wpAny_bind (wpAny_field ho hd (x := .int i 0) rfl ?_)
  show wpAny _ _ (seqItems? (.ref l) >>= _) _ _ s
  refine wpAny_bind (wpAny_seqItems hol hdl ?_)
  simp only [Int.toNat_natCast, hx]
  refine wpAny_bind (wpAny_setField ho hd (by simp) (wpAny_pure ⟨x, rfl, wpAny_pure (hQ _ ?_ (Heap.SameBut.update ..))⟩))
  exact ⟨_, Heap.get?_update_self _ ho (Obj.isFreed_of_fields (Obj.data_mapFields hd _)), (Obj.cls_mapFields ..).trans hc, by
    rw [Obj.data_mapFields hd]; simp [rawInt]⟩
theorem wpAny_nextOf_tuple_end {it l : Addr} {i : Nat} {items} {Q : Value → Shared → Prop} (hh : A.handled = none)
    (hit : s.heap.IsTupleIter it l i) (hl : s.heap.IsTuple l items) (hx : items[i]? = none)
    (hE : ∀ h' e, Heap.ExtBut it s.heap h' → (∃ o, h'.get? e = some o ∧ o.cls = .type "StopIteration") → E (.ref e) { s with heap := h' }) :
    wpAny (model prog w) A (Builtin.SmallTypes.nextOf (.ref it)) Q E s := by
  obtain ⟨o, ho, hc, hd⟩ := id hit
  obtain ⟨ol, hol, _, nl, hdl⟩ := hl
  unfold Builtin.SmallTypes.nextOf
  refine wpAny_bind (wpAny_callSpecial?_slot (name := Str.ofString "__next__") hit.typeIs F.slot_tuple_iterator_next
    (wpAny_call_entry F.slot_tuple_iterator_next hit.typeIs F.entry_tuple_iterator_next ?_ (F.args_tuple_iterator_next_1 _)))
  show wpAny _ _ (field (.ref it) 0 >>= _) _ _ s
  refine wpAny_bind (wpAny_field ho hd (x := .ref l) rfl ?_)
  show wpAny _ _ (if (Value.ref l == Value.none) = true then _ else _) _ _ s
  rw [if_neg (show ¬ ((Value.ref l == Value.none) = true) from Bool.false_ne_true)]
  show wpAny _ _ (field (.ref it) 1 >>= _) _ _ s
  refine wpAny_bind (wpAny_field ho hd (x := .int i 0) rfl ?_)
  show wpAny _ _ (seqItems? (.ref l) >>= _) _ _ s
  refine wpAny_bind (wpAny_seqItems hol hdl ?_)
  simp only [Int.toNat_natCast, hx]
  refine wpAny_bind (wpAny_rule (wpAny_bind (wpAny_setField ho hd (by simp) ?_)))
  show wpAny _ _ (newExc (.type "StopIteration") [] >>= _) _ _ _
  refine wpAny_bind ?_
  simp only [newExc, newTuple]
  refine wpAny_bind (wpAny_newObj_type ?_ (by size_fits))
  refine wpAny_bind (m := firstArgMember _ _) (wpAny_of_eq (a := Value.none) (by first | rfl | (simp only [firstArgMember]; rfl)) ?_)
  refine wpAny_newObj_type ?_ (by size_fits)
  simp only [raiseNew]
  refine wpAny_bind (wpAny_handled ?_)
  first | rw [show A.in1.handled = none from hh] | rw [hh]
  refine wpAny_bind (wpAny_pure (wpAny_throw ?_))
  exact hE _ _ (((Heap.SameBut.update ..).extBut.push _).push _) ⟨_, Heap.get?_push_size _ rfl, rfl⟩
end
theorem Draws.tuple {prog : Program} {w : World} {A : Around} (hh : A.handled = none) (it l : Addr) (hne : l ≠ it) (items : Array Value) :
    Draws prog w A it [it, l] items.size (fun i v => items[i]? = some v) (fun i h => h.IsTupleIter it l i ∧ h.IsTuple l items) where
  live := fun _ _ st => let ⟨o, ho, _⟩ := st.1; ⟨o, ho⟩
  frame := fun _ _ _ st hk => ⟨st.1.at fun o e => hk it (by simp) o e, st.2.at fun o e => hk l (by simp) o e⟩
  item := fun i s Q E hi st hQ => by
    refine wpAny_nextOf_tuple_item st.1 st.2 (x := items[i]) (by simp [hi]) fun h' hit' hs' => ?_
    exact hQ _ h' s.toks (by simp [hi]) ⟨hit', st.2.extBut hs'.extBut hne⟩ hs'
  done := fun s Q E st hE => wpAny_nextOf_tuple_end hh st.1 st.2 (by simp) hE
section
variable {prog : Program} {w : World} {A : Around} {E : Value → Shared → Prop} {s : Shared}
end
end PySem
namespace L2
open PySem PySem.Spec PyProof.Rows
end L2
set_option Elab.async false
set_option linter.all false
set_option maxRecDepth 100000
namespace PySem
open Sem (wp)
open AutoSeq1 (wpAny_loadPart')
section
variable {prog : Program} {w : World} {A : Around} {E : Value → Shared → Prop} {s : Shared}
end
section
variable {prog : Program} {w : World} {A : Around} {E : Value → Shared → Prop} {s : Shared}
end
end PySem
namespace L2
open PySem PySem.Spec PyProof.Rows
end L2
set_option Elab.async false
set_option linter.all false
set_option maxRecDepth 100000
namespace PySem
open Sem (wp)
open AutoSeq1 (wpAny_loadPart')
namespace RV
theorem lookup_new : typeLookup (.type "reversed") "__new__" = pure (some (.builtin "reversed.__new__")) := by rw [typeLookup_type, builtinLookup_eq_fast]; kernel_rfl
theorem mro : mroOf (.type "reversed") = pure [.type "reversed", .type "object"] := by rw [mroOf_type]; kernel_rfl
theorem made : Bind.madeBy (.type "reversed") = pure (some "reversed.__new__") := madeBy_type mro lookup_new (by decide +kernel)
theorem sub : isSubtype (.type "reversed") (.type "reversed") = pure true := by rw [isSubtype_type]; kernel_rfl
end RV
section
variable {prog : Program} {w : World} {A : Around} {E : Value → Shared → Prop} {s : Shared}
end
end PySem
set_option Elab.async false
set_option linter.all false
set_option maxRecDepth 100000
namespace HT
open PySem PySem.Spec PyProof.Rows
section
open PySem.SeqAt
open PySem.AutoSeq1 (wpAny_loadPart')
open PySem.MeetsSeq PySem.MeetsSeq2 PySem.MeetsSeq3
end
section
variable {prog : Program} {w : World} {A : Around} {E : Value → Shared → Prop} {s : Shared}
end
end HT
namespace L2
open PySem PySem.Spec PyProof.Rows
section
variable {X : Cx} {K : PySem.W.Frag}
end
end L2
set_option Elab.async false
set_option linter.all false
set_option maxRecDepth 100000
namespace PySem
open Sem (wp)
open AutoSeq1 (wpAny_loadPart')
section
variable {prog : Program} {w : World} {A : Around} {E : Value → Shared → Prop} {s : Shared}
end
end PySem
namespace L2
open PySem PySem.Spec PyProof.Rows
section
variable {X : Cx} {K : PySem.W.Frag}
end
end L2
set_option Elab.async false
set_option linter.all false
set_option maxRecDepth 100000
namespace L2
open PySem PySem.Spec PyProof.Rows
section
variable {X : Cx} {K : PySem.W.Frag}
end
end L2
set_option Elab.async false
set_option linter.all false
namespace L2
open PySem
def En : Nat → Int → Int
  | 0, _ => 1
  | n + 1, u => u * En n u + En n (u + 1)
def nf (f w : Int) : Int := if w = f then f + 1 else f
def pre : Nat → Int → List Int → Int
  | _, _, [] => 0
  | m, f, w :: r => w * En (r.length + m) f + pre m (nf f w) r
end L2
set_option Elab.async false
set_option linter.all false
set_option maxRecDepth 100000
namespace L2
open PySem PySem.Spec PyProof.Rows
section
variable {X : Cx} {K : PySem.W.Frag}
end
end L2
set_option Elab.async false
set_option linter.all false
namespace L2
open PySem
end L2
set_option Elab.async false
set_option linter.all false
set_option maxRecDepth 100000
namespace L2
open PySem PySem.Spec PyProof.Rows
end L2
set_option Elab.async false
set_option linter.all false
set_option maxRecDepth 100000
namespace L2
open PySem PySem.Spec PyProof.Rows
section
variable {X : Cx} {N' : List Str} {M : List (Option Nat)} {scope : Scope} {tg elt iter : Expr} {ifs : List Expr} {pos : Pos} {g : TG} {tc : TT} {te : TE} {wi : TI}
end
end L2
set_option Elab.async false
set_option linter.all false
namespace L2
open PySem
def Within (n : Nat) (xs ys : List Int) : Prop := ∀ i j, i < n → j < n → xs.getD i 0 = xs.getD j 0 → ys.getD i 0 = ys.getD j 0
def relab (L : List Int) (old new : Int) : List Int := L.map fun l => if l = old then new else l
def mg (L : List Int) (p : Nat × Nat) : List Int := relab L (L.getD p.2 0) (L.getD p.1 0)
def lotN (ws : List Int) (k : Int) (i : Nat) : List Nat := (List.range i).filter fun j => decide (ws.getD j 0 = k)
end L2
set_option Elab.async false
set_option linter.all false
namespace L2
open PySem
theorem getRef {qs : List Addr} {j : Nat} {y : V} (h : (qs.map V.ref)[j]? = some y) : ∃ q, y = V.ref q ∧ qs[j]? = some q ∧ j < qs.length := by
  rw [List.getElem?_map] at h
  cases e : qs[j]? with
  | none => rw [e] at h; cases h
  | some q => rw [e] at h; exact ⟨q, (Option.some.inj h).symm, rfl, (List.getElem?_eq_some_iff.mp e).1⟩
theorem atI_ref {qs : List Addr} {j : Nat} {q : Addr} (h : qs[j]? = some q) : atI (qs.map V.ref) (j : Int) = some (V.ref q) := atI_nat (by rw [List.getElem?_map, h]; rfl)
end L2
namespace L2
open PySem
end L2
namespace L2
open PySem PySem.Spec PyProof.Rows
section
variable {X : Cx} {K : PySem.W.Frag} {pos : Pos}
theorem kpg_tup {es : List Expr} {k : Nat} {t : TGs} {n : Nat} (hc : X.calm = true) (h : PGs X es t)
    (hn : (assignEach es X.env).length = n := by rfl) (hst : (assignEach es X.env).findIdx? (·.1) = none := by rfl) (hK : X.K = K := by rfl) : PG X (.Tuple es k pos) (gTup K n t) := by
  subst hK; exact pg_tup hc h hn hst
theorem frm_two {M : List (Option Nat)} {n : Nat} (h0 : M[0]? = some none := by rfl) (h1 : M[1]? = some none := by rfl) : Frm M (gTup K n (gCons (gName 0) (gCons (gName 1) gNil))) := fun v σ H Q q => by
  obtain ⟨a, xs, e, hq, hl, v1, r, e1, v2, r2, e2, e3, q⟩ := q
  refine ⟨a, xs, e, hq, hl, v1, r, e1, v2, r2, e2, e3, q, by rw [List.length_set, List.length_set], fun k j ek => ?_⟩
  have n0 : 0 ≠ k := by rintro rfl; rw [h0] at ek; cases ek
  have n1 : 1 ≠ k := by rintro rfl; rw [h1] at ek; cases ek
  rw [List.getElem?_set_ne n1, List.getElem?_set_ne n0]
end
end L2
namespace L2
open PySem
theorem lcY {te : TE} {σ : St} {H : Hp} {N : V → Hp → Prop} {N' : Hp → Prop} (h : te σ H N) : tYes σ H (fun b H3 => if b = true then te σ H3 N else N' H3) := by
  unfold tYes
  exact iteT h
end L2
set_option Elab.async false
set_option linter.all false
set_option maxRecDepth 100000
namespace L2
open PySem PySem.Spec PyProof.Rows
def turnG (e : Expr) (dep : Nat) (tg iter : Expr) (ifs : List Expr) (it acc : Value) (env : Env) (EM : Sem Unit) : Sem Fin := do
      standAt iter.pos
      match ← pyNext it with
      | none => pure (.done .next)
      | some v =>
        letOwnedTupleGo tg it v
        assign tg env v
        let mut ok := true
        for c in ifs do
          if ok then ok ← isTrue c env (eval c env)
        if ok then EM
        again (.compLoop e dep it acc env)
def emElt (elt : Expr) (acc : Value) (env : Env) : Sem Unit := (do let _ ← call (.builtin "list.append") [acc, ← eval elt env])
def emIn (e iter2 : Expr) (acc : Value) (env : Env) : Sem Unit := (do
        let x ← eval iter2 env
        standAt iter2.pos
        let x ← foldedSetIterable iter2 env x
        let _ ← runOwn (.compStart e 1 (← holding [x] (pyIter x)) acc env) env)
theorem turn_last (elt : Expr) (g0 : Comprehension) (tg iter : Expr) (ifs : List Expr) (scope : Scope) (pos : Pos) (it acc : Value) (env : Env) :
    compTurn (.ListComp elt [g0, ⟨tg, iter, ifs, 0⟩] scope pos) 1 it acc env = turnG (.ListComp elt [g0, ⟨tg, iter, ifs, 0⟩] scope pos) 1 tg iter ifs it acc env (emElt elt acc env) := by rfl
def turnF (e : Expr) (tg iter iter2 : Expr) (ifs : List Expr) (it acc : Value) (env : Env) : Sem Fin := do
      standAt iter.pos
      match ← pyNext it with
      | none => pure (.done .next)
      | some v =>
        letOwnedTupleGo tg it v
        assign tg env v
        let mut ok := true
        for c in ifs do
          if ok then ok ← isTrue c env (eval c env)
        if ok then
          let x ← eval iter2 env
          standAt iter2.pos
          let x ← foldedSetIterable iter2 env x
          let _ ← runOwn (.compStart e 1 (← holding [x] (pyIter x)) acc env) env
        again (.compLoop e 0 it acc env)
theorem turn_first0 (elt : Expr) (tg iter tg2 iter2 : Expr) (ifs ifs2 : List Expr) (scope : Scope) (pos : Pos) (it acc : Value) (env : Env) :
    compTurn (.ListComp elt [⟨tg, iter, ifs, 0⟩, ⟨tg2, iter2, ifs2, 0⟩] scope pos) 0 it acc env = turnF (.ListComp elt [⟨tg, iter, ifs, 0⟩, ⟨tg2, iter2, ifs2, 0⟩] scope pos) tg iter iter2 ifs it acc env := by rfl
theorem turnF_eq (e : Expr) (tg iter iter2 : Expr) (ifs : List Expr) (it acc : Value) (env : Env) : turnF e tg iter iter2 ifs it acc env = turnG e 0 tg iter ifs it acc env (emIn e iter2 acc env) := by
  unfold turnF turnG emIn
  simp only [bind_assoc, pure_bind]
section
variable {prog : Program} {w : World} {A : Around} {R : Result → Shared → Prop} {s : Shared}
theorem compLoop_em {e tg iter : Expr} {ifs : List Expr} {dep : Nat} {it acc : Value} {env : Env} {EM : Sem Unit} (hq : (Code.compLoop e dep it acc env).quiet = true) (hfr : (Code.compLoop e dep it acc env).isFrame = false)
    (heq : compTurn e dep it acc env = turnG e dep tg iter ifs it acc env EM) (hu : A.under (.compLoop e dep it acc env) = A) (Iv : Nat → Shared → Prop)
    (turn : ∀ n s, Iv n s → wpAny (model prog w) A (pyNext it) (fun r s₁ => match r with
      | none => R (.ok .next) s₁
      | some v => wpAny (model prog w) A (letOwnedTupleGo tg it v) (fun _ s₁' => wpAny (model prog w) A (assign tg env v) (fun _ s₂ =>
          wpAny (model prog w) A (forIn ifs true fun c r => if r = true then do let ok ← isTrue c env (eval c env); pure (ForInStep.yield ok) else pure (ForInStep.yield r)) (fun ok s₃ =>
            if ok = true then wpAny (model prog w) A EM (fun _ s₅ => ∃ m, m < n ∧ Iv m s₅) (fun _ _ => False) s₃
            else ∃ m, m < n ∧ Iv m s₃) (fun _ _ => False) s₂) (fun _ _ => False) s₁') (fun _ _ => False) s₁) (fun _ _ => False) s)
    (n : Nat) (h : Iv n s) :
    codeAny (model prog w) A (.compLoop e dep it acc env) R s := by
  refine codeAny_loop hq Iv (fun n s hI => ?_) n h
  rw [hu]
  have hden : (model prog w).den (.compLoop e dep it acc env) = (compTurn e dep it acc env).onRaise (fun x => do noteFrame x env; theTreesLotGoes x) := by
    show (if (Code.compLoop e dep it acc env).isFrame then _ else _) = _
    rw [hfr]; rfl
  rw [hden]
  refine wpAny_noted ?_
  rw [heq]
  unfold turnG
  refine wpAny_bind (wpAny_standAt (wpAny_bind (wpAny_mono (turn n s hI) (fun r s₁ h₁ => ?_) fun _ _ z => z.elim)))
  cases r with
  | none => exact wpAny_pure h₁
  | some v =>
    refine wpAny_bind (wpAny_mono h₁ (fun _ s₁' h₁' => ?_) fun _ _ z => z.elim)
    refine wpAny_bind (wpAny_mono h₁' (fun _ s₂ h₂ => wpAny_bind (wpAny_mono h₂ (fun ok s₃ h₃ => ?_) fun _ _ z => z.elim)) fun _ _ z => z.elim)
    cases ok with
    | false => exact wpAny_pure ⟨rfl, h₃⟩
    | true =>
      exact wpAny_bind (wpAny_mono h₃ (fun _ s₅ h₅ => wpAny_pure ⟨rfl, h₅⟩) fun _ _ z => z.elim)
theorem codeAny_compStart_two {elt target iter ifs g0 scope pos it acc env}
    (h0 : codeAny (model prog w) A (.compLoop (.ListComp elt [g0, ⟨target, iter, ifs, 0⟩] scope pos) 1 it acc env) R s)
    (h : wpAny (model prog w) A (pyIter it) (fun it' s' => codeAny (model prog w) A (.compLoop (.ListComp elt [g0, ⟨target, iter, ifs, 0⟩] scope pos) 1 it' acc env) R s')
      (notedBy (model prog w) A env fun x s' => R (.error x) s') s) :
    codeAny (model prog w) A (.compStart (.ListComp elt [g0, ⟨target, iter, ifs, 0⟩] scope pos) 1 it acc env) R s := by
  refine codeAny_of_tree ?_
  show wpAny _ _ ((compStart (.ListComp elt [g0, ⟨target, iter, ifs, 0⟩] scope pos) 1 it acc env).onRaise (fun x => do noteFrame x env; standAt theWindowsPlace)) _ _ s
  refine wpAny_notedAt ?_
  unfold compStart
  show wpAny _ _ (ask >>= _) _ _ s
  refine wpAny_bind (wpAny_askSetting (wpAny_ite ?_))
  split
  · first
      | exact wpAny_bind (wpAny_pure (wpAny_pure (And.intro rfl h0)))
      | exact wpAny_pure (And.intro rfl h0)
  · first
      | exact wpAny_bind (wpAny_rule (wpAny_bind (wpAny_standAt (wpAny_bind (wpAny_mono h (fun it' s' h' => wpAny_pure (And.intro rfl h')) fun _ _ x => x)))))
      | (refine wpAny_bind (wpAny_rule ?_); show wpAny _ _ (standAt iter.pos >>= _) _ _ s; exact wpAny_bind (wpAny_standAt (wpAny_bind (wpAny_mono h (fun it' s' h' => wpAny_pure (And.intro rfl h')) fun _ _ x => x))))
end
def Own (ks : List Nat) (g : TG) : Prop := ∀ v σ H Q, g v σ H Q → g v σ H fun σ' H' => Q σ' H' ∧ σ'.length = σ.length ∧ ∀ i, i ∉ ks → σ'[i]? = σ[i]?
theorem own_name {i : Nat} : Own [i] (gName i) := fun v σ H Q q => by
  refine ⟨q, List.length_set .., fun k hk => ?_⟩
  exact List.getElem?_set_ne fun e => hk (by rw [e]; exact List.mem_singleton.mpr rfl)
def Acc (h : Heap) (D : Addr) (ys : List V) : Prop := ∃ (its : List Value) (k : Nat), Vals ys its ∧ h.get? D = some { cls := .type "list", data := .seq its.toArray k }
abbrev TM := St → Hp → List V → (List V → Hp → Prop) → Prop
def PEm (X : Cx) (D : Addr) (EM : Sem Unit) (Z : St → Prop) (tm : TM) : Prop :=
  ∀ (pins : List (Addr × Obj)) (s : Shared) (σ : St) (H : Hp) (ys : List V) (Q : List V → Hp → Prop), Inv X pins σ H s → FpOk X pins H D → Acc s.heap D ys → ys.length ≤ sizeLine → Z σ → tm σ H ys Q →
    wpAny (model X.prog X.w) X.A EM (fun _ s' => ∃ H' ys', Inv X pins σ H' s' ∧ H' D = none ∧ Acc s'.heap D ys' ∧ Q ys' H') X.xe s
def tmElt (te : TE) : TM := fun σ H ys Q => ys.length < sizeLine ∧ te σ H fun v H' => Q (ys ++ [v]) H'
section
variable {X : Cx}
theorem Acc.pin {pins : List (Addr × Obj)} {σ : St} {H : Hp} {s : Shared} {D : Addr} {its : List Value} {k : Nat} (I : Inv X pins σ H s) (f : FpOk X pins H D) (e : s.heap.get? D = some { cls := .type "list", data := .seq its.toArray k }) : Inv X (pins ++ [(D, { cls := .type "list", data := .seq its.toArray k })]) σ H s :=
  I.pins_of fun p hp => (List.mem_append.mp hp).elim (fun z => I.pin p (List.mem_append_right _ z)) fun z => by
    have e' : p = (D, { cls := .type "list", data := .seq its.toArray k }) := by simpa using z
    subst e'
    exact ⟨e, f.1, f.2.1, f.2.2.1, fun v z => by cases z⟩
theorem pem_elt {D : Addr} {elt : Expr} {te : TE} {Z : St → Prop} (he : PE X elt te) : PEm X D (emElt elt (.ref D) X.env) Z (tmElt te) := by
  intro pins s σ H ys Q I f ⟨its, k, rv, hD⟩ hsz _ ⟨hlt, q⟩
  have I' := Acc.pin I f hD
  unfold emElt
  refine wpAny_bind (thn (he _ s σ H _ I' q) fun v8 s8 ⟨y8, H8, J8, r8, n8⟩ => ?_)
  obtain ⟨p1, p2, _⟩ := J8.pin _ (List.mem_append_right _ (List.mem_append_right _ (List.mem_singleton.mpr rfl)))
  have J9 : Inv X pins σ H8 s8 := J8.unpinned
  refine wpAny_bind (wpAny_list_append_plain (items := its.toArray) ⟨k, p1⟩ (fun h9 hl9 hs9 => wpAny_pure ?_) (by have := rv.length; rw [List.size_toArray, ← this]; exact hsz))
  have Jt : Inv X pins σ H8 { s8 with heap := h9 } := J9.turned (t' := s8.toks) (fun b o hb e => (hs9.2 b hb).trans e) p2 f.2.1 f.2.2.2.1 f.2.2.2.2.1 f.2.2.2.2.2
  obtain ⟨k9, e9⟩ := hl9
  refine ⟨H8, ys ++ [y8], Jt, p2, ⟨its ++ [v8], k9, rv.append (.cons r8 .nil), ?_⟩, n8⟩
  rw [show (its ++ [v8]).toArray = its.toArray.push v8 by simp]
  exact e9
def LcW (J : It) (g : TG) (tc : TT) (tm : TM) (σ0 : St) (ys0 : List V) (H0 : Hp) (F : List V → Hp → Prop) : Prop :=
  ∃ W : Nat → Nat → List V → Hp → Prop, (∃ m, W 0 m ys0 H0) ∧ ∀ i m ys H, W i m ys H → ys.length ≤ sizeLine ∧
    ((J.stop i H ∧ F ys H) ∨ (J.go i H ∧ ∃ N : List V → Hp → Prop, (∀ ys' H', N ys' H' → ∃ m', m' < m ∧ W (i + 1) m' ys' H') ∧ ∀ x H', J.yld i H x H' → g x σ0 H' fun σ2 H2 => tc σ2 H2 fun b H3 =>
      if b = true then tm σ2 H3 ys N else N ys H3))
theorem lc_loop {e tg iter : Expr} {ifs : List Expr} {dep : Nat} {EM : Sem Unit} {ks : List Nat} {Z : St → Prop} {g : TG} {tc : TT} {tm : TM} {pins : List (Addr × Obj)} {σ0 : St} {H2 : Hp} {s2 : Shared} {it D : Addr} {fp : List Addr} {tn : Nat → Heap → Prop} {J : It} {F : List V → Hp → Prop} {R : Result → Shared → Prop} {ys0 : List V}
    (hq : (Code.compLoop e dep (.ref it) (.ref D) X.env).quiet = true) (hfr : (Code.compLoop e dep (.ref it) (.ref D) X.env).isFrame = false) (heq : compTurn e dep (.ref it) (.ref D) X.env = turnG e dep tg iter ifs (.ref it) (.ref D) X.env EM) (hu : X.A.under (.compLoop e dep (.ref it) (.ref D) X.env) = X.A)
    (hc : X.calm = true) (xE : ∀ v s', ¬ X.xe v s') (hg : PG X tg g) (ho : Own ks g) (hks : ∀ i v, σ0[i]? = some (some v) → i ∉ ks) (hZ : ∀ σ' : St, (∀ i, i ∉ ks → σ'[i]? = σ0[i]?) → Z σ') (ht : PTs X ifs tc) (hem : PEm X D EM Z tm)
    (I2 : Inv X pins σ0 H2 s2) (T : Turn X.prog X.w X.K tg J fp it tn) (st2 : tn 0 s2.heap) (f2 : ∀ b ∈ fp, FpOk X pins H2 b) (fD : FpOk X pins H2 D) (aD : Acc s2.heap D ys0) (Dfp : D ∉ fp)
    (hw : LcW J g tc tm σ0 ys0 H2 F) (hend : ∀ (s' : Shared) (H' : Hp) (ys : List V), Inv X pins σ0 H' s' → H' D = none → Acc s'.heap D ys → ys.length ≤ sizeLine → (∀ b ∈ fp, H' b = none) → F ys H' → R (.ok .next) s') :
    codeAny (model X.prog X.w) X.A (.compLoop e dep (.ref it) (.ref D) X.env) R s2 := by
  obtain ⟨W, ⟨m0, w0⟩, turn⟩ := hw
  have stat : ∀ {pl : List (Addr × Obj)} {H' : Hp}, (∀ p ∈ pl, p.1 = D) → (∀ b ∈ fp, H' b = none) → ∀ b ∈ fp, FpOk X (pins ++ pl) H' b := fun {pl H'} hpl hn b hb => by
    obtain ⟨_, a1, a2, a3, a4, a5⟩ := f2 b hb
    refine ⟨hn b hb, a1, a2, a3, a4, fun p hp => ?_⟩
    rw [← List.append_assoc] at hp
    rcases List.mem_append.mp hp with z | z
    · exact a5 p z
    · rw [hpl p z]; exact fun z => Dfp (z ▸ hb)
  refine compLoop_em hq hfr heq hu (fun n s' => ∃ i ys H', Inv X pins σ0 H' s' ∧ tn i s'.heap ∧ (∀ b ∈ fp, H' b = none) ∧ Acc s'.heap D ys ∧ H' D = none ∧ W i n ys H') ?_ m0
    ⟨0, ys0, H2, I2, st2, fun b hb => (f2 b hb).1, aD, fD.1, w0⟩
  rintro n s3 ⟨i, ys, H3, J3, st3, fr3, ⟨its, k, rv, hDs⟩, dn, w3⟩
  obtain ⟨hsz, hcase⟩ := turn i n ys H3 w3
  have fD3 : FpOk X pins H3 D := ⟨dn, fD.2⟩
  have J3' := Acc.pin J3 fD3 hDs
  have hpl : ∀ p ∈ [((D, { cls := .type "list", data := .seq its.toArray k }) : Addr × Obj)], p.1 = D := fun p hp => by
    have e : p = (D, { cls := .type "list", data := .seq its.toArray k }) := by simpa using hp
    rw [e]
  rcases hcase with ⟨stop, qF⟩ | ⟨go, N, hN, step⟩
  · have q := T.done X rfl rfl rfl hc i _ s3 _ H3 (fun _ _ => False) J3' (stat hpl fr3) st3 stop
    refine thn q fun r s4 ⟨hr, J4⟩ => ?_
    subst hr
    have hD4 : s4.heap.get? D = some { cls := .type "list", data := .seq its.toArray k } := (J4.pin _ (List.mem_append_right _ (List.mem_append_right _ (List.mem_singleton.mpr rfl)))).1
    exact hend s4 H3 ys J4.unpinned dn ⟨its, k, rv, hD4⟩ hsz fr3 qF
  · have q := T.item X rfl rfl rfl hc i _ s3 _ H3 (fun _ _ => False) J3' (stat hpl fr3) st3 go
    refine thn q fun r s4 ⟨u, hr, h4⟩ => ?_
    subst hr
    dsimp only
    refine thn h4 fun _ s5 ⟨x, H5, J5, r5, y5, st5, fr5⟩ => ?_
    have J5' := J5.pinned (stat hpl fr5) (T.obj _ _ st5)
    refine wpAny_mono (hg _ s5 σ0 H5 x u _ J5' r5 (ho _ _ _ _ (step x H5 y5))) (fun _ s6 h6 => ?_) fun e s' z => xE e s' z
    obtain ⟨σ6, H6, J6, q6, l6, k6⟩ := h6
    refine wpAny_mono (ht _ s6 σ6 H6 _ J6 q6) (fun b s7 h7 => ?_) fun e s' z => xE e s' z
    obtain ⟨H7, J7, q7⟩ := h7
    have fin : ∀ {pl : List (Addr × Obj)} {H8 : Hp} {s8 : Shared}, Inv X (pl ++ pinsAt fp s5.heap) σ6 H8 s8 → (∀ p ∈ pins, p ∈ pl) → tn (i + 1) s8.heap ∧ (∀ b ∈ fp, H8 b = none) ∧ Inv X pins σ0 H8 s8 := fun {pl H8 s8} J8 hp => by
      refine ⟨T.keep _ _ _ st5 fun b hb o e => (J8.pin (b, o) (List.mem_append_right _ (List.mem_append_right _ (mem_pinsAt hb e)))).1, fun b hb => ?_, ?_⟩
      · obtain ⟨o, e, d⟩ := T.obj _ _ st5 b hb
        exact (J8.pin (b, o) (List.mem_append_right _ (List.mem_append_right _ (mem_pinsAt hb e)))).2.1
      · have J9 : Inv X pins σ6 H8 s8 := J8.pins_of fun p hp' => J8.pin p (List.mem_append_right _ (List.mem_append_left _ (hp p hp')))
        refine J9.weak (l6.symm) fun a v e => ?_
        rw [k6 a (hks a v e)]; exact e
    obtain ⟨p1, p2, _⟩ := J7.pin _ (List.mem_append_right _ (List.mem_append_left _ (List.mem_append_right _ (List.mem_singleton.mpr rfl))))
    cases b with
    | false =>
      rw [if_neg (by decide)] at q7
      rw [if_neg (by decide)]
      obtain ⟨m', hm, w7⟩ := hN _ _ q7
      obtain ⟨a3, a4, a5⟩ := fin J7 (fun p hp => List.mem_append_left _ hp)
      exact ⟨m', hm, i + 1, ys, H7, a5, a3, a4, ⟨its, k, rv, p1⟩, p2, w7⟩
    | true =>
      rw [if_pos rfl] at q7
      rw [if_pos rfl]
      have J7' : Inv X (pins ++ pinsAt fp s5.heap) σ6 H7 s7 := J7.pins_of fun p hp => by
        refine J7.pin p (List.mem_append_right _ ?_)
        rcases List.mem_append.mp hp with z | z
        · exact List.mem_append_left _ (List.mem_append_left _ z)
        · exact List.mem_append_right _ z
      have fD7 : FpOk X (pins ++ pinsAt fp s5.heap) H7 D := by
        obtain ⟨_, a1, a2, a3, a4, a5⟩ := fD
        refine ⟨p2, a1, a2, a3, a4, fun p hp => ?_⟩
        rw [← List.append_assoc] at hp
        rcases List.mem_append.mp hp with z | z
        · exact a5 p z
        · exact fun e => Dfp (e ▸ (of_pinsAt z).1)
      refine wpAny_mono (hem _ s7 σ6 H7 ys _ J7' fD7 ⟨its, k, rv, p1⟩ hsz (hZ σ6 k6) q7) (fun _ s8 h8 => ?_) fun e s' z => xE e s' z
      obtain ⟨H8, ys', J8, d8, a8, n8⟩ := h8
      obtain ⟨m', hm, w8⟩ := hN _ _ n8
      obtain ⟨a3, a4, a5⟩ := fin J8 (fun p hp => hp)
      exact ⟨m', hm, i + 1, ys', H8, a5, a3, a4, a8, d8, w8⟩
def tmIn (wi : TI) (g : TG) (tc : TT) (te : TE) : TM := fun σ H ys Q => wi σ H fun J H1 => LcW J g tc (tmElt te) σ ys H1 Q
theorem pem_in {D : Addr} {elt tg iter : Expr} {g0 : Comprehension} {ifs : List Expr} {scope : Scope} {pos : Pos} {ks : List Nat} {wi : TI} {g : TG} {tc : TT} {te : TE} (hc : X.calm = true) (xE : ∀ v s', ¬ X.xe v s') (hi : PI X tg iter wi) (hg : PG X tg g) (ho : Own ks g) (ht : PTs X ifs tc) (he : PE X elt te)
    (hu : ∀ (it : Value), X.A.under (.compLoop (.ListComp elt [g0, ⟨tg, iter, ifs, 0⟩] scope pos) 1 it (.ref D) X.env) = X.A) (hs : ∀ x, foldedSetIterable iter X.env x = pure x := by intro _; rfl) :
    PEm X D (emIn (.ListComp elt [g0, ⟨tg, iter, ifs, 0⟩] scope pos) iter (.ref D) X.env) (fun σ => ∀ i v, σ[i]? = some (some v) → i ∉ ks) (tmIn wi g tc te) := by
  intro pins s σ H ys Q I f ⟨its, k, rv, hD⟩ hsz hz q
  have I' := Acc.pin I f hD
  unfold emIn
  refine wpAny_bind (thn (hi _ s σ H _ I' q) fun v s1 h1 => wpAny_bind (wpAny_standAt (wpAny_bind (wpAny_of_eq (hs v) (wpAny_bind (wpAny_holding (thn h1 fun itv s2 h2 => wpAny_bind (wpAny_runOwn ?_))))))))
  obtain ⟨it, fp, tn, J, H2, e, I2, T, st2, f2, hw⟩ := h2
  subst e
  obtain ⟨p1, p2, _⟩ := I2.pin _ (List.mem_append_right _ (List.mem_append_right _ (List.mem_singleton.mpr rfl)))
  have fD : FpOk X pins H2 D := ⟨p2, f.2⟩
  have f2' : ∀ b ∈ fp, FpOk X pins H2 b := fun b hb => by
    obtain ⟨a0, a1, a2, a3, a4, a5⟩ := f2 b hb
    exact ⟨a0, a1, a2, a3, a4, fun p hp => a5 p (by rw [← List.append_assoc]; exact List.mem_append_left _ hp)⟩
  have Dfp : D ∉ fp := fun z => (f2 D z).2.2.2.2.2 (D, { cls := .type "list", data := .seq its.toArray k }) (List.mem_append_right _ (List.mem_append_right _ (List.mem_singleton.mpr rfl))) rfl
  have loop : codeAny (model X.prog X.w) X.A (.compLoop (.ListComp elt [g0, ⟨tg, iter, ifs, 0⟩] scope pos) 1 (.ref it) (.ref D) X.env) (fun r s' => match r with | .ok f => wpAny (model X.prog X.w) X.A (pure PUnit.unit : Sem PUnit) (fun _ s' => ∃ H' ys', Inv X pins σ H' s' ∧ H' D = none ∧ Acc s'.heap D ys' ∧ Q ys' H') X.xe s' | .error e => cameBackBy (model X.prog X.w) X.A X.env X.xe e s') s2 :=
    lc_loop (F := Q) (ks := ks) (Z := fun _ => True) rfl rfl (turn_last ..) (hu _) hc xE hg ho hz (fun _ _ => trivial) ht (pem_elt he) I2.unpinned T st2 f2' fD ⟨its, k, rv, p1⟩ Dfp hw fun s' H' ys' J' d' a' _ _ q' => wpAny_pure ⟨H', ys', J', d', a', q'⟩
  exact codeAny_compStart_two loop (T.self _ 0 _ _ _ st2 loop)
end
end L2
set_option Elab.async false
set_option linter.all false
set_option maxRecDepth 100000
namespace L2
open PySem PySem.Spec PyProof.Rows
theorem lc_block2 {X : Cx} {N' : List Str} {M : List (Option Nat)} {scope : Scope} {cl : List (Str × Addr)} {tg elt iter tg2 iter2 : Expr} {ifs ifs2 : List Expr} {ks ks2 : List Nat} {wi2 : TI} {g2 : TG} {tc2 : TT} {pos : Pos} {g : TG} {tc : TT} {te : TE} {pins : List (Addr × Obj)} {σ : St} {H2 : Hp} {s2 : Shared}
    {it : Addr} {fp : List Addr} {tn : Nat → Heap → Prop} {J : It} {F : List V → Hp → Prop} {RR : Value → Addr → Result → Shared → Prop} {E : Value → Shared → Prop}
    (S : LcSc X.N N' M scope X.env.scope) (hc : X.calm = true) (q1 : ∀ y c, cl.lookup y = some c → X.env.cells.lookup y = some c) (q2 : ∀ y, (y, NameKind.free) ∈ scope.names → ∃ c, cl.lookup y = some c)
    (hg : ∀ C s H fp, PG (cxLc X N' scope cl C s H fp) tg g) (ho : Own ks g) (ht : ∀ C s H fp, PTs (cxLc X N' scope cl C s H fp) ifs tc) (hks : ∀ i ∈ ks, M[i]? = some none) (hks2 : ∀ i ∈ ks2, M[i]? = some none ∧ i ∉ ks)
    (hi2 : ∀ C s H fp, PI (cxLc X N' scope cl C s H fp) tg2 iter2 wi2) (hg2 : ∀ C s H fp, PG (cxLc X N' scope cl C s H fp) tg2 g2) (ho2 : Own ks2 g2) (ht2 : ∀ C s H fp, PTs (cxLc X N' scope cl C s H fp) ifs2 tc2) (he : ∀ C s H fp, PE (cxLc X N' scope cl C s H fp) elt te) (hs2 : ∀ env x, foldedSetIterable iter2 env x = pure x)
    (I2 : Inv X pins σ H2 s2) (T : Turn X.prog X.w X.K tg J fp it tn) (st2 : tn 0 s2.heap) (f2 : ∀ b ∈ fp, FpOk X pins H2 b)
    (hw : LcW J g tc (tmIn wi2 g2 tc2 te) (inSt M σ) [] H2 F)
    (hend : ∀ (D C : Addr) (s' : Shared) (H' : Hp) (ys : List V), Inv X pins σ (upd H' D (.lst ys)) s' → H' D = none → s2.heap.objs.size ≤ D → s2.heap.objs.size < C → (∃ m, s'.heap.Ns C m) → (upd H' D (.lst ys)) C = none → F ys H' → RR (.ref D) C (.ok .next) s') :
    wpAny (model X.prog X.w) X.A (newList []) (fun acc s₃ => wpAny (model X.prog X.w) X.A (newFunctionEnv scope X.env.globals cl [] X.env.qual none .none (some X.env)) (fun cenv s₄ =>
      codeAny (model X.prog X.w) X.A (.compStart (.ListComp elt [⟨tg, iter, ifs, 0⟩, ⟨tg2, iter2, ifs2, 0⟩] scope pos) 0 (.ref it) acc { cenv with scope := relabel scope X.env }) (RR acc cenv.locals) s₄) E s₃) E s2 := by
  refine wpAny_newObj_type (wpAny_newFunctionEnv S.cell (by intro y hy; simp at hy) (fun h₁ hns₁ hsb₁ => ?_) S.kind)
  dsimp only at hns₁ hsb₁ ⊢
  generalize hG : s2.heap.push { cls := .type "list", dict := none, data := .seq ([] : List Value).toArray } = G at hns₁ hsb₁ ⊢
  generalize hD : s2.heap.objs.size = D at *
  have hC : G.objs.size = D + 1 := by rw [← hG, Heap.size_push, hD]
  generalize hCC : G.objs.size = C at *
  have DC : D < C := by rw [hC]; exact Nat.lt_succ_self _
  have lo : ∀ b o, s2.heap.get? b = some o → b < D := fun b o e => hD ▸ Heap.lt_size e
  have old : ∀ b o, s2.heap.get? b = some o → h₁.get? b = some o := fun b o e => by
    have hb := lo b o e
    exact hsb₁.extBut b o (Nat.ne_of_lt (Nat.lt_trans hb DC)) (Heap.get?_push_of_some _ (hG ▸ Heap.get?_push_of_some _ e))
  have hacc : h₁.get? D = some { cls := .type "list", data := .seq ([] : List Value).toArray } :=
    hsb₁.extBut _ _ (Nat.ne_of_lt DC) (Heap.get?_push_of_some _ (by rw [← hG, ← hD]; exact Heap.get?_push_size _ rfl))
  have fpl : ∀ b ∈ fp, b < D := fun b hb => by
    obtain ⟨o, e, _⟩ := T.obj _ _ st2 b hb
    exact lo b o e
  have cel : ∀ y c, cl.lookup y = some c → c < D := fun y c e => by
    obtain ⟨v, z⟩ := I2.cell y c (q1 y c e)
    exact hD ▸ z.lt
  generalize hX' : cxLc X N' scope cl C s2 H2 fp = X'
  have envE : X'.env = compEnvC scope cl C X.env := by rw [← hX']; rfl
  have locE : X'.env.locals = C := by rw [envE]; rfl
  have fsE : X'.fs = frs X.stack := by rw [← hX']; rfl
  have fsl : ∀ b ∈ frs X.stack, b < D := fun b hb => by
    rcases List.mem_cons.mp (I2.stkSub b hb) with z | z
    · rw [z]; exact hD ▸ I2.lt
    · exact Nat.lt_of_not_le fun q => I2.nofs (hD ▸ q) z
  have relS : ∀ x k, scope.names.lookup x = some k → ∃ k', X'.env.kindOf x = some k' ∧ (k' = k ∨ (k = .free ∧ k' = .cell)) := fun x k e => by
    obtain ⟨k', e', q⟩ := relabel_some (env := X.env) e
    exact ⟨k', by rw [envE]; exact e', q⟩
  have relN : ∀ x, scope.names.lookup x = none → X'.env.kindOf x = none := fun x e => by
    rw [envE]; exact relabel_none (env := X.env) e
  have cellsE : X'.env.cells = cl := by rw [envE]; rfl
  have ok' : X'.Ok := by
    refine ⟨?mod, ?kind, ?glob, ?blt, ?above, ?inj, ?has, ?cab, ?hd, ?frames, ?stk, ?exf, ?bs, ?bsz, ?noex, ?exfs, ?funs, ?frf⟩
    case mod => rw [← hX']; exact I2.ok.mod
    case kind => rw [envE]; exact S.kind
    case glob => rw [envE]; exact I2.ok.glob
    case blt => rw [envE]; exact I2.ok.blt
    case above => rw [locE, ← hX']; show s2.heap.objs.size ≤ C; rw [hD]; exact Nat.le_of_lt DC
    case inj => intro x y c e1 e2; rw [cellsE] at e1 e2; exact I2.ok.inj x y c (q1 x c e1) (q1 y c e2)
    case has =>
      intro x hx
      rw [cellsE]
      cases e : scope.names.lookup x with
      | none => rw [relN x e] at hx; rcases hx with z | z <;> cases z
      | some k =>
        obtain ⟨k', e', q⟩ := relS x k e
        rw [e'] at hx
        have kf : k = .free := by
          rcases q with q | q
          · rcases hx with z | z
            · cases z; exact absurd q.symm (S.cell _ (PySem.mem_of_lookup e))
            · cases z; exact q.symm
          · exact q.1
        subst kf
        exact q2 x (PySem.mem_of_lookup e)
    case cab => intro x c h; rw [← hX'] at h; exact absurd h (by show ¬ (false = true); decide)
    case hd => rw [← hX']; exact I2.ok.hd
    case frames => rw [← hX']; exact I2.ok.frames
    case stk => rw [← hX']; exact .inl rfl
    case exf =>
      intro b hb
      have hb' : b ∈ fp := by rw [← hX'] at hb; exact hb
      refine ⟨by rw [locE]; exact Nat.ne_of_lt (Nat.lt_trans (fpl b hb') DC), fun x c e => ?_⟩
      rw [cellsE] at e
      exact (f2 b hb').2.2.2.2.1 x c (q1 x c e)
    case bs => rw [← hX']; exact I2.bs
    case bsz => rw [← hX']; exact Nat.le_trans I2.ok.bsz I2.sz
    case noex =>
      intro b o e hb
      have hb' : b ∈ fp := by rw [← hX'] at hb; exact hb
      have e' : X.base.get? b = some o := by rw [← hX'] at e; exact e
      rcases (f2 b hb').2.2.2.1 with z | z
      · exact I2.ok.noex b o e' z
      · exact absurd (Nat.lt_of_lt_of_le (Heap.lt_size e') (Nat.le_trans I2.ok.bsz z)) (Nat.lt_irrefl _)
    case exfs =>
      intro b hb
      have hb' : b ∈ fp := by rw [← hX'] at hb; exact hb
      rw [fsE]
      intro z
      rcases List.mem_cons.mp (I2.stkSub b z) with q | q
      · exact (f2 b hb').2.1 q
      · exact (f2 b hb').2.2.1 q
    case funs => rw [← hX']; exact I2.stack
    case frf => rw [fsE, ← hX']; exact I2.stkFree
  have c0 : H2 C = none := I2.hok.fresh (by rw [hD]; exact Nat.le_of_lt DC)
  have d0 : H2 D = none := I2.hok.fresh (by rw [hD]; exact Nat.le_refl _)
  have I3 : Inv X' [] (inSt M σ) H2 { s2 with heap := h₁, toks := s2.toks + ([] : List (Str × Value)).length } := by
    refine ⟨ok', ?os, ?bare, ?base, ?loc, ?cell, ?free, ?freeC, ?pin, ?hok, ?len⟩
    case os => rw [← hX']; rfl
    case bare => exact I2.bare
    case base => rw [fsE, ← hX']; exact Un.kept old
    case loc =>
      refine ⟨_, by rw [locE]; exact hns₁, fun i x v e1 e2 _ => ?_⟩
      obtain ⟨j, eM, eσ⟩ := inSt_get e2
      obtain ⟨y, n1, n2, n3⟩ := S.at_ i j eM
      have e1' : N'[i]? = some x := by rw [← hX'] at e1; exact e1
      rw [n1] at e1'; cases e1'
      have hyf : (x, NameKind.free) ∈ scope.names := PySem.mem_of_lookup n3
      have kd := S.fre _ hyf rfl
      obtain ⟨m, hn, hl⟩ := id I2.loc
      obtain ⟨u, ru, lk⟩ := hl j x v n2 eσ (kd.elim (fun z => .inr (.inl z)) fun z => .inr (.inr z))
      refine ⟨u, ru, ?_⟩
      rcases lk with ⟨k, _⟩ | ⟨k, c, ec, z⟩
      · have k' : X.env.scope.names.lookup x = some NameKind.local := k
        rcases kd with q | q <;> (rw [k'] at q; cases q)
      · obtain ⟨c', ec'⟩ := q2 x hyf
        have hcc := q1 x c' ec'
        rw [ec] at hcc; cases hcc
        obtain ⟨k', e', q⟩ := relS x _ n3
        refine .inr ⟨?_, c, by rw [cellsE]; exact ec', ?_⟩
        · rw [e']; rcases q with q | q
          · right; rw [q]
          · left; rw [q.2]
        · obtain ⟨o, ho, hd'⟩ := z
          exact ⟨o, old _ _ ho, hd'⟩
    case cell =>
      intro x c e
      rw [cellsE] at e
      obtain ⟨v, o, ho, hd'⟩ := I2.cell x c (q1 x c e)
      exact ⟨v, o, old _ _ ho, hd'⟩
    case free => rw [locE]; exact c0
    case freeC => intro x c e; rw [cellsE] at e; exact I2.freeC x c (q1 x c e)
    case pin => intro p hp; rw [← hX'] at hp; exact absurd (show p ∈ ([] : List (Addr × Obj)) from hp) (by simp)
    case hok => rw [← hX']; exact I2.hok.kept old
    case len => rw [inSt_length, ← hX']; exact S.len.symm
  have xE : ∀ (e : Value) (s' : Shared), ¬ X'.xe e s' := fun e s' z => by rw [← hX'] at z; exact z
  have progE : X'.prog = X.prog := by rw [← hX']; rfl
  have wE : X'.w = X.w := by rw [← hX']; rfl
  have KE' : X'.K = X.K := by rw [← hX']; rfl
  have AE : X'.A = X.A := by rw [← hX']; rfl
  have cE : X'.calm = true := by rw [← hX']; exact hc
  have exE : X'.ex = fp := by rw [← hX']; rfl
  have s0E : X'.s₀ = s2 := by rw [← hX']; rfl
  have pnE : X'.pn = [] := by rw [← hX']; rfl
  have hgX : PG X' tg g := by rw [← hX']; exact hg C s2 H2 fp
  have htX : PTs X' ifs tc := by rw [← hX']; exact ht C s2 H2 fp
  have heX : PE X' elt te := by rw [← hX']; exact he C s2 H2 fp
  have Dfp : D ∉ fp := fun z => Nat.lt_irrefl _ (fpl D z)
  have Dcl : ∀ x c, X'.env.cells.lookup x = some c → c ≠ D := fun x c e => by rw [cellsE] at e; exact Nat.ne_of_lt (cel x c e)
  have Dloc : D ≠ X'.env.locals := by rw [locE]; exact Nat.ne_of_lt DC
  have Dfs : D ∉ X'.fs := by rw [fsE]; exact fun z => Nat.lt_irrefl _ (fsl D z)
  have D0 : D ∈ X'.ex ∨ X'.s₀.heap.objs.size ≤ D := .inr (by rw [s0E, hD]; exact Nat.le_refl _)
  have stat : ∀ {pl : List (Addr × Obj)} {H' : Hp}, (∀ p ∈ pl, p.1 = D) → (∀ b ∈ fp, H' b = none) → ∀ b ∈ fp, FpOk X' pl H' b := fun {pl H'} hpl hn b hb => by
    refine ⟨hn b hb, by rw [locE]; exact Nat.ne_of_lt (Nat.lt_trans (fpl b hb) DC), ?_, .inl (by rw [exE]; exact hb), fun x c e => ?_, fun p hp => ?_⟩
    · exact ok'.exfs b (by rw [exE]; exact hb)
    · rw [cellsE] at e; exact (f2 b hb).2.2.2.2.1 x c (q1 x c e)
    · rw [pnE, List.nil_append] at hp
      rw [hpl p hp]; exact (Nat.ne_of_lt (fpl b hb)).symm
  have hiX2 : PI X' tg2 iter2 wi2 := by rw [← hX']; exact hi2 C s2 H2 fp
  have hgX2 : PG X' tg2 g2 := by rw [← hX']; exact hg2 C s2 H2 fp
  have htX2 : PTs X' ifs2 tc2 := by rw [← hX']; exact ht2 C s2 H2 fp
  have loop : codeAny (model X.prog X.w) X.A (.compLoop (.ListComp elt [⟨tg, iter, ifs, 0⟩, ⟨tg2, iter2, ifs2, 0⟩] scope pos) 0 (.ref it) (.ref D) X'.env) (RR (.ref D) C) { s2 with heap := h₁, toks := s2.toks + ([] : List (Str × Value)).length } := by
    have T' : Turn X'.prog X'.w X'.K tg J fp it tn := by rw [progE, wE, KE']; exact T
    have em := pem_in (X := X') (D := D) (elt := elt) (g0 := ⟨tg, iter, ifs, 0⟩) (scope := scope) (pos := pos) (ks := ks2) cE xE hiX2 hgX2 ho2 htX2 heX (fun _ => rfl) (hs2 _)
    have inN : ∀ i, M[i]? = some none → (inSt M σ)[i]? = some none := fun i e => by unfold inSt; rw [List.getElem?_map, e]; rfl
    have base : codeAny (model X'.prog X'.w) X'.A (.compLoop (.ListComp elt [⟨tg, iter, ifs, 0⟩, ⟨tg2, iter2, ifs2, 0⟩] scope pos) 0 (.ref it) (.ref D) X'.env) (RR (.ref D) C) _ := lc_loop (F := F) (ks := ks) rfl rfl ((turn_first0 ..).trans (turnF_eq ..)) rfl cE xE hgX ho
      (fun i v e hk => by rw [inN i (hks i hk)] at e; cases e) (fun σ' hσ i v e hk => by rw [hσ i (hks2 i hk).2, inN i (hks2 i hk).1] at e; cases e) htX em I3 T' (T.keep _ _ _ st2 fun b hb o e => old b o e) (stat (pl := []) (fun p hp => absurd hp (by simp)) fun b hb => (f2 b hb).1)
      ⟨d0, Dloc, Dfs, D0, Dcl, fun p hp => by rw [pnE] at hp; exact absurd hp (by simp)⟩ ⟨[], 0, .nil, hacc⟩ Dfp hw (fun s4 H3 ys J4 dn ⟨its, k, rv, hD4⟩ hsz fr4 qF => by
      obtain ⟨mC, hnC, _⟩ := id J4.loc
      rw [locE] at hnC
      have b4 := J4.base
      rw [fsE, exE, s0E, show X'.H₀ = H2 by rw [← hX']; rfl] at b4
      refine hend D C s4 H3 ys ?_ dn (Nat.le_refl _) DC ⟨mC, hnC⟩ (by rw [upd_ne (Nat.ne_of_gt DC)]; have := J4.free; rw [locE] at this; exact this) qF
      have hok4 := J4.hok
      rw [progE, wE] at hok4
      refine I2.call' (ch := fp) (H' := upd H3 D (.lst ys)) (by rw [J4.os, s0E]) ⟨b4.keep, b4.slot, fun b o e nn hb => ?_, b4.there, fun b xs e => ?_, fun b o u e => ?_, fun b ps e => ?_⟩ ?_ J4.bare fun b hb => ?_
      · rw [upd_ne (Nat.ne_of_lt (lo b o e))]; exact b4.free b o e nn hb
      · rw [upd_ne (ne_of_none (b4.tups b xs e) dn)]; exact b4.tups b xs e
      · rw [upd_ne (ne_of_none (b4.frzs b o u e) dn)]; exact b4.frzs b o u e
      · obtain ⟨more, e'⟩ := b4.tbls b ps e
        exact ⟨more, by rw [upd_ne (ne_of_none e' dn)]; exact e'⟩
      · intro b u e
        by_cases hb : b = D
        · subst hb
          rw [upd_same] at e; cases e
          exact ⟨hsz, its, k, rv, hD4⟩
        · rw [upd_ne hb] at e
          exact (hok4 b u e).stay (fun c v _ q => q) (fun c q => by rw [upd_ne (ne_of_none q dn)]; exact q) fun c xs q => by rw [upd_ne (ne_of_none q dn)]; exact q
      · obtain ⟨f0, f1, f3, f4, f5, f6⟩ := f2 b hb
        exact ⟨f4, f1, f5, f6⟩)
    rw [progE, wE, AE] at base
    exact base
  have loop' : codeAny (model X.prog X.w) X.A (.compLoop (.ListComp elt [⟨tg, iter, ifs, 0⟩, ⟨tg2, iter2, ifs2, 0⟩] scope pos) 0 (.ref it) (.ref D) (compEnvC scope cl C X.env)) (RR (.ref D) C) { s2 with heap := h₁, toks := s2.toks + ([] : List (Str × Value)).length } := envE ▸ loop
  exact codeAny_compStart_list loop' (T.self _ 0 _ _ _ (T.keep _ _ _ st2 fun b hb o e => old b o e) loop')
def tLc2 (wi : TI) (M : List (Option Nat)) (g : TG) (tc : TT) (wi2 : TI) (g2 : TG) (tc2 : TT) (te : TE) (σ : St) (H : Hp) (F : List V → Hp → Prop) : Prop := wi σ H fun J H1 => LcW J g tc (tmIn wi2 g2 tc2 te) (inSt M σ) [] H1 F
section
variable {X : Cx} {N' : List Str} {M : List (Option Nat)} {scope : Scope} {tg elt iter tg2 iter2 : Expr} {ifs ifs2 : List Expr} {ks ks2 : List Nat} {pos : Pos} {g g2 : TG} {tc tc2 : TT} {te : TE} {wi wi2 : TI}
theorem pe_lc2 (S : LcSc X.N N' M scope X.env.scope) (hc : X.calm = true) (hi : PI X tg iter wi) (hg : ∀ cl C s H fp, PG (cxLc X N' scope cl C s H fp) tg g) (ho : Own ks g)
    (ht : ∀ cl C s H fp, PTs (cxLc X N' scope cl C s H fp) ifs tc) (hks : ∀ i ∈ ks, M[i]? = some none) (hks2 : ∀ i ∈ ks2, M[i]? = some none ∧ i ∉ ks) (hi2 : ∀ cl C s H fp, PI (cxLc X N' scope cl C s H fp) tg2 iter2 wi2) (hg2 : ∀ cl C s H fp, PG (cxLc X N' scope cl C s H fp) tg2 g2) (ho2 : Own ks2 g2) (ht2 : ∀ cl C s H fp, PTs (cxLc X N' scope cl C s H fp) ifs2 tc2) (he : ∀ cl C s H fp, PE (cxLc X N' scope cl C s H fp) elt te)
    (hs : ∀ x, foldedSetIterable iter X.env x = pure x := by intro _; rfl) (hs2 : ∀ env x, foldedSetIterable iter2 env x = pure x := by intro _ _; rfl) :
    PE X (.ListComp elt [⟨tg, iter, ifs, 0⟩, ⟨tg2, iter2, ifs2, 0⟩] scope pos) (fun σ H Q => tLc2 wi M g tc wi2 g2 tc2 te σ H fun ys H' => ∀ p, H' p = none → Q (.ref p) (upd H' p (.lst ys))) := by
  intro pins s σ H Q I h
  obtain ⟨cl, hclos, q1, q2⟩ := lc_clos S I
  rw [eval_ListComp]
  refine wpAny_comprehension_free (use := none) rfl hs hclos S.kind S.own (thn (hi pins s σ H _ I h) fun v s1 h1 => thn h1 fun itv s2 h2 => ?_)
  obtain ⟨it, fp, tn, J, H2, e, I2, T, st2, f2, hw⟩ := h2
  subst e
  refine lc_block2 (RR := fun acc C => compPost (model X.prog X.w) X.A X.xe none (EP X pins σ Q) acc C) S hc q1 q2 (hg cl) ho (ht cl) hks hks2 (hi2 cl) (hg2 cl) ho2 (ht2 cl) (he cl) hs2 I2 T st2 f2 hw ?_
  intro D C s' H' ys I' dn hD hC ⟨m, hn⟩ hCn q
  obtain ⟨y1, y2, y3, y4⟩ := I2.young (Nat.le_of_lt hC)
  exact ⟨m, hn, fun h' hs' => ⟨.ref D, _, I'.gone (s' := s') hs' hCn y1 y2 y3 y4, rfl, q D dn⟩⟩
theorem ps_lc2 {i : Nat} {x : Str} {pos' spos : Pos} (hN : X.N.Nodup) (hi : X.N[i]? = some x) (hx : X.env.scope.names.lookup x = some NameKind.local)
    (S : LcSc X.N N' M scope X.env.scope) (hc : X.calm = true) (hit : PI X tg iter wi) (hg : ∀ cl C s H fp, PG (cxLc X N' scope cl C s H fp) tg g) (ho : Own ks g)
    (ht : ∀ cl C s H fp, PTs (cxLc X N' scope cl C s H fp) ifs tc) (hks : ∀ i ∈ ks, M[i]? = some none) (hks2 : ∀ i ∈ ks2, M[i]? = some none ∧ i ∉ ks) (hi2 : ∀ cl C s H fp, PI (cxLc X N' scope cl C s H fp) tg2 iter2 wi2) (hg2 : ∀ cl C s H fp, PG (cxLc X N' scope cl C s H fp) tg2 g2) (ho2 : Own ks2 g2) (ht2 : ∀ cl C s H fp, PTs (cxLc X N' scope cl C s H fp) ifs2 tc2) (he : ∀ cl C s H fp, PE (cxLc X N' scope cl C s H fp) elt te)
    (hsw : swapsWith (.ListComp elt [⟨tg, iter, ifs, 0⟩, ⟨tg2, iter2, ifs2, 0⟩] scope pos) (some (.Name x pos')) spos.line X.env = pure true := by rfl)
    (hs : ∀ x, foldedSetIterable iter X.env x = pure x := by intro _; rfl) (hs2 : ∀ env x, foldedSetIterable iter2 env x = pure x := by intro _ _; rfl) :
    PS X (.Assign [.Name x pos'] (.ListComp elt [⟨tg, iter, ifs, 0⟩, ⟨tg2, iter2, ifs2, 0⟩] scope pos) spos) (fun D σ H => tLc2 wi M g tc wi2 g2 tc2 te σ H fun ys H' => ∀ p, H' p = none → D.nx (σ.set i (some (.ref p))) (upd H' p (.lst ys))) := by
  intro pins s σ H Dn I h
  obtain ⟨cl, hclos, q1, q2⟩ := lc_clos S I
  rw [exec_Assign_Name_used _ _ _ _ hsw]
  refine wpAny_bind (wpAny_standAt (wpAny_bind ?_))
  show wpAny _ X.A (do let _ ← comprehension (.ListComp elt [⟨tg, iter, ifs, 0⟩, ⟨tg2, iter2, ifs2, 0⟩] scope pos) scope X.env _ (newList []) false (eval iter X.env) (some (assign (.Name x pos') X.env))) _ _ s
  refine wpAny_bind (wpAny_mono (wpAny_comprehension_free (use := some (assign (.Name x pos') X.env)) (Q := fun _ s' => SP X pins Dn .next s') rfl hs hclos S.kind S.own
    (thn (hit pins s σ H _ I h) fun v s1 h1 => thn h1 fun itv s2 h2 => ?_)) (fun _ s' hq => wpAny_pure (wpAny_pure hq)) fun _ _ e => e)
  obtain ⟨it, fp, tn, J, H2, e, I2, T, st2, f2, hw⟩ := h2
  subst e
  refine lc_block2 (RR := fun acc C => compPost (model X.prog X.w) X.A X.xe (some (assign (.Name x pos') X.env)) (fun _ s' => SP X pins Dn .next s') acc C) S hc q1 q2 (hg cl) ho (ht cl) hks hks2 (hi2 cl) (hg2 cl) ho2 (ht2 cl) (he cl) hs2 I2 T st2 f2 hw ?_
  intro D C s' H' ys I' dn hD hC ⟨m, hn⟩ hCn q
  obtain ⟨y1, y2, y3, y4⟩ := I2.young (Nat.le_of_lt hC)
  show wpAny _ X.A (assign (.Name x pos') X.env (.ref D)) _ _ s'
  refine wpAny_assign_Name (store_ok2 I' hN hi (.inl hx) (v := .ref D) rfl (fun s'' I'' ⟨a, hsb, ha⟩ => ?_) (.inr hx))
  have hCa : C ≠ a := by
    rcases ha with z | z
    · rw [z]; exact y1
    · exact (y3 x a z).symm
  exact ⟨m, hn.sameBut hsb hCa, fun h' hs' => ⟨_, _, I''.gone (s' := s'') hs' hCn y1 y2 y3 y4, q D dn⟩⟩
end
end L2
set_option Elab.async false
set_option linter.all false
set_option maxRecDepth 100000
namespace L2
open PySem PySem.W PyProof.Rows
section
variable {r : Nat → Int}
def ky (r : Nat → Int) (p : Array Nat) (k : Nat) : Int := r (p.getD k 0)
def DnTo (r : Nat → Int) (p : Array Nat) (k : Nat) : Prop := ∀ i j, i ≤ j → j < k → ky r p j ≤ ky r p i
theorem DnTo.congr {p q : Array Nat} {n : Nat} (h : DnTo r p n) (e : ∀ k, ky r q k = ky r p k) : DnTo r q n := fun i j a b => by rw [e, e]; exact h i j a b
end
end L2
set_option Elab.async false
set_option linter.all false
set_option maxRecDepth 100000
namespace L2
open PySem PySem.Spec PyProof.Rows
structure Door (P : Program) (w : World) (K : PySem.W.Frag) (mg : Str → Option Value) (base : Heap) (k : Nat) (f : Addr) (sp : Sp) : Prop where
  ex : ∃ fd ps, FnOk P w K mg base (CXE P w) k f fd ps sp ∧ PySem.W.keepIn K (.ref f) = true ∧ Binds K fd ps []
theorem CalE.door {P : Program} {w : World} {K : PySem.W.Frag} {mg : Str → Option Value} {base : Heap} {j k : Nat} {x : Str} {sp : Sp} (c : CalE P w K mg base j x [] sp) (h : j ≤ k) : ∃ f, mg x = some (.ref f) ∧ Door P w K mg base k f sp := by
  obtain ⟨f, fd, ps, ds, F, hm, hk, hb, hv⟩ := c.ex
  cases hv
  exact ⟨f, hm, fd, ps, F.mono h, hk, hb⟩
end L2
set_option Elab.async false
set_option linter.all false
namespace L2
open PySem
end L2
set_option Elab.async false
set_option linter.all false
namespace L2
open PySem
end L2
namespace L2
open PySem
end L2
set_option Elab.async false
set_option linter.all false
namespace L2
open PySem
def hdL (ws : List Int) (k : Nat) : Int := (((lotN ws (k : Int) ws.length).headD 0 : Nat) : Int)
def tlL (ws : List Int) (k : Nat) : Int := (((lotN ws (k : Int) ws.length).getLastD 0 : Nat) : Int)
def lieS (a0 a1 b0 b1 : Int) : Str := if a0 = b0 ∧ a1 = b1 then "same" else if a1 < b0 ∨ b1 < a0 then "apart" else if b0 < a0 ∧ a1 < b1 then "inside" else if a0 < b0 ∧ b1 < a1 then "around" else "crossing"
end L2
set_option Elab.async false
set_option linter.all false
set_option maxRecDepth 100000
namespace L2
open PySem PySem.Spec PyProof.Rows
section
variable {X : Cx} {K : PySem.W.Frag}
end
end L2
set_option Elab.async false
set_option linter.all false
namespace L2
open PySem
end L2
namespace L2
end L2
set_option Elab.async false
set_option linter.all false
set_option maxRecDepth 100000
namespace L2
open PySem PySem.Spec PyProof.Rows
section
variable {X : Cx} {K : PySem.W.Frag}
abbrev TsAt (K : PySem.W.Frag) (H : Hp) (ps : List Addr) (xss : List (List Int)) : Prop := Paired (fun a (xs : List Int) => SqT K H a (xs.map V.int)) ps xss
end
end L2
set_option Elab.async false
set_option linter.all false
set_option maxRecDepth 100000
namespace L2
open PySem
end L2
set_option Elab.async false
set_option linter.all false
set_option maxRecDepth 100000
namespace L2
open PySem PySem.Spec PyProof.Rows
section
variable {X : Cx} {K : PySem.W.Frag}
end
end L2
set_option Elab.async false
set_option linter.all false
set_option maxRecDepth 100000
namespace L2
open PySem
end L2
set_option Elab.async false
set_option linter.all false
set_option maxRecDepth 100000
namespace L2
open PySem PySem.Spec PyProof.Rows
section
variable {X : Cx}
def PlT (H : Hp) (a : Addr) (xs : List V) : Prop := ∃ ob : Obj, ob.dict = none ∧ H a = some (.frz ob (.tup xs))
theorem PlT.sq {K : PySem.W.Frag} {H : Hp} {a : Addr} {xs : List V} (h : PlT H a xs) : SqT K H a xs := by
  obtain ⟨ob, _, h⟩ := h
  exact .inl (.inr ⟨ob, h⟩)
theorem PlT.same {H H' : Hp} {a : Addr} {xs : List V} (h : PlT H a xs) (s : Same H H') : PlT H' a xs := by
  obtain ⟨ob, h1, h⟩ := h
  exact ⟨ob, h1, s a _ h⟩
end
abbrev TuAt (H : Hp) (ps : List Addr) (xss : List (List Int)) : Prop := Paired (fun a (xs : List Int) => H a = some (.tup (xs.map V.int))) ps xss
theorem tu_same {H H' : Hp} {ps : List Addr} {xss : List (List Int)} (s : Same H H') (h : TuAt H ps xss) : TuAt H' ps xss := L2.Paired.mapP h fun _ _ z => s _ _ z
end L2
set_option Elab.async false
set_option linter.all false
set_option maxRecDepth 100000
namespace L2
open PySem
def suitsB (ar cr : Nat → Nat → Bool) (C : List Int) (h : Int) : Bool :=
  (List.range C.length).all fun k => !(ar k C.length && decide (C.getD k 0 ≤ h)) && !(cr k C.length && decide (C.getD k 0 = h))
def comp (ar cr : Nat → Nat → Bool) (n g : Nat) : Nat → List Int → Option (List Int)
  | 0, _ => none
  | d + 1, C => if C.length = n then some C else
      (List.range g).findSome? fun (h : Nat) => if suitsB ar cr C ((h : Int) + 1) then comp ar cr n g d (C ++ [(h : Int) + 1]) else none
variable {ar cr : Nat → Nat → Bool} {n g : Nat}
def IsH (ar cr : Nat → Nat → Bool) (n : Nat) (F : List Int) : Prop := ∃ g, 1 ≤ g ∧ comp ar cr n g (n + 1) [] = some F ∧ ∀ g', 1 ≤ g' → g' < g → comp ar cr n g' (n + 1) [] = none
theorem IsH.uniq {F G : List Int} (a : IsH ar cr n F) (b : IsH ar cr n G) : F = G := by
  obtain ⟨g, g1, e1, l1⟩ := a
  obtain ⟨h, h1, e2, l2⟩ := b
  rcases Nat.lt_trichotomy g h with z | z | z
  · rw [l2 g g1 z] at e1; cases e1
  · subst z; rw [e1] at e2; exact Option.some.inj e2
  · rw [l1 h h1 z] at e2; cases e2
def arW (ws : List Int) (k j : Nat) : Bool := decide (lieS (hdL ws k) (tlL ws k) (hdL ws j) (tlL ws j) = "around")
def crW (ws : List Int) (k j : Nat) : Bool := decide (lieS (hdL ws k) (tlL ws k) (hdL ws j) (tlL ws j) = "crossing")
def SpanAt (H : Hp) (p : Addr) (ps : List Addr) (ws : List Int) : Prop := H p = some (.lst (ps.map V.ref)) ∧ ps.length = (fresh 0 ws).toNat ∧ ∀ (k : Nat) q, ps[k]? = some q → H q = some (.tup [.int (hdL ws k), .int (tlL ws k)])
theorem SpanAt.same {H H' : Hp} {p : Addr} {ps : List Addr} {ws : List Int} (h : SpanAt H p ps ws) (s : Same H H') : SpanAt H' p ps ws := ⟨s p _ h.1, h.2.1, fun k q e => s q _ (h.2.2 k q e)⟩
theorem SpanAt.at {H : Hp} {p : Addr} {ps : List Addr} {ws : List Int} (h : SpanAt H p ps ws) {k : Nat} (hk : k < (fresh 0 ws).toNat) : ∃ q, ps[k]? = some q ∧ H q = some (.tup [.int (hdL ws k), .int (tlL ws k)]) := by
  have hl := h.2.1
  have e := List.getElem?_eq_getElem (show k < ps.length by omega)
  exact ⟨_, e, h.2.2 k _ e⟩
end L2
namespace L2
open PySem PySem.Spec PyProof.Rows
section
variable {X : Cx} {K : PySem.W.Frag}
end
end L2
set_option Elab.async false
set_option linter.all false
set_option maxRecDepth 100000
namespace L2
open PySem
variable {ar cr : Nat → Nat → Bool} {n g : Nat}
abbrev LhAt (H : Hp) (ps : List Addr) (xss : List (List Int)) : Prop := Paired (fun a (xs : List Int) => H a = some (.lst (xs.map V.int))) ps xss
theorem LhAt.same {H H' : Hp} {ps : List Addr} {xss : List (List Int)} (h : LhAt H ps xss) (s : Same H H') : LhAt H' ps xss := L2.Paired.mapP h fun a xs z => s a _ z
end L2
set_option Elab.async false
set_option linter.all false
set_option maxRecDepth 100000
namespace L2
open PySem PySem.W PyProof.Rows
def KIn {α : Type} (n : Nat) (P : α → Prop) : KasT α → Prop
  | .ret a => P a
  | .ask i j k => i < n ∧ j < n ∧ ∀ b, KIn n P (k b)
theorem KIn.bind {α β : Type} {n : Nat} {P : α → Prop} {Q : β → Prop} {f : α → KasT β} : ∀ {t : KasT α}, KIn n P t → (∀ a, P a → KIn n Q (f a)) → KIn n Q (t.bind f)
  | .ret a, h, hf => hf a h
  | .ask i j k, h, hf => ⟨h.1, h.2.1, fun b => KIn.bind (h.2.2 b) hf⟩
variable {n : Nat}
end L2
set_option Elab.async false
set_option linter.all false
set_option maxRecDepth 100000
namespace L2
open PySem PySem.Spec PyProof.Rows
section
variable {X : Cx} {K : PySem.W.Frag}
end
end L2
set_option Elab.async false
set_option linter.all false
set_option maxRecDepth 100000
namespace PySem
open Sem (wp)
def Heap.DictE (h : Heap) (a : Addr) (kvs : List (Value × Value)) (ep : Nat) : Prop := ∃ o es, h.get? a = some o ∧ o.ExactDict ∧ o.data = .dict es ep ∧ es.toList.map (fun e => (e.key, e.val)) = kvs
theorem Heap.DictE.typeIs {s : Shared} {a : Addr} {kvs : List (Value × Value)} {ep : Nat} (x : s.heap.DictE a kvs ep) : s.TypeIs (.ref a) "dict" := let ⟨o, _, ho, hc, _⟩ := x; ⟨o, ho, hc.1⟩
theorem Heap.DictE.extBut {h h' : Heap} {a b kvs ep} (x : h.DictE a kvs ep) (hs : Heap.ExtBut b h h') (hab : a ≠ b) : h'.DictE a kvs ep := let ⟨o, es, ho, r⟩ := x; ⟨o, es, hs a o hab ho, r⟩
theorem Heap.DictE.lt_size {h : Heap} {a kvs ep} (x : h.DictE a kvs ep) : a < h.objs.size := let ⟨_, _, ho, _⟩ := x; Heap.lt_size ho
theorem Heap.DictE.push {h : Heap} {a kvs ep} (x : h.DictE a kvs ep) (o : Obj) : (h.push o).DictE a kvs ep := let ⟨o', es, ho, r⟩ := x; ⟨o', es, Heap.get?_push_of_some o ho, r⟩
theorem Heap.DictE.at' {h h' : Heap} {a kvs ep} (x : h.DictE a kvs ep) (e : ∀ o, h.get? a = some o → h'.get? a = some o) : h'.DictE a kvs ep := let ⟨o, es, ho, r⟩ := x; ⟨o, es, e _ ho, r⟩
section
variable {prog : Program} {w : World} {A : Around} {E : Value → Shared → Prop} {s : Shared}
end
end PySem
namespace PySem.W
open PySem PySem.Calls PyProof.Rows PyProof.V PySem.Spec
section
variable {prog : Program} {w : World} {d r : Addr} {kvs : List (Value × Value)} {ep : Nat}
end
end PySem.W
namespace L2
open PySem PySem.Spec PyProof.Rows
section
variable {X : Cx} {K : PySem.W.Frag}
end
end L2
set_option Elab.async false
set_option linter.all false
set_option maxRecDepth 100000
namespace L2
open PySem PySem.Spec PyProof.Rows
inductive Dd where
  | non | bl (b : Bool) | int (i : Int) | str (x : Str) | lst (l : List Dd) | tup (l : List Dd)
mutual
def DAt (K : PySem.W.Frag) (H : Hp) : Dd → V → Prop
  | .non, v => v = .non
  | .bl b, v => v = .bl b
  | .int i, v => v = .int i
  | .str x, v => v = .str x
  | .lst l, v => ∃ (a : Addr) (vs : List V), v = .ref a ∧ SqL K H a vs ∧ DAts K H l vs
  | .tup l, v => ∃ (a : Addr) (vs : List V), v = .ref a ∧ SqT K H a vs ∧ DAts K H l vs
def DAts (K : PySem.W.Frag) (H : Hp) : List Dd → List V → Prop
  | [], vs => vs = []
  | d :: l, vs => ∃ (v : V) (r : List V), vs = v :: r ∧ DAt K H d v ∧ DAts K H l r
end
theorem DAts.length {K : PySem.W.Frag} {H : Hp} : ∀ {l : List Dd} {vs : List V}, DAts K H l vs → vs.length = l.length
  | [], vs, h => by rw [DAts] at h; rw [h]; rfl
  | d :: l, vs, h => by
    rw [DAts] at h
    obtain ⟨v, r, rfl, _, h2⟩ := h
    rw [List.length_cons, List.length_cons, DAts.length h2]
theorem DAts.get {K : PySem.W.Frag} {H : Hp} : ∀ {l : List Dd} {vs : List V} {j : Nat}, DAts K H l vs → j < l.length → ∃ v, vs[j]? = some v ∧ DAt K H (l.getD j .non) v
  | [], vs, j, h, hj => by simp at hj
  | d :: l, vs, j, h, hj => by
    rw [DAts] at h
    obtain ⟨v, r, rfl, h1, h2⟩ := h
    cases j with
    | zero => exact ⟨v, rfl, h1⟩
    | succ j =>
      obtain ⟨v', e, h3⟩ := DAts.get h2 (by simpa using hj)
      exact ⟨v', by simpa using e, by simpa using h3⟩
section
variable {X : Cx} {K : PySem.W.Frag} {pins : List (Addr × Obj)} {σ : St} {H : Hp} {s : Shared}
end
end L2
set_option Elab.async false
set_option linter.all false
set_option maxRecDepth 100000
namespace L2
open PySem PySem.Spec PyProof.Rows
section
variable {X : Cx} {K : PySem.W.Frag}
end
end L2
set_option Elab.async false
set_option linter.all false
set_option maxRecDepth 100000
namespace L2
open PySem
theorem paired_getM {α β : Type} {F : α → β → Prop} : ∀ {l1 : List α} {l2 : List β} {j : Nat} {a : α}, Paired F l1 l2 → l1[j]? = some a → ∃ b, F a b ∧ l2[j]? = some b := by
  intro l1 l2 j a h e
  induction h generalizing j with
  | nil => simp at e
  | cons r t ih =>
    cases j with
    | zero => simp at e; subst e; exact ⟨_, r, rfl⟩
    | succ j => obtain ⟨b, q, e2⟩ := ih (by simpa using e); exact ⟨b, q, by simpa using e2⟩
end L2
set_option Elab.async false
set_option linter.all false
set_option maxRecDepth 100000
namespace L2
open PySem PySem.Spec PyProof.Rows
open PySem.StrLaws (occBody occ_eq subAt_one partsFrom partsBetween_eq strSub_toList)
section
variable {X : Cx} {K : PySem.W.Frag}
end
end L2
set_option Elab.async false
set_option linter.all false
set_option maxRecDepth 100000
namespace L2
open PySem
end L2
set_option Elab.async false
set_option linter.all false
set_option maxRecDepth 100000
namespace L2
open PySem PySem.Spec PyProof.Rows
section
variable {X : Cx} {K : PySem.W.Frag}
end
end L2
set_option Elab.async false
set_option linter.all false
set_option maxRecDepth 100000
namespace L2
open PySem
def neL (L : List (List Int)) : List (List Int) := L.filter fun l => decide (0 < l.length)
section
variable {ws F : List Int} (hw : isWay ws = true) (hH : IsH (arW ws) (crW ws) (fresh 0 ws).toNat F)
include hw hH in
include hw hH in
include hw hH in
include hw hH in
include hw hH in
end
end L2
set_option Elab.async false
set_option linter.all false
set_option maxRecDepth 100000
namespace L2
open PySem PySem.Spec PyProof.Rows
section
variable {prog : Program} {w : World} {A : Around} {E : Value → Shared → Prop} {s : Shared}
end
section
variable {X : Cx} {K : PySem.W.Frag}
end
end L2
set_option Elab.async false
set_option linter.all false
set_option maxRecDepth 100000
namespace L2
open PySem PySem.Spec PyProof.Rows
section
variable {X : Cx}
end
end L2
set_option Elab.async false
set_option linter.all false
set_option maxRecDepth 100000
namespace L2
open PySem PySem.Spec PyProof.Rows
section
variable {X : Cx} {K : PySem.W.Frag}
end
end L2
set_option Elab.async false
set_option linter.all false
set_option maxRecDepth 100000
namespace L2
open PySem PySem.Spec PyProof.Rows
end L2
set_option Elab.async false
set_option linter.all false
set_option maxRecDepth 100000
namespace L2
open PySem PySem.Spec PyProof.Rows
structure CalKE (P : Program) (w : World) (K : PySem.W.Frag) (mg : Str → Option Value) (base : Heap) (C : Addr) (k : Nat) (x : Str) (sp : Sp) : Prop where
  ex : ∃ f fd ps, FnOk P w K mg base (CXE P w) k f fd ps sp ∧ Mk K C f ∧ mg x = some (.ref C) ∧ Binds K fd ps []
section
variable {X : Cx} {k : Nat} {C : Addr} {x m : Str} {sp : Sp} {E : XK} {e o : Expr} {es : List Expr} {ta : TE} {t : TA} {p pos apos : Pos}
theorem pe_calKE (c : CalKE X.prog X.w X.K X.mg X.base C k x sp) (hr : Room (k + 1) X.A) (hg : Gl X x) (hx : Passes (CXE X.prog X.w) X E) (ha : PA X (e :: es) t) (hdb : (x == ("__debug__" : Str)) = false := by decide)
    (he : starEach (e :: es) X.env = (false, eval e X.env) :: starEach es X.env := by rfl) (hpl : (backTo pos (starEach es X.env)).any (·.1) = false := by rfl) :
    PE X (.Call (.Name x p) (e :: es) [] pos) (tMake C sp [] E t) := by
  obtain ⟨f, fd, ps, F, M, hm, hb⟩ := c.ex
  exact pe_make M F hr hg hm hb .nil hx ha hdb he hpl
end
end L2
set_option Elab.async false
set_option linter.all false
set_option maxRecDepth 100000
namespace L2
open PySem PySem.Spec PyProof.Rows
def sgZ (z : Str) (i : Nat) : Str := ⟨#[z.cps.toList.getD i 0]⟩
def Its (z : Str) : It := ⟨fun i _ => i < z.length, fun i H x H' => H' = H ∧ x = .str (sgZ z i), fun i _ => z.length ≤ i⟩
theorem turn_strA {P : Program} {w : World} {K : PySem.W.Frag} {tg : Expr} (it : Addr) (z : Str) (t : Tok) : Turn P w K tg (Its z) [it] it (fun i h => h.IsStrIter it "str_ascii_iterator" z t i) where
  mem := by simp
  obj := fun i h st b hb => by
    have e : b = it := by simpa using hb
    subst e
    obtain ⟨o, e, c, d⟩ := st
    exact ⟨o, e, fun v z => by rw [d] at z; cases z⟩
  keep := fun i h h' st k => let ⟨o, ho, r⟩ := st; ⟨o, k it (by simp) o ho, r⟩
  item := by
    intro X hP hw hK hc i pins s σ H E I hf st hg
    subst hP hw hK
    obtain ⟨f0, f1, f2, f3, f4, f5⟩ := hf it (by simp)
    have hi : i < z.cps.size := hg
    refine wpAny_pyNext_ascii_item st (c := z.cps[i]) (by simp [hi]) fun h' st' sb => ?_
    have I1 : Inv X pins σ H { s with heap := h', toks := s.toks + 1 } := I.turned (fun b o hb e => sb.extBut b o hb e) f0 f1 f3 f4 f5
    obtain ⟨o, e, c, d⟩ := id st'
    refine ⟨_, rfl, go_of (s := { s with heap := h', toks := s.toks + 1 }) e c d (by decide) ⟨.str (sgZ z i), H, I1, ⟨s.toks, ?_⟩, ⟨rfl, rfl⟩, st', fun b hb => (hf b hb).1⟩⟩
    unfold sgZ
    rw [List.getD_eq_getElem?_getD, Array.getElem?_toList, Array.getElem?_eq_getElem hi]; rfl
  done := by
    intro X hP hw hK hc i pins s σ H E I hf st hg
    subst hP hw hK
    obtain ⟨f0, f1, f2, f3, f4, f5⟩ := hf it (by simp)
    have hi : z.cps.size ≤ i := hg
    exact wpAny_pyNext_ascii_end (I.ok.hd hc) st (by simp [hi]) fun h' eb => ⟨rfl, I.turned (t' := s.toks) (fun b o hb e => eb b o hb e) f0 f1 f3 f4 f5⟩
  self := fun _ _ _ _ _ st h => wpAny_pyIter_striter_ascii st h
theorem turn_strW {P : Program} {w : World} {K : PySem.W.Frag} {tg : Expr} (it : Addr) (z : Str) (t : Tok) : Turn P w K tg (Its z) [it] it (fun i h => h.IsStrIter it "str_iterator" z t i) where
  mem := by simp
  obj := fun i h st b hb => by
    have e : b = it := by simpa using hb
    subst e
    obtain ⟨o, e, c, d⟩ := st
    exact ⟨o, e, fun v z => by rw [d] at z; cases z⟩
  keep := fun i h h' st k => let ⟨o, ho, r⟩ := st; ⟨o, k it (by simp) o ho, r⟩
  item := by
    intro X hP hw hK hc i pins s σ H E I hf st hg
    subst hP hw hK
    obtain ⟨f0, f1, f2, f3, f4, f5⟩ := hf it (by simp)
    have hi : i < z.cps.size := hg
    refine wpAny_pyNext_wide_item st (c := z.cps[i]) (by simp [hi]) fun h' st' sb => ?_
    have I1 : Inv X pins σ H { s with heap := h', toks := s.toks + 1 } := I.turned (fun b o hb e => sb.extBut b o hb e) f0 f1 f3 f4 f5
    obtain ⟨o, e, c, d⟩ := id st'
    refine ⟨_, rfl, go_of (s := { s with heap := h', toks := s.toks + 1 }) e c d (by decide) ⟨.str (sgZ z i), H, I1, ⟨s.toks, ?_⟩, ⟨rfl, rfl⟩, st', fun b hb => (hf b hb).1⟩⟩
    unfold sgZ
    rw [List.getD_eq_getElem?_getD, Array.getElem?_toList, Array.getElem?_eq_getElem hi]; rfl
  done := by
    intro X hP hw hK hc i pins s σ H E I hf st hg
    subst hP hw hK
    obtain ⟨f0, f1, f2, f3, f4, f5⟩ := hf it (by simp)
    have hi : z.cps.size ≤ i := hg
    exact wpAny_pyNext_wide_end (I.ok.hd hc) st (by simp [hi]) fun h' eb => ⟨rfl, I.turned (t' := s.toks) (fun b o hb e => eb b o hb e) f0 f1 f3 f4 f5⟩
  self := fun _ _ _ _ _ st h => wpAny_pyIter_striter_wide st h
def iStr (tl : TE) : TI := fun σ H R => tl σ H fun x H1 => ∃ z : Str, x = .str z ∧ R (Its z) H1
section
variable {X : Cx} {K : PySem.W.Frag} {tg : Expr}
theorem pi_str {l : Expr} {tl : TE} (hl : PE X l tl) : PI X tg l (iStr tl) := by
  intro pins s σ H R I h
  refine thn (hl pins s σ H _ I h) fun v s1 ⟨x, H1, I1, r1, q1⟩ => ?_
  obtain ⟨z, e, q⟩ := q1
  subst e
  obtain ⟨t, rfl⟩ := r1
  have fin : ∀ b ∈ [s1.heap.objs.size], FpOk X pins H1 b := fun b hb => by
    have e : b = s1.heap.objs.size := by simpa using hb
    subst e
    exact I1.fpOk (Nat.le_refl _) (I1.hok.fresh (Nat.le_refl _))
  cases ha : z.cps.all (· < 128)
  · refine wpAny_pyIter_wide ha ?_
    exact ⟨s1.heap.objs.size, [s1.heap.objs.size], _, _, H1, rfl, I1.kept (t' := s1.toks) fun b o e => Heap.get?_push_of_some _ e, turn_strW _ z t, ⟨_, Heap.get?_push_size _ rfl, rfl, rfl⟩, fin, q⟩
  · refine wpAny_pyIter_ascii ha ?_
    exact ⟨s1.heap.objs.size, [s1.heap.objs.size], _, _, H1, rfl, I1.kept (t' := s1.toks) fun b o e => Heap.get?_push_of_some _ e, turn_strA _ z t, ⟨_, Heap.get?_push_size _ rfl, rfl, rfl⟩, fin, q⟩
theorem lc_str {M : List (Option Nat)} {σ : St} {g : TG} {tc : TT} {te : TE} {F : List V → Hp → Prop} {H : Hp} {z : Str} (Pv : Nat → List V → Hp → Prop) (hz : z.length ≤ sizeLine) (h0 : Pv 0 [] H) (hl : ∀ i ys H, i ≤ z.length → Pv i ys H → ys.length ≤ i)
    (hs : ∀ i ys H, i < z.length → Pv i ys H → g (.str (sgZ z i)) (inSt M σ) H fun σ2 H2 => tc σ2 H2 fun b H3 => if b = true then te σ2 H3 fun v H4 => Pv (i + 1) (ys ++ [v]) H4 else Pv (i + 1) ys H3)
    (hd : ∀ ys H, Pv z.length ys H → F ys H) : LcGoal (Its z) M σ g tc te F H := by
  refine ⟨fun i m ys H => m = z.length - i ∧ i ≤ z.length ∧ Pv i ys H, ⟨z.length, by simp, Nat.zero_le _, h0⟩, ?_⟩
  rintro i m ys H ⟨rfl, hi, p⟩
  have hy := hl i ys H hi p
  refine ⟨by omega, ?_⟩
  by_cases hlt : i < z.length
  · refine .inr ⟨hlt, by omega, Pv (i + 1), fun ys' H' p' => ⟨z.length - (i + 1), by omega, rfl, hlt, p'⟩, fun x H' y => ?_⟩
    obtain ⟨e, y⟩ := y
    subst e y
    exact hs i ys _ hlt p
  · have e : i = z.length := by omega
    subst e
    exact .inl ⟨Nat.le_refl _, hd ys H p⟩
theorem op_leS : OpR X (compareOp .LtE) (fun x y H Q => ∃ i j, x = .str i ∧ y = .str j ∧ Q (.bl (!decide (j.cps.toList < i.cps.toList))) H) := by
  intro pins s σ H x y v u Q I rx ry h
  obtain ⟨i, j, rfl, rfl, q⟩ := h
  obtain ⟨t, rfl⟩ := rx
  obtain ⟨t', rfl⟩ := ry
  exact PySem.P.le_str ⟨.bl _, H, I, rfl, q⟩
end
end L2
set_option Elab.async false
set_option linter.all false
set_option maxRecDepth 100000
namespace L2
open PySem PySem.Spec PyProof.Rows
def stepS (σ : List Str) (v : Str) : List Str := if σ.any (· == v) then σ else σ ++ [v]
def firstMetS (val : Nat → Str) (i : Nat) : List Str := ((List.range i).map val).foldl stepS []
theorem firstMetS_zero (val : Nat → Str) : firstMetS val 0 = [] := rfl
theorem firstMetS_succ (val : Nat → Str) (i : Nat) : firstMetS val (i + 1) = stepS (firstMetS val i) (val i) := by
  unfold firstMetS; rw [List.range_succ, List.map_append, List.foldl_append]; rfl
theorem firstMetS_length_le (val : Nat → Str) : ∀ i, (firstMetS val i).length ≤ i
  | 0 => by rw [firstMetS_zero]; exact Nat.le_refl _
  | i + 1 => by
    rw [firstMetS_succ]; unfold stepS
    have ih := firstMetS_length_le val i
    split
    · omega
    · rw [List.length_append, List.length_singleton]; omega
theorem stepS_any (σ : List Str) (v k : Str) : (stepS σ v).any (· == k) = (σ.any (· == k) || decide (k = v)) := by
  unfold stepS
  by_cases h : σ.any (· == v) = true
  · rw [if_pos h]
    by_cases e : k = v
    · subst e; rw [h]; simp
    · simp [e]
  · rw [if_neg h, List.any_append]
    by_cases e : k = v
    · subst e; simp
    · have hb : (v == k) = false := by simpa [beq_iff_eq] using (fun h' : v = k => e h'.symm)
      simp [hb, e]
theorem stepS_length (σ : List Str) (v : Str) : (stepS σ v).length = if σ.any (· == v) then σ.length else σ.length + 1 := by
  unfold stepS; split <;> simp
section
variable {prog : Program} {w : World} {A : Around} {R : Result → Shared → Prop} {I : Addr} {fp wr : List Addr} {G : Array GenState → Array GenState → Prop} {n : Nat} {P : Nat → Value → Prop} {St : Nat → Shared → Prop}
theorem codeAny_set_update_loopZ (W : WalksS prog w A.in1 I fp wr G n P St) (S : Addr) (hSf : S ∉ fp)
    (val : Nat → Str) (hval : ∀ i v, P i v → ∃ t, v = .str (val i) t) (hb : n + 1 < scanBound) :
    ∀ (k i : Nat) (s : Shared), n - i = k → i ≤ n → St i s →
      s.heap.SetOf (strKind prog w) S (fun k' => (firstMetS val i).any (· == k')) (firstMetS val i).length →
      (∀ s', Moved (S :: wr) G s s' → s'.heap.SetOf (strKind prog w) S (fun k' => (firstMetS val n).any (· == k')) (firstMetS val n).length → R (.ok (.ret .none)) s') →
      codeAny (model prog w) A (.builtin "set.update.loop" ⟨[.ref S, .ref I], []⟩) R s := by
  have hSw : S ∉ wr := fun h => hSf (W.sub _ h)
  have hsub : ∀ b ∈ wr, b ∈ S :: wr := fun b hb => List.mem_cons_of_mem _ hb
  intro k
  induction k with
  | zero =>
    intro i s hk hi hst hS hR
    have hin : i = n := by omega
    subst hin
    refine codeAny_builtin F.entry_set_update_loop ?_
    rw [Around.under_plainId F.plain_set_update_loop _]
    show wpAny _ A.in1 (pyNext (.ref I) >>= _) _ _ s
    refine wpAny_bind (W.done s _ _ hst fun s' hm => ?_)
    show wpAny _ A.in1 (ret Value.none) _ _ s'
    exact wpAny_pure (hR s' (hm.mono hsub) (by
      obtain ⟨o, es, ep, t, ho, rest⟩ := hS
      exact ⟨o, es, ep, t, hm.heap S _ hSw ho, rest⟩))
  | succ k ih =>
    intro i s hk hi hst hS hR
    have hlt : i < n := by omega
    refine codeAny_builtin F.entry_set_update_loop ?_
    rw [Around.under_plainId F.plain_set_update_loop _]
    show wpAny _ A.in1 (pyNext (.ref I) >>= _) _ _ s
    refine wpAny_bind (W.item i s _ _ hlt hst fun v s' hP hst' hm => ?_)
    obtain ⟨t, rfl⟩ := hval i v hP
    have hS' : s'.heap.SetOf (strKind prog w) S (fun k' => (firstMetS val i).any (· == k')) (firstMetS val i).length := by
      obtain ⟨o, es, ep, tb, ho, rest⟩ := hS
      exact ⟨o, es, ep, tb, hm.heap S _ hSw ho, rest⟩
    show wpAny _ A.in1 (holding [Value.str (val i) t] (setAdd S (.str (val i) t)) >>= _) _ _ s'
    refine wpAny_bind (wpAny_holding ?_)
    unfold setAdd
    refine wpAny_holding ?_
    refine wpAny_bind ((strKind prog w).pyHash (k := val i) (strKind_is _ _ _ _) ?_)
    have hroom : (firstMetS val i).length + 1 < scanBound := by have := firstMetS_length_le val i; omega
    refine wpAny_setAddHashed_of (knd := strKind prog w) (s := { s' with toks := s'.toks + 1 }) (strKind_is _ _ _ _) rfl hS' hroom fun h' hsb hS2 => ?_
    have hSi : h'.SetOf (strKind prog w) S (fun k' => (firstMetS val (i + 1)).any (· == k')) (firstMetS val (i + 1)).length :=
      SetOf_congr hS2 (fun k' => by rw [firstMetS_succ, stepS_any]) (by rw [firstMetS_succ, stepS_length])
    refine wpAny_pure ⟨plainId_quiet F.plain_set_update_loop _, ih (i + 1) _ (by omega) hlt (W.frame _ s' _ _ hst' (Nat.le_succ _) fun b hb o e => ?_) hSi fun s'' hm'' hS'' => ?_⟩
    · rw [hsb.2 b (fun h : b = S => hSf (by rw [← h]; exact hb))]; exact e
    · refine hR s'' (Moved.trans W.gtrans ((hm.mono hsub).then_heap (Nat.le_succ _) fun b o hb e => ?_) hm'') hS''
      rw [hsb.2 b (fun h : b = S => hb (by rw [h]; exact List.mem_cons_self))]; exact e
end
section
variable {prog : Program} {w : World} {A : Around} {E : Value → Shared → Prop} {s : Shared}
set_option maxHeartbeats 3200000 in
theorem call_set_listZ {l : Addr} {items : Array Value} {ns : List Str} {Q : Value → Shared → Prop}
    (hh : A.handled = none) (hl : s.heap.IsList l items) (hi : ∀ (i : Nat) (v : Value), items[i]? = some v → ∃ t, v = .str (ns.getD i "") t) (hb : items.size + 1 < scanBound)
    (h : ∀ (h' : Heap) (tk : Nat), h'.SetOf (strKind prog w) s.heap.objs.size (fun k' => (firstMetS (fun i => ns.getD i "") items.size).any (· == k')) (firstMetS (fun i => ns.getD i "") items.size).length →
      (∀ b o, b < s.heap.objs.size → s.heap.get? b = some o → h'.get? b = some o) → Q (.ref s.heap.objs.size) { s with heap := h', toks := tk }) :
    wpAny (model prog w) A (call (.type "set") [.ref l]) Q E s := by
  obtain ⟨c, tl, hmro⟩ := F.called_set.mro
  have hmade := F.called_set.made
  have hsub := F.called_set.sub
  refine wpAny_call (codeAny_of_tree ?_)
  show wpAny _ _ (callAny (.type "set") _) _ _ _
  refine wpAny_pure ⟨Code.quiet_builtin _ (by decide +kernel), codeAny_builtin F.entry_type_call ?_⟩
  rw [Around.under_plain (weight_type_call_type "set" [.ref l] []) rfl]
  have h1 := F.called_set.notType
  have h2 := F.called_set.canCreate
  have hct := F.typeCall_set_1 (.ref l)
  repeat (any_goals (first | assumption | wp_step))
  refine codeAny_mono (code_set_new_1 (.ref l) (E := E) (Q₁ := fun obj s₁ => ∃ led : Bool, obj = .ref s.heap.objs.size ∧ s₁ = { s with heap := s.heap.push { cls := .type "set", dict := none, data := .set #[] 0 (.fresh 0 0 led) } }) fun led => ⟨led, rfl, rfl⟩) fun r s₁ hr => ?_
  cases r with
  | error e => exact hr
  | ok fl =>
    cases fl with
    | ret obj =>
      obtain ⟨led, rfl, rfl⟩ := hr
      have hS : (s.heap.push { cls := .type "set", dict := none, data := .set #[] 0 (.fresh 0 0 led) }).get? s.heap.objs.size = some { cls := .type "set", dict := none, data := .set #[] 0 (.fresh 0 0 led) } := Heap.get?_push_size _ rfl
      have hT : Shared.TypeIs { s with heap := s.heap.push { cls := .type "set", dict := none, data := .set #[] 0 (.fresh 0 0 led) } } (.ref s.heap.objs.size) "set" := ⟨_, hS, rfl⟩
      have hli := F.called_set.init.lookup
      have hbi := F.called_set.init.bind (.ref s.heap.objs.size)
      repeat (any_goals (first | assumption | wp_step))
      refine codeAny_mono (codeAny_call_builtin (R := wants (fun r s₂ => r = .none ∧ ∃ h' tk, s₂ = { s with heap := h', toks := tk } ∧
          h'.SetOf (strKind prog w) s.heap.objs.size (fun k' => (firstMetS (fun i => ns.getD i "") items.size).any (· == k')) (firstMetS (fun i => ns.getD i "") items.size).length ∧
          (∀ b o, b < s.heap.objs.size → s.heap.get? b = some o → h'.get? b = some o)) E) F.called_set.init.plain F.entry_set_init (check_set_init_1 hT ?_)) fun r₂ s₂ hr₂ => ?_
      · obtain ⟨ol, hol, hcl, nl, hdl⟩ := hl
        obtain ⟨ocls, odict, odata, oslots⟩ := ol
        simp only at hcl hdl
        subst hcl; subst hdl
        have hol' : (s.heap.push { cls := .type "set", dict := none, data := .set #[] 0 (.fresh 0 0 led) }).get? l = some { cls := .type "list", dict := odict, data := .seq items nl, slots := oslots } := Heap.get?_push_of_some _ hol
        have hsls := F.sub_list_set
        have hslf := F.sub_list_frozenset
        have hne : (Value.type "list" == Value.type "dict") = false := by decide
        have hl1 : (s.heap.push { cls := .type "set", dict := none, data := .set #[] 0 (.fresh 0 0 led) }).IsList l items := ⟨_, hol', rfl, nl, rfl⟩
        unfold Builtin.«set.__init__» noKeywords Builtin.Frozenset.updateFrom
        generalize hPI : pyIter = PI
        wp_walk
        subst hPI
        refine wpAny_pyIter_list hl1 ?_
        refine wpAny_bind (wpAny_runValue ?_)
        have hlS : l < s.heap.objs.size := Heap.lt_size hol
        have hh3 : A.in1.in1.in1.handled = none := by simp [hh]
        have hneI : l ≠ (s.heap.push { cls := .type "set", dict := none, data := .set #[] 0 (.fresh 0 0 led) }).objs.size := by
          rw [Heap.size_push]; exact Nat.ne_of_lt (Nat.lt_succ_of_lt hlS)
        have hSf : s.heap.objs.size ∉ [(s.heap.push { cls := .type "set", dict := none, data := .set #[] 0 (.fresh 0 0 led) }).objs.size, l] := by
          rw [Heap.size_push]; simp only [List.mem_cons, List.mem_singleton, List.not_mem_nil, or_false, not_or]
          exact ⟨Nat.ne_of_lt (Nat.lt_succ_self _), Nat.ne_of_gt hlS⟩
        have hval : ∀ (i : Nat) (v : Value), items[i]? = some v → ∃ t, v = .str ((fun i => ns.getD i "") i) t := hi
        refine codeAny_set_update_loopZ ((Walks.list hh3 _ l hneI items).toS) s.heap.objs.size
          hSf (fun i => ns.getD i "") hval hb (items.size - 0) 0 _ (by omega) (Nat.zero_le _)
          ⟨⟨_, Heap.get?_push_size _ rfl, rfl, rfl⟩, (hl1.push _)⟩ ?hS0 ?hR
        case hS0 =>
          have hget : ((s.heap.push { cls := .type "set", dict := none, data := .set #[] 0 (.fresh 0 0 led) }).push { cls := .type "list_iterator", data := .fields #[.ref l, .int 0 0] }).get? s.heap.objs.size
              = some { cls := .type "set", dict := none, data := .set #[] 0 (.fresh 0 0 led) } := Heap.get?_push_of_some _ hS
          exact PyProof.Rows.SetOf_congr ((PyProof.Rows.setObjOf_fresh (knd := strKind prog w) led).setOf hget (by unfold scanBound; omega)) (fun _ => rfl) rfl
        case hR =>
          intro s' hm hS'
          obtain ⟨h', g', d', tk', os'⟩ := s'
          have eg : g' = s.gens := hm.gens
          have ed : d' = s.drawn := hm.drawn
          have eo : os' = s.os := hm.os
          subst eg; subst ed; subst eo
          show wpAny _ _ _ _ _ _
          refine wpAny_pure ?_
          show wpAny _ _ (ret Value.none) _ _ _
          refine wpAny_pure ⟨rfl, h', tk', rfl, hS', fun b o hb e => ?_⟩
          have hb1 : b ≠ s.heap.objs.size := Nat.ne_of_lt hb
          have hb2 : b ≠ (s.heap.push { cls := .type "set", dict := none, data := .set #[] 0 (.fresh 0 0 led) }).objs.size := by
            rw [Heap.size_push]; exact Nat.ne_of_lt (Nat.lt_succ_of_lt hb)
          exact hm.heap b o (by simp only [List.mem_cons, List.mem_singleton, List.not_mem_nil, or_false, not_or]; exact ⟨hb1, hb2⟩) (Heap.get?_push_of_some _ (Heap.get?_push_of_some _ e))
      · cases r₂ with
        | error e => exact hr₂
        | ok fl₂ =>
          cases fl₂ with
          | ret r =>
            obtain ⟨rfl, h', tk, rfl, hS', hk'⟩ := hr₂
            repeat (any_goals (first | assumption | wp_step))
            exact h _ _ hS' hk'
          | _ => exact hr₂.elim
    | _ => exact hr.elim
end
theorem firstMetS_take (ns : List Str) : ∀ n, n ≤ ns.length → (firstMetS (fun i => ns.getD i "") n) = (ns.take n).foldl stepS []
  | 0, _ => rfl
  | n + 1, h => by
    rw [firstMetS_succ, firstMetS_take ns n (by omega), List.take_succ, List.getElem?_eq_getElem (by omega), List.foldl_append, List.getD_eq_getElem?_getD, List.getElem?_eq_getElem (by omega)]; rfl
def setS (ns : List Str) : List Str := ns.foldl stepS []
theorem setS_snoc (ns : List Str) (z : Str) : setS (ns ++ [z]) = stepS (setS ns) z := by unfold setS; rw [List.foldl_append]; rfl
theorem mem_stepS {σ : List Str} {v x : Str} : x ∈ stepS σ v ↔ x ∈ σ ∨ x = v := by
  unfold stepS
  split
  · rename_i h
    obtain ⟨y, hy, e⟩ := List.any_eq_true.mp h
    have e : y = v := by simpa using e
    subst e
    exact ⟨.inl, fun h => h.elim id fun e => by rw [e]; exact hy⟩
  · simp
theorem mem_setS (ns : List Str) : ∀ x, x ∈ setS ns ↔ x ∈ ns := by
  refine snoc_ind (P := fun ns => ∀ x, x ∈ setS ns ↔ x ∈ ns) (fun x => Iff.rfl) (fun ns z ih x => ?_) ns
  rw [setS_snoc, mem_stepS, ih]; simp
theorem setS_len (ns : List Str) : (setS ns).length ≤ ns.length ∧ ((setS ns).length = ns.length ↔ ns.Nodup) := by
  refine snoc_ind (P := fun ns => (setS ns).length ≤ ns.length ∧ ((setS ns).length = ns.length ↔ ns.Nodup)) ⟨Nat.le_refl _, ⟨fun _ => List.nodup_nil, fun _ => rfl⟩⟩ (fun ns z ⟨h1, h2⟩ => ?_) ns
  rw [setS_snoc]
  unfold stepS
  by_cases h : z ∈ ns
  · rw [if_pos (List.any_eq_true.mpr ⟨z, (mem_setS ns z).mpr h, by simp⟩)]
    refine ⟨by simp; omega, fun e => absurd e (by simp; omega), fun e => ?_⟩
    rw [List.nodup_append] at e
    exact absurd rfl (e.2.2 z h z (by simp))
  · rw [if_neg (fun q => by obtain ⟨y, hy, e⟩ := List.any_eq_true.mp q; exact h (by rw [← (show y = z by simpa using e)]; exact (mem_setS ns y).mp hy))]
    refine ⟨by simp; omega, fun e => ?_, fun e => ?_⟩
    · rw [List.nodup_append]
      refine ⟨h2.mp (by simp at e; omega), by simp, fun a ha b hb q => h (by rw [← (show b = z by simpa using hb), ← q]; exact ha)⟩
    · rw [List.nodup_append] at e
      have := h2.mpr e.1
      simp; omega
section
variable {X : Cx} {K : PySem.W.Frag}
def zSet (P : Program) (w : World) (a : Addr) (n : Nat) : HO := .ext fun h => ∃ S : Str → Bool, h.SetOf (strKind P w) a S n
theorem kc_setZ (hc : X.calm = true := by rfl) (h : X.K = K := by rfl) : CallR X (.type "set") (fun xs H Q => ∃ (a : Addr) (ns : List Str), xs = [.ref a] ∧ SqL K H a (ns.map V.str) ∧ ns.length ≤ 1000 ∧
    ∀ (p : Addr), H p = none → Q (.ref p) (upd H p (zSet X.prog X.w p (setS ns).length))) := by
  subst h
  intro pins s σ H xs us Q I r h
  obtain ⟨a, ns, rfl, ha, hl, q⟩ := h
  obtain ⟨u, rfl, ru⟩ := vals1 r
  cases ru
  obtain ⟨its, r1, p1, _⟩ := I.list ha
  have l1 : its.toArray.size = ns.length := by rw [List.size_toArray, ← r1.length, List.length_map]
  refine call_set_listZ (items := its.toArray) (ns := ns) (I.ok.hd hc) p1.isList (fun i v hv => ?_) (by rw [l1]; unfold scanBound; omega) fun h' tk hS hk => ?_
  · have hi : i < its.length := by
      have := (Array.getElem?_eq_some_iff.mp hv).1
      simpa using this
    have hi2 : i < ns.length := by rw [← l1]; simpa using hi
    obtain ⟨u, hu, ru⟩ := r1.get (i := i) (x := V.str ns[i]) (by rw [List.getElem?_map, List.getElem?_eq_getElem hi2]; rfl)
    have hv' : its[i]? = some v := by simpa using hv
    rw [hv'] at hu
    cases hu
    obtain ⟨t, rfl⟩ := ru
    exact ⟨t, by rw [List.getD_eq_getElem?_getD, List.getElem?_eq_getElem hi2]; rfl⟩
  · rw [l1, firstMetS_take ns ns.length (Nat.le_refl _), List.take_length] at hS
    refine ⟨.ref s.heap.objs.size, _, I.laid (t' := tk) (o := zSet X.prog X.w s.heap.objs.size (setS ns).length) (fun b o e => hk b o (Heap.lt_size e) e) (Nat.le_refl _) ⟨⟨_, hS⟩, ?_, fun h1 h2 ⟨S, hS1⟩ k => ?_⟩, rfl, q _ (I.hok.fresh (Nat.le_refl _))⟩
    · obtain ⟨o, es, ep, t, ho, _⟩ := hS
      exact ⟨o, ho⟩
    · obtain ⟨o, es, ep, t, ho, rest⟩ := hS1
      exact ⟨S, o, es, ep, t, k o ho, rest⟩
theorem kc_lenZ : CallR X (.builtin "len") (fun xs H Q => ∃ (a : Addr) (n : Nat), xs = [.ref a] ∧ H a = some (zSet X.prog X.w a n) ∧ Q (.int n) H) := by
  intro pins s σ H xs us Q I r h
  obtain ⟨a, n, rfl, ha, q⟩ := h
  obtain ⟨u, rfl, ru⟩ := vals1 r
  cases ru
  obtain ⟨⟨S, o, es, ep, t, ho, hex, hd, _, _, hb, hf, hn⟩, _⟩ := (show ObjOk X.prog X.w H s.heap a (zSet X.prog X.w a n) from I.hok a _ ha)
  have hb4 : es.size < 4096 := by unfold scanBound at hb; omega
  refine call_len_set ho hex hd hf (by omega) ?_
  rw [hn]
  exact ⟨.int n, H, I.tok _, ⟨_, rfl⟩, q⟩
end
end L2
set_option Elab.async false
set_option linter.all false
set_option maxRecDepth 100000
namespace L2
open PySem PySem.Spec PyProof.Rows
abbrev Wds := List (Str × Int)
def wT (w : Str × Int) : HO := .tup [.str w.1, .int w.2]
def WAt (H : Hp) (as : List Addr) (W : Wds) : Prop := Paired (fun (a : Addr) (w : Str × Int) => H a = some (wT w)) as W
theorem WAt.same {H H' : Hp} {as : List Addr} {W : Wds} (h : WAt H as W) (s : Same H H') : WAt H' as W := L2.Paired.mapP h fun a w e => s a _ e
def letN (c : Nat) : Bool := decide (97 ≤ c) && decide (c ≤ 122)
def isNm (z : Str) : Bool := (decide (1 ≤ (z.length : Int)) && decide ((z.length : Int) ≤ 12)) && z.cps.toList.all letN
def woodsOk (W : Wds) : Bool := ((decide (1 ≤ (W.length : Int)) && decide ((W.length : Int) ≤ 6)) && decide ((W.map (·.1)).Nodup)) && W.all fun w => isNm w.1 && (decide (0 ≤ w.2) && decide (w.2 ≤ 99))
theorem woodsOk_iff {W : Wds} : woodsOk W = true ↔ (1 ≤ W.length ∧ W.length ≤ 6) ∧ (W.map (·.1)).Nodup ∧ ∀ w ∈ W, isNm w.1 = true ∧ 0 ≤ w.2 ∧ w.2 ≤ 99 := by
  unfold woodsOk
  rw [Bool.and_eq_true, Bool.and_eq_true, Bool.and_eq_true, List.all_eq_true, decide_eq_true_iff, decide_eq_true_iff, decide_eq_true_iff]
  constructor
  · rintro ⟨⟨⟨a, b⟩, c⟩, d⟩
    refine ⟨⟨by omega, by omega⟩, c, fun w hw => ?_⟩
    have := d w hw
    rw [Bool.and_eq_true, Bool.and_eq_true, decide_eq_true_iff, decide_eq_true_iff] at this
    exact ⟨this.1, this.2.1, this.2.2⟩
  · rintro ⟨⟨a, b⟩, c, d⟩
    refine ⟨⟨⟨by omega, by omega⟩, c⟩, fun w hw => ?_⟩
    obtain ⟨x, y, z⟩ := d w hw
    rw [Bool.and_eq_true, Bool.and_eq_true, decide_eq_true_iff, decide_eq_true_iff]
    exact ⟨x, y, z⟩
theorem lt1 (c d : Nat) : (([c] : List Nat) < [d]) ↔ c < d := by
  constructor
  · intro h
    rcases List.cons_lt_cons_iff.mp h with h | ⟨_, h⟩
    · exact h
    · exact absurd h (by simp)
  · intro h
    exact List.cons_lt_cons_iff.mpr (.inl h)
theorem a_cps : ("a" : Str).cps.toList = [97] := by decide +kernel
theorem z_cps : ("z" : Str).cps.toList = [122] := by decide +kernel
theorem le_a (z : Str) (i : Nat) : (!decide ((sgZ z i).cps.toList < ("a" : Str).cps.toList)) = decide (97 ≤ z.cps.toList.getD i 0) := by
  rw [a_cps]
  show (!decide (([z.cps.toList.getD i 0] : List Nat) < [97])) = _
  rw [decide_eq_decide.mpr (lt1 _ _), ← decide_not]
  exact decide_eq_decide.mpr (by omega)
theorem le_z (z : Str) (i : Nat) : (!decide (("z" : Str).cps.toList < (sgZ z i).cps.toList)) = decide (z.cps.toList.getD i 0 ≤ 122) := by
  rw [z_cps]
  show (!decide (([122] : List Nat) < [z.cps.toList.getD i 0])) = _
  rw [decide_eq_decide.mpr (lt1 _ _), ← decide_not]
  exact decide_eq_decide.mpr (by omega)
theorem all_letN (z : Str) : ((List.range z.length).map fun i => letN (z.cps.toList.getD i 0)).all id = z.cps.toList.all letN := by
  have e : (List.range z.length).map (fun i => z.cps.toList.getD i 0) = z.cps.toList := by
    refine List.ext_getElem (by simp [Str.length]) fun i h1 h2 => ?_
    simp at h1 h2 ⊢
    rw [Array.getElem?_eq_getElem h2]; rfl
  rw [List.all_map]
  conv => rhs; rw [← e, List.all_map]
  rfl
def NmL (k : Nat) (c : Int) (S : List Str) : Prop := ∀ j, j < S.length → isNm (S.getD j "") = true ∧ (S.getD j "").cps.toList.getD k 0 = 97 + ((c + 5 * j) % 26).toNat
theorem NmL.snoc {k : Nat} {c : Int} {S : List Str} {z : Str} (h : NmL k c S) (h1 : isNm z = true) (h2 : z.cps.toList.getD k 0 = 97 + ((c + 5 * S.length) % 26).toNat) : NmL k c (S ++ [z]) := by
  intro j hj
  rw [List.length_append, List.length_singleton] at hj
  rw [List.getD_eq_getElem?_getD, List.getElem?_append]
  by_cases e : j < S.length
  · rw [if_pos e, ← List.getD_eq_getElem?_getD]
    exact h j e
  · rw [if_neg e, show j - S.length = 0 by omega, show j = S.length by omega]
    exact ⟨h1, h2⟩
theorem NmL.ok {k : Nat} {c : Int} {S : List Str} (h : NmL k c S) (hl : S.length ≤ 9) : S.Nodup ∧ ∀ z ∈ S, isNm z = true := by
  constructor
  · rw [List.nodup_iff_pairwise_ne, List.pairwise_iff_getElem]
    intro i j hi hj hij e
    have a := (h i hi).2
    have b := (h j hj).2
    have q : ∀ m (hm : m < S.length), S.getD m "" = S[m] := fun m hm => by rw [List.getD_eq_getElem?_getD, List.getElem?_eq_getElem hm]; rfl
    rw [q i hi] at a
    rw [q j hj, ← show S[i] = S[j] from e] at b
    rw [a] at b
    omega
  · intro z hz
    obtain ⟨i, hi, rfl⟩ := List.getElem_of_mem hz
    have := (h i hi).1
    rw [List.getD_eq_getElem?_getD, List.getElem?_eq_getElem hi] at this
    exact this
def stkF (l : Addr) : List (Str × V) := putF "stock" (.ref l) []
def TrayAt (C : Addr) (H : Hp) (p : Addr) (W : Wds) : Prop := ∃ (dx l : Addr) (as : List Addr), H p = some (.ins C dx (stkF l)) ∧ H l = some (.lst (as.map V.ref)) ∧ WAt H as W
theorem TrayAt.same {C : Addr} {H H' : Hp} {p : Addr} {W : Wds} (h : TrayAt C H p W) (s : Same H H') : TrayAt C H' p W := by
  obtain ⟨dx, l, as, h1, h2, h3⟩ := h
  exact ⟨dx, l, as, s _ _ h1, s _ _ h2, h3.same s⟩
end L2
set_option Elab.async false
set_option linter.all false
set_option maxRecDepth 100000
namespace L2
open PySem PySem.Spec PyProof.Rows
section
variable {c : TT} {t u B : TS} {D : Ends} {σ : St} {H H' : Hp}
theorem if_P (b : Bool) (P : Hp → Prop) (hc : ∀ N : Bool → Hp → Prop, (∀ H', P H' → N b H') → c σ H N) (ht : b = true → ∀ H', P H' → t D σ H') (hu : b = false → ∀ H', P H' → u D σ H') : tIfS c t u D σ H := by
  refine hc _ fun H' p => ?_
  cases b
  · exact iteF (hu rfl H' p)
  · exact iteT (ht rfl H' p)
theorem if_N (b : Bool) (P : Hp → Prop) (hc : ∀ N : Bool → Hp → Prop, (∀ H', P H' → N b H') → c σ H N) (ht : b = true → ∀ H', P H' → t D σ H') (hu : b = false → ∀ H', P H' → D.nx σ H') : tIfS c t tNext D σ H := if_P b P hc ht hu
theorem seq_ifN (b : Bool) (P : Hp → Prop) (hc : ∀ N : Bool → Hp → Prop, (∀ H', P H' → N b H') → c σ H N) (ht : b = true → ∀ H', P H' → t { D with nx := B D } σ H') (hu : b = false → ∀ H', P H' → B D σ H') : tSeq (tIfS c t tNext) B D σ H := if_P b P hc ht hu
theorem chainV {te : TE} {lo hi x : Int} {Q : VK} (he : ∀ Q : VK, Q (.int x) H' → te σ H Q) (h : Q (.bl (decide (lo ≤ x) && decide (x ≤ hi))) H') :
    tChain (rI0 fun i j => V.bl (decide (i ≤ j))) (rI0 fun i j => V.bl (decide (i ≤ j))) (tC (V.int lo)) te (tC (V.int hi)) σ H Q := by
  refine he _ ⟨lo, x, rfl, rfl, _, rfl, ?_⟩
  by_cases g : lo ≤ x
  · rw [decide_eq_true g] at h ⊢
    exact iteT ⟨x, hi, rfl, rfl, h⟩
  · rw [decide_eq_false g] at h ⊢
    exact iteF h
theorem chainI {te : TE} {lo hi x : Int} {N : Bool → Hp → Prop} (he : ∀ Q : VK, Q (.int x) H' → te σ H Q) (h : N (decide (lo ≤ x) && decide (x ≤ hi)) H') :
    tTest (tChain (rI0 fun i j => V.bl (decide (i ≤ j))) (rI0 fun i j => V.bl (decide (i ≤ j))) (tC (V.int lo)) te (tC (V.int hi))) σ H N := chainV he ⟨_, rfl, h⟩
end
theorem bl_snoc (f : Nat → Bool) (i : Nat) : ((List.range i).map f).map V.bl ++ [V.bl (f i)] = ((List.range (i + 1)).map f).map V.bl := by rw [List.range_succ, List.map_append, List.map_append]; rfl
theorem str_snoc {l : List Str} {z : Str} : l.map V.str ++ [V.str z] = (l ++ [z]).map V.str := by rw [List.map_append]; rfl
theorem map_take_snoc {α β : Type} {l : List α} {i : Nat} {x : α} (h : l[i]? = some x) (f : α → β) : (l.take (i + 1)).map f = (l.take i).map f ++ [f x] := by rw [take_snoc h, List.map_append]; rfl
theorem paired_getR {α β : Type} {F : α → β → Prop} : ∀ {l1 : List α} {l2 : List β} {j : Nat} {b : β}, Paired F l1 l2 → l2[j]? = some b → ∃ a, F a b ∧ l1[j]? = some a
  | _, _, j, b, .nil, e => by simp at e
  | a :: _, _ :: _, 0, b, .cons r t, e => by simp at e; subst e; exact ⟨a, r, rfl⟩
  | _ :: _, _ :: _, j + 1, b, .cons r t, e => by
    obtain ⟨a, h1, h2⟩ := paired_getR t (show _ = some b by simpa using e)
    exact ⟨a, h1, by simpa using h2⟩
theorem made_same {C : Addr} {H1 H' : Hp} {x dx : Addr} (hx : H1 x = none) (hdx : H1 dx = none) (kp : ∀ b o, upd (upd H1 dx (.own x)) x (.ins C dx []) b = some o → b ≠ x → H' b = some o) : Same H1 H' := fun b o e =>
  kp b o (by rw [upd_ne (ne_of_none e hx), upd_ne (ne_of_none e hdx)]; exact e) (ne_of_none e hx)
theorem made_start {C : Addr} {H1 : Hp} {x dx : Addr} (hx : H1 x = none) (hdx : H1 dx = none) : Same H1 (upd (upd H1 dx (.own x)) x (.ins C dx [])) := fun b o e => by rw [upd_ne (ne_of_none e hx), upd_ne (ne_of_none e hdx)]; exact e
theorem gN {i : Nat} {v : V} {σ : St} {H : Hp} {Q : St → Hp → Prop} (h : Q (σ.set i (some v)) H) : gName i v σ H Q := h
theorem dInt (x y : Int) : decide (V.int x = V.int y) = decide (x = y) := decide_eq_decide.mpr ⟨fun e => V.int.inj e, fun e => congrArg V.int e⟩
theorem bF {b : Bool} (h : ¬ b = true) : b = false := by
  cases b
  · rfl
  · exact absurd rfl h
theorem nT {b : Bool} (h : (!b) = true) : b = false := by
  cases b
  · rfl
  · exact absurd h (by decide)
theorem nF {b : Bool} (h : (!b) = false) : b = true := by
  cases b
  · exact absurd h (by decide)
  · rfl
end L2
set_option Elab.async false
set_option linter.all false
set_option maxRecDepth 100000
namespace L2
open PySem PySem.Spec PyProof.Rows
section
variable {X : Cx} {K : PySem.W.Frag}
end
end L2
namespace L2
open PySem PySem.Spec PyProof.Rows
end L2
set_option Elab.async false
set_option linter.all false
set_option maxRecDepth 100000
namespace L2
open PySem PySem.Spec PyProof.Rows
abbrev Hol := List (Option Nat)
def hV : Option Nat → V
  | none => .non
  | some r => .int (r : Int)
def tE (T : List (List Int)) (r c : Nat) : Int := (T.getD r []).getD c 0
def tgt (T : List (List Int)) (R C : List Int) (r c : Nat) : Prop := R.getD r 0 + C.getD c 0 = tE T r c
instance {T R C r c} : Decidable (tgt T R C r c) := by unfold tgt; infer_instance
section
variable {T : List (List Int)} {R C : List Int} {Hd Hd1 : Hol} {S Si : List Nat} {row i h k m : Nat}
structure HInv (T : List (List Int)) (m k : Nat) (R C : List Int) (Hd : Hol) : Prop where
  lT : T.length = m
  lr : ∀ r, r < m → (T.getD r []).length = k
  lR : R.length = m
  lC : C.length = k
  lH : Hd.length = k
  t0 : ∀ r c, 0 ≤ tE T r c
  fe : ∀ r c, r < m → c < k → tE T r c ≤ R.getD r 0 + C.getD c 0
  ti : ∀ c h, Hd[c]? = some (some h) → h < m ∧ tgt T R C h c
  on : ∀ h, Hd.count (some h) ≤ 1
  c0 : ∀ c, 0 ≤ C.getD c 0
  cf : ∀ c : Nat, Hd[c]? = some none → C.getD c 0 = 0
  r0 : ∀ r, 0 ≤ R.getD r 0
def valC (T : List (List Int)) (Hd : Hol) (c : Nat) : Int := match Hd.getD c none with
  | none => 0
  | some r => tE T r c
def rOf (R : List Int) : Option Nat → Int
  | none => 0
  | some r => R.getD r 0
theorem sum_cnt (f : Nat → Int) : ∀ (Hd : Hol) (m : Nat), (∀ h, some h ∈ Hd → h < m) → (Hd.map fun o : Option Nat => match o with | none => 0 | some r => f r).sum = ((List.range m).map fun r => f r * (Hd.count (some r) : Int)).sum
  | [], m, _ => by
    have : ∀ l : List Nat, (l.map fun r => f r * (([] : Hol).count (some r) : Int)).sum = 0 := fun l => by
      induction l with
      | nil => rfl
      | cons a l ih => rw [List.map_cons, List.sum_cons, ih]; simp
    rw [this]; rfl
  | o :: Hd, m, h => by
    have ih := sum_cnt f Hd m (fun x hx => h x (List.mem_cons_of_mem _ hx))
    rw [List.map_cons, List.sum_cons, ih]
    cases o with
    | none =>
      have : ∀ r, (none :: Hd).count (some r) = Hd.count (some r) := fun r => by rw [List.count_cons_of_ne (by simp)]
      simp only [this]
      omega
    | some x =>
      have hx : x < m := h x List.mem_cons_self
      have key : ∀ n, ((List.range n).map fun r => f r * ((some x :: Hd).count (some r) : Int)).sum = (if x < n then f x else 0) + ((List.range n).map fun r => f r * (Hd.count (some r) : Int)).sum := fun n => by
        induction n with
        | zero => rfl
        | succ n ihn =>
          rw [List.range_succ, List.map_append, List.map_append, List.sum_append, List.sum_append, ihn]
          simp only [List.map_cons, List.map_nil, List.sum_cons, List.sum_nil]
          by_cases e : x = n
          · rw [e, List.count_cons_self, if_neg (Nat.lt_irrefl _), if_pos (Nat.lt_succ_self _)]
            rw [show ((Hd.count (some n) + 1 : Nat) : Int) = (Hd.count (some n) : Int) + 1 by omega, Int.mul_add]; omega
          · rw [List.count_cons_of_ne (by simpa using e)]
            by_cases e2 : x < n
            · rw [if_pos e2, if_pos (by omega)]; omega
            · rw [if_neg e2, if_neg (by omega)]; omega
      rw [key m, if_pos hx]
theorem sum_range_getD (R : List Int) : ((List.range R.length).map fun r => R.getD r 0).sum = R.sum := by
  have : (List.range R.length).map (fun r => R.getD r 0) = R := by
    refine List.ext_getElem (by simp) fun i h1 h2 => ?_
    simp at h1 ⊢
    rw [List.getElem?_eq_getElem h1]; rfl
  rw [this]
theorem sum_map_add (f g : Nat → Int) : ∀ l : List Nat, (l.map fun c => f c + g c).sum = (l.map f).sum + (l.map g).sum
  | [] => rfl
  | a :: l => by rw [List.map_cons, List.sum_cons, sum_map_add f g l, List.map_cons, List.map_cons, List.sum_cons, List.sum_cons]; omega
theorem sum_congr {f g : Nat → Int} : ∀ {l : List Nat}, (∀ c ∈ l, f c = g c) → (l.map f).sum = (l.map g).sum
  | [], _ => rfl
  | a :: l, h => by rw [List.map_cons, List.sum_cons, List.map_cons, List.sum_cons, h a List.mem_cons_self, sum_congr fun c hc => h c (List.mem_cons_of_mem _ hc)]
theorem HInv.sum (I : HInv T m k R C Hd) (all : ∀ h, h < m → Hd.count (some h) = 1) : ((List.range k).map (valC T Hd)).sum = R.sum + C.sum := by
  have e1 : ((List.range k).map (valC T Hd)).sum = ((List.range k).map fun c => rOf R (Hd.getD c none) + C.getD c 0).sum := sum_congr fun c hc => by
    have hl : c < Hd.length := by rw [I.lH]; exact List.mem_range.mp hc
    unfold valC
    cases e : Hd.getD c none with
    | none => rw [I.cf c (by rw [List.getElem?_eq_getElem hl]; rw [List.getD_eq_getElem?_getD, List.getElem?_eq_getElem hl] at e; exact congrArg some e)]; rfl
    | some r =>
      have := (I.ti c r (by rw [List.getElem?_eq_getElem hl]; rw [List.getD_eq_getElem?_getD, List.getElem?_eq_getElem hl] at e; exact congrArg some e)).2
      exact this.symm
  rw [e1, sum_map_add, ← I.lC, sum_range_getD]
  have e2 : ((List.range C.length).map fun c => rOf R (Hd.getD c none)).sum = (Hd.map (rOf R)).sum := by
    rw [I.lC, ← I.lH]
    have : (List.range Hd.length).map (fun c => rOf R (Hd.getD c none)) = Hd.map (rOf R) := by
      refine List.ext_getElem (by simp) fun i h1 h2 => ?_
      simp at h1 ⊢
      rw [List.getElem?_eq_getElem h1]; rfl
    rw [this]
  rw [e2]
  have e3 := sum_cnt (fun r => R.getD r 0) Hd m (fun x hx => by
    obtain ⟨j, hj, ej⟩ := List.getElem_of_mem hx
    exact (I.ti j x (by rw [List.getElem?_eq_getElem hj, ej])).1)
  have e4 : (Hd.map (rOf R)) = Hd.map fun o : Option Nat => match o with | none => 0 | some r => R.getD r 0 := List.map_congr_left fun o _ => by cases o <;> rfl
  rw [e4, e3]
  have e5 : ((List.range m).map fun r => R.getD r 0 * (Hd.count (some r) : Int)).sum = ((List.range m).map fun r => R.getD r 0).sum := sum_congr fun r hr => by
    rw [all r (List.mem_range.mp hr)]; simp
  rw [e5, ← I.lR, sum_range_getD]
end
end L2
set_option Elab.async false
set_option linter.all false
set_option maxRecDepth 100000
namespace L2
open PySem PySem.Spec PyProof.Rows
section
variable {X : Cx} {K : PySem.W.Frag}
end
def pF (t rp cp hd : Addr) : List (Str × V) := putF "holders" (.ref hd) (putF "column_prices" (.ref cp) (putF "row_prices" (.ref rp) (putF "table" (.ref t) [])))
structure PrAt (C : Addr) (H : Hp) (p dx t rp cp hd : Addr) (ts : List Addr) (T : List (List Int)) (R Cc : List Int) (Hd : Hol) : Prop where
  ob : H p = some (.ins C dx (pF t rp cp hd))
  ht : H t = some (.lst (ts.map V.ref))
  hr : LhAt H ts T
  hR : H rp = some (.lst (R.map V.int))
  hC : H cp = some (.lst (Cc.map V.int))
  hH : H hd = some (.lst (Hd.map hV))
  n1 : rp ≠ cp ∧ rp ≠ hd ∧ cp ≠ hd
  n2 : t ≠ rp ∧ t ≠ cp ∧ t ≠ hd
  n3 : ∀ a ∈ ts, a ≠ rp ∧ a ≠ cp ∧ a ≠ hd
theorem lh_put {H : Hp} {g : Addr} {o : HO} : ∀ {ts : List Addr} {T : List (List Int)}, LhAt H ts T → (∀ a ∈ ts, a ≠ g) → LhAt (upd H g o) ts T
  | _, _, .nil, _ => .nil
  | a :: ts, r :: T, .cons e t, h => .cons (by rw [upd_ne (h a List.mem_cons_self)]; exact e) (lh_put t fun b hb => h b (List.mem_cons_of_mem _ hb))
theorem LhAt.sameH {H H' : Hp} {ts : List Addr} {T : List (List Int)} (h : LhAt H ts T) (s : Same H H') : LhAt H' ts T := L2.Paired.mapP h fun a r e => s a _ e
section
variable {C : Addr} {H H' : Hp} {p dx t rp cp hd g : Addr} {ts : List Addr} {T : List (List Int)} {R Cc R' : List Int} {Hd Hd' : Hol}
theorem PrAt.same (h : PrAt C H p dx t rp cp hd ts T R Cc Hd) (s : Same H H') : PrAt C H' p dx t rp cp hd ts T R Cc Hd := ⟨s _ _ h.ob, s _ _ h.ht, h.hr.sameH s, s _ _ h.hR, s _ _ h.hC, s _ _ h.hH, h.n1, h.n2, h.n3⟩
theorem ins_ne {fs : List (Str × V)} {xs : List V} {q : Addr} (h1 : H p = some (.ins C dx fs)) (h2 : H q = some (.lst xs)) : p ≠ q := ne_of h1 h2 (by intro z; cases z)
theorem PrAt.put {o : HO} {xs : List V} (h : PrAt C H p dx t rp cp hd ts T R Cc Hd) (hg : H g = some (.lst xs)) (ng : t ≠ g ∧ rp ≠ g ∧ cp ≠ g ∧ hd ≠ g ∧ ∀ a ∈ ts, a ≠ g) : PrAt C (upd H g o) p dx t rp cp hd ts T R Cc Hd :=
  ⟨by rw [upd_ne (ins_ne h.ob hg)]; exact h.ob, by rw [upd_ne ng.1]; exact h.ht, lh_put h.hr ng.2.2.2.2, by rw [upd_ne ng.2.1]; exact h.hR, by rw [upd_ne ng.2.2.1]; exact h.hC, by rw [upd_ne ng.2.2.2.1]; exact h.hH, h.n1, h.n2, h.n3⟩
theorem PrAt.apart (h : PrAt C H p dx t rp cp hd ts T R Cc Hd) (hg : H g = none) : t ≠ g ∧ rp ≠ g ∧ cp ≠ g ∧ hd ≠ g ∧ ∀ a ∈ ts, a ≠ g :=
  ⟨ne_of_none h.ht hg, ne_of_none h.hR hg, ne_of_none h.hC hg, ne_of_none h.hH hg, fun a ha => by
    obtain ⟨j, hj, e⟩ := List.getElem_of_mem ha
    obtain ⟨r, hr, _⟩ := paired_getM h.hr (List.getElem?_eq_getElem hj)
    rw [e] at hr
    exact ne_of_none hr hg⟩
end
theorem mem_gD {l : List Int} {c : Nat} (h : c < l.length) : l.getD c 0 ∈ l := by rw [List.getD_eq_getElem?_getD, List.getElem?_eq_getElem h]; exact List.getElem_mem h
end L2
namespace L2
open PySem PySem.Spec PyProof.Rows
section
variable {C : Addr} {H H' : Hp} {p dx t rp cp hd rc : Addr} {ts : List Addr} {T : List (List Int)} {R Cc : List Int} {Hd Hd' : Hol}
end
structure SzOk (T : List (List Int)) (R Cc : List Int) (Hd : Hol) (k : Nat) : Prop where
  lr : ∀ r, r < T.length → (T.getD r []).length = k
  lR : R.length = T.length
  lC : Cc.length = k
  lH : Hd.length = k
  ho : ∀ (c h : Nat), Hd[c]? = some (some h) → h < T.length
  k9 : k ≤ 9
theorem HInv.sz {T : List (List Int)} {m k : Nat} {R C : List Int} {Hd : Hol} (I : HInv T m k R C Hd) (h : k ≤ 9) : SzOk T R C Hd k := ⟨fun r hr => I.lr r (by rw [← I.lT]; exact hr), by rw [I.lR, I.lT], I.lC, I.lH, fun c x e => by rw [I.lT]; exact (I.ti c x e).1, h⟩
end L2
set_option Elab.async false
set_option linter.all false
set_option maxRecDepth 100000
namespace L2
open PySem PySem.Spec PyProof.Rows
structure KeptOk (tab : List (List Int)) (m cols : Nat) (tot : Int) (yss : List (List Int)) (R C : List Int) : Prop where
  lR : R.length = m
  lC : C.length = cols
  r0 : ∀ x ∈ R, 0 ≤ x
  c0 : ∀ x ∈ C, 0 ≤ x
  pr : ∀ y ∈ yss, ∃ r c : Nat, y = [(r : Int), (c : Int)] ∧ r < m ∧ c < cols
  n1 : (yss.map fun y => y.getD 0 0).Nodup
  n2 : (yss.map fun y => y.getD 1 0).Nodup
  fe : ∀ r c, r < m → c < cols → tE tab r c ≤ R.getD r 0 + C.getD c 0
  s1 : tot = (yss.map fun y => tE tab (y.getD 0 0).toNat (y.getD 1 0).toNat).sum
  s2 : tot = R.sum + C.sum
end L2
namespace L2
open PySem PySem.Spec PyProof.Rows
theorem pairs_le {R C : List Int} : ∀ {qs : List (Nat × Nat)} {f : Nat → Nat → Int}, (∀ r, 0 ≤ R.getD r 0) → (∀ c, 0 ≤ C.getD c 0) → (∀ q ∈ qs, q.1 < R.length ∧ q.2 < C.length ∧ f q.1 q.2 ≤ R.getD q.1 0 + C.getD q.2 0) → (qs.map (·.1)).Nodup → (qs.map (·.2)).Nodup →
    (qs.map fun q => f q.1 q.2).sum ≤ R.sum + C.sum := by
  intro qs f r0 c0 h n1 n2
  have key : ∀ (R : List Int) (l : List Nat), (∀ r, 0 ≤ R.getD r 0) → l.Nodup → (∀ x ∈ l, x < R.length) → (l.map fun x => R.getD x 0).sum ≤ R.sum := by
    intro R
    induction R with
    | nil =>
      intro l _ _ hl
      cases l with
      | nil => exact Int.le_refl _
      | cons a l => exact absurd (hl a List.mem_cons_self) (by simp)
    | cons a R ih =>
      intro l h0 nd hl
      have h0' : ∀ r, 0 ≤ R.getD r 0 := fun r => by have := h0 (r + 1); simpa using this
      have a0 : 0 ≤ a := by have := h0 0; simpa using this
      have hsp : ∀ l : List Nat, l.Nodup → (l.map fun x => (a :: R).getD x 0).sum ≤ a * ((l.filter (· == 0)).length : Int) + ((l.filter (· != 0)).map fun x => R.getD (x - 1) 0).sum := by
        intro l
        induction l with
        | nil => intro _; simp
        | cons x l ihl =>
          intro nd
          have := ihl (List.nodup_cons.mp nd).2
          rw [List.map_cons, List.sum_cons]
          cases x with
          | zero =>
            simp only [List.filter_cons]
            simp only [beq_self_eq_true, if_true, bne_self_eq_false, Bool.false_eq_true, if_false, List.length_cons]
            rw [show (((l.filter (· == 0)).length + 1 : Nat) : Int) = ((l.filter (· == 0)).length : Int) + 1 by omega, Int.mul_add]
            have e : (a :: R).getD 0 0 = a := by simp
            omega
          | succ x =>
            simp only [List.filter_cons]
            have e1 : (x + 1 == 0) = false := by simp
            have e2 : (x + 1 != 0) = true := by simp
            rw [e1, e2]
            simp only [Bool.false_eq_true, if_false, if_true, List.map_cons, List.sum_cons]
            have e : (a :: R).getD (x + 1) 0 = R.getD (x + 1 - 1) 0 := by simp
            omega
      have h1 := hsp l nd
      have c1 : ((l.filter (· == 0)).length : Int) ≤ 1 := by
        have : (l.filter (· == 0)).length = l.count 0 := by rw [List.count_eq_length_filter]
        rw [this, nd.count]
        split <;> decide
      have h2 := ih ((l.filter (· != 0)).map (· - 1)) h0' (by
        rw [List.nodup_iff_pairwise_ne, List.pairwise_map]
        refine List.Pairwise.imp_of_mem (fun {x y} hx hy hxy e => ?_) (List.nodup_iff_pairwise_ne.mp (nd.filter _))
        have hx := (List.mem_filter.mp hx).2
        have hy := (List.mem_filter.mp hy).2
        simp at hx hy
        exact hxy (by omega)) (fun x hx => by
        obtain ⟨y, hy, rfl⟩ := List.mem_map.mp hx
        obtain ⟨hy1, hy2⟩ := List.mem_filter.mp hy
        have := hl y hy1
        simp at hy2 this
        omega)
      rw [List.map_map] at h2
      have h2 : ((l.filter (· != 0)).map fun x => R.getD (x - 1) 0).sum ≤ R.sum := h2
      rw [List.sum_cons]
      have : a * ((l.filter (· == 0)).length : Int) ≤ a * 1 := Int.mul_le_mul_of_nonneg_left c1 a0
      omega
  have h1 := key R (qs.map (·.1)) r0 n1 (fun x hx => by obtain ⟨q, hq, rfl⟩ := List.mem_map.mp hx; exact (h q hq).1)
  have h2 := key C (qs.map (·.2)) c0 n2 (fun x hx => by obtain ⟨q, hq, rfl⟩ := List.mem_map.mp hx; exact (h q hq).2.1)
  rw [List.map_map] at h1 h2
  have h3 : ∀ {qs : List (Nat × Nat)}, (∀ q ∈ qs, f q.1 q.2 ≤ R.getD q.1 0 + C.getD q.2 0) → (qs.map fun q => f q.1 q.2).sum ≤ (qs.map ((fun x => R.getD x 0) ∘ fun q : Nat × Nat => q.1)).sum + (qs.map ((fun x => C.getD x 0) ∘ fun q : Nat × Nat => q.2)).sum := by
    intro qs
    induction qs with
    | nil => intro _; exact Int.le_refl _
    | cons q qs ih =>
      intro h
      have := ih fun x hx => h x (List.mem_cons_of_mem _ hx)
      have hq := h q List.mem_cons_self
      rw [List.map_cons, List.map_cons, List.map_cons, List.sum_cons, List.sum_cons, List.sum_cons]
      simp only [Function.comp] at this ⊢
      omega
  have := h3 fun q hq => (h q hq).2.2
  omega
theorem getD_nn {l : List Int} (h : ∀ x ∈ l, 0 ≤ x) (r : Nat) : 0 ≤ l.getD r 0 := by
  by_cases hr : r < l.length
  · exact h _ (mem_gD hr)
  · rw [List.getD_eq_getElem?_getD, List.getElem?_eq_none_iff.mpr (by omega)]; exact Int.le_refl _
section
variable {tab : List (List Int)} {m cols : Nat} {tot tot' : Int} {yss yss' : List (List Int)} {R C R' C' : List Int}
theorem KeptOk.most (K : KeptOk tab m cols tot yss R C) {qs : List (Nat × Nat)} (h : ∀ q ∈ qs, q.1 < m ∧ q.2 < cols) (n1 : (qs.map (·.1)).Nodup) (n2 : (qs.map (·.2)).Nodup) : (qs.map fun q => tE tab q.1 q.2).sum ≤ tot := by
  rw [K.s2]
  exact pairs_le (getD_nn K.r0) (getD_nn K.c0) (fun q hq => ⟨by rw [K.lR]; exact (h q hq).1, by rw [K.lC]; exact (h q hq).2, K.fe q.1 q.2 (h q hq).1 (h q hq).2⟩) n1 n2
def toP (y : List Int) : Nat × Nat := ((y.getD 0 0).toNat, (y.getD 1 0).toNat)
theorem KeptOk.pairs (K : KeptOk tab m cols tot yss R C) : (∀ q ∈ yss.map toP, q.1 < m ∧ q.2 < cols) ∧ ((yss.map toP).map (·.1)).Nodup ∧ ((yss.map toP).map (·.2)).Nodup ∧ tot = ((yss.map toP).map fun q => tE tab q.1 q.2).sum := by
  refine ⟨fun q hq => ?_, ?_, ?_, ?_⟩
  · obtain ⟨y, hy, rfl⟩ := List.mem_map.mp hq
    obtain ⟨r, c, rfl, hr, hc⟩ := K.pr y hy
    exact ⟨hr, hc⟩
  · rw [List.map_map, List.nodup_iff_pairwise_ne, List.pairwise_map]
    refine List.Pairwise.imp_of_mem (fun {x y} hx hy hxy e => ?_) (List.pairwise_map.mp (List.nodup_iff_pairwise_ne.mp K.n1))
    obtain ⟨r, c, rfl, _, _⟩ := K.pr x hx
    obtain ⟨r', c', rfl, _, _⟩ := K.pr y hy
    have e : r = r' := e
    exact hxy (by show (r : Int) = (r' : Int); omega)
  · rw [List.map_map, List.nodup_iff_pairwise_ne, List.pairwise_map]
    refine List.Pairwise.imp_of_mem (fun {x y} hx hy hxy e => ?_) (List.pairwise_map.mp (List.nodup_iff_pairwise_ne.mp K.n2))
    obtain ⟨r, c, rfl, _, _⟩ := K.pr x hx
    obtain ⟨r', c', rfl, _, _⟩ := K.pr y hy
    have e : c = c' := e
    exact hxy (by show (c : Int) = (c' : Int); omega)
  · rw [List.map_map]; exact K.s1
end
end L2
namespace L2
open PySem PySem.Spec PyProof.Rows
end L2
set_option Elab.async false
set_option linter.all false
set_option maxRecDepth 100000
namespace L2
open PySem PySem.Spec PyProof.Rows
def Pat (ws us : List Int) (J : List Nat) : Prop := ∀ i ∈ J, ∀ j ∈ J, ws.getD i 0 = ws.getD j 0 ↔ us.getD i 0 = us.getD j 0
section
variable {ws us vs : List Int} {tot tot' tot2 : Int} {yss yss' yss2 : List (List Int)} {R C R' C' R2 C2 : List Int}
theorem Pat.symm {J : List Nat} (h : Pat ws us J) : Pat us ws J := fun i hi j hj => (h i hi j hj).symm
end
section
variable {X : Cx}
end
end L2
namespace L2
open PySem PySem.Spec PyProof.Rows
section
variable {ws us vs : List Int} {tot tot' tot2 : Int} {yss yss' yss2 : List (List Int)} {R C R' C' R2 C2 : List Int}
end
end L2
set_option Elab.async false
set_option linter.all false
set_option maxRecDepth 100000
namespace PySem
open Sem (wp)
section
variable {prog : Program} {w : World} {A : Around} {R : Result → Shared → Prop} {I : Addr} {fp wr : List Addr} {n : Nat} {P : Nat → Value → Prop} {St : Nat → Heap → Prop} {d : Value}
end
section
variable {prog : Program} {w : World} {A : Around} {R : Result → Shared → Prop} {I : Addr} {fp wr : List Addr} {P : Nat → Value → Prop} {St : Nat → Heap → Prop} {d : Value}
end
section
variable {prog : Program} {w : World} {A : Around} {E : Value → Shared → Prop} {s : Shared} {d : Value}
end
end PySem
namespace L2
open PySem PySem.Spec PyProof.Rows
section
variable {X : Cx} {K : PySem.W.Frag}
end
end L2
set_option Elab.async false
set_option linter.all false
set_option maxRecDepth 100000
namespace PySem
open Sem (wp)
open AutoSeq1 (wpAny_loadPart')
section
variable {prog : Program} {w : World} {A : Around} {E : Value → Shared → Prop} {s : Shared}
end
section
variable {prog : Program} {w : World} {A : Around} {E : Value → Shared → Prop} {s : Shared}
end
end PySem
namespace L2
open PySem PySem.Spec PyProof.Rows
end L2
set_option Elab.async false
set_option linter.all false
set_option maxRecDepth 100000
namespace L2
open PySem PySem.Spec PyProof.Rows
section
variable {K : PySem.W.Frag} {a : Addr} {xs : List V} {σ0 : St} {g : TG} {tc : TT} {tm : TM} {F : List V → Hp → Prop} {H : Hp} {ys0 : List V}
end
end L2
namespace L2
open PySem
end L2
namespace L2
open PySem PySem.Spec PyProof.Rows
def SameD (d : Addr) (H H' : Hp) : Prop := ∀ b o, b ≠ d → H b = some o → H' b = some o
theorem SameD.refl (d : Addr) (H : Hp) : SameD d H H := fun _ _ _ h => h
theorem SameD.same {d : Addr} {H H1 H2 : Hp} (h : SameD d H H1) (s : Same H1 H2) : SameD d H H2 := fun b o hb e => s b o (h b o hb e)
theorem SameD.put {d : Addr} {H H1 : Hp} {o : HO} (h : SameD d H H1) : SameD d H (upd H1 d o) := fun b u hb e => by rw [upd_ne hb]; exact h b u hb e
theorem SameD.back {d : Addr} {H0 H H1 : Hp} (h : SameD d H H1) (s : Same H0 H) (hd : H0 d = none) : Same H0 H1 := fun b o e => h b o (ne_of_none e hd) (s b o e)
theorem SqT.but {K : PySem.W.Frag} {H H' : Hp} {a d : Addr} {xs : List V} {o : HO} (h : SqT K H a xs) (s : SameD d H H') (hd : H d = some o) (h1 : ∀ ys, o ≠ .tup ys) (h2 : ∀ ob u, o ≠ .frz ob u) : SqT K H' a xs := by
  rcases h with (h | ⟨ob, h⟩) | h
  · exact .inl (.inl (s a _ (fun e => by rw [e, hd] at h; exact h1 _ (Option.some.inj h)) h))
  · exact .inl (.inr ⟨ob, s a _ (fun e => by rw [e, hd] at h; exact h2 _ _ (Option.some.inj h)) h⟩)
  · exact .inr h
theorem SqL.but {K : PySem.W.Frag} {H H' : Hp} {a d : Addr} {xs : List V} {o : HO} (h : SqL K H a xs) (s : SameD d H H') (hd : H d = some o) (h1 : ∀ ys, o ≠ .lst ys) (h2 : ∀ ob u, o ≠ .frz ob u) : SqL K H' a xs := by
  rcases h with (h | ⟨ob, h⟩) | h
  · exact .inl (.inl (s a _ (fun e => by rw [e, hd] at h; exact h1 _ (Option.some.inj h)) h))
  · exact .inl (.inr ⟨ob, s a _ (fun e => by rw [e, hd] at h; exact h2 _ _ (Option.some.inj h)) h⟩)
  · exact .inr h
end L2
namespace L2
open PySem
end L2
set_option Elab.async false
set_option linter.all false
set_option maxRecDepth 100000
namespace L2
open PySem PySem.Spec PyProof.Rows
section
variable {X : Cx} {N' : List Str} {M : List (Option Nat)} {scope : Scope} {tg elt iter tg2 iter2 : Expr} {ifs ifs2 : List Expr} {ks ks2 : List Nat} {pos : Pos} {g g2 : TG} {tc tc2 : TT} {te : TE} {wi wi2 : TI}
end
def posS (tr : List Int) : Int := (tr.filter fun g => decide (0 < g)).sum
def outL (T : List (List Int)) (p : Nat) : Int := ((T.drop p).map posS).sum
abbrev Best := Option (Int × List Int)
end L2
set_option Elab.async false
set_option linter.all false
set_option maxRecDepth 100000
namespace L2
open PySem PySem.Spec PyProof.Rows
def gV : Best → V
  | none => .non
  | some (g, _) => .int g
def sF (t o : Addr) (g l : V) : List (Str × V) := [("table", .ref t), ("outlook", .ref o), ("greatest", g), ("leader", l)]
def outs (T : List (List Int)) : List Int := (List.range (T.length + 1)).map (outL T)
structure SrAt (K : PySem.W.Frag) (C : Addr) (H : Hp) (p dx t o : Addr) (lv : V) (ts : List Addr) (T : List (List Int)) (b : Best) : Prop where
  ob : H p = some (.ins C dx (sF t o (gV b) lv))
  ht : H t = some (.lst (ts.map V.ref))
  hr : LhAt H ts T
  ho : H o = some (.lst ((outs T).map V.int))
  hl : ∀ g l, b = some (g, l) → ∃ q, lv = .ref q ∧ SqT K H q (l.map V.int)
def FrP (H H' : Hp) (p : Addr) : Prop := ∀ x u, H x = some u → x ≠ p → H' x = some u
theorem FrP.trans {H1 H2 H3 : Hp} {p : Addr} (a : FrP H1 H2 p) (b : FrP H2 H3 p) : FrP H1 H3 p := fun x u e n => b x u (a x u e n) n
theorem FrP.of {H H' : Hp} {p : Addr} (s : Same H H') : FrP H H' p := fun x u e _ => s x u e
theorem upd_FrP {H : Hp} {p : Addr} {a b : HO} : FrP H (upd (upd H p a) p b) p := fun x u e n => by rw [upd_ne n, upd_ne n]; exact e
theorem SqT.frP {K : PySem.W.Frag} {H H' : Hp} {p a C dx : Addr} {fs : List (Str × V)} {xs : List V} (h : SqT K H a xs) (hp : H p = some (.ins C dx fs)) (f : FrP H H' p) : SqT K H' a xs := by
  rcases h with (h | ⟨u, h⟩) | h
  · exact .inl (.inl (f a _ h (fun e => by rw [e, hp] at h; cases h)))
  · exact .inl (.inr ⟨u, f a _ h (fun e => by rw [e, hp] at h; cases h)⟩)
  · exact .inr h
section
variable {K : PySem.W.Frag} {C : Addr} {H H' : Hp} {p dx t o : Addr} {lv : V} {ts : List Addr} {T : List (List Int)} {b : Best}
theorem SrAt.same (h : SrAt K C H p dx t o lv ts T b) (s : Same H H') : SrAt K C H' p dx t o lv ts T b :=
  ⟨s _ _ h.ob, s _ _ h.ht, h.hr.sameH s, s _ _ h.ho, fun g l e => by obtain ⟨q, e1, e2⟩ := h.hl g l e; exact ⟨q, e1, s.seqT e2⟩⟩
theorem SrAt.row (h : SrAt K C H p dx t o lv ts T b) {i : Nat} (hi : i < T.length) : ∃ q, ts[i]? = some q ∧ H q = some (.lst ((T.getD i []).map V.int)) := by
  obtain ⟨q, hq, e⟩ := paired_getR h.hr (show T[i]? = some (T.getD i []) by rw [List.getD_eq_getElem?_getD, List.getElem?_eq_getElem hi]; rfl)
  exact ⟨q, e, hq⟩
theorem lh_ins_ne (h : H p = some (.ins C dx (sF t o (gV b) lv))) (hr : LhAt H ts T) : ∀ a ∈ ts, a ≠ p := fun a ha e => by
  obtain ⟨j, hj, e2⟩ := List.getElem_of_mem ha
  obtain ⟨r, hr', _⟩ := paired_getM hr (List.getElem?_eq_getElem hj)
  rw [e2, e, h] at hr'; cases hr'
theorem SrAt.put (h : SrAt K C H p dx t o lv ts T b) {r : Addr} {g : Int} {l : List Int} (hr : SqT K H r (l.map V.int)) : SrAt K C (upd (upd H p (.ins C dx (sF t o (.int g) lv))) p (.ins C dx (sF t o (.int g) (.ref r)))) p dx t o (.ref r) ts T (some (g, l)) := by
  have np : ∀ {x : Addr} {u : HO}, H x = some u → x ≠ p → upd (upd H p (.ins C dx (sF t o (.int g) lv))) p (.ins C dx (sF t o (.int g) (.ref r))) x = some u := fun e n => by rw [upd_ne n, upd_ne n]; exact e
  refine ⟨upd_same, np h.ht (ins_ne h.ob h.ht).symm, ?_, np h.ho (ins_ne h.ob h.ho).symm, fun g' l' e => ?_⟩
  · have nn := lh_ins_ne h.ob h.hr
    exact lh_put (lh_put h.hr nn) nn
  · cases e
    exact ⟨r, rfl, (hr.frP h.ob upd_FrP)⟩
end
end L2
set_option Elab.async false
set_option linter.all false
set_option maxRecDepth 100000
namespace L2
open PySem PySem.Spec PyProof.Rows
section
variable {X : Cx} {K : PySem.W.Frag}
end
structure NwAt (H0 H : Hp) (p : Addr) (n : Nat) (ps : List Addr) (R : List (List Int)) (B : Nat) : Prop where
  fr : FrP H0 H p
  hp : H p = some (.lst (ps.map V.ref))
  hR : TuAt H ps R
  ok : ∀ r ∈ R, isWay r = true ∧ r.length = n
  hb : R.length ≤ B
section
variable {H0 H H' : Hp} {p : Addr} {n B B' : Nat} {ps : List Addr} {R : List (List Int)}
theorem NwAt.same (h : NwAt H0 H p n ps R B) (s : Same H H') : NwAt H0 H' p n ps R B := ⟨h.fr.trans (FrP.of s), s _ _ h.hp, tu_same s h.hR, h.ok, h.hb⟩
theorem NwAt.len (h : NwAt H0 H p n ps R B) : ps.length ≤ B := by rw [h.hR.length]; exact h.hb
end
end L2
set_option maxRecDepth 100000
set_option linter.all false
namespace PySem
open Sem (wp)
section
variable {prog : Program} {w : World} {A : Around} {E : Value → Shared → Prop} {h : Heap} {g : Array GenState} {d : Drawn} {t : Nat} {os : OsState} {a : Addr} {its : Array Value} {n : Nat}
end
end PySem
set_option maxRecDepth 100000
set_option linter.all false
namespace PySem
open Sem (wp)
section
variable {prog : Program} {w : World} {K : Type} [DecidableEq K] {knd : KeyKind prog w K} {A : Around} {R : Result → Shared → Prop} {I : Addr} {fp wr : List Addr} {n : Nat} {P : Nat → Value → Prop} {St : Nat → Heap → Prop} {d : Addr} {key : Nat → K} {val : Nat → Value}
end
end PySem
namespace PySem
section
variable {prog : Program} {w : World} {K : Type} [DecidableEq K] {knd : KeyKind prog w K} {A : Around} {E : Value → Shared → Prop} {s : Shared} {key : Nat → K} {val : Nat → Value} {l : Addr} {its : Array Value} {n0 : Nat}
end
end PySem
set_option Elab.async false
set_option linter.all false
set_option maxRecDepth 100000
namespace L2
open PySem PySem.Spec PyProof.Rows
end L2
set_option Elab.async false
set_option linter.all false
set_option maxRecDepth 100000
namespace L2
open PySem PySem.Spec PyProof.Rows
section
variable {X : Cx} {K : PySem.W.Frag}
end
end L2
set_option Elab.async false
set_option linter.all false
set_option maxRecDepth 100000
namespace L2
open PySem PySem.Spec PyProof.Rows
section
variable {X : Cx} {K : PySem.W.Frag}
end
end L2
set_option Elab.async false
set_option linter.all false
set_option maxRecDepth 100000
namespace L2
open PySem PySem.Spec PyProof.Rows
def tDoorS (P : Program) (w : World) (K : PySem.W.Frag) (mg : Str → Option Value) (base : Heap) (k : Nat) (E : XK) (tf : TE) (t : TA) : TE := fun σ H Q => tf σ H fun v H1 => ∃ (f : Addr) (sp : Sp), v = .ref f ∧ Door P w K mg base k f sp ∧ t σ H1 fun xs H2 => sp xs H2 Q E
theorem pe_doorS {X : Cx} {P : Program} {w : World} {K : PySem.W.Frag} {mg : Str → Option Value} {base : Heap} {k : Nat} {b i : Expr} {tf : TE} {E : XK} {e : Expr} {es : List Expr} {t : TA} {p pos : Pos} (hr : Room k X.A) (hx : Passes (CXE X.prog X.w) X E) (hf : PE X (.Subscript b i p) tf) (ha : PA X (e :: es) t)
    (he : starEach (e :: es) X.env = (false, eval e X.env) :: starEach es X.env := by rfl) (hpl : (backTo pos (starEach es X.env)).any (·.1) = false := by rfl)
    (hP : X.prog = P := by rfl) (hw : X.w = w := by rfl) (hK : X.K = K := by rfl) (hm : X.mg = mg := by rfl) (hB : X.base = base := by rfl) :
    PE X (.Call (.Subscript b i p) (e :: es) [] pos) (tDoorS P w K mg base k E tf t) := by
  subst hP hw hK hm hB
  intro pins s σ H Q I h
  have arm : eval (.Call (.Subscript b i p) (e :: es) [] pos) X.env = (do callWith pos (← eval (.Subscript b i p) X.env) [] (backTo pos (starEach (e :: es) X.env)) (backToKw pos (keywordEach [] X.env))) := rfl
  rw [arm]
  refine wpAny_bind (thn (hf pins s σ H _ I h) fun v s1 ⟨x1, H1, I1, r1, q1⟩ => ?_)
  obtain ⟨f, sp, rfl, D, h⟩ := q1
  obtain ⟨fd, ps, F, hk, hb⟩ := D.ex
  cases r1
  refine PySem.W.callWith_K (h₀ := X.base) I1.ok.mod.kin hk (thn (ha pos pins s1 σ H1 _ I1 h) fun us s2 ⟨vs, H2, I2, r, q⟩ => ⟨I2.kIn, ?_⟩) he hpl
  exact run_fn F hr hb .nil hx I2 r (by rw [List.append_nil]; exact q)
end L2

set_option Elab.async false
set_option linter.all false
set_option maxRecDepth 100000
namespace Lw
open PySem L2
def top (i : Nat) : Stmt := PySem.Challenge.pw_censers_k47_bad_ways_at_each_door.main.body.getD i (.Pass ⟨0, 0, 0, 0⟩)
abbrev s_law_draw : Stmt := top 78
abbrev s_law_cell : Stmt := top 79
abbrev s_law_many : Stmt := top 80
abbrev sis_way : Stmt := top 13
abbrev scheck_way : Stmt := top 14
abbrev scheck_way_of : Stmt := top 15
abbrev scheck_two_ways : Stmt := top 16
abbrev swoods : Stmt := top 19
abbrev salike : Stmt := top 20
abbrev slots : Stmt := top 21
abbrev sjoined : Stmt := top 23
abbrev smet : Stmt := top 25
abbrev slies_within : Stmt := top 26
abbrev sturned : Stmt := top 27
abbrev schance_behind : Stmt := top 36
abbrev schance : Stmt := top 33
abbrev sagreement : Stmt := top 38
abbrev scouncil : Stmt := top 41
abbrev sstretches : Stmt := top 43
abbrev slie : Stmt := top 45
abbrev sheights : Stmt := top 48
abbrev smark : Stmt := top 52
abbrev snumber : Stmt := top 55
abbrev sfollowing : Stmt := top 56
abbrev soverlap : Stmt := top 58
abbrev skept : Stmt := top 60
abbrev smoved : Stmt := top 61
abbrev sjoinings : Stmt := top 63
abbrev spartings : Stmt := top 66
abbrev ssteps : Stmt := top 67
abbrev spath : Stmt := top 69
abbrev sis_name : Stmt := top 74
abbrev scheck_woods : Stmt := top 75
abbrev sTray___init__ : Stmt := inClass (top 76) 0
abbrev s_law_row_ok : Stmt := top 81
abbrev s_law_way : Stmt := top 82
abbrev s_law_split : Stmt := top 83
abbrev s_law_refused : Stmt := top 84
abbrev s_law_some_row : Stmt := top 85
abbrev s_law_more_doors : Stmt := top 87
abbrev s_law_one_door : Stmt := top 86
abbrev s_law_two_doors : Stmt := top 88
abbrev s_law_council : Stmt := top 89
abbrev s_law_all_refuse : Stmt := top 90
abbrev slaw : Stmt := top 91
structure Bs (mg : Str → Option Value) : Prop where
  all : mg "all" = none
  isinstance : mg "isinstance" = none
  len : mg "len" = none
  list : mg "list" = none
  max : mg "max" = none
  min : mg "min" = none
  range : mg "range" = none
  set : mg "set" = none
  sum : mg "sum" = none
  tuple : mg "tuple" = none
structure Gs (mg : Str → Option Value) : Prop where
  yes : True
  MOST_CENSERS : ∃ t, mg "MOST_CENSERS" = some (.int 9 t)
  LONGEST_NAME : ∃ t, mg "LONGEST_NAME" = some (.int 12 t)
  MOST_WOODS : ∃ t, mg "MOST_WOODS" = some (.int 6 t)
  MOST_PACKETS : ∃ t, mg "MOST_PACKETS" = some (.int 99 t)
def spRowOk (K : PySem.W.Frag) : Sp := fun vs H Q _ => ∃ (a : Addr) (ns : List Int), vs = [.ref a] ∧ SqT K H a (ns.map V.int) ∧ ns.length ≤ 1000 ∧ ∀ H', Same H H' → Q (.bl (rowOk ns)) H'
def spLaw (K : PySem.W.Frag) : Sp := fun vs H Q _ => ∃ (a : Addr) (ns : List Int), vs = [.ref a] ∧ SqL K H a (ns.map V.int) ∧ ns.length ≤ 63 ∧ ∀ H', Q (.bl true) H'
def spRefused (K : PySem.W.Frag) : Sp := fun vs H Q _ => ∃ a : Addr, vs = [.ref a] ∧ H a = some (.lst [.str "refused"]) ∧ Q (.bl true) H
def spIsWay (K : PySem.W.Frag) : Sp := fun vs H Q _ => ∃ (a : Addr) (ns : List Int), vs = [.ref a] ∧ SqT K H a (ns.map V.int) ∧ Q (.bl (isWay ns)) H
def spSome (K : PySem.W.Frag) : Sp := fun vs H Q _ => ∃ c : Int, vs = [.int c] ∧ ∀ (p : Addr) (ns : List Int) (H' : Hp), Same H H' → SqT K H' p (ns.map V.int) → ns.length ≤ 1000 → Q (.ref p) H'
def spChkE (K : PySem.W.Frag) (C : Addr) : Sp := fun vs H Q E => ∃ (a : Addr) (ns : List Int), vs = [.ref a] ∧ SqT K H a (ns.map V.int) ∧ (isWay ns = true → Q .non H) ∧ (isWay ns = false → E (.ref C) none H)
def spChkOfE (K : PySem.W.Frag) (C : Addr) : Sp := fun vs H Q E => ∃ (n : Int) (b : Addr) (us : List Int), vs = [.int n, .ref b] ∧ SqT K H b (us.map V.int) ∧ (isWay us = true → (us.length : Int) = n → Q .non H) ∧ (¬ (isWay us = true ∧ (us.length : Int) = n) → E (.ref C) none H)
def spWoodsE (K : PySem.W.Frag) (C : Addr) : Sp := fun vs H Q E => ∃ (a : Addr) (ns : List Int), vs = [.ref a] ∧ SqT K H a (ns.map V.int) ∧ (isWay ns = true → ∀ n : Int, Q (.int n) H) ∧ (isWay ns = false → E (.ref C) none H)
def spBad1 (K : PySem.W.Frag) (C : Addr) : Sp := fun vs H Q E => ∃ (a : Addr) (ws : List Int), vs = [.ref a] ∧ SqT K H a (ws.map V.int) ∧ isWay ws = false ∧ (∀ H', Same H H' → E (.ref C) none H')
def spBad2x (K : PySem.W.Frag) (C : Addr) : Sp := fun vs H Q E => ∃ (a : Addr) (ws : List Int) (x : V), vs = [.ref a, x] ∧ SqT K H a (ws.map V.int) ∧ isWay ws = false ∧ (∀ H', Same H H' → E (.ref C) none H')
def spBad3 (K : PySem.W.Frag) (C : Addr) : Sp := fun vs H Q E => ∃ (a : Addr) (ws : List Int) (x y : V), vs = [.ref a, x, y] ∧ SqT K H a (ws.map V.int) ∧ isWay ws = false ∧ (∀ H', Same H H' → E (.ref C) none H')
def spBadC (K : PySem.W.Frag) (C : Addr) : Sp := fun vs H Q E => ∃ (x : V) (a : Addr) (ws : List Int), vs = [x, .ref a] ∧ SqT K H a (ws.map V.int) ∧ isWay ws = false ∧ (∀ H', Same H H' → E (.ref C) none H')
def spBadB (K : PySem.W.Frag) (C : Addr) : Sp := fun vs H Q E => ∃ (x y : V) (a : Addr) (ws : List Int), vs = [x, y, .ref a] ∧ SqT K H a (ws.map V.int) ∧ isWay ws = false ∧ (∀ H', Same H H' → E (.ref C) none H')
def spBad2 (K : PySem.W.Frag) (C : Addr) : Sp := fun vs H Q E => ∃ (a b : Addr) (ws us : List Int), vs = [.ref a, .ref b] ∧ SqT K H a (ws.map V.int) ∧ SqT K H b (us.map V.int) ∧ (isWay ws = false ∨ isWay us = false) ∧ (∀ H', Same H H' → E (.ref C) none H')
def spCouncilB (K : PySem.W.Frag) (C : Addr) : Sp := fun vs H Q E => ∃ (l : Addr) (as : List Addr) (U : List (List Int)), vs = [.ref l] ∧ SqL K H l (as.map V.ref) ∧ TsAt K H as U ∧ U.length ≤ 50 ∧ (∃ u ∈ U, isWay u = false) ∧ (∀ H', Same H H' → E (.ref C) none H')
def spLCouncil (K : PySem.W.Frag) : Sp := fun vs H Q _ => ∃ (l : Addr) (as : List Addr) (U : List (List Int)), vs = [.ref l] ∧ SqL K H l (as.map V.ref) ∧ TsAt K H as U ∧ U.length ≤ 50 ∧ (∃ u ∈ U, isWay u = false) ∧ (∀ (p : Addr) (H' : Hp), Same H H' → H' p = none → Q (.ref p) (upd H' p (.lst [.str "refused"])))
def spOneDoor (K : PySem.W.Frag) : Sp := fun vs H Q _ => ∃ (t : Int) (a : Addr) (ws : List Int), vs = [.int t, .ref a] ∧ 0 ≤ t ∧ t < 12 ∧ SqT K H a (ws.map V.int) ∧ isWay ws = false ∧ (∀ (p : Addr) (H' : Hp), Same H H' → H' p = none → Q (.ref p) (upd H' p (.lst [.str "refused"])))
def spMoreDoors (K : PySem.W.Frag) (C : Addr) : Sp := fun vs H Q E => ∃ (t : Int) (a : Addr) (ws : List Int), vs = [.int t, .ref a] ∧ 7 ≤ t ∧ t < 12 ∧ SqT K H a (ws.map V.int) ∧ isWay ws = false ∧ (∀ H', Same H H' → E (.ref C) none H')
def spTwoDoors (K : PySem.W.Frag) : Sp := fun vs H Q _ => ∃ (t : Int) (a b : Addr) (ws us : List Int), vs = [.int t, .ref a, .ref b] ∧ 0 ≤ t ∧ t < 9 ∧ SqT K H a (ws.map V.int) ∧ SqT K H b (us.map V.int) ∧ (isWay ws = false ∨ isWay us = false) ∧ (∀ (p : Addr) (H' : Hp), Same H H' → H' p = none → Q (.ref p) (upd H' p (.lst [.str "refused"])))
def spAllRefuse (K : PySem.W.Frag) : Sp := fun vs H Q _ => ∃ (a b : Addr) (ws us : List Int), vs = [.ref a, .ref b] ∧ SqT K H a (ws.map V.int) ∧ SqT K H b (us.map V.int) ∧ isWay ws = false ∧ ∀ H', Same H H' → Q (.bl true) H'
def spIsName (K : PySem.W.Frag) : Sp := fun vs H Q _ => ∃ z : Str, vs = [.str z] ∧ z.length ≤ 1000 ∧ ∀ H', Same H H' → Q (.bl (isNm z)) H'
def spCheckWoods (K : PySem.W.Frag) (C : Addr) : Sp := fun vs H Q E => ∃ (l : Addr) (as : List Addr) (W : Wds), vs = [.ref l] ∧ H l = some (.lst (as.map V.ref)) ∧ WAt H as W ∧ W.length ≤ 50 ∧ (∀ w ∈ W, w.1.length ≤ 1000) ∧ (woodsOk W = true → ∀ H', Same H H' → Q .non H') ∧ (woodsOk W = false → ∀ H', Same H H' → E (.ref C) none H')
def spInit (K : PySem.W.Frag) (C CB : Addr) : Sp := fun vs H Q E => ∃ (p dx l : Addr) (as : List Addr) (W : Wds), vs = [.ref p, .ref l] ∧ H p = some (.ins C dx []) ∧ H l = some (.lst (as.map V.ref)) ∧ WAt H as W ∧ W.length ≤ 50 ∧ (∀ w ∈ W, w.1.length ≤ 1000) ∧ (woodsOk W = true → ∀ (q : Addr) (H' : Hp), H q = none → H' q = some (.lst (as.map V.ref)) → H' p = some (.ins C dx (stkF q)) → (∀ b o, H b = some o → b ≠ p → H' b = some o) → Q .non H') ∧ (woodsOk W = false → ∀ H', Same H H' → E (.ref CB) none H')

section
variable {P : Program} {w : World} {K : PySem.W.Frag} {mg : Str → Option Value} {base : Heap} {CBadWay : Addr} {CBadTray : Addr} {CTray : Addr}
theorem sc_law_draw : FnScope (["_law_cell_here", "_law_limits", "_law_rest", "_law_seed", "_law_row", "_law_limit"]) (["_law_cell_here", "_law_limits"]) (defScope s_law_draw) := ⟨rfl, rfl, rfl, by decide +kernel, rfl, by decide +kernel, by decide +kernel⟩
set_option maxHeartbeats 4000000 in
theorem ok_law_draw {f : Addr} {fd : FuncData} (F : Fun K "_law_draw" "_law_draw" s_law_draw f fd) (B : Bs mg) (T : Gs mg) (mBadWay : mg "BadWay" = some (.ref CBadWay)) (qBadWay : PySem.W.excIn K CBadWay bmV "ValueError.__new__" = true) (mBadTray : mg "BadTray" = some (.ref CBadTray)) (qBadTray : PySem.W.excIn K CBadTray bmV "ValueError.__new__" = true)  (clTray : Cls K CTray) (nTray_stock : NoAttr K CTray "stock")  : FnOk P w K mg base CX0 1 f fd ["_law_cell_here", "_law_limits"] (spDraw K) := by
  have sc := sc_law_draw
  refine F.ok sc (fun vs H Q E h => ?_) (fun cdv A outer s H vs Q E hr h => ?_)
  · obtain ⟨c, a, ls, rfl, _⟩ := h; rfl
  · obtain ⟨c, a, ls, rfl, hS, hL, hlen, k⟩ := h
    refine ⟨_, (pss_cons (ps_set (i := 2) sc.nd rfl (Or.inl rfl) (pe_ifExp (pt_cmpR op_ge (pv 0) (pe_op op_pow pe_int pe_int) (nomark _)) (pv 0) pe_int))
      (pss_cons (ps_set (i := 3) sc.nd rfl (Or.inl rfl) (pe_op op_mod (pe_op op_add (pe_op op_mulW (pe_op op_mod (pv 0) pe_int) pe_int) pe_int) pe_int))
      (pss_cons (ps_set (i := 4) sc.nd rfl (Or.inl rfl) (pe_lst pa_nil))
      (pss_cons (ps_for PassesOwn.never rfl (kpi_list (K := K) (pv 1)) (pg_name (i := 5) sc.nd rfl (Or.inl rfl))
      (pss_cons (ps_set (i := 3) sc.nd rfl (Or.inl rfl) (pe_op op_mod (pe_op op_add (pe_op op_mulW (pe_op op_mod (pe_op op_mulW (pv 3) (pv 3)) pe_int) (pe_op op_add (pv 3) pe_int)) pe_int) pe_int))
      (pss_cons (ps_expr (pe_bm PySem.F.plainAttrs_list PySem.F.slot_list_append PySem.F.type_list_append mt_append (pv 4) (pa_cons (pe_ifExp (pt_cmpR op_gt (pv 2) pe_int (nomark _)) (pe_op op_mod (pv 2) (pv 5)) (pe_op op_mod (pe_op op_add (pe_op op_fdivW (pv 3) pe_int) (pe_op op_mulW (pe_op op_mod (pv 3) pe_int) pe_int)) (pv 5))) pa_nil)))
      (pss_one (ps_set (i := 2) sc.nd rfl (Or.inl rfl) (pe_op op_fdivW (pv 2) (pv 5)))))))
      (pss_one (ps_ret (pv 4))))))), ?_⟩
    -- rest
    refine ⟨_, rfl, _, _, rfl, rfl, ⟨by decide, by decide, by decide⟩, _, _, rfl, rfl, _, rfl, ?_⟩
    refine ite_P (fun _ => True) (fun r _ => ?_) (fun Q' h => ⟨_, rfl, h _ trivial⟩) (fun Q' h => h _ trivial)
    -- seed
    refine ⟨_, rfl, _, _, rfl, rfl, p0, _, _, rfl, rfl, mulOk_r ⟨by decide, by decide⟩, _, _, rfl, rfl, _, _, rfl, rfl, p0, ?_⟩
    -- row = []
    refine ⟨Nat.zero_le _, fun p hp => ?_⟩
    have hS1 : SqL K (upd H p (.lst [])) a (ls.map V.int) := (Same.new hp).seq hS
    -- for limit in limits
    refine ⟨_, rfl, a, rfl, ⟨_, hS1⟩, for_list (K := K) (a := a) (xs := ls.map V.int) (fun i σ H2 => ∃ (r seed : Int) (rs : List Int) (v : Option V), σ = [some (.int c), some (.ref a), some (.int r), some (.int seed), some (.ref p), v] ∧ 0 ≤ seed ∧ seed < 2147483647 ∧ Same H H2 ∧ H2 p = some (.lst (rs.map V.int)) ∧ Drawn' (ls.take i) rs)
      ⟨r, _, [], none, rfl, (modB _ (by decide)).1, (modB _ (by decide)).2, Same.new hp, upd_same, .nil⟩ (fun i σ H2 _ ⟨_, _, _, _, _, _, _, s2, _, _⟩ => s2.seq hS) ?_ ?_⟩
    · rintro i y σ H2 hi ⟨r, seed, rs, v, rfl, hs0, hs1, s2, hp2, hD⟩
      obtain ⟨l, rfl, hl, hil⟩ := getI hi
      have hlim := hL l (List.mem_of_getElem? hl)
      have hrl : rs.length = i := by have := hD.length; rw [List.length_take] at this; omega
      -- seed
      refine ⟨_, rfl, _, rfl, _, _, rfl, rfl, mulOk_r ⟨by omega, by omega⟩, _, _, rfl, rfl, p0, _, rfl, _, _, rfl, rfl, _, _, rfl, rfl, mulOk_r ⟨by omega, by omega⟩, _, _, rfl, rfl, _, _, rfl, rfl, p0, ?_⟩
      -- row.append
      refine ⟨_, rfl, .inl ⟨rfl, _, SqL.of hp2⟩, _, rfl, _, _, rfl, rfl, _, rfl, ?_⟩
      refine ite_P (fun q => 0 ≤ q ∧ q < l) (fun q hq => ?_) (fun Q' h => ⟨_, rfl, _, rfl, _, _, rfl, rfl, hlim.1, h _ (modB _ hlim.1)⟩)
        (fun Q' h => ⟨_, rfl, _, _, rfl, rfl, ⟨by decide, by decide⟩, _, rfl, _, _, rfl, rfl, p0, _, _, rfl, rfl, mulOk_r ⟨by decide, by decide⟩, _, _, rfl, rfl, _, rfl, _, _, rfl, rfl, hlim.1, h _ (modB _ hlim.1)⟩)
      obtain ⟨q0, q1⟩ := hq
      refine ⟨p, _, _, rfl, rfl, hp2, lt_line (by rw [ltm]; omega), ?_⟩
      -- rest
      refine ⟨_, rfl, _, rfl, _, _, rfl, rfl, hlim, ?_⟩
      refine ⟨_, _, rs ++ [q], _, rfl, (modB _ (by decide)).1, (modB _ (by decide)).2, s2.put hp, by rw [upd_same, mapV], ?_⟩
      rw [take_snoc hl]
      exact drawn_snoc hD q0 q1
    · rintro σ H2 ⟨r, seed, rs, v, rfl, hs0, hs1, s2, hp2, hD⟩
      rw [ltm, List.take_length] at hD
      exact ⟨_, rfl, k p rs H2 hp s2 hp2 hD⟩
theorem sc_law_cell : FnScope (["_law_script", "_law_k"]) (["_law_script", "_law_k"]) (defScope s_law_cell) := ⟨rfl, rfl, rfl, by decide +kernel, rfl, by decide +kernel, by decide +kernel⟩
set_option maxHeartbeats 4000000 in
theorem ok_law_cell {f : Addr} {fd : FuncData} (F : Fun K "_law_cell" "_law_cell" s_law_cell f fd) (B : Bs mg) (T : Gs mg) (mBadWay : mg "BadWay" = some (.ref CBadWay)) (qBadWay : PySem.W.excIn K CBadWay bmV "ValueError.__new__" = true) (mBadTray : mg "BadTray" = some (.ref CBadTray)) (qBadTray : PySem.W.excIn K CBadTray bmV "ValueError.__new__" = true)  (clTray : Cls K CTray) (nTray_stock : NoAttr K CTray "stock")  : FnOk P w K mg base CX0 1 f fd ["_law_script", "_law_k"] (spCell K) := by
  have sc := sc_law_cell
  refine F.ok sc (fun vs H Q E h => ?_) (fun cdv A outer s H vs Q E hr h => ?_)
  · obtain ⟨a, ns, kk, rfl, _⟩ := h; rfl
  · obtain ⟨a, ns, kk, rfl, hS, h0, h1, hl, k⟩ := h
    refine ⟨_, (pss_cons (ps_if (pt_cmpR op_lt (pv 1) (pe_callB (kc_len (K := K)) (by rfl) B.len PyProof.Rows.Boot.«len» (pa_cons (pv 0) pa_nil)) (nomark _)) (pss_one (ps_ret (pe_ix (kix_list (K := K)) (pv 0) (pv 1) (fun _ _ => rfl)))) pss_nil)
      (pss_one (ps_ret (pe_op op_add (pe_op op_add (pe_op op_mulW (pe_op op_mod (pe_callB (kc_sum (K := K)) (by rfl) B.sum PyProof.Rows.Boot.«sum» (pa_cons (pv 0) pa_nil)) pe_int) pe_int) (pe_op op_mulW (pe_callB (kc_len (K := K)) (by rfl) B.len PyProof.Rows.Boot.«len» (pa_cons (pv 0) pa_nil)) pe_int)) (pe_op op_mulW (pv 1) pe_int))))), ?_⟩
    refine ⟨_, rfl, _, rfl, a, _, rfl, .inl hS, _, _, rfl, rfl, _, rfl, ?_⟩
    rw [ltm]
    refine ite2 (fun hk => ?_) (fun _ => ?_)
    · have hk : kk < (ns.length : Int) := of_decide_eq_true hk
      obtain ⟨j, rfl⟩ := Int.eq_ofNat_of_zero_le h0
      have hj : j < ns.length := by omega
      refine ⟨_, rfl, _, rfl, a, _, _, _, rfl, rfl, hS, atI_nat (v := V.int (ns[j])) (by rw [List.getElem?_map, List.getElem?_eq_getElem hj]; rfl), k _⟩
    · refine ⟨_, rfl, a, ns, rfl, .inl hS, _, _, rfl, rfl, p0, _, _, rfl, rfl, mulOk_r ⟨by decide, by decide⟩, _, rfl, a, _, rfl, .inl hS, _, _, rfl, rfl, mulOk_r ⟨by decide, by decide⟩, _, _, rfl, rfl, _, rfl, _, _, rfl, rfl, mulOk_r ⟨by decide, by decide⟩, _, _, rfl, rfl, k _⟩
theorem sc_law_many : FnScope (["_law_script", "_law_few"]) (["_law_script", "_law_few"]) (defScope s_law_many) := ⟨rfl, rfl, rfl, by decide +kernel, rfl, by decide +kernel, by decide +kernel⟩
set_option maxHeartbeats 4000000 in
theorem ok_law_many {f : Addr} {fd : FuncData} (F : Fun K "_law_many" "_law_many" s_law_many f fd) (B : Bs mg) (T : Gs mg) (mBadWay : mg "BadWay" = some (.ref CBadWay)) (qBadWay : PySem.W.excIn K CBadWay bmV "ValueError.__new__" = true) (mBadTray : mg "BadTray" = some (.ref CBadTray)) (qBadTray : PySem.W.excIn K CBadTray bmV "ValueError.__new__" = true)  (clTray : Cls K CTray) (nTray_stock : NoAttr K CTray "stock")  : FnOk P w K mg base CX0 1 f fd ["_law_script", "_law_few"] (spMany K) := by
  have sc := sc_law_many
  refine F.ok sc (fun vs H Q E h => ?_) (fun cdv A outer s H vs Q E hr h => ?_)
  · obtain ⟨a, ns, f, rfl, _⟩ := h; rfl
  · obtain ⟨a, ns, f, rfl, hS, k⟩ := h
    refine ⟨_, (pss_one (ps_ret (pe_callB kc_max2 (by rfl) B.max PyProof.Rows.Boot.«max» (pa_cons (pv 1) (pa_cons (pe_callB kc_min2 (by rfl) B.min PyProof.Rows.Boot.«min» (pa_cons (pe_callB (kc_len (K := K)) (by rfl) B.len PyProof.Rows.Boot.«len» (pa_cons (pv 0) pa_nil)) (pa_cons pe_int pa_nil))) pa_nil))))), ?_⟩
    refine ⟨_, rfl, _, rfl, a, _, rfl, .inl hS, _, _, rfl, _, _, rfl, k _ ?_ ?_⟩
    · split <;> omega
    · split <;> split <;> omega
theorem scis_way : FnScope (["row", "fresh", "wood"]) (["row"]) (defScope sis_way) := ⟨rfl, rfl, rfl, by decide +kernel, rfl, by decide +kernel, by decide +kernel⟩
set_option maxHeartbeats 4000000 in
theorem okis_way {f : Addr} {fd : FuncData} (F : Fun K "is_way" "is_way" sis_way f fd) (B : Bs mg) (T : Gs mg) (mBadWay : mg "BadWay" = some (.ref CBadWay)) (qBadWay : PySem.W.excIn K CBadWay bmV "ValueError.__new__" = true) (mBadTray : mg "BadTray" = some (.ref CBadTray)) (qBadTray : PySem.W.excIn K CBadTray bmV "ValueError.__new__" = true)  (clTray : Cls K CTray) (nTray_stock : NoAttr K CTray "stock")  : FnOk P w K mg base CX0 1 f fd ["row"] (spIsWay K) := by
  have sc := scis_way
  refine F.ok sc (fun vs H Q E h => ?_) (fun cdv A outer s H vs Q E hr h => ?_)
  · obtain ⟨a, ns, rfl, _⟩ := h; rfl
  · obtain ⟨a, ns, rfl, hS, k⟩ := h
    obtain ⟨tM, gMOST_CENSERS⟩ := T.MOST_CENSERS
    refine ⟨_, (pss_cons (ps_if (pt_not (pt_chain op_le op_le pe_int (pe_callB (kc_len (K := K)) (by rfl) B.len PyProof.Rows.Boot.«len» (pa_cons (pv 0) pa_nil)) (pe_glob (v := .int 9) rfl gMOST_CENSERS ⟨_, rfl⟩))) (pss_one (ps_ret pe_bl)) pss_nil)
      (pss_cons (ps_set (i := 1) sc.nd rfl (Or.inl rfl) pe_int)
      (pss_cons (ps_for PassesOwn.never rfl (kpi_tup (K := K) (pv 0)) (pg_name (i := 2) sc.nd rfl (Or.inl rfl))
      (pss_cons (ps_if (pt_not (pt_chain op_le op_le pe_int (pv 2) (pv 1))) (pss_one (ps_ret pe_bl)) pss_nil)
      (pss_one (ps_if (pt_cmpR op_eq (pv 2) (pv 1) (nomark _)) (pss_one (ps_aug (i := 1) sc.nd rfl (Or.inl rfl) pe_int ip_add)) pss_nil))))
      (pss_one (ps_ret pe_bl))))), ?_⟩
    refine ⟨_, rfl, a, _, rfl, .inr hS, _, _, rfl, rfl, _, rfl, ?_⟩
    rw [ltm]
    have no : ¬ (1 ≤ ns.length ∧ ns.length ≤ 9) → isWay ns = false := fun z => by
      unfold isWay
      rw [← Bool.decide_and, decide_eq_false z]; rfl
    refine ite2 (fun h1 => ⟨_, _, rfl, rfl, _, rfl, ite2 (fun h2 => ?_) (fun h2 => ?_)⟩) (fun h1 => ⟨_, rfl, iteT ?_⟩)
    · rw [no (by simp at h2; omega)] at k
      exact k
    · have h1 : (1 : Int) ≤ (ns.length : Int) := of_decide_eq_true h1
      have h2 : (ns.length : Int) ≤ 9 := by simp at h2; omega
      have e0 : isWay ns = wayGo 0 ns := by
        unfold isWay
        rw [decide_eq_true (show 1 ≤ ns.length by omega), decide_eq_true (show ns.length ≤ 9 by omega)]; rfl
      rw [e0] at k
      refine ⟨_, rfl, a, rfl, ⟨_, hS⟩, for_tup (K := K) (a := a) (xs := ns.map V.int) (fun i σ H2 => ∃ (f : Int) (v : Option V), σ = [some (.ref a), some (.int f), v] ∧ H2 = H ∧ wayGo 0 ns = wayGo f (ns.drop i))
        ⟨0, none, rfl, rfl, by rw [List.drop_zero]⟩ (fun i σ H2 _ ⟨_, _, _, e, _⟩ => by rw [e]; exact hS) ?_ ?_⟩
      · rintro i y σ H2 hi ⟨f, v, rfl, e, hw⟩
        subst e
        obtain ⟨z, rfl, hz, hil⟩ := getI hi
        have hd : ns.drop i = z :: ns.drop (i + 1) := by
          rw [List.drop_eq_getElem_cons hil]
          rw [List.getElem?_eq_getElem hil] at hz
          rw [Option.some.inj hz]
        rw [hd] at hw
        have hw' : wayGo 0 ns = (decide (0 ≤ z) && decide (z ≤ f) && wayGo (if z = f then f + 1 else f) (ns.drop (i + 1))) := hw
        refine ⟨_, rfl, _, _, rfl, rfl, _, rfl, ?_⟩
        refine ite2 (fun g1 => ⟨_, rfl, _, _, rfl, rfl, _, rfl, ite2 (fun g2 => ?_) (fun g2 => ?_)⟩) (fun g1 => ⟨_, rfl, iteT ?_⟩)
        · have g2 : ¬ z ≤ f := by simp at g2; omega
          rw [hw', decide_eq_false g2, Bool.and_false, Bool.false_and] at k
          exact k
        · have g1 : 0 ≤ z := of_decide_eq_true g1
          have g2 : z ≤ f := by simp at g2; omega
          rw [decide_eq_true g1, decide_eq_true g2, Bool.and_true, Bool.true_and] at hw'
          refine ⟨_, rfl, _, rfl, rfl, _, rfl, ite2 (fun g => ?_) (fun g => ?_)⟩
          · have g : z = f := by have := of_decide_eq_true g; cases this; rfl
            rw [if_pos g] at hw'
            exact ⟨_, rfl, _, _, rfl, rfl, f + 1, _, rfl, rfl, hw'⟩
          · have g : ¬ z = f := fun e => g (decide_eq_true (by rw [e]))
            rw [if_neg g] at hw'
            exact ⟨f, _, rfl, rfl, hw'⟩
        · have g1 : ¬ 0 ≤ z := fun e => g1 (decide_eq_true e)
          rw [hw', decide_eq_false g1, Bool.false_and, Bool.false_and] at k
          exact k
      · rintro σ H2 ⟨f, v, rfl, e, hw⟩
        subst e
        rw [ltm, List.drop_length] at hw
        rw [show wayGo 0 ns = true from hw] at k
        exact k
    · have h1 : ¬ (1 : Int) ≤ (ns.length : Int) := fun e => h1 (decide_eq_true e)
      rw [no (by omega)] at k
      exact k
theorem sccheck_way : FnScope (["way"]) (["way"]) (defScope scheck_way) := ⟨rfl, rfl, rfl, by decide +kernel, rfl, by decide +kernel, by decide +kernel⟩
set_option maxHeartbeats 4000000 in
theorem okcheck_way {f : Addr} {fd : FuncData} (F : Fun K "check_way" "check_way" scheck_way f fd) (B : Bs mg) (T : Gs mg) (mBadWay : mg "BadWay" = some (.ref CBadWay)) (qBadWay : PySem.W.excIn K CBadWay bmV "ValueError.__new__" = true) (mBadTray : mg "BadTray" = some (.ref CBadTray)) (qBadTray : PySem.W.excIn K CBadTray bmV "ValueError.__new__" = true)  (clTray : Cls K CTray) (nTray_stock : NoAttr K CTray "stock") (cis_way : Cal P w K mg base 1 "is_way" [] (spIsWay K)) : FnOk P w K mg base (CXE P w) 2 f fd ["way"] (spChkE K CBadWay) := by
  have sc := sccheck_way
  refine F.okE sc (fun vs H Q E h => ?_) (fun cdv A outer s H vs Q E hr F0 h => ?_)
  · obtain ⟨a, ns, rfl, _⟩ := h; rfl
  · obtain ⟨a, ns, rfl, hS, k, kE⟩ := h
    refine ⟨_, (pss_one (ps_if (pt_not (pt_val (pe_cal cis_way (hr.mono (by decide)) rfl (pa_cons (pv 0) pa_nil)))) (pss_one (ps_raise F0 rfl rfl mBadWay qBadWay (pa_cons pe_str pa_nil))) pss_nil)), ?_⟩
    refine ⟨_, rfl, a, ns, rfl, hS, _, rfl, ?_⟩
    exact ite2 (fun g => ⟨le_line (by simp), kE (by simpa using g)⟩) (fun g => k (by simpa using g))
theorem sccheck_way_of : FnScope (["censers", "way"]) (["censers", "way"]) (defScope scheck_way_of) := ⟨rfl, rfl, rfl, by decide +kernel, rfl, by decide +kernel, by decide +kernel⟩
set_option maxHeartbeats 4000000 in
theorem okcheck_way_of {f : Addr} {fd : FuncData} (F : Fun K "check_way_of" "check_way_of" scheck_way_of f fd) (B : Bs mg) (T : Gs mg) (mBadWay : mg "BadWay" = some (.ref CBadWay)) (qBadWay : PySem.W.excIn K CBadWay bmV "ValueError.__new__" = true) (mBadTray : mg "BadTray" = some (.ref CBadTray)) (qBadTray : PySem.W.excIn K CBadTray bmV "ValueError.__new__" = true)  (clTray : Cls K CTray) (nTray_stock : NoAttr K CTray "stock") (ccheck_way : CalE P w K mg base 2 "check_way" [] (spChkE K CBadWay)) : FnOk P w K mg base (CXE P w) 3 f fd ["censers", "way"] (spChkOfE K CBadWay) := by
  have sc := sccheck_way_of
  refine F.okE sc (fun vs H Q E h => ?_) (fun cdv A outer s H vs Q E hr F0 h => ?_)
  · obtain ⟨n, b, us, rfl, _⟩ := h; rfl
  · obtain ⟨n, b, us, rfl, hS, k, kE⟩ := h
    refine ⟨_, (pss_cons (ps_expr (pe_calE ccheck_way (hr.mono (by decide)) rfl (pass_fn F0) (pa_cons (pv 1) pa_nil)))
      (pss_one (ps_if (pt_cmpR op_ne (pe_callB (kc_len (K := K)) (by rfl) B.len PyProof.Rows.Boot.«len» (pa_cons (pv 1) pa_nil)) (pv 0) (nomark _)) (pss_one (ps_raise F0 rfl rfl mBadWay qBadWay (pa_cons pe_str pa_nil))) pss_nil))), ?_⟩
    refine ⟨_, rfl, b, us, rfl, hS, fun hw => ?_, fun hw => kE (fun z => by rw [z.1] at hw; cases hw)⟩
    refine ⟨_, rfl, b, _, rfl, .inr hS, _, rfl, rfl, _, rfl, ?_⟩
    rw [ltm]
    refine ite2 (fun g => ⟨le_line (by simp), kE (fun e => ?_)⟩) (fun g => k hw ?_)
    · rw [e.2] at g; simp at g
    · by_cases e : (us.length : Int) = n
      · exact e
      · exact absurd (by simp; omega) g
theorem sccheck_two_ways : FnScope (["one", "other"]) (["one", "other"]) (defScope scheck_two_ways) := ⟨rfl, rfl, rfl, by decide +kernel, rfl, by decide +kernel, by decide +kernel⟩
set_option maxHeartbeats 4000000 in
theorem okcheck_two_ways {f : Addr} {fd : FuncData} (F : Fun K "check_two_ways" "check_two_ways" scheck_two_ways f fd) (B : Bs mg) (T : Gs mg) (mBadWay : mg "BadWay" = some (.ref CBadWay)) (qBadWay : PySem.W.excIn K CBadWay bmV "ValueError.__new__" = true) (mBadTray : mg "BadTray" = some (.ref CBadTray)) (qBadTray : PySem.W.excIn K CBadTray bmV "ValueError.__new__" = true)  (clTray : Cls K CTray) (nTray_stock : NoAttr K CTray "stock") (ccheck_way : CalE P w K mg base 2 "check_way" [] (spChkE K CBadWay)) (ccheck_way_of : CalE P w K mg base 3 "check_way_of" [] (spChkOfE K CBadWay)) : FnOk P w K mg base (CXE P w) 4 f fd ["one", "other"] (spBad2 K CBadWay) := by
  have sc := sccheck_two_ways
  refine F.okE sc (fun vs H Q E h => ?_) (fun cdv A outer s H vs Q E hr F0 h => ?_)
  · obtain ⟨a, b, ws, vs, rfl, _⟩ := h; rfl
  · obtain ⟨a, b, ws, vs, rfl, hS, hT, hb, kE⟩ := h
    refine ⟨_, (pss_cons (ps_expr (pe_calE ccheck_way (hr.mono (by decide)) rfl (pass_fn F0) (pa_cons (pv 0) pa_nil)))
      (pss_one (ps_expr (pe_calE ccheck_way_of (hr.mono (by decide)) rfl (pass_fn F0) (pa_cons (pe_callB (kc_len (K := K)) (by rfl) B.len PyProof.Rows.Boot.«len» (pa_cons (pv 0) pa_nil)) (pa_cons (pv 1) pa_nil)))))), ?_⟩
    refine ⟨_, rfl, a, ws, rfl, hS, fun hw => ?_, fun _ => kE _ (Same.refl _)⟩
    refine ⟨_, rfl, a, _, rfl, .inr hS, _, rfl, ?_⟩
    refine ⟨_, b, vs, rfl, hT, fun hv _ => ?_, fun _ => kE _ (Same.refl _)⟩
    rcases hb with z | z
    · rw [z] at hw; cases hw
    · rw [z] at hv; cases hv
theorem scwoods : FnScope (["way"]) (["way"]) (defScope swoods) := ⟨rfl, rfl, rfl, by decide +kernel, rfl, by decide +kernel, by decide +kernel⟩
set_option maxHeartbeats 4000000 in
theorem okwoods {f : Addr} {fd : FuncData} (F : Fun K "woods" "woods" swoods f fd) (B : Bs mg) (T : Gs mg) (mBadWay : mg "BadWay" = some (.ref CBadWay)) (qBadWay : PySem.W.excIn K CBadWay bmV "ValueError.__new__" = true) (mBadTray : mg "BadTray" = some (.ref CBadTray)) (qBadTray : PySem.W.excIn K CBadTray bmV "ValueError.__new__" = true)  (clTray : Cls K CTray) (nTray_stock : NoAttr K CTray "stock") (ccheck_way : CalE P w K mg base 2 "check_way" [] (spChkE K CBadWay)) : FnOk P w K mg base (CXE P w) 3 f fd ["way"] (spWoodsE K CBadWay) := by
  have sc := scwoods
  refine F.okE sc (fun vs H Q E h => ?_) (fun cdv A outer s H vs Q E hr F0 h => ?_)
  · obtain ⟨a, ns, rfl, _⟩ := h; rfl
  · obtain ⟨a, ns, rfl, hS, k, kE⟩ := h
    refine ⟨_, (pss_cons (ps_expr (pe_calE ccheck_way (hr.mono (by decide)) rfl (pass_fn F0) (pa_cons (pv 0) pa_nil)))
      (pss_one (ps_ret (pe_op op_add (pe_callB (kc_max (K := K)) (by rfl) B.max PyProof.Rows.Boot.«max» (pa_cons (pv 0) pa_nil)) pe_int)))), ?_⟩
    refine ⟨_, rfl, a, ns, rfl, hS, fun hw => ?_, fun hw => kE hw⟩
    have hw0 : wayGo 0 ns = true := by unfold isWay at hw; rw [Bool.and_eq_true] at hw; exact hw.2
    have hne : ns ≠ [] := fun e => by rw [e] at hw; exact absurd hw (by decide)
    refine ⟨_, rfl, a, ns, rfl, .inr hS, hne, fun m hm => ⟨_, _, rfl, rfl, ?_⟩⟩
    exact k hw (m + 1)
theorem scalike : FnScope (["way", "one", "other"]) (["way", "one", "other"]) (defScope salike) := ⟨rfl, rfl, rfl, by decide +kernel, rfl, by decide +kernel, by decide +kernel⟩
set_option maxHeartbeats 4000000 in
theorem okalike {f : Addr} {fd : FuncData} (F : Fun K "alike" "alike" salike f fd) (B : Bs mg) (T : Gs mg) (mBadWay : mg "BadWay" = some (.ref CBadWay)) (qBadWay : PySem.W.excIn K CBadWay bmV "ValueError.__new__" = true) (mBadTray : mg "BadTray" = some (.ref CBadTray)) (qBadTray : PySem.W.excIn K CBadTray bmV "ValueError.__new__" = true)  (clTray : Cls K CTray) (nTray_stock : NoAttr K CTray "stock") (ccheck_way : CalE P w K mg base 2 "check_way" [] (spChkE K CBadWay)) : FnOk P w K mg base (CXE P w) 3 f fd ["way", "one", "other"] (spBad3 K CBadWay) := by
  have sc := scalike
  refine F.okE sc (fun vs H Q E h => ?_) (fun cdv A outer s H vs Q E hr F0 h => ?_)
  · obtain ⟨a, ws, x, y, rfl, _⟩ := h; rfl
  · obtain ⟨a, ws, x, y, rfl, hS, hb, kE⟩ := h
    refine ⟨_, (pss_cons (ps_expr (pe_calE ccheck_way (hr.mono (by decide)) rfl (pass_fn F0) (pa_cons (pv 0) pa_nil)))
      pss_never), ?_⟩
    exact ⟨_, rfl, a, ws, rfl, hS, fun hw => (by rw [hb] at hw; cases hw), fun _ => kE _ (Same.refl _)⟩
theorem sclots : FnScope (["way", "gathered", "censer", "wood"]) (["way"]) (defScope slots) := ⟨rfl, rfl, rfl, by decide +kernel, rfl, by decide +kernel, by decide +kernel⟩
set_option maxHeartbeats 4000000 in
theorem oklots {f : Addr} {fd : FuncData} (F : Fun K "lots" "lots" slots f fd) (B : Bs mg) (T : Gs mg) (mBadWay : mg "BadWay" = some (.ref CBadWay)) (qBadWay : PySem.W.excIn K CBadWay bmV "ValueError.__new__" = true) (mBadTray : mg "BadTray" = some (.ref CBadTray)) (qBadTray : PySem.W.excIn K CBadTray bmV "ValueError.__new__" = true)  (clTray : Cls K CTray) (nTray_stock : NoAttr K CTray "stock") (cwoods : CalE P w K mg base 3 "woods" [] (spWoodsE K CBadWay)) : FnOk P w K mg base (CXE P w) 4 f fd ["way"] (spBad1 K CBadWay) := by
  have sc := sclots
  refine F.okE sc (fun vs H Q E h => ?_) (fun cdv A outer s H vs Q E hr F0 h => ?_)
  · obtain ⟨a, ws, rfl, _⟩ := h; rfl
  · obtain ⟨a, ws, rfl, hS, hb, kE⟩ := h
    refine ⟨_, (pss_cons (ps_lc (i := 1) sc.nd rfl rfl (N' := ["wood"]) (M := [none]) (lcSc_of (by rfl)) rfl (pi_range1 rfl B.range (pa_cons (pe_calE cwoods (hr.mono (by decide)) rfl (pass_fn F0) (pa_cons (pv 0) pa_nil)) pa_nil)) (fun _ _ _ _ _ => pg_name (i := 0) (show (["wood"] : List Str).Nodup by decide +kernel) rfl (Or.inl rfl) (.inr rfl)) (frm_name rfl) (fun _ _ _ _ _ => pts_nil) (fun _ _ _ _ _ => (pe_lst pa_nil)))
      pss_never), ?_⟩
    exact ⟨_, rfl, a, ws, rfl, hS, fun hw => (by rw [hb] at hw; cases hw), fun _ => kE _ (Same.refl _)⟩
theorem scjoined : FnScope (["one", "other", "labels", "lot", "censer"]) (["one", "other"]) (defScope sjoined) := ⟨rfl, rfl, rfl, by decide +kernel, rfl, by decide +kernel, by decide +kernel⟩
set_option maxHeartbeats 4000000 in
theorem okjoined {f : Addr} {fd : FuncData} (F : Fun K "joined" "joined" sjoined f fd) (B : Bs mg) (T : Gs mg) (mBadWay : mg "BadWay" = some (.ref CBadWay)) (qBadWay : PySem.W.excIn K CBadWay bmV "ValueError.__new__" = true) (mBadTray : mg "BadTray" = some (.ref CBadTray)) (qBadTray : PySem.W.excIn K CBadTray bmV "ValueError.__new__" = true)  (clTray : Cls K CTray) (nTray_stock : NoAttr K CTray "stock") (ccheck_two_ways : CalE P w K mg base 4 "check_two_ways" [] (spBad2 K CBadWay)) : FnOk P w K mg base (CXE P w) 5 f fd ["one", "other"] (spBad2 K CBadWay) := by
  have sc := scjoined
  refine F.okE sc (fun vs H Q E h => ?_) (fun cdv A outer s H vs Q E hr F0 h => ?_)
  · obtain ⟨a, b, ws, vs, rfl, _⟩ := h; rfl
  · obtain ⟨a, b, ws, vs, rfl, hS, hT, hb, kE⟩ := h
    refine ⟨_, (pss_cons (ps_expr (pe_calE ccheck_two_ways (hr.mono (by decide)) rfl (pass_fn F0) (pa_cons (pv 0) (pa_cons (pv 1) pa_nil))))
      pss_never), ?_⟩
    exact ⟨_, rfl, _, rfl, a, b, ws, vs, rfl, hS, hT, hb, kE⟩
theorem scmet : FnScope (["one", "other"]) (["one", "other"]) (defScope smet) := ⟨rfl, rfl, rfl, by decide +kernel, rfl, by decide +kernel, by decide +kernel⟩
set_option maxHeartbeats 4000000 in
theorem okmet {f : Addr} {fd : FuncData} (F : Fun K "met" "met" smet f fd) (B : Bs mg) (T : Gs mg) (mBadWay : mg "BadWay" = some (.ref CBadWay)) (qBadWay : PySem.W.excIn K CBadWay bmV "ValueError.__new__" = true) (mBadTray : mg "BadTray" = some (.ref CBadTray)) (qBadTray : PySem.W.excIn K CBadTray bmV "ValueError.__new__" = true)  (clTray : Cls K CTray) (nTray_stock : NoAttr K CTray "stock") (ccheck_two_ways : CalE P w K mg base 4 "check_two_ways" [] (spBad2 K CBadWay)) : FnOk P w K mg base (CXE P w) 5 f fd ["one", "other"] (spBad2 K CBadWay) := by
  have sc := scmet
  refine F.okE sc (fun vs H Q E h => ?_) (fun cdv A outer s H vs Q E hr F0 h => ?_)
  · obtain ⟨a, b, ws, vs, rfl, _⟩ := h; rfl
  · obtain ⟨a, b, ws, vs, rfl, hS, hT, hb, kE⟩ := h
    refine ⟨_, (pss_cons (ps_expr (pe_calE ccheck_two_ways (hr.mono (by decide)) rfl (pass_fn F0) (pa_cons (pv 0) (pa_cons (pv 1) pa_nil))))
      pss_never), ?_⟩
    exact ⟨_, rfl, _, rfl, a, b, ws, vs, rfl, hS, hT, hb, kE⟩
theorem sclies_within : FnScope (["one", "other"]) (["one", "other"]) (defScope slies_within) := ⟨rfl, rfl, rfl, by decide +kernel, rfl, by decide +kernel, by decide +kernel⟩
set_option maxHeartbeats 4000000 in
theorem oklies_within {f : Addr} {fd : FuncData} (F : Fun K "lies_within" "lies_within" slies_within f fd) (B : Bs mg) (T : Gs mg) (mBadWay : mg "BadWay" = some (.ref CBadWay)) (qBadWay : PySem.W.excIn K CBadWay bmV "ValueError.__new__" = true) (mBadTray : mg "BadTray" = some (.ref CBadTray)) (qBadTray : PySem.W.excIn K CBadTray bmV "ValueError.__new__" = true)  (clTray : Cls K CTray) (nTray_stock : NoAttr K CTray "stock") (cmet : CalE P w K mg base 5 "met" [] (spBad2 K CBadWay)) : FnOk P w K mg base (CXE P w) 6 f fd ["one", "other"] (spBad2 K CBadWay) := by
  have sc := sclies_within
  refine F.okE sc (fun vs H Q E h => ?_) (fun cdv A outer s H vs Q E hr F0 h => ?_)
  · obtain ⟨a, b, ws, vs, rfl, _⟩ := h; rfl
  · obtain ⟨a, b, ws, vs, rfl, hS, hT, hb, kE⟩ := h
    refine ⟨_, (pss_one (ps_ret (pe_cmpR (op_eqS (K := K) hr.units0) (pe_calE cmet (hr.mono (by decide)) rfl (pass_fn F0) (pa_cons (pv 0) (pa_cons (pv 1) pa_nil))) (pv 0) (nomark _)))), ?_⟩
    exact ⟨_, rfl, _, rfl, a, b, ws, vs, rfl, hS, hT, hb, kE⟩
theorem scturned : FnScope (["way", "order"]) (["way", "order"]) (defScope sturned) := ⟨rfl, rfl, rfl, by decide +kernel, rfl, by decide +kernel, by decide +kernel⟩
set_option maxHeartbeats 4000000 in
theorem okturned {f : Addr} {fd : FuncData} (F : Fun K "turned" "turned" sturned f fd) (B : Bs mg) (T : Gs mg) (mBadWay : mg "BadWay" = some (.ref CBadWay)) (qBadWay : PySem.W.excIn K CBadWay bmV "ValueError.__new__" = true) (mBadTray : mg "BadTray" = some (.ref CBadTray)) (qBadTray : PySem.W.excIn K CBadTray bmV "ValueError.__new__" = true)  (clTray : Cls K CTray) (nTray_stock : NoAttr K CTray "stock") (ccheck_way : CalE P w K mg base 2 "check_way" [] (spChkE K CBadWay)) : FnOk P w K mg base (CXE P w) 3 f fd ["way", "order"] (spBad2x K CBadWay) := by
  have sc := scturned
  refine F.okE sc (fun vs H Q E h => ?_) (fun cdv A outer s H vs Q E hr F0 h => ?_)
  · obtain ⟨a, ws, x, rfl, _⟩ := h; rfl
  · obtain ⟨a, ws, x, rfl, hS, hb, kE⟩ := h
    refine ⟨_, (pss_cons (ps_expr (pe_calE ccheck_way (hr.mono (by decide)) rfl (pass_fn F0) (pa_cons (pv 0) pa_nil)))
      pss_never), ?_⟩
    exact ⟨_, rfl, a, ws, rfl, hS, fun hw => (by rw [hb] at hw; cases hw), fun _ => kE _ (Same.refl _)⟩
theorem scchance_behind : FnScope (["tray", "opened", "way"]) (["tray", "opened", "way"]) (defScope schance_behind) := ⟨rfl, rfl, rfl, by decide +kernel, rfl, by decide +kernel, by decide +kernel⟩
set_option maxHeartbeats 4000000 in
theorem okchance_behind {f : Addr} {fd : FuncData} (F : Fun K "chance_behind" "chance_behind" schance_behind f fd) (B : Bs mg) (T : Gs mg) (mBadWay : mg "BadWay" = some (.ref CBadWay)) (qBadWay : PySem.W.excIn K CBadWay bmV "ValueError.__new__" = true) (mBadTray : mg "BadTray" = some (.ref CBadTray)) (qBadTray : PySem.W.excIn K CBadTray bmV "ValueError.__new__" = true)  (clTray : Cls K CTray) (nTray_stock : NoAttr K CTray "stock") (ccheck_way : CalE P w K mg base 2 "check_way" [] (spChkE K CBadWay)) : FnOk P w K mg base (CXE P w) 3 f fd ["tray", "opened", "way"] (spBadB K CBadWay) := by
  have sc := scchance_behind
  refine F.okE sc (fun vs H Q E h => ?_) (fun cdv A outer s H vs Q E hr F0 h => ?_)
  · obtain ⟨x, y, a, ws, rfl, _⟩ := h; rfl
  · obtain ⟨x, y, a, ws, rfl, hS, hb, kE⟩ := h
    refine ⟨_, (pss_cons (ps_expr (pe_calE ccheck_way (hr.mono (by decide)) rfl (pass_fn F0) (pa_cons (pv 2) pa_nil)))
      pss_never), ?_⟩
    exact ⟨_, rfl, a, ws, rfl, hS, fun hw => (by rw [hb] at hw; cases hw), fun _ => kE _ (Same.refl _)⟩
theorem scchance : FnScope (["tray", "way"]) (["tray", "way"]) (defScope schance) := ⟨rfl, rfl, rfl, by decide +kernel, rfl, by decide +kernel, by decide +kernel⟩
set_option maxHeartbeats 4000000 in
theorem okchance {f : Addr} {fd : FuncData} (F : Fun K "chance" "chance" schance f fd) (B : Bs mg) (T : Gs mg) (mBadWay : mg "BadWay" = some (.ref CBadWay)) (qBadWay : PySem.W.excIn K CBadWay bmV "ValueError.__new__" = true) (mBadTray : mg "BadTray" = some (.ref CBadTray)) (qBadTray : PySem.W.excIn K CBadTray bmV "ValueError.__new__" = true)  (clTray : Cls K CTray) (nTray_stock : NoAttr K CTray "stock") (cchance_behind : CalE P w K mg base 3 "chance_behind" [] (spBadB K CBadWay)) : FnOk P w K mg base (CXE P w) 4 f fd ["tray", "way"] (spBadC K CBadWay) := by
  have sc := scchance
  refine F.okE sc (fun vs H Q E h => ?_) (fun cdv A outer s H vs Q E hr F0 h => ?_)
  · obtain ⟨x, a, ws, rfl, _⟩ := h; rfl
  · obtain ⟨x, a, ws, rfl, hS, hb, kE⟩ := h
    refine ⟨_, (pss_one (ps_ret (pe_calE cchance_behind (hr.mono (by decide)) rfl (pass_fn F0) (pa_cons (pv 0) (pa_cons (pe_lst pa_nil) (pa_cons (pv 1) pa_nil)))))), ?_⟩
    refine ⟨_, rfl, Nat.zero_le _, fun p hp => ?_⟩
    exact ⟨_, rfl, x, .ref p, a, ws, rfl, (Same.new hp).seqT hS, hb, fun H' s' => kE H' ((Same.new hp).trans s')⟩
theorem scagreement : FnScope (["one", "other", "pairs"]) (["one", "other"]) (defScope sagreement) := ⟨rfl, rfl, rfl, by decide +kernel, rfl, by decide +kernel, by decide +kernel⟩
set_option maxHeartbeats 4000000 in
theorem okagreement {f : Addr} {fd : FuncData} (F : Fun K "agreement" "agreement" sagreement f fd) (B : Bs mg) (T : Gs mg) (mBadWay : mg "BadWay" = some (.ref CBadWay)) (qBadWay : PySem.W.excIn K CBadWay bmV "ValueError.__new__" = true) (mBadTray : mg "BadTray" = some (.ref CBadTray)) (qBadTray : PySem.W.excIn K CBadTray bmV "ValueError.__new__" = true)  (clTray : Cls K CTray) (nTray_stock : NoAttr K CTray "stock") (ccheck_two_ways : CalE P w K mg base 4 "check_two_ways" [] (spBad2 K CBadWay)) : FnOk P w K mg base (CXE P w) 5 f fd ["one", "other"] (spBad2 K CBadWay) := by
  have sc := scagreement
  refine F.okE sc (fun vs H Q E h => ?_) (fun cdv A outer s H vs Q E hr F0 h => ?_)
  · obtain ⟨a, b, ws, vs, rfl, _⟩ := h; rfl
  · obtain ⟨a, b, ws, vs, rfl, hS, hT, hb, kE⟩ := h
    refine ⟨_, (pss_cons (ps_expr (pe_calE ccheck_two_ways (hr.mono (by decide)) rfl (pass_fn F0) (pa_cons (pv 0) (pa_cons (pv 1) pa_nil))))
      pss_never), ?_⟩
    exact ⟨_, rfl, _, rfl, a, b, ws, vs, rfl, hS, hT, hb, kE⟩
theorem sccouncil : FnScope (["ways", "way", "search"]) (["ways"]) (defScope scouncil) := ⟨rfl, rfl, rfl, by decide +kernel, rfl, by decide +kernel, by decide +kernel⟩
set_option maxHeartbeats 4000000 in
theorem okcouncil {f : Addr} {fd : FuncData} (F : Fun K "council" "council" scouncil f fd) (B : Bs mg) (T : Gs mg) (mBadWay : mg "BadWay" = some (.ref CBadWay)) (qBadWay : PySem.W.excIn K CBadWay bmV "ValueError.__new__" = true) (mBadTray : mg "BadTray" = some (.ref CBadTray)) (qBadTray : PySem.W.excIn K CBadTray bmV "ValueError.__new__" = true)  (clTray : Cls K CTray) (nTray_stock : NoAttr K CTray "stock") (ccheck_way : CalE P w K mg base 2 "check_way" [] (spChkE K CBadWay)) (ccheck_way_of : CalE P w K mg base 3 "check_way_of" [] (spChkOfE K CBadWay)) : FnOk P w K mg base (CXE P w) 4 f fd ["ways"] (spCouncilB K CBadWay) := by
  have sc := sccouncil
  refine F.okE sc (fun vs H Q E h => ?_) (fun cdv A outer s H vs Q E hr F0 h => ?_)
  · obtain ⟨l, as, U, rfl, _⟩ := h; rfl
  · obtain ⟨l, as, U, rfl, hl, hU, hz, hb, kE⟩ := h
    refine ⟨_, (pss_cons (ps_if (pt_cmpR op_eq (pe_callB (kc_len (K := K)) (by rfl) B.len PyProof.Rows.Boot.«len» (pa_cons (pv 0) pa_nil)) pe_int (nomark _)) (pss_one (ps_raise F0 rfl rfl mBadWay qBadWay (pa_cons pe_str pa_nil))) pss_nil)
      (pss_cons (ps_expr (pe_calE ccheck_way (hr.mono (by decide)) rfl (pass_fn F0) (pa_cons (pe_ix (kix_list (K := K)) (pv 0) pe_int (fun _ _ => rfl)) pa_nil)))
      (pss_cons (ps_for PassesOwn.leaving rfl (kpi_list (K := K) (pv 0)) (pg_name (i := 1) sc.nd rfl (Or.inl rfl))
      (pss_one (ps_expr (pe_calE ccheck_way_of (hr.mono (by decide)) rfl (pass_fn F0) (pa_cons (pe_callB (kc_len (K := K)) (by rfl) B.len PyProof.Rows.Boot.«len» (pa_cons (pe_ix (kix_list (K := K)) (pv 0) pe_int (fun _ _ => rfl)) pa_nil)) (pa_cons (pv 1) pa_nil))))))
      pss_never))), ?_⟩
    have hal := hU.length
    have hal2 : (as.map V.ref).length = U.length := by rw [List.length_map, hal]
    obtain ⟨ub, hub, hbad⟩ := hb
    have z1 : 1 ≤ U.length := by
      cases U with
      | nil => simp at hub
      | cons x t => simp
    refine seq_ifN (b := decide ((U.length : Int) = 0)) (P := fun H2 => H2 = H) (fun N hN => ?_) (fun g H2 e => ?_) (fun g H2 e => ?_)
    · refine ⟨_, rfl, l, _, rfl, .inl hl, rfl, _, rfl, ?_⟩
      rw [dInt, hal2]
      exact hN _ rfl
    · exact absurd (of_decide_eq_true g) (by omega)
    subst e
    have hU0 : U[0]? = some (U.getD 0 []) := by rw [List.getD_eq_getElem?_getD, List.getElem?_eq_getElem (by omega)]; rfl
    obtain ⟨r0, hr0, e0⟩ := paired_getR hU hU0
    refine ⟨_, rfl, l, _, _, _, rfl, rfl, hl, atI_ref (j := 0) e0, r0, _, rfl, hr0, fun hw0 => ?_, fun _ => kE _ (Same.refl _)⟩
    refine ⟨_, rfl, l, rfl, ⟨_, hl⟩, for_list (K := K) (a := l) (xs := as.map V.ref) (fun i σ H3 => ∃ v : Option V, σ = [some (.ref l), v, none] ∧ H3 = H2 ∧ ∀ j u, j < i → U[j]? = some u → isWay u = true)
      ⟨none, rfl, rfl, fun j u h => absurd h (by omega)⟩ (fun i σ H3 _ ⟨_, _, e, _⟩ => by rw [e]; exact hl) ?_ ?_⟩
    · rintro i y σ H3 hi ⟨v, rfl, rfl, ha⟩
      obtain ⟨q, rfl, hq, hil⟩ := getRef hi
      obtain ⟨u, hu, hui⟩ := paired_getM hU hq
      refine gN ?_
      refine ⟨_, rfl, l, _, _, _, rfl, rfl, hl, atI_ref (j := 0) e0, r0, _, rfl, .inr hr0, _, rfl, ?_⟩
      refine ⟨_, q, u, rfl, hu, fun hv e => ⟨_, rfl, rfl, fun j u' hj hu' => ?_⟩, fun e => kE _ (Same.refl _)⟩
      by_cases ej : j = i
      · subst ej
        rw [hui] at hu'; cases hu'; exact hv
      · exact ha j u' (by omega) hu'
    rintro σ H3 ⟨v, rfl, rfl, ha⟩
    obtain ⟨j, hj, e⟩ := List.getElem_of_mem hub
    have := ha j ub (by rw [hal2]; exact hj) (by rw [List.getElem?_eq_getElem hj, e])
    rw [hbad] at this
    cases this
theorem scstretches : FnScope (["way"]) (["way"]) (defScope sstretches) := ⟨rfl, rfl, rfl, by decide +kernel, rfl, by decide +kernel, by decide +kernel⟩
set_option maxHeartbeats 4000000 in
theorem okstretches {f : Addr} {fd : FuncData} (F : Fun K "stretches" "stretches" sstretches f fd) (B : Bs mg) (T : Gs mg) (mBadWay : mg "BadWay" = some (.ref CBadWay)) (qBadWay : PySem.W.excIn K CBadWay bmV "ValueError.__new__" = true) (mBadTray : mg "BadTray" = some (.ref CBadTray)) (qBadTray : PySem.W.excIn K CBadTray bmV "ValueError.__new__" = true)  (clTray : Cls K CTray) (nTray_stock : NoAttr K CTray "stock") (clots : CalE P w K mg base 4 "lots" [] (spBad1 K CBadWay)) : FnOk P w K mg base (CXE P w) 5 f fd ["way"] (spBad1 K CBadWay) := by
  have sc := scstretches
  refine F.okE sc (fun vs H Q E h => ?_) (fun cdv A outer s H vs Q E hr F0 h => ?_)
  · obtain ⟨a, ws, rfl, _⟩ := h; rfl
  · obtain ⟨a, ws, rfl, hS, hb, kE⟩ := h
    refine ⟨_, (pss_one (ps_ret (pe_lc (N' := ["lot"]) (M := [none]) (lcSc_of (by rfl)) rfl (kpi_list (K := K) (pe_calE clots (hr.mono (by decide)) rfl (pass_fn F0) (pa_cons (pv 0) pa_nil))) (fun _ _ _ _ _ => pg_name (i := 0) (show (["lot"] : List Str).Nodup by decide +kernel) rfl (Or.inl rfl) (.inr rfl)) (frm_name rfl) (fun _ _ _ _ _ => pts_nil) (fun _ _ _ _ _ => (pe_tup (pa_cons (pe_ix (kix_list (K := K)) (pv 0) pe_int (fun _ _ => rfl)) (pa_cons (pe_ix (kix_list (K := K)) (pv 0) (pe_un un_neg pe_int) (fun _ _ => rfl)) pa_nil))))))), ?_⟩
    exact ⟨_, rfl, a, ws, rfl, hS, hb, kE⟩
theorem sclie : FnScope (["way", "lot", "other", "spans", "place"]) (["way", "lot", "other"]) (defScope slie) := ⟨rfl, rfl, rfl, by decide +kernel, rfl, by decide +kernel, by decide +kernel⟩
set_option maxHeartbeats 4000000 in
theorem oklie {f : Addr} {fd : FuncData} (F : Fun K "lie" "lie" slie f fd) (B : Bs mg) (T : Gs mg) (mBadWay : mg "BadWay" = some (.ref CBadWay)) (qBadWay : PySem.W.excIn K CBadWay bmV "ValueError.__new__" = true) (mBadTray : mg "BadTray" = some (.ref CBadTray)) (qBadTray : PySem.W.excIn K CBadTray bmV "ValueError.__new__" = true)  (clTray : Cls K CTray) (nTray_stock : NoAttr K CTray "stock") (cstretches : CalE P w K mg base 5 "stretches" [] (spBad1 K CBadWay)) : FnOk P w K mg base (CXE P w) 6 f fd ["way", "lot", "other"] (spBad3 K CBadWay) := by
  have sc := sclie
  refine F.okE sc (fun vs H Q E h => ?_) (fun cdv A outer s H vs Q E hr F0 h => ?_)
  · obtain ⟨a, ws, x, y, rfl, _⟩ := h; rfl
  · obtain ⟨a, ws, x, y, rfl, hS, hb, kE⟩ := h
    refine ⟨_, (pss_cons (ps_set (i := 3) sc.nd rfl (Or.inl rfl) (pe_calE cstretches (hr.mono (by decide)) rfl (pass_fn F0) (pa_cons (pv 0) pa_nil)))
      pss_never), ?_⟩
    exact ⟨_, rfl, a, ws, rfl, hS, hb, kE⟩
theorem scheights : FnScope (["way", "spans", "greatest", "found"]) (["way"]) (defScope sheights) := ⟨rfl, rfl, rfl, by decide +kernel, rfl, by decide +kernel, by decide +kernel⟩
set_option maxHeartbeats 4000000 in
theorem okheights {f : Addr} {fd : FuncData} (F : Fun K "heights" "heights" sheights f fd) (B : Bs mg) (T : Gs mg) (mBadWay : mg "BadWay" = some (.ref CBadWay)) (qBadWay : PySem.W.excIn K CBadWay bmV "ValueError.__new__" = true) (mBadTray : mg "BadTray" = some (.ref CBadTray)) (qBadTray : PySem.W.excIn K CBadTray bmV "ValueError.__new__" = true)  (clTray : Cls K CTray) (nTray_stock : NoAttr K CTray "stock") (cstretches : CalE P w K mg base 5 "stretches" [] (spBad1 K CBadWay)) : FnOk P w K mg base (CXE P w) 6 f fd ["way"] (spBad1 K CBadWay) := by
  have sc := scheights
  refine F.okE sc (fun vs H Q E h => ?_) (fun cdv A outer s H vs Q E hr F0 h => ?_)
  · obtain ⟨a, ws, rfl, _⟩ := h; rfl
  · obtain ⟨a, ws, rfl, hS, hb, kE⟩ := h
    refine ⟨_, (pss_cons (ps_set (i := 1) sc.nd rfl (Or.inl rfl) (pe_calE cstretches (hr.mono (by decide)) rfl (pass_fn F0) (pa_cons (pv 0) pa_nil)))
      pss_never), ?_⟩
    exact ⟨_, rfl, a, ws, rfl, hS, hb, kE⟩
theorem scmark : FnScope (["way", "levels", "rows"]) (["way"]) (defScope smark) := ⟨rfl, rfl, rfl, by decide +kernel, rfl, by decide +kernel, by decide +kernel⟩
set_option maxHeartbeats 4000000 in
theorem okmark {f : Addr} {fd : FuncData} (F : Fun K "mark" "mark" smark f fd) (B : Bs mg) (T : Gs mg) (mBadWay : mg "BadWay" = some (.ref CBadWay)) (qBadWay : PySem.W.excIn K CBadWay bmV "ValueError.__new__" = true) (mBadTray : mg "BadTray" = some (.ref CBadTray)) (qBadTray : PySem.W.excIn K CBadTray bmV "ValueError.__new__" = true)  (clTray : Cls K CTray) (nTray_stock : NoAttr K CTray "stock") (cheights : CalE P w K mg base 6 "heights" [] (spBad1 K CBadWay)) : FnOk P w K mg base (CXE P w) 7 f fd ["way"] (spBad1 K CBadWay) := by
  have sc := scmark
  refine F.okE sc (fun vs H Q E h => ?_) (fun cdv A outer s H vs Q E hr F0 h => ?_)
  · obtain ⟨a, ws, rfl, _⟩ := h; rfl
  · obtain ⟨a, ws, rfl, hS, hb, kE⟩ := h
    refine ⟨_, (pss_cons (ps_set (i := 1) sc.nd rfl (Or.inr rfl) (pe_calE cheights (hr.mono (by decide)) rfl (pass_fn F0) (pa_cons (pv 0) pa_nil)))
      pss_never), ?_⟩
    exact ⟨_, rfl, a, ws, rfl, hS, hb, kE⟩
theorem scnumber : FnScope (["way", "ahead", "used", "place", "wood"]) (["way"]) (defScope snumber) := ⟨rfl, rfl, rfl, by decide +kernel, rfl, by decide +kernel, by decide +kernel⟩
set_option maxHeartbeats 4000000 in
theorem oknumber {f : Addr} {fd : FuncData} (F : Fun K "number" "number" snumber f fd) (B : Bs mg) (T : Gs mg) (mBadWay : mg "BadWay" = some (.ref CBadWay)) (qBadWay : PySem.W.excIn K CBadWay bmV "ValueError.__new__" = true) (mBadTray : mg "BadTray" = some (.ref CBadTray)) (qBadTray : PySem.W.excIn K CBadTray bmV "ValueError.__new__" = true)  (clTray : Cls K CTray) (nTray_stock : NoAttr K CTray "stock") (ccheck_way : CalE P w K mg base 2 "check_way" [] (spChkE K CBadWay)) : FnOk P w K mg base (CXE P w) 3 f fd ["way"] (spBad1 K CBadWay) := by
  have sc := scnumber
  refine F.okE sc (fun vs H Q E h => ?_) (fun cdv A outer s H vs Q E hr F0 h => ?_)
  · obtain ⟨a, ws, rfl, _⟩ := h; rfl
  · obtain ⟨a, ws, rfl, hS, hb, kE⟩ := h
    refine ⟨_, (pss_cons (ps_expr (pe_calE ccheck_way (hr.mono (by decide)) rfl (pass_fn F0) (pa_cons (pv 0) pa_nil)))
      pss_never), ?_⟩
    exact ⟨_, rfl, a, ws, rfl, hS, fun hw => (by rw [hb] at hw; cases hw), fun _ => kE _ (Same.refl _)⟩
theorem scfollowing : FnScope (["way", "place"]) (["way"]) (defScope sfollowing) := ⟨rfl, rfl, rfl, by decide +kernel, rfl, by decide +kernel, by decide +kernel⟩
set_option maxHeartbeats 4000000 in
theorem okfollowing {f : Addr} {fd : FuncData} (F : Fun K "following" "following" sfollowing f fd) (B : Bs mg) (T : Gs mg) (mBadWay : mg "BadWay" = some (.ref CBadWay)) (qBadWay : PySem.W.excIn K CBadWay bmV "ValueError.__new__" = true) (mBadTray : mg "BadTray" = some (.ref CBadTray)) (qBadTray : PySem.W.excIn K CBadTray bmV "ValueError.__new__" = true)  (clTray : Cls K CTray) (nTray_stock : NoAttr K CTray "stock") (ccheck_way : CalE P w K mg base 2 "check_way" [] (spChkE K CBadWay)) : FnOk P w K mg base (CXE P w) 3 f fd ["way"] (spBad1 K CBadWay) := by
  have sc := scfollowing
  refine F.okE sc (fun vs H Q E h => ?_) (fun cdv A outer s H vs Q E hr F0 h => ?_)
  · obtain ⟨a, ws, rfl, _⟩ := h; rfl
  · obtain ⟨a, ws, rfl, hS, hb, kE⟩ := h
    refine ⟨_, (pss_cons (ps_expr (pe_calE ccheck_way (hr.mono (by decide)) rfl (pass_fn F0) (pa_cons (pv 0) pa_nil)))
      pss_never), ?_⟩
    exact ⟨_, rfl, a, ws, rfl, hS, fun hw => (by rw [hb] at hw; cases hw), fun _ => kE _ (Same.refl _)⟩
theorem scoverlap : FnScope (["one", "other"]) (["one", "other"]) (defScope soverlap) := ⟨rfl, rfl, rfl, by decide +kernel, rfl, by decide +kernel, by decide +kernel⟩
set_option maxHeartbeats 4000000 in
theorem okoverlap {f : Addr} {fd : FuncData} (F : Fun K "overlap" "overlap" soverlap f fd) (B : Bs mg) (T : Gs mg) (mBadWay : mg "BadWay" = some (.ref CBadWay)) (qBadWay : PySem.W.excIn K CBadWay bmV "ValueError.__new__" = true) (mBadTray : mg "BadTray" = some (.ref CBadTray)) (qBadTray : PySem.W.excIn K CBadTray bmV "ValueError.__new__" = true)  (clTray : Cls K CTray) (nTray_stock : NoAttr K CTray "stock") (ccheck_two_ways : CalE P w K mg base 4 "check_two_ways" [] (spBad2 K CBadWay)) : FnOk P w K mg base (CXE P w) 5 f fd ["one", "other"] (spBad2 K CBadWay) := by
  have sc := scoverlap
  refine F.okE sc (fun vs H Q E h => ?_) (fun cdv A outer s H vs Q E hr F0 h => ?_)
  · obtain ⟨a, b, ws, vs, rfl, _⟩ := h; rfl
  · obtain ⟨a, b, ws, vs, rfl, hS, hT, hb, kE⟩ := h
    refine ⟨_, (pss_cons (ps_expr (pe_calE ccheck_two_ways (hr.mono (by decide)) rfl (pass_fn F0) (pa_cons (pv 0) (pa_cons (pv 1) pa_nil))))
      pss_never), ?_⟩
    exact ⟨_, rfl, _, rfl, a, b, ws, vs, rfl, hS, hT, hb, kE⟩
theorem sckept : FnScope (["one", "other", "table", "columns", "spare", "pairing", "row", "found", "column", "total"]) (["one", "other"]) (defScope skept) := ⟨rfl, rfl, rfl, by decide +kernel, rfl, by decide +kernel, by decide +kernel⟩
set_option maxHeartbeats 4000000 in
theorem okkept {f : Addr} {fd : FuncData} (F : Fun K "kept" "kept" skept f fd) (B : Bs mg) (T : Gs mg) (mBadWay : mg "BadWay" = some (.ref CBadWay)) (qBadWay : PySem.W.excIn K CBadWay bmV "ValueError.__new__" = true) (mBadTray : mg "BadTray" = some (.ref CBadTray)) (qBadTray : PySem.W.excIn K CBadTray bmV "ValueError.__new__" = true)  (clTray : Cls K CTray) (nTray_stock : NoAttr K CTray "stock") (coverlap : CalE P w K mg base 5 "overlap" [] (spBad2 K CBadWay)) : FnOk P w K mg base (CXE P w) 6 f fd ["one", "other"] (spBad2 K CBadWay) := by
  have sc := sckept
  refine F.okE sc (fun vs H Q E h => ?_) (fun cdv A outer s H vs Q E hr F0 h => ?_)
  · obtain ⟨a, b, ws, vs, rfl, _⟩ := h; rfl
  · obtain ⟨a, b, ws, vs, rfl, hS, hT, hb, kE⟩ := h
    refine ⟨_, (pss_cons (ps_set (i := 2) sc.nd rfl (Or.inr rfl) (pe_calE coverlap (hr.mono (by decide)) rfl (pass_fn F0) (pa_cons (pv 0) (pa_cons (pv 1) pa_nil))))
      pss_never), ?_⟩
    exact ⟨_, rfl, _, rfl, a, b, ws, vs, rfl, hS, hT, hb, kE⟩
theorem scmoved : FnScope (["one", "other"]) (["one", "other"]) (defScope smoved) := ⟨rfl, rfl, rfl, by decide +kernel, rfl, by decide +kernel, by decide +kernel⟩
set_option maxHeartbeats 4000000 in
theorem okmoved {f : Addr} {fd : FuncData} (F : Fun K "moved" "moved" smoved f fd) (B : Bs mg) (T : Gs mg) (mBadWay : mg "BadWay" = some (.ref CBadWay)) (qBadWay : PySem.W.excIn K CBadWay bmV "ValueError.__new__" = true) (mBadTray : mg "BadTray" = some (.ref CBadTray)) (qBadTray : PySem.W.excIn K CBadTray bmV "ValueError.__new__" = true)  (clTray : Cls K CTray) (nTray_stock : NoAttr K CTray "stock") (ckept : CalE P w K mg base 6 "kept" [] (spBad2 K CBadWay)) : FnOk P w K mg base (CXE P w) 7 f fd ["one", "other"] (spBad2 K CBadWay) := by
  have sc := scmoved
  refine F.okE sc (fun vs H Q E h => ?_) (fun cdv A outer s H vs Q E hr F0 h => ?_)
  · obtain ⟨a, b, ws, vs, rfl, _⟩ := h; rfl
  · obtain ⟨a, b, ws, vs, rfl, hS, hT, hb, kE⟩ := h
    refine ⟨_, (pss_one (ps_ret (pe_op op_sub (pe_callB (kc_len (K := K)) (by rfl) B.len PyProof.Rows.Boot.«len» (pa_cons (pv 0) pa_nil)) (pe_ix (kix_tup (K := K)) (pe_calE ckept (hr.mono (by decide)) rfl (pass_fn F0) (pa_cons (pv 0) (pa_cons (pv 1) pa_nil))) pe_int (fun _ _ => rfl))))), ?_⟩
    exact ⟨_, rfl, a, _, rfl, .inr hS, _, rfl, _, rfl, a, b, ws, vs, rfl, hS, hT, hb, kE⟩
theorem scjoinings : FnScope (["way", "pairs"]) (["way"]) (defScope sjoinings) := ⟨rfl, rfl, rfl, by decide +kernel, rfl, by decide +kernel, by decide +kernel⟩
set_option maxHeartbeats 4000000 in
theorem okjoinings {f : Addr} {fd : FuncData} (F : Fun K "joinings" "joinings" sjoinings f fd) (B : Bs mg) (T : Gs mg) (mBadWay : mg "BadWay" = some (.ref CBadWay)) (qBadWay : PySem.W.excIn K CBadWay bmV "ValueError.__new__" = true) (mBadTray : mg "BadTray" = some (.ref CBadTray)) (qBadTray : PySem.W.excIn K CBadTray bmV "ValueError.__new__" = true)  (clTray : Cls K CTray) (nTray_stock : NoAttr K CTray "stock") (cwoods : CalE P w K mg base 3 "woods" [] (spWoodsE K CBadWay)) : FnOk P w K mg base (CXE P w) 4 f fd ["way"] (spBad1 K CBadWay) := by
  have sc := scjoinings
  refine F.okE sc (fun vs H Q E h => ?_) (fun cdv A outer s H vs Q E hr F0 h => ?_)
  · obtain ⟨a, ws, rfl, _⟩ := h; rfl
  · obtain ⟨a, ws, rfl, hS, hb, kE⟩ := h
    refine ⟨_, (pss_cons (ps_lc2 (i := 1) sc.nd rfl rfl (N' := ["second", "first"]) (M := [none, none]) (lcSc_of (by rfl)) rfl (pi_range1 rfl B.range (pa_cons (pe_calE cwoods (hr.mono (by decide)) rfl (pass_fn F0) (pa_cons (pv 0) pa_nil)) pa_nil)) (fun _ _ _ _ _ => pg_name (i := 0) (show (["second", "first"] : List Str).Nodup by decide +kernel) rfl (Or.inl rfl) (.inr rfl)) own_name (fun _ _ _ _ _ => pts_nil) (by decide) (by decide) (fun _ _ _ _ _ => (pi_range1 rfl B.range (pa_cons (pv 0) pa_nil))) (fun _ _ _ _ _ => pg_name (i := 1) (show (["second", "first"] : List Str).Nodup by decide +kernel) rfl (Or.inl rfl) (.inr rfl)) own_name (fun _ _ _ _ _ => pts_nil) (fun _ _ _ _ _ => (pe_tup (pa_cons (pv 1) (pa_cons (pv 0) pa_nil)))))
      pss_never), ?_⟩
    exact ⟨_, rfl, a, ws, rfl, hS, fun hw => (by rw [hb] at hw; cases hw), fun _ => kE _ (Same.refl _)⟩
theorem scpartings : FnScope (["way", "found", "lot"]) (["way"]) (defScope spartings) := ⟨rfl, rfl, rfl, by decide +kernel, rfl, by decide +kernel, by decide +kernel⟩
set_option maxHeartbeats 4000000 in
theorem okpartings {f : Addr} {fd : FuncData} (F : Fun K "partings" "partings" spartings f fd) (B : Bs mg) (T : Gs mg) (mBadWay : mg "BadWay" = some (.ref CBadWay)) (qBadWay : PySem.W.excIn K CBadWay bmV "ValueError.__new__" = true) (mBadTray : mg "BadTray" = some (.ref CBadTray)) (qBadTray : PySem.W.excIn K CBadTray bmV "ValueError.__new__" = true)  (clTray : Cls K CTray) (nTray_stock : NoAttr K CTray "stock") (clots : CalE P w K mg base 4 "lots" [] (spBad1 K CBadWay)) : FnOk P w K mg base (CXE P w) 5 f fd ["way"] (spBad1 K CBadWay) := by
  have sc := scpartings
  refine F.okE sc (fun vs H Q E h => ?_) (fun cdv A outer s H vs Q E hr F0 h => ?_)
  · obtain ⟨a, ws, rfl, _⟩ := h; rfl
  · obtain ⟨a, ws, rfl, hS, hb, kE⟩ := h
    refine ⟨_, (pss_cons (ps_set (i := 1) sc.nd rfl (Or.inl rfl) (pe_lst pa_nil))
      (pss_cons (ps_for PassesOwn.leaving rfl (kpi_list (K := K) (pe_calE clots (hr.mono (by decide)) rfl (pass_fn F0) (pa_cons (pv 0) pa_nil))) (pg_name (i := 2) sc.nd rfl (Or.inl rfl))
      pss_never)
      pss_never)), ?_⟩
    refine ⟨Nat.zero_le _, fun p hp => ?_⟩
    exact ⟨_, rfl, a, ws, rfl, (Same.new hp).seqT hS, hb, fun H' s' => kE H' ((Same.new hp).trans s')⟩
theorem scsteps : FnScope (["one", "other"]) (["one", "other"]) (defScope ssteps) := ⟨rfl, rfl, rfl, by decide +kernel, rfl, by decide +kernel, by decide +kernel⟩
set_option maxHeartbeats 4000000 in
theorem oksteps {f : Addr} {fd : FuncData} (F : Fun K "steps" "steps" ssteps f fd) (B : Bs mg) (T : Gs mg) (mBadWay : mg "BadWay" = some (.ref CBadWay)) (qBadWay : PySem.W.excIn K CBadWay bmV "ValueError.__new__" = true) (mBadTray : mg "BadTray" = some (.ref CBadTray)) (qBadTray : PySem.W.excIn K CBadTray bmV "ValueError.__new__" = true)  (clTray : Cls K CTray) (nTray_stock : NoAttr K CTray "stock") (cjoined : CalE P w K mg base 5 "joined" [] (spBad2 K CBadWay)) (cwoods : CalE P w K mg base 3 "woods" [] (spWoodsE K CBadWay)) : FnOk P w K mg base (CXE P w) 6 f fd ["one", "other"] (spBad2 K CBadWay) := by
  have sc := scsteps
  refine F.okE sc (fun vs H Q E h => ?_) (fun cdv A outer s H vs Q E hr F0 h => ?_)
  · obtain ⟨a, b, ws, vs, rfl, _⟩ := h; rfl
  · obtain ⟨a, b, ws, vs, rfl, hS, hT, hb, kE⟩ := h
    refine ⟨_, (pss_one (ps_ret (pe_op op_sub (pe_op op_add (pe_calE cwoods (hr.mono (by decide)) rfl (pass_fn F0) (pa_cons (pv 0) pa_nil)) (pe_calE cwoods (hr.mono (by decide)) rfl (pass_fn F0) (pa_cons (pv 1) pa_nil))) (pe_op op_mulW pe_int (pe_calE cwoods (hr.mono (by decide)) rfl (pass_fn F0) (pa_cons (pe_calE cjoined (hr.mono (by decide)) rfl (pass_fn F0) (pa_cons (pv 0) (pa_cons (pv 1) pa_nil))) pa_nil)))))), ?_⟩
    refine ⟨_, rfl, a, ws, rfl, hS, fun hw n => ?_, fun _ => kE _ (Same.refl _)⟩
    refine ⟨_, rfl, b, vs, rfl, hT, fun hv n => ?_, fun _ => kE _ (Same.refl _)⟩
    rcases hb with z | z
    · rw [z] at hw; cases hw
    · rw [z] at hv; cases hv
theorem scpath : FnScope (["one", "other", "top", "back"]) (["one", "other"]) (defScope spath) := ⟨rfl, rfl, rfl, by decide +kernel, rfl, by decide +kernel, by decide +kernel⟩
set_option maxHeartbeats 4000000 in
theorem okpath {f : Addr} {fd : FuncData} (F : Fun K "path" "path" spath f fd) (B : Bs mg) (T : Gs mg) (mBadWay : mg "BadWay" = some (.ref CBadWay)) (qBadWay : PySem.W.excIn K CBadWay bmV "ValueError.__new__" = true) (mBadTray : mg "BadTray" = some (.ref CBadTray)) (qBadTray : PySem.W.excIn K CBadTray bmV "ValueError.__new__" = true)  (clTray : Cls K CTray) (nTray_stock : NoAttr K CTray "stock") (cjoined : CalE P w K mg base 5 "joined" [] (spBad2 K CBadWay)) : FnOk P w K mg base (CXE P w) 6 f fd ["one", "other"] (spBad2 K CBadWay) := by
  have sc := scpath
  refine F.okE sc (fun vs H Q E h => ?_) (fun cdv A outer s H vs Q E hr F0 h => ?_)
  · obtain ⟨a, b, ws, vs, rfl, _⟩ := h; rfl
  · obtain ⟨a, b, ws, vs, rfl, hS, hT, hb, kE⟩ := h
    refine ⟨_, (pss_cons (ps_set (i := 2) sc.nd rfl (Or.inl rfl) (pe_calE cjoined (hr.mono (by decide)) rfl (pass_fn F0) (pa_cons (pv 0) (pa_cons (pv 1) pa_nil))))
      pss_never), ?_⟩
    exact ⟨_, rfl, _, rfl, a, b, ws, vs, rfl, hS, hT, hb, kE⟩
theorem scis_name : FnScope (["text"]) (["text"]) (defScope sis_name) := ⟨rfl, rfl, rfl, by decide +kernel, rfl, by decide +kernel, by decide +kernel⟩
set_option maxHeartbeats 4000000 in
theorem okis_name {f : Addr} {fd : FuncData} (F : Fun K "is_name" "is_name" sis_name f fd) (B : Bs mg) (T : Gs mg) (mBadWay : mg "BadWay" = some (.ref CBadWay)) (qBadWay : PySem.W.excIn K CBadWay bmV "ValueError.__new__" = true) (mBadTray : mg "BadTray" = some (.ref CBadTray)) (qBadTray : PySem.W.excIn K CBadTray bmV "ValueError.__new__" = true)  (clTray : Cls K CTray) (nTray_stock : NoAttr K CTray "stock")  : FnOk P w K mg base CX0 1 f fd ["text"] (spIsName K) := by
  have sc := scis_name
  refine F.ok sc (fun vs H Q E h => ?_) (fun cdv A outer s H vs Q E hr h => ?_)
  · obtain ⟨z, rfl, _⟩ := h; rfl
  · obtain ⟨tL, gLONGEST_NAME⟩ := T.LONGEST_NAME
    obtain ⟨z, rfl, hz, k⟩ := h
    refine ⟨_, (pss_one (ps_ret (pe_and (pe_chain op_le op_le pe_int (pe_callB call_len_str (by rfl) B.len PyProof.Rows.Boot.«len» (pa_cons (pv 0) pa_nil)) (pe_glob (v := .int 12) rfl gLONGEST_NAME ⟨_, rfl⟩)) (pe_one (pe_callB (kc_all (K := K)) (by rfl) B.all PyProof.Rows.Boot.«all» (pa_cons (pe_lc (N' := ["sign"]) (M := [none]) (lcSc_of (by rfl)) rfl (pi_str (pv 0)) (fun _ _ _ _ _ => pg_name (i := 0) (show (["sign"] : List Str).Nodup by decide +kernel) rfl (Or.inl rfl) (.inr rfl)) (frm_name rfl) (fun _ _ _ _ _ => pts_nil) (fun _ _ _ _ _ => (pe_chain op_leS op_leS pe_str (pv 0) pe_str))) pa_nil)))))), ?_⟩
    refine chainV (x := (z.length : Int)) (H' := H) (fun Q' h' => ⟨_, rfl, z, rfl, le_line (by omega), h'⟩) ⟨_, rfl, ?_⟩
    refine ite2 (fun g => ?_) (fun g => ?_)
    · refine ⟨_, rfl, z, rfl, lc_str (fun i ys H2 => H2 = H ∧ ys = ((List.range i).map fun j => letN (z.cps.toList.getD j 0)).map V.bl) (le_line (by omega)) ⟨rfl, rfl⟩ (fun i ys H2 _ h => by rw [h.2, List.length_map, List.length_map, List.length_range]; exact Nat.le_refl _) ?_ ?_⟩
      · rintro i ys H2 hi ⟨rfl, rfl⟩
        refine lcN ?_
        refine ⟨_, rfl, _, _, rfl, rfl, _, rfl, ?_⟩
        have e1 := le_a z i
        have e2 := le_z z i
        have key : ∀ b : Bool, b = letN (z.cps.toList.getD i 0) → H2 = H2 ∧ ((List.range i).map fun j => letN (z.cps.toList.getD j 0)).map V.bl ++ [V.bl b] = ((List.range (i + 1)).map fun j => letN (z.cps.toList.getD j 0)).map V.bl := fun b e => ⟨rfl, by rw [e]; exact bl_snoc (fun j => letN (z.cps.toList.getD j 0)) i⟩
        refine ite2 (fun g1 => ⟨_, _, rfl, rfl, key _ ?_⟩) (fun g1 => key _ ?_)
        · unfold letN
          rw [← e1, ← e2]
          exact (by rw [show (!decide ((sgZ z i).cps.toList < ("a" : Str).cps.toList)) = true from g1, Bool.true_and])
        · unfold letN
          rw [← e1, ← e2]
          exact (by rw [show (!decide ((sgZ z i).cps.toList < ("a" : Str).cps.toList)) = false from bF g1, Bool.false_and])
      · rintro ys H2 ⟨rfl, rfl⟩ p hp
        refine ⟨p, _, rfl, .inl (SqL.of upd_same), ?_⟩
        rw [all_letN]
        have k := k _ (Same.new (o := HO.lst (List.map V.bl ((List.range z.length).map fun j => letN (z.cps.toList.getD j 0)))) hp)
        unfold isNm at k
        rw [g, Bool.true_and] at k
        exact k
    · have k := k _ (Same.refl _)
      unfold isNm at k
      rw [bF g, Bool.false_and] at k
      exact k
theorem sccheck_woods : FnScope (["woods", "name", "packets"]) (["woods"]) (defScope scheck_woods) := ⟨rfl, rfl, rfl, by decide +kernel, rfl, by decide +kernel, by decide +kernel⟩
set_option maxHeartbeats 4000000 in
theorem okcheck_woods {f : Addr} {fd : FuncData} (F : Fun K "check_woods" "check_woods" scheck_woods f fd) (B : Bs mg) (T : Gs mg) (mBadWay : mg "BadWay" = some (.ref CBadWay)) (qBadWay : PySem.W.excIn K CBadWay bmV "ValueError.__new__" = true) (mBadTray : mg "BadTray" = some (.ref CBadTray)) (qBadTray : PySem.W.excIn K CBadTray bmV "ValueError.__new__" = true)  (clTray : Cls K CTray) (nTray_stock : NoAttr K CTray "stock") (cis_name : Cal P w K mg base 1 "is_name" [] (spIsName K)) : FnOk P w K mg base (CXE P w) 2 f fd ["woods"] (spCheckWoods K CBadTray) := by
  have sc := sccheck_woods
  refine F.okE sc (fun vs H Q E h => ?_) (fun cdv A outer s H vs Q E hr F0 h => ?_)
  · obtain ⟨l, as, W, rfl, _⟩ := h; rfl
  · obtain ⟨tM, gMOST_WOODS⟩ := T.MOST_WOODS
    obtain ⟨tP, gMOST_PACKETS⟩ := T.MOST_PACKETS
    obtain ⟨l, as, W, rfl, hl, hW, hn, hz, k, kE⟩ := h
    refine ⟨_, (pss_cons (ps_if (pt_not (pt_chain op_le op_le pe_int (pe_callB (kc_len (K := K)) (by rfl) B.len PyProof.Rows.Boot.«len» (pa_cons (pv 0) pa_nil)) (pe_glob (v := .int 6) rfl gMOST_WOODS ⟨_, rfl⟩))) (pss_one (ps_raise F0 rfl rfl mBadTray qBadTray (pa_cons pe_str pa_nil))) pss_nil)
      (pss_cons (ps_if (pt_cmpR op_ne (pe_callB kc_lenZ (by rfl) B.len PyProof.Rows.Boot.«len» (pa_cons (pe_callTy (kc_setZ (K := K)) (by rfl) B.set PyProof.Rows.Boot.«set» (pa_cons (pe_lc (N' := ["name", "packets"]) (M := [none, none]) (lcSc_of (by rfl)) rfl (kpi_list (K := K) (pv 0)) (fun _ _ _ _ _ => kpg_tup (K := K) (n := 2) rfl (pgs_cons (pg_name (i := 0) (show (["name", "packets"] : List Str).Nodup by decide +kernel) rfl (Or.inl rfl) (.inr rfl)) (pgs_cons (pg_name (i := 1) (show (["name", "packets"] : List Str).Nodup by decide +kernel) rfl (Or.inl rfl) (.inr rfl)) pgs_nil))) frm_two (fun _ _ _ _ _ => pts_nil) (fun _ _ _ _ _ => (pv 0))) pa_nil)) pa_nil)) (pe_callB (kc_len (K := K)) (by rfl) B.len PyProof.Rows.Boot.«len» (pa_cons (pv 0) pa_nil)) (nomark _)) (pss_one (ps_raise F0 rfl rfl mBadTray qBadTray (pa_cons pe_str pa_nil))) pss_nil)
      (pss_one (ps_for PassesOwn.leaving rfl (kpi_list (K := K) (pv 0)) (pg_tup rfl (pgs_cons (pg_name (i := 1) sc.nd rfl (Or.inl rfl)) (pgs_cons (pg_name (i := 2) sc.nd rfl (Or.inl rfl)) pgs_nil)))
      (pss_cons (ps_if (pt_not (pt_val (pe_cal cis_name (hr.mono (by decide)) rfl (pa_cons (pv 1) pa_nil)))) (pss_one (ps_raise F0 rfl rfl mBadTray qBadTray (pa_cons pe_str pa_nil))) pss_nil)
      (pss_one (ps_if (pt_not (pt_chain op_le op_le pe_int (pv 2) (pe_glob (v := .int 99) rfl gMOST_PACKETS ⟨_, rfl⟩))) (pss_one (ps_raise F0 rfl rfl mBadTray qBadTray (pa_cons pe_str pa_nil))) pss_nil))))))), ?_⟩
    have hal : (as.map V.ref).length = W.length := by rw [List.length_map, hW.length]
    -- how many
    refine seq_ifN (b := !(decide (1 ≤ (W.length : Int)) && decide ((W.length : Int) ≤ 6))) (P := fun H' => H' = H) (fun N hN => chainI (x := (W.length : Int)) (H' := H) (fun Q' h' => ⟨_, rfl, l, _, rfl, .inl (SqL.of hl), by rw [hal]; exact h'⟩) (hN _ rfl)) (fun g H' e => ?_) (fun g H' e => ?_)
    · refine ⟨le_line (by simp), kE ?_ _ (by rw [e]; exact Same.refl _)⟩
      unfold woodsOk
      rw [show (decide (1 ≤ (W.length : Int)) && decide ((W.length : Int) ≤ 6)) = false from nT g]; rfl
    subst e
    have g1 : (decide (1 ≤ (W.length : Int)) && decide ((W.length : Int) ≤ 6)) = true := nF g
    -- no wood twice
    refine seq_ifN (b := !decide ((W.map (·.1)).Nodup)) (P := Same H') (fun N hN => ?_) (fun g H2 s2 => ?_) (fun g H2 s2 => ?_)
    · refine ⟨_, rfl, l, rfl, ⟨_, SqL.of hl⟩, lc_list (xs := as.map V.ref) (fun i ys H2 => H2 = H' ∧ ys = ((W.take i).map (·.1)).map V.str) (le_line (by omega)) ⟨rfl, rfl⟩
        (fun i ys H2 _ h => ⟨by rw [h.1]; exact SqL.of hl, by rw [h.2, List.length_map, List.length_map, List.length_take]; omega⟩) ?_ ?_⟩
      · rintro i y ys H2 hi ⟨rfl, rfl⟩
        obtain ⟨q, rfl, hq, hil⟩ := getRef hi
        obtain ⟨w, hw, hwi⟩ := paired_getM hW hq
        refine ⟨q, _, rfl, SqT.of hw, rfl, _, _, rfl, _, _, rfl, rfl, lcY ⟨_, rfl, rfl, ?_⟩⟩
        rw [map_take_snoc hwi]; exact str_snoc
      · rintro ys H2 ⟨rfl, rfl⟩ p hp
        rw [hal, List.take_length]
        refine ⟨p, _, rfl, SqL.of upd_same, by rw [List.length_map]; omega, fun q hq => ?_⟩
        refine ⟨q, _, rfl, upd_same, ?_⟩
        have sq := (Same.new (o := HO.lst ((W.map (·.1)).map V.str)) hp).new2 (o := zSet P w q (setS (W.map (·.1))).length) hq
        refine ⟨_, rfl, l, _, rfl, .inl (SqL.of (sq l _ hl)), rfl, _, rfl, ?_⟩
        rw [hal, dInt]
        have e : decide (((setS (W.map (·.1))).length : Int) = (W.length : Int)) = decide ((W.map (·.1)).Nodup) := by
          refine decide_eq_decide.mpr ?_
          rw [← (setS_len (W.map (·.1))).2, List.length_map]; omega
        rw [e]
        exact hN _ sq
    · refine ⟨le_line (by simp), kE ?_ _ s2⟩
      unfold woodsOk
      rw [show decide ((W.map (·.1)).Nodup) = false from nT g, Bool.and_false, Bool.false_and]
    have g2 : decide ((W.map (·.1)).Nodup) = true := nF g
    -- each wood
    refine ⟨_, rfl, l, rfl, ⟨_, SqL.of (s2 l _ hl)⟩, for_list (K := K) (a := l) (xs := as.map V.ref) (fun i σ H3 => ∃ o1 o2 : Option V, σ = [some (.ref l), o1, o2] ∧ Same H' H3 ∧ ∀ w ∈ W.take i, isNm w.1 = true ∧ 0 ≤ w.2 ∧ w.2 ≤ 99)
      ⟨none, none, rfl, s2, fun w h => by simp at h⟩ (fun i σ H3 _ ⟨_, _, _, s3, _⟩ => SqL.of (s3 l _ hl)) ?_ ?_⟩
    · rintro i y σ H3 hi ⟨o1, o2, rfl, s3, hk⟩
      obtain ⟨q, rfl, hq, hil⟩ := getRef hi
      obtain ⟨w, hw, hwi⟩ := paired_getM hW hq
      have hwm := List.mem_of_getElem? hwi
      have bad : ¬ (isNm w.1 = true ∧ 0 ≤ w.2 ∧ w.2 ≤ 99) → woodsOk W = false := fun h => by
        cases e : woodsOk W with
        | false => rfl
        | true => exact absurd ((woodsOk_iff.mp e).2.2 w hwm) h
      refine ⟨q, _, rfl, SqT.of (s3 q _ hw), rfl, _, _, rfl, _, _, rfl, rfl, ?_⟩
      refine seq_ifN (b := !isNm w.1) (P := Same H3) (fun N hN => ⟨_, rfl, w.1, rfl, hz w hwm, fun H4 s4 => ⟨_, rfl, hN H4 s4⟩⟩) (fun g H4 s4 => ?_) (fun g H4 s4 => ?_)
      · exact ⟨le_line (by simp), kE (bad fun h => by rw [h.1] at g; simp at g) _ (s3.trans s4)⟩
      have g3 : isNm w.1 = true := nF g
      refine if_N (b := !(decide (0 ≤ w.2) && decide (w.2 ≤ 99))) (P := fun H5 => H5 = H4) (fun N hN => chainI (x := w.2) (H' := H4) (fun Q' h' => ⟨_, rfl, h'⟩) (hN _ rfl)) (fun g H5 e => ?_) (fun g H5 e => ?_)
      · exact ⟨le_line (by simp), kE (bad fun h => by rw [decide_eq_true h.2.1, decide_eq_true h.2.2] at g; simp at g) _ (by rw [e]; exact s3.trans s4)⟩
      rw [e]
      refine ⟨_, _, rfl, s3.trans s4, fun v hv => ?_⟩
      rw [take_snoc hwi, List.mem_append, List.mem_singleton] at hv
      rcases hv with hv | rfl
      · exact hk v hv
      · exact ⟨g3, by simpa using g⟩
    · rintro σ H3 ⟨o1, o2, rfl, s3, hk⟩
      rw [hal, List.take_length] at hk
      refine k (woodsOk_iff.mpr ⟨?_, by simpa using g2, hk⟩) _ s3
      rw [Bool.and_eq_true, decide_eq_true_iff, decide_eq_true_iff] at g1
      omega
theorem scTray___init__ : FnScope (["self", "woods"]) (["self", "woods"]) (defScope sTray___init__) := ⟨rfl, rfl, rfl, by decide +kernel, rfl, by decide +kernel, by decide +kernel⟩
set_option maxHeartbeats 4000000 in
theorem okTray___init__ {f : Addr} {fd : FuncData} (F : Fun K "__init__" "Tray.__init__" sTray___init__ f fd) (B : Bs mg) (T : Gs mg) (mBadWay : mg "BadWay" = some (.ref CBadWay)) (qBadWay : PySem.W.excIn K CBadWay bmV "ValueError.__new__" = true) (mBadTray : mg "BadTray" = some (.ref CBadTray)) (qBadTray : PySem.W.excIn K CBadTray bmV "ValueError.__new__" = true)  (clTray : Cls K CTray) (nTray_stock : NoAttr K CTray "stock") (ccheck_woods : CalE P w K mg base 2 "check_woods" [] (spCheckWoods K CBadTray)) : FnOk P w K mg base (CXE P w) 3 f fd ["self", "woods"] (spInit K CTray CBadTray) := by
  have sc := scTray___init__
  refine F.okE sc (fun vs H Q E h => ?_) (fun cdv A outer s H vs Q E hr F0 h => ?_)
  · obtain ⟨p, dx, l, as, W, rfl, _⟩ := h; rfl
  · obtain ⟨p, dx, l, as, W, rfl, hp, hl, hW, hn, hz, k, kE⟩ := h
    refine ⟨_, (pss_cons (ps_expr (pe_calE ccheck_woods (hr.mono (by decide)) rfl (pass_fn F0) (pa_cons (pv 1) pa_nil)))
      (pss_one (ps_fld (pv 0) (pe_callTy (kc_list (K := K)) (by rfl) B.list PyProof.Rows.Boot.«list» (pa_cons (pv 1) pa_nil)) rfl))), ?_⟩
    refine ⟨_, rfl, l, as, W, rfl, hl, hW, hn, hz, fun ok H1 s1 => ?_, kE⟩
    have hl1 := s1 l _ hl
    have hp1 := s1 p _ hp
    refine ⟨_, rfl, l, _, rfl, .inl (SqL.of hl1), fun q hq => ?_⟩
    have hpq : p ≠ q := ne_of_none hp1 hq
    refine ⟨_, rfl, p, CTray, dx, [], rfl, by rw [upd_ne hpq]; exact hp1, clTray, nTray_stock, by decide, ?_⟩
    refine k ok q _ (s1.free hq) (by rw [upd_ne hpq.symm, upd_same]) upd_same fun b o e hb => ?_
    rw [upd_ne hb, upd_ne (ne_of_none (s1 b o e) hq)]
    exact s1 b o e
theorem sc_law_row_ok : FnScope (["_law_row"]) (["_law_row"]) (defScope s_law_row_ok) := ⟨rfl, rfl, rfl, by decide +kernel, rfl, by decide +kernel, by decide +kernel⟩
set_option maxHeartbeats 4000000 in
theorem ok_law_row_ok {f : Addr} {fd : FuncData} (F : Fun K "_law_row_ok" "_law_row_ok" s_law_row_ok f fd) (B : Bs mg) (T : Gs mg) (mBadWay : mg "BadWay" = some (.ref CBadWay)) (qBadWay : PySem.W.excIn K CBadWay bmV "ValueError.__new__" = true) (mBadTray : mg "BadTray" = some (.ref CBadTray)) (qBadTray : PySem.W.excIn K CBadTray bmV "ValueError.__new__" = true)  (clTray : Cls K CTray) (nTray_stock : NoAttr K CTray "stock")  : FnOk P w K mg base CX0 1 f fd ["_law_row"] (spRowOk K) := by
  have sc := sc_law_row_ok
  refine F.ok sc (fun vs H Q E h => ?_) (fun cdv A outer s H vs Q E hr h => ?_)
  · obtain ⟨a, ns, rfl, _⟩ := h; rfl
  · obtain ⟨a, ns, rfl, hS, hln, k⟩ := h
    refine ⟨_, (pss_cons (ps_if (PW.pt (pw_or (pt_not (pt_chain op_le op_le pe_int (pe_callB (kc_len (K := K)) (by rfl) B.len PyProof.Rows.Boot.«len» (pa_cons (pv 0) pa_nil)) pe_int)) (pw_or1 (pt_cmpR op_ne (pe_ix (kix_tup (K := K)) (pv 0) pe_int (fun _ _ => rfl)) pe_int (nomark _))))) (pss_one (ps_ret pe_bl)) pss_nil)
      (pss_one (ps_ret (pe_callB (kc_all (K := K)) (by rfl) B.all PyProof.Rows.Boot.«all» (pa_cons (pe_lc (N' := ["_law_k", "_law_row"]) (M := [none, some 0]) (lcSc_of (by rfl)) rfl (pi_range2 rfl B.range (pa_cons pe_int (pa_cons (pe_callB (kc_len (K := K)) (by rfl) B.len PyProof.Rows.Boot.«len» (pa_cons (pv 0) pa_nil)) pa_nil))) (fun _ _ _ _ _ => pg_name (i := 0) (show (["_law_k", "_law_row"] : List Str).Nodup by decide +kernel) rfl (Or.inl rfl) (.inr rfl)) (frm_name rfl) (fun _ _ _ _ _ => pts_nil) (fun _ _ _ _ _ => (pe_chain op_le op_le pe_int (pe_ix (kix_tup (K := K)) (pv 1) (pv 0) (fun _ _ => rfl)) (pe_op op_add (pe_callB (kc_max (K := K)) (by rfl) B.max PyProof.Rows.Boot.«max» (pa_cons (pe_slice (ksl_tup (K := K)) (pv 1) po_none (po_some (pv 0))) pa_nil)) pe_int)))) pa_nil))))), ?_⟩
    refine ⟨_, rfl, a, _, rfl, .inr hS, _, _, rfl, rfl, _, rfl, ?_⟩
    rw [ltm]
    have no : ¬ (1 ≤ ns.length ∧ ns.length ≤ 9) → rowOk ns = false := fun z => by
      unfold rowOk
      rw [← Bool.decide_and, decide_eq_false z]; rfl
    refine ite2 (fun h1 => ⟨_, _, rfl, rfl, _, rfl, ite2 (fun h2 => iteT ?_) (fun h2 => ?_)⟩) (fun h1 => ⟨_, rfl, iteT (iteT ?_)⟩)
    · have k := k H (Same.refl H)
      rw [no (by simp at h2; omega)] at k
      exact k
    · have h1 : (1 : Int) ≤ (ns.length : Int) := of_decide_eq_true h1
      have h2 : (ns.length : Int) ≤ 9 := by simp at h2; omega
      have e0 : rowOk ns = (decide (ns.getD 0 1 = 0) && rowAll ns) := by
        unfold rowOk
        rw [decide_eq_true (show 1 ≤ ns.length by omega), decide_eq_true (show ns.length ≤ 9 by omega)]; rfl
      have hp0 : 0 < ns.length := by omega
      have g0 : ns.getD 0 1 = ns.getD 0 0 := by
        rw [List.getD_eq_getElem?_getD, List.getD_eq_getElem?_getD, List.getElem?_eq_getElem hp0]; rfl
      rw [e0, g0] at k
      refine ⟨_, rfl, a, _, _, _, rfl, rfl, hS, atI_lt (i := 0) (by decide) (by omega), rfl, _, rfl, ite2 (fun g => ?_) (fun g => ?_)⟩
      · have g : ¬ ns.getD 0 0 = 0 := fun e => by
          have e' : ns.getD (0 : Int).toNat 0 = 0 := e
          rw [e'] at g
          exact absurd g (by decide)
        have k := k H (Same.refl H)
        rw [decide_eq_false g, Bool.false_and] at k
        exact k
      · have g : ns.getD 0 0 = 0 := by
          have g' : ¬ (!decide (V.int (ns.getD 0 0) = V.int 0)) = true := g
          rw [Bool.not_eq_true, Bool.not_eq_false'] at g'
          exact V.int.inj (of_decide_eq_true g')
        rw [decide_eq_true g, Bool.true_and] at k
        refine ⟨_, rfl, a, _, rfl, .inr hS, _, _, rfl, ⟨by decide, by decide, by rw [ltm]; omega, by rw [ltm]; omega⟩, ?_⟩
        rw [ltm, show ((ns.length : Int) - 1).toNat = ns.length - 1 by omega]
        refine lc_range (fun i ys H2 => Same H H2 ∧ ys = (List.range i).map fun j => V.bl (decide (0 ≤ ns.getD (j + 1) 0) && decide (ns.getD (j + 1) 0 ≤ maxL (ns.take (j + 1)) + 1))) (le_line (by omega)) ⟨Same.refl H, rfl⟩
          (fun i ys H2 _ h => by rw [h.2, List.length_map, List.length_range]; exact Nat.le_refl _) ?_ ?_
        · rintro i ys H2 hi ⟨s2, rfl⟩
          have e1 : (1 : Int) + (i : Int) = ((i + 1 : Nat) : Int) := by omega
          have hS2 := s2.seqT hS
          rw [e1]
          refine lcN ?_
          refine ⟨_, rfl, _, rfl, a, _, _, _, rfl, rfl, hS2, atI_lt (by omega) (by omega), _, _, rfl, rfl, _, rfl, ?_⟩
          rw [Int.toNat_natCast]
          refine ite2 (fun g1 => ?_) (fun g1 => ?_)
          · refine ⟨_, rfl, _, rfl, _, rfl, a, _, rfl, hS2, fun p H3 s3 hp3 => ?_⟩
            rw [cut_take_int] at hp3
            refine ⟨p, _, rfl, .inr hp3, (fun e => by have := congrArg List.length e; rw [List.length_take, List.length_nil] at this; omega), fun m hm => ?_⟩
            refine ⟨_, _, rfl, rfl, _, _, rfl, rfl, s2.trans s3, ?_⟩
            rw [← map_snoc]
            rw [hm.eq, of_decide_eq_true g1 |> decide_eq_true, Bool.true_and]
          · refine ⟨s2, ?_⟩
            rw [← map_snoc]
            rw [Bool.not_eq_true] at g1
            rw [g1, Bool.false_and]
        · rintro ys H2 ⟨s2, rfl⟩ p hp
          refine ⟨p, _, rfl, .inl (SqL.of (by rw [upd_same, mapB2])), ?_⟩
          have e2 : ((List.range (ns.length - 1)).map fun j => decide (0 ≤ ns.getD (j + 1) 0) && decide (ns.getD (j + 1) 0 ≤ maxL (ns.take (j + 1)) + 1)).all id = rowAll ns := by
            rw [List.all_map]; rfl
          rw [e2]
          exact k _ (s2.new2 hp)
    · have h1 : ¬ (1 : Int) ≤ (ns.length : Int) := fun e => h1 (decide_eq_true e)
      have k := k H (Same.refl H)
      rw [no (by omega)] at k
      exact k
theorem sc_law_way : FnScope (["_law_cell_here", "_law_size", "_law_row", "_law_cap", "_law_way_here", "_law_one"]) (["_law_cell_here", "_law_size"]) (defScope s_law_way) := ⟨rfl, rfl, rfl, by decide +kernel, rfl, by decide +kernel, by decide +kernel⟩
set_option maxHeartbeats 4000000 in
theorem ok_law_way {f : Addr} {fd : FuncData} (F : Fun K "_law_way" "_law_way" s_law_way f fd) (B : Bs mg) (T : Gs mg) (mBadWay : mg "BadWay" = some (.ref CBadWay)) (qBadWay : PySem.W.excIn K CBadWay bmV "ValueError.__new__" = true) (mBadTray : mg "BadTray" = some (.ref CBadTray)) (qBadTray : PySem.W.excIn K CBadTray bmV "ValueError.__new__" = true)  (clTray : Cls K CTray) (nTray_stock : NoAttr K CTray "stock") (c_law_draw : Cal P w K mg base 1 "_law_draw" [] (spDraw K)) : FnOk P w K mg base CX0 2 f fd ["_law_cell_here", "_law_size"] (spWay K) := by
  have sc := sc_law_way
  refine F.ok sc (fun vs H Q E h => ?_) (fun cdv A outer s H vs Q E hr h => ?_)
  · obtain ⟨c, n, rfl, _⟩ := h; rfl
  · obtain ⟨c, n, rfl, hn1, hn9, k⟩ := h
    refine ⟨_, (pss_cons (ps_set (i := 2) sc.nd rfl (Or.inl rfl) (pe_cal c_law_draw (hr.mono (by decide)) rfl (pa_cons (pv 0) (pa_cons (pe_op op_cat (pe_lst (pa_cons pe_int pa_nil)) (pe_lc (N' := ["_law_k"]) (M := [none]) (lcSc_of (by rfl)) rfl (pi_range1 rfl B.range (pa_cons (pv 1) pa_nil)) (fun _ _ _ _ _ => pg_name (i := 0) (show (["_law_k"] : List Str).Nodup by decide +kernel) rfl (Or.inl rfl) (.inr rfl)) (frm_name rfl) (fun _ _ _ _ _ => pts_nil) (fun _ _ _ _ _ => (pe_op op_add (pv 0) pe_int)))) pa_nil))))
      (pss_cons (ps_set (i := 3) sc.nd rfl (Or.inl rfl) (pe_ix (kix_list (K := K)) (pe_lst (pa_cons pe_int (pa_cons pe_int (pa_cons pe_int (pa_cons pe_int pa_nil))))) (pe_ix (kix_list (K := K)) (pv 2) pe_int (fun _ _ => rfl)) (fun _ _ => rfl)))
      (pss_cons (ps_set (i := 4) sc.nd rfl (Or.inl rfl) (pe_lst pa_nil))
      (pss_cons (ps_for PassesOwn.never rfl (kpi_list (K := K) (pe_slice (ksl_list (K := K)) (pv 2) (po_some pe_int) po_none)) (pg_name (i := 5) sc.nd rfl (Or.inl rfl))
      (pss_one (ps_expr (pe_bm PySem.F.plainAttrs_list PySem.F.slot_list_append PySem.F.type_list_append mt_append (pv 4) (pa_cons (pe_callB kc_min2 (by rfl) B.min PyProof.Rows.Boot.«min» (pa_cons (pe_op op_sub (pv 3) pe_int) (pa_cons (pe_op op_mod (pv 5) (pe_op op_add (pe_callB (kc_max (K := K)) (by rfl) B.max PyProof.Rows.Boot.«max» (pa_cons (pe_op op_cat (pe_lst (pa_cons (pe_un un_neg pe_int) pa_nil)) (pv 4)) pa_nil)) pe_int)) pa_nil))) pa_nil)))))
      (pss_one (ps_ret (pe_callTy (kc_tuple (K := K)) (by rfl) B.tuple PyProof.Rows.Boot.«tuple» (pa_cons (pv 4) pa_nil)))))))), ?_⟩
    -- the limits
    refine ⟨_, rfl, le_line (by decide), fun p hp => ⟨_, rfl, _, rfl, by omega, by omega, ?_⟩⟩
    refine lc_range (fun i ys H2 => H2 = upd H p (.lst [.int 4]) ∧ ys = (List.range i).map fun (j : Nat) => V.int (0 + (j : Int) + 1)) (le_line (by omega)) ⟨rfl, rfl⟩ (fun i ys H2 _ h => by rw [h.2, List.length_map, List.length_range]; exact Nat.le_refl _) ?_ ?_
    · rintro i ys H2 hi ⟨rfl, rfl⟩
      refine lcN ?_
      exact ⟨_, rfl, _, _, rfl, rfl, rfl, map_snoc (fun (j : Nat) => V.int (0 + (j : Int) + 1)) i⟩
    rintro ys H2 ⟨rfl, rfl⟩ q hq
    have hpq : p ≠ q := ne_of_none upd_same hq
    refine ⟨p, q, _, _, rfl, rfl, by rw [upd_ne hpq, upd_same], upd_same, le_line (by rw [List.length_map, List.length_range]; show 1 + _ ≤ _; omega), fun l hl => ?_⟩
    have sq : Same H (upd (upd (upd H p (.lst [.int 4])) q (.lst ((List.range n.toNat).map fun (j : Nat) => V.int (0 + (j : Int) + 1)))) l (.lst ([V.int 4] ++ (List.range n.toNat).map fun (j : Nat) => V.int (0 + (j : Int) + 1)))) := ((Same.new hp).new2 hq).new2 hl
    refine ⟨c, l, 4 :: (List.range n.toNat).map fun (j : Nat) => 0 + (j : Int) + 1, rfl, SqL.of (by rw [upd_same, mapV2]; rfl), fun z hz => ?_, by rw [List.length_cons, List.length_map, List.length_range]; omega, fun d rs H1 hd s1 hd1 hD => ?_⟩
    · rcases List.mem_cons.mp hz with e | e
      · rw [e]; exact limOk_small (by decide) (by decide)
      · obtain ⟨j, hj, rfl⟩ := List.mem_map.mp e
        have := List.mem_range.mp hj
        exact limOk_small (by omega) (by omega)
    obtain ⟨r0, rs', rfl, hr0, hr1, hD'⟩ := hD.uncons
    have s1' : Same H H1 := sq.trans s1
    have hrl : rs'.length = n.toNat := by have := hD'.length; rw [List.length_map, List.length_range] at this; exact this.symm
    -- the cap
    refine ⟨le_line (by decide), fun e he => ⟨_, rfl, d, _, _, _, rfl, rfl, SqL.of ((Same.new he) d _ hd1), atI_int (i := 0) (by decide) rfl, ?_⟩⟩
    obtain ⟨cap, hcap, hc2⟩ : ∃ cap : Int, atI [V.int 9, V.int 2, V.int 3, V.int 9] r0 = some (V.int cap) ∧ 2 ≤ cap := by
      have : r0 = 0 ∨ r0 = 1 ∨ r0 = 2 ∨ r0 = 3 := by omega
      rcases this with rfl | rfl | rfl | rfl
      · exact ⟨9, rfl, by decide⟩
      · exact ⟨2, rfl, by decide⟩
      · exact ⟨3, rfl, by decide⟩
      · exact ⟨9, rfl, by decide⟩
    refine ⟨e, _, _, _, rfl, rfl, SqL.of upd_same, hcap, ?_⟩
    -- the way
    refine ⟨Nat.zero_le _, fun u hu => ?_⟩
    generalize hH2 : upd H1 e (.lst [V.int 9, V.int 2, V.int 3, V.int 9]) = H2 at hu ⊢
    have s2 : Same H1 H2 := by rw [← hH2]; exact Same.new he
    refine ⟨_, rfl, _, rfl, d, _, rfl, SqL.of (Same.new hu d _ (s2 d _ hd1)), fun v hv => ?_⟩
    have huv : u ≠ v := ne_of_none upd_same hv
    have e3 : cutV ((r0 :: rs').map V.int) (some 1) none = rs'.map V.int := cut_drop_int (r0 :: rs') 1
    rw [e3]
    refine ⟨v, rfl, ⟨_, SqL.of upd_same⟩, for_list (K := K) (a := v) (xs := rs'.map V.int) (fun i σ H4 => ∃ (ws : List Int) (o : Option V), σ = [some (.int c), some (.int n), some (.ref d), some (.int cap), some (.ref u), o] ∧ Same H H4 ∧ H4 v = some (.lst (rs'.map V.int)) ∧ H4 u = some (.lst (ws.map V.int)) ∧ ws.length = i ∧ wayGo 0 ws = true)
      ⟨[], none, rfl, (((s1'.trans s2).new2 hu).new2 hv), upd_same, by rw [upd_ne huv, upd_same]; rfl, rfl, rfl⟩ (fun i σ H4 _ ⟨_, _, _, _, z, _⟩ => SqL.of z) ?_ ?_⟩
    · rintro i y σ H4 hi ⟨ws, o, rfl, s4, hv4, hu4, hwl, hw⟩
      obtain ⟨one, rfl, hone, hil⟩ := getI hi
      have huH : H u = none := (s1'.trans s2).free hu
      refine ⟨_, rfl, .inl ⟨rfl, _, SqL.of hu4⟩, _, rfl, _, _, rfl, rfl, _, rfl, _, rfl, le_line (by decide), fun t ht => ?_⟩
      have htu : u ≠ t := ne_of_none hu4 ht
      refine ⟨_, rfl, t, u, _, _, rfl, rfl, upd_same, by rw [upd_ne htu]; exact hu4, le_line (by rw [ltm]; show 1 + _ ≤ _; omega), fun t2 ht2 => ?_⟩
      have ht2u : u ≠ t2 := by
        have : upd H4 t (HO.lst [V.int (-1)]) u = some (.lst (ws.map V.int)) := by rw [upd_ne htu]; exact hu4
        exact ne_of_none this ht2
      refine ⟨t2, -1 :: ws, rfl, .inl (SqL.of upd_same), (by simp), fun m hm => ?_⟩
      have em : m = fresh 0 ws - 1 := hm.uniq (fresh_max ws hw)
      have fp : 0 ≤ fresh 0 ws := by have := (fresh_max ws hw).2 (-1) List.mem_cons_self; omega
      refine ⟨_, _, rfl, rfl, _, _, rfl, rfl, (by show 0 < m + 2; omega), _, _, rfl, ?_⟩
      have hmod := modB one (show 0 < m + 2 by omega)
      have hval : ∃ z : Int, (if one % (m + 2) < cap - 1 then one % (m + 2) else cap - 1) = z ∧ 0 ≤ z ∧ z ≤ fresh 0 ws := by
        refine ⟨_, rfl, ?_, ?_⟩ <;> split <;> omega
      obtain ⟨z, hz, hz0, hz1⟩ := hval
      rw [hz]
      refine ⟨u, _, _, rfl, rfl, by rw [upd_ne ht2u, upd_ne htu]; exact hu4, lt_line (by rw [ltm]; omega), ?_⟩
      refine ⟨ws ++ [z], _, rfl, ((s4.new2 ht).new2 ht2).put huH, ?_, by rw [upd_same, mapV], by rw [List.length_append, hwl]; rfl, ?_⟩
      · have hvt : v ≠ t := ne_of_none hv4 ht
        have hvt2 : v ≠ t2 := ne_of_none (show upd H4 t (HO.lst [V.int (-1)]) v = some _ by rw [upd_ne hvt]; exact hv4) ht2
        rw [upd_ne huv.symm, upd_ne hvt2, upd_ne hvt]; exact hv4
      · rw [wayGo_snoc, hw, decide_eq_true hz0, decide_eq_true hz1]; rfl
    · rintro σ H4 ⟨ws, o, rfl, s4, hv4, hu4, hwl, hw⟩
      rw [ltm] at hwl
      refine ⟨_, rfl, u, _, rfl, .inl ⟨SqL.of hu4, fun l2 hl2 => ?_⟩⟩
      refine k l2 ws _ (s4.free hl2) (s4.new2 hl2) upd_same (by rw [hwl, hrl]) ?_
      unfold isWay
      rw [hw, decide_eq_true (show 1 ≤ ws.length by omega), decide_eq_true (show ws.length ≤ 9 by omega)]; rfl
theorem sc_law_split : FnScope (["_law_cell_here", "_law_parts", "_law_wide", "_law_side", "_law_size", "_law_found", "_law_big", "_law_k"]) (["_law_cell_here", "_law_parts", "_law_wide"]) (defScope s_law_split) := ⟨rfl, rfl, rfl, by decide +kernel, rfl, by decide +kernel, by decide +kernel⟩
set_option maxHeartbeats 4000000 in
theorem ok_law_split {f : Addr} {fd : FuncData} {ds : List Value} (F : FunD K "_law_split" "_law_split" s_law_split f fd ds) (B : Bs mg) (T : Gs mg) (mBadWay : mg "BadWay" = some (.ref CBadWay)) (qBadWay : PySem.W.excIn K CBadWay bmV "ValueError.__new__" = true) (mBadTray : mg "BadTray" = some (.ref CBadTray)) (qBadTray : PySem.W.excIn K CBadTray bmV "ValueError.__new__" = true)  (clTray : Cls K CTray) (nTray_stock : NoAttr K CTray "stock")  : FnOk P w K mg base CX0 1 f fd ["_law_cell_here", "_law_parts", "_law_wide"] spSplit := by
  have sc := sc_law_split
  refine F.ok sc (fun vs H Q E h => ?_) (fun cdv A outer s H vs Q E hr h => ?_)
  · obtain ⟨c, n, w, rfl, _⟩ := h; rfl
  · obtain ⟨c, n, wd, rfl, hn0, hn1, hw0, hw2, k⟩ := h
    refine ⟨_, (pss_cons (ps_set (i := 3) sc.nd rfl (Or.inl rfl) (pe_op op_mulW (pe_op op_pow pe_int pe_int) (pe_op op_pow pe_int pe_int)))
      (pss_cons (ps_set (i := 4) sc.nd rfl (Or.inl rfl) (pe_ix (kix_list (K := K)) (pe_lst (pa_cons (pe_op op_pow pe_int pe_int) (pa_cons (pv 3) (pa_cons (pe_op op_mulW (pe_op op_mulW (pe_op op_mulW (pv 3) (pv 3)) (pv 3)) (pv 3)) pa_nil)))) (pv 2) (fun _ _ => rfl)))
      (pss_cons (ps_set (i := 5) sc.nd rfl (Or.inl rfl) (pe_lst pa_nil))
      (pss_cons (ps_set (i := 6) sc.nd rfl (Or.inl rfl) (pe_cmpR op_ge (pv 0) (pe_op op_pow pe_int pe_int) (nomark _)))
      (pss_cons (ps_for PassesOwn.never rfl (pi_range1 rfl B.range (pa_cons (pv 1) pa_nil)) (pg_name (i := 7) sc.nd rfl (Or.inl rfl))
      (pss_one (ps_if (pt_val (pv 6)) (pss_cons (ps_expr (pe_bm PySem.F.plainAttrs_list PySem.F.slot_list_append PySem.F.type_list_append mt_append (pv 5) (pa_cons (pe_op op_add (pe_op op_pow pe_int pe_int) (pe_op op_mod (pv 0) (pv 4))) pa_nil)))
      (pss_one (ps_set (i := 0) sc.nd rfl (Or.inl rfl) (pe_op op_fdivW (pv 0) (pv 4))))) (pss_one (ps_expr (pe_bm PySem.F.plainAttrs_list PySem.F.slot_list_append PySem.F.type_list_append mt_append (pv 5) (pa_cons (pe_op op_add (pe_op op_mulW (pv 0) (pe_op op_add (pe_op op_mulW pe_int (pv 7)) pe_int)) (pe_op op_mulW pe_int (pv 7))) pa_nil)))))))
      (pss_one (ps_ret (pv 5)))))))), ?_⟩
    refine ⟨_, _, rfl, rfl, ⟨by decide, by decide, by decide⟩, _, _, rfl, rfl, ⟨by decide, by decide, by decide⟩, _, _, rfl, rfl, mulOk_of (by decide +kernel), ?_⟩
    refine ⟨_, _, rfl, rfl, ⟨by decide, by decide, by decide⟩, _, rfl, _, rfl, _, rfl, _, _, rfl, rfl, mulOk_of (by decide +kernel), _, rfl, _, _, rfl, rfl, mulOk_of (by decide +kernel), _, rfl, _, _, rfl, rfl, mulOk_of (by decide +kernel), le_line (by decide), fun e he => ?_⟩
    obtain ⟨S, hS, hL⟩ : ∃ S : Int, atI [V.int (10 ^ (30 : Int).toNat), V.int (10 ^ (60 : Int).toNat * 10 ^ (60 : Int).toNat), V.int (10 ^ (60 : Int).toNat * 10 ^ (60 : Int).toNat * (10 ^ (60 : Int).toNat * 10 ^ (60 : Int).toNat) * (10 ^ (60 : Int).toNat * 10 ^ (60 : Int).toNat) * (10 ^ (60 : Int).toNat * 10 ^ (60 : Int).toNat))] wd = some (V.int S) ∧ LimOk S := by
      have : wd = 0 ∨ wd = 1 ∨ wd = 2 := by omega
      rcases this with rfl | rfl | rfl
      · exact ⟨_, rfl, by decide +kernel, by decide +kernel⟩
      · exact ⟨_, rfl, by decide +kernel, by decide +kernel⟩
      · exact ⟨_, rfl, by decide +kernel, by decide +kernel⟩
    refine ⟨_, rfl, e, _, _, _, rfl, rfl, SqL.of upd_same, hS, ?_⟩
    refine ⟨Nat.zero_le _, fun p hp => ?_⟩
    refine ⟨_, rfl, _, _, rfl, rfl, ⟨by decide, by decide, by decide⟩, _, _, rfl, rfl, ?_⟩
    have hpH : H p = none := (Same.new he).free hp
    refine ⟨_, rfl, _, rfl, by omega, by omega, for_range (lo := 0) (n := n.toNat) (fun i σ H2 => ∃ (c' : Int) (rs : List Int) (o : Option V), σ = [some (.int c'), some (.int n), some (.int wd), some (.int (10 ^ (60 : Int).toNat * 10 ^ (60 : Int).toNat)), some (.int S), some (.ref p), some (.bl (decide ((10 : Int) ^ (18 : Int).toNat ≤ c))), o] ∧ Same H H2 ∧ H2 p = some (.lst (rs.map V.int)) ∧ rs.length = i)
      ⟨c, [], none, rfl, (Same.new he).new2 hp, upd_same, rfl⟩ ?_ ?_⟩
    · rintro i σ H2 hi ⟨c', rs, o, rfl, s2, hp2, hl⟩
      refine ⟨_, rfl, _, rfl, ?_⟩
      refine ite2 (fun _ => ?_) (fun _ => ?_)
      · refine ⟨_, rfl, .inl ⟨rfl, _, SqL.of hp2⟩, _, _, rfl, rfl, ⟨by decide, by decide, by decide⟩, _, rfl, _, rfl, _, _, rfl, rfl, hL.1, _, _, rfl, rfl, p, _, _, rfl, rfl, hp2, lt_line (by rw [ltm]; omega), ?_⟩
        refine ⟨_, rfl, _, rfl, _, _, rfl, rfl, hL, ?_⟩
        exact ⟨_, rs ++ [_], _, rfl, s2.put hpH, by rw [upd_same, mapV], by rw [List.length_append, hl]; rfl⟩
      · refine ⟨_, rfl, .inl ⟨rfl, _, SqL.of hp2⟩, _, rfl, _, rfl, _, _, rfl, rfl, mulOk_l ⟨by decide, by decide⟩, _, _, rfl, rfl, _, _, rfl, rfl, mulOk_r ⟨by omega, by omega⟩, _, rfl, _, _, rfl, rfl, mulOk_l ⟨by decide, by decide⟩, _, _, rfl, rfl, p, _, _, rfl, rfl, hp2, lt_line (by rw [ltm]; omega), ?_⟩
        exact ⟨_, rs ++ [_], _, rfl, s2.put hpH, by rw [upd_same, mapV], by rw [List.length_append, hl]; rfl⟩
    · rintro σ H2 ⟨c', rs, o, rfl, s2, hp2, hl⟩
      exact ⟨_, rfl, k p rs H2 hpH s2 hp2 hl⟩
theorem sc_law_refused : FnScope (["_law_found"]) (["_law_found"]) (defScope s_law_refused) := ⟨rfl, rfl, rfl, by decide +kernel, rfl, by decide +kernel, by decide +kernel⟩
set_option maxHeartbeats 4000000 in
theorem ok_law_refused {f : Addr} {fd : FuncData} (F : Fun K "_law_refused" "_law_refused" s_law_refused f fd) (B : Bs mg) (T : Gs mg) (mBadWay : mg "BadWay" = some (.ref CBadWay)) (qBadWay : PySem.W.excIn K CBadWay bmV "ValueError.__new__" = true) (mBadTray : mg "BadTray" = some (.ref CBadTray)) (qBadTray : PySem.W.excIn K CBadTray bmV "ValueError.__new__" = true)  (clTray : Cls K CTray) (nTray_stock : NoAttr K CTray "stock")  : FnOk P w K mg base CX0 1 f fd ["_law_found"] (spRefused K) := by
  have sc := sc_law_refused
  refine F.ok sc (fun vs H Q E h => ?_) (fun cdv A outer s H vs Q E hr h => ?_)
  · obtain ⟨a, rfl, _⟩ := h; rfl
  · obtain ⟨a, rfl, hL, k⟩ := h
    refine ⟨_, (pss_one (ps_ret (pe_and (pe_callB (kc_isi (K := K)) (by rfl) B.isinstance PyProof.Rows.Boot.«isinstance» (pa_cons (pv 0) (pa_cons (pe_bltn (v := .ty "list") rfl B.list PyProof.Rows.Boot.«list» rfl) pa_nil))) (pe_and (pe_cmpR op_eq (pe_callB (kc_len (K := K)) (by rfl) B.len PyProof.Rows.Boot.«len» (pa_cons (pv 0) pa_nil)) pe_int (nomark _)) (pe_one (pe_cmpR op_eq (pe_ix (kix_list (K := K)) (pv 0) pe_int (fun _ _ => rfl)) pe_str (nomark _))))))), ?_⟩
    refine ⟨_, rfl, .ref a, "list", _, true, rfl, TyOf.lst hL, rfl, _, rfl, iteT ?_⟩
    refine ⟨_, rfl, a, _, rfl, .inl (SqL.of hL), rfl, _, rfl, iteT ?_⟩
    exact ⟨_, rfl, a, _, _, _, rfl, rfl, SqL.of hL, rfl, rfl, k⟩
theorem sc_law_some_row : FnScope (["_law_cell_here", "_law_first", "_law_second", "_law_row", "_law_way_here", "_law_at", "_law_near", "_law_other"]) (["_law_cell_here"]) (defScope s_law_some_row) := ⟨rfl, rfl, rfl, by decide +kernel, rfl, by decide +kernel, by decide +kernel⟩
set_option maxHeartbeats 4000000 in
theorem ok_law_some_row {f : Addr} {fd : FuncData} (F : Fun K "_law_some_row" "_law_some_row" s_law_some_row f fd) (B : Bs mg) (T : Gs mg) (mBadWay : mg "BadWay" = some (.ref CBadWay)) (qBadWay : PySem.W.excIn K CBadWay bmV "ValueError.__new__" = true) (mBadTray : mg "BadTray" = some (.ref CBadTray)) (qBadTray : PySem.W.excIn K CBadTray bmV "ValueError.__new__" = true)  (clTray : Cls K CTray) (nTray_stock : NoAttr K CTray "stock") (c_law_draw : Cal P w K mg base 1 "_law_draw" [] (spDraw K)) (c_law_split : Cal P w K mg base 1 "_law_split" [.int 0] spSplit) (c_law_way : Cal P w K mg base 2 "_law_way" [] (spWay K)) : FnOk P w K mg base CX0 3 f fd ["_law_cell_here"] (spSome K) := by
  have sc := sc_law_some_row
  refine F.ok sc (fun vs H Q E h => ?_) (fun cdv A outer s H vs Q E hr h => ?_)
  · obtain ⟨c, rfl, _⟩ := h; rfl
  · obtain ⟨c, rfl, k⟩ := h
    refine ⟨_, (pss_cons (ps_asg (pe_cal c_law_split (hr.mono (by decide)) rfl (pa_cons (pv 0) (pa_cons pe_int pa_nil))) (pg_lst rfl (pgs_cons (pg_name (i := 1) sc.nd rfl (Or.inl rfl)) (pgs_cons (pg_name (i := 2) sc.nd rfl (Or.inl rfl)) pgs_nil))))
      (pss_cons (ps_set (i := 3) sc.nd rfl (Or.inl rfl) (pe_cal c_law_draw (hr.mono (by decide)) rfl (pa_cons (pv 1) (pa_cons (pe_op op_cat (pe_lst (pa_cons pe_int (pa_cons pe_int (pa_cons pe_int (pa_cons pe_int (pa_cons pe_int pa_nil)))))) (pe_lc (N' := ["_law_k"]) (M := [none]) (lcSc_of (by rfl)) rfl (pi_range1 rfl B.range (pa_cons pe_int pa_nil)) (fun _ _ _ _ _ => pg_name (i := 0) (show (["_law_k"] : List Str).Nodup by decide +kernel) rfl (Or.inl rfl) (.inr rfl)) (frm_name rfl) (fun _ _ _ _ _ => pts_nil) (fun _ _ _ _ _ => pe_int))) pa_nil))))
      (pss_cons (ps_if (pt_cmpR op_eq (pe_ix (kix_list (K := K)) (pv 3) pe_int (fun _ _ => rfl)) pe_int (nomark _)) (pss_one (ps_ret (pe_callTy (kc_tuple (K := K)) (by rfl) B.tuple PyProof.Rows.Boot.«tuple» (pa_cons (pe_lc (N' := ["_law_one"]) (M := [none]) (lcSc_of (by rfl)) rfl (kpi_list (K := K) (pe_slice (ksl_list (K := K)) (pv 3) (po_some pe_int) (po_some (pe_op op_add pe_int (pe_ix (kix_list (K := K)) (pv 3) pe_int (fun _ _ => rfl)))))) (fun _ _ _ _ _ => pg_name (i := 0) (show (["_law_one"] : List Str).Nodup by decide +kernel) rfl (Or.inl rfl) (.inr rfl)) (frm_name rfl) (fun _ _ _ _ _ => pts_nil) (fun _ _ _ _ _ => (pe_op op_sub (pv 0) pe_int))) pa_nil)))) pss_nil)
      (pss_cons (ps_set (i := 4) sc.nd rfl (Or.inl rfl) (pe_cal c_law_way (hr.mono (by decide)) rfl (pa_cons (pv 2) (pa_cons (pe_op op_add (pe_ix (kix_list (K := K)) (pv 3) pe_int (fun _ _ => rfl)) pe_int) pa_nil))))
      (pss_cons (ps_if (pt_cmpR op_eq (pe_ix (kix_list (K := K)) (pv 3) pe_int (fun _ _ => rfl)) pe_int (nomark _)) (pss_one (ps_ret (pv 4))) pss_nil)
      (pss_cons (ps_if (pt_cmpR op_eq (pe_ix (kix_list (K := K)) (pv 3) pe_int (fun _ _ => rfl)) pe_int (nomark _)) (pss_one (ps_ret (pe_op (kop_cat (K := K)) (pv 4) (pe_op (kop_rep (K := K)) (pe_tup (pa_cons (pe_op op_mod (pe_ix (kix_list (K := K)) (pv 3) pe_int (fun _ _ => rfl)) (pe_op op_add (pe_callB (kc_max (K := K)) (by rfl) B.max PyProof.Rows.Boot.«max» (pa_cons (pv 4) pa_nil)) pe_int)) pa_nil)) (pe_op op_add pe_int (pe_op op_mod (pe_ix (kix_list (K := K)) (pv 3) pe_int (fun _ _ => rfl)) pe_int)))))) pss_nil)
      (pss_cons (ps_set (i := 5) sc.nd rfl (Or.inl rfl) (pe_op op_mod (pe_ix (kix_list (K := K)) (pv 3) pe_int (fun _ _ => rfl)) (pe_callB (kc_len (K := K)) (by rfl) B.len PyProof.Rows.Boot.«len» (pa_cons (pv 4) pa_nil))))
      (pss_cons (ps_set (i := 6) sc.nd rfl (Or.inl rfl) (pe_op op_add (pe_callB (kc_max (K := K)) (by rfl) B.max PyProof.Rows.Boot.«max» (pa_cons (pe_slice (ksl_tup (K := K)) (pv 4) po_none (po_some (pe_op op_add (pv 5) pe_int))) pa_nil)) pe_int))
      (pss_cons (ps_set (i := 7) sc.nd rfl (Or.inl rfl) (pe_ix (kix_list (K := K)) (pe_lst (pa_cons (pe_op op_sub (pe_ix (kix_list (K := K)) (pv 3) pe_int (fun _ _ => rfl)) pe_int) (pa_cons (pv 6) (pa_cons (pe_op op_mod (pv 0) (pe_op op_pow pe_int pe_int)) (pa_cons (pe_un un_neg pe_int) pa_nil))))) (pe_op op_mod (pe_ix (kix_list (K := K)) (pv 3) pe_int (fun _ _ => rfl)) pe_int) (fun _ _ => rfl)))
      (pss_one (ps_ret (pe_op (kop_cat (K := K)) (pe_op (kop_cat (K := K)) (pe_slice (ksl_tup (K := K)) (pv 4) po_none (po_some (pv 5))) (pe_tup (pa_cons (pv 7) pa_nil))) (pe_slice (ksl_tup (K := K)) (pv 4) (po_some (pe_op op_add (pv 5) pe_int)) po_none))))))))))))), ?_⟩
    refine ⟨_, rfl, c, 2, 0, rfl, by decide, by decide, by decide, by decide, fun p2 sp2 H1 _ s1 hp2 hl2 => ?_⟩
    obtain ⟨f1, f2, rfl⟩ : ∃ f1 f2, sp2 = [f1, f2] := by
      match sp2, hl2 with
      | [a, b], _ => exact ⟨a, b, rfl⟩
    refine ⟨p2, _, rfl, SqL.of hp2, rfl, _, _, rfl, _, _, rfl, rfl, ?_⟩
    -- the row's limits
    refine ⟨_, rfl, le_line (by decide), fun p hp => ⟨_, rfl, by decide, by decide, ?_⟩⟩
    refine lc_range (fun i ys H2 => H2 = upd H1 p (.lst [.int 4, .int 9, .int 12, .int 9, .int 25]) ∧ ys = (List.range i).map fun (j : Nat) => V.int 12) (le_line (by decide)) ⟨rfl, rfl⟩ (fun i ys H2 _ h => by rw [h.2, List.length_map, List.length_range]; exact Nat.le_refl _) ?_ ?_
    · rintro i ys H2 hi ⟨rfl, rfl⟩
      refine lcN ?_
      exact ⟨rfl, map_snoc (fun (j : Nat) => V.int 12) i⟩
    rintro ys H2 ⟨rfl, rfl⟩ q hq
    have hpq : p ≠ q := ne_of_none upd_same hq
    refine ⟨p, q, _, _, rfl, rfl, by rw [upd_ne hpq, upd_same], upd_same, le_line (by decide), fun l hl => ?_⟩
    refine ⟨f1, l, [4, 9, 12, 9, 25, 12, 12, 12, 12, 12, 12, 12, 12, 12, 12, 12], rfl, SqL.of upd_same, fun z hz => ?_, by decide, fun d rs H3 _ s3 hd3 hD => ?_⟩
    · have : 0 < z ∧ z < 1000000 := by
        simp only [List.mem_cons, List.not_mem_nil, or_false] at hz
        omega
      exact limOk_small this.1 this.2
    have S3 : Same H H3 := (((s1.new2 hp).new2 hq).new2 hl).trans s3
    obtain ⟨r0, t0, rfl, _, _, hD⟩ := hD.uncons
    obtain ⟨r1, t1, rfl, g10, g11, hD⟩ := hD.uncons
    obtain ⟨r2, t2, rfl, g20, g21, hD⟩ := hD.uncons
    obtain ⟨r3, t3, rfl, g30, g31, hD⟩ := hD.uncons
    obtain ⟨r4, t4, rfl, g40, g41, hD⟩ := hD.uncons
    have hdl : t4.length = 11 := hD.length.symm
    generalize hrs : (r0 :: r1 :: r2 :: r3 :: r4 :: t4) = rs at hd3
    have hrl : rs.length = 16 := by rw [← hrs]; simp [hdl]
    have a0 : atI (rs.map V.int) 0 = some (V.int r0) := by rw [← hrs]; exact atI_int (by decide) rfl
    have a1 : atI (rs.map V.int) 1 = some (V.int r1) := by rw [← hrs]; exact atI_int (by decide) rfl
    have a2 : atI (rs.map V.int) 2 = some (V.int r2) := by rw [← hrs]; exact atI_int (by decide) rfl
    have a3 : atI (rs.map V.int) 3 = some (V.int r3) := by rw [← hrs]; exact atI_int (by decide) rfl
    have a4 : atI (rs.map V.int) 4 = some (V.int r4) := by rw [← hrs]; exact atI_int (by decide) rfl
    -- row[0] == 0
    refine ⟨_, rfl, d, _, _, _, rfl, rfl, SqL.of hd3, a0, rfl, _, rfl, ite2 (fun _ => ?_) (fun _ => ?_)⟩
    · refine ⟨_, rfl, _, rfl, _, rfl, d, _, _, _, rfl, rfl, SqL.of hd3, a2, _, _, rfl, rfl, _, rfl, d, _, rfl, SqL.of hd3, fun v hv => ?_⟩
      obtain ⟨ms, hms, hml⟩ := cut_ints rs (some 5) (some (5 + r2))
      rw [hms]
      refine ⟨v, rfl, ⟨_, SqL.of upd_same⟩, lc_list (xs := ms.map V.int) (fun i ys H4 => H4 = upd H3 v (.lst (ms.map V.int)) ∧ ∃ zs : List Int, ys = zs.map V.int ∧ zs.length = i) (le_line (by rw [ltm]; omega)) ⟨rfl, [], rfl, rfl⟩ (fun i ys H4 _ ⟨e, zs, e2, e3⟩ => ⟨by rw [e]; exact SqL.of upd_same, by rw [e2, ltm, e3]; exact Nat.le_refl _⟩) ?_ ?_⟩
      · rintro i y ys H4 hi ⟨rfl, zs, rfl, hz⟩
        obtain ⟨z, rfl, _, _⟩ := getI hi
        refine lcN ?_
        exact ⟨_, rfl, _, _, rfl, rfl, rfl, zs ++ [z - 2], mapV, by rw [List.length_append, hz]; rfl⟩
      · rintro ys H4 ⟨rfl, zs, rfl, hz⟩ u hu
        refine ⟨u, _, rfl, .inl ⟨SqL.of upd_same, fun t ht => ?_⟩⟩
        exact k t zs _ (((S3.new2 hv).new2 hu).new2 ht) (SqT.of upd_same) (by rw [ltm] at hz; omega)
    -- the way
    refine ⟨_, rfl, _, rfl, d, _, _, _, rfl, rfl, SqL.of hd3, a1, _, _, rfl, rfl, f2, r1 + 1, rfl, by omega, by omega, fun wa ws H4 hwn s4 hw4 hwl hww => ?_⟩
    have S4 := S3.trans s4
    have hd4 := s4 d _ hd3
    have hws : ws ≠ [] := fun e => by rw [e] at hwl; simp at hwl; omega
    -- row[0] == 1
    refine ⟨_, rfl, d, _, _, _, rfl, rfl, SqL.of hd4, a0, rfl, _, rfl, ite2 (fun _ => ?_) (fun _ => ?_)⟩
    · exact ⟨_, rfl, k wa ws H4 S4 (SqT.of hw4) (by omega)⟩
    -- row[0] == 2
    refine ⟨_, rfl, d, _, _, _, rfl, rfl, SqL.of hd4, a0, rfl, _, rfl, ite2 (fun _ => ?_) (fun _ => ?_)⟩
    · refine ⟨_, rfl, _, rfl, d, _, _, _, rfl, rfl, SqL.of hd4, a4, _, rfl, wa, ws, rfl, .inr (SqT.of hw4), hws, fun m hm => ?_⟩
      have hm0 : -1 ≤ m := by
        have hw0 : wayGo 0 ws = true := by unfold isWay at hww; rw [Bool.and_eq_true] at hww; exact hww.2
        have := fresh_pos hw0 hws
        have := hm.uniq this.2
        omega
      refine ⟨_, _, rfl, rfl, _, _, rfl, rfl, (by show 0 < m + 3; omega), le_line (by simp), fun u hu => ?_⟩
      refine ⟨_, rfl, d, _, _, _, rfl, rfl, SqL.of (Same.new hu d _ hd4), a3, _, _, rfl, rfl, p0, _, _, rfl, rfl, u, _, _, rfl, rfl, SqT.of upd_same, (by simp), ?_, ?_, by simp, fun u2 H5 s5 hu2 => ?_⟩
      · have := modB r3 (show (0 : Int) < 2 by decide); omega
      · have := modB r3 (show (0 : Int) < 2 by decide); omega
      · have hS5 : SqT K H5 wa (ws.map V.int) := s5.seqT (SqT.of (Same.new hu wa _ hw4))
        obtain ⟨zs, hzs, hzl⟩ : ∃ zs : List Int, (List.replicate (1 + r3 % 2).toNat [V.int (r4 % (m + 3))]).flatten = zs.map V.int ∧ zs.length ≤ 2 := by
          have := modB r3 (show (0 : Int) < 2 by decide)
          have e : (1 + r3 % 2).toNat = 1 ∨ (1 + r3 % 2).toNat = 2 := by omega
          rcases e with e | e
          · rw [e]; exact ⟨[_], rfl, by simp⟩
          · rw [e]; exact ⟨[_, _], rfl, by simp⟩
        rw [hzs] at hu2
        refine ⟨wa, u2, _, _, rfl, rfl, hS5, hu2, le_line (by rw [ltm, ltm]; omega), fun u3 H6 s6 hu3 => ?_⟩
        rw [← List.map_append] at hu3
        exact k u3 _ H6 (((S4.new2 hu).trans s5).trans s6) hu3 (by rw [List.length_append]; omega)
    -- at
    refine ⟨_, rfl, d, _, _, _, rfl, rfl, SqL.of hd4, a3, _, rfl, wa, _, rfl, .inr (SqT.of hw4), _, _, rfl, rfl, (by rw [ltm]; show (0 : Int) < (ws.length : Int); omega), ?_⟩
    rw [ltm]
    obtain ⟨at', hat, hat0, hat1⟩ : ∃ j : Nat, r3 % (ws.length : Int) = (j : Int) ∧ 0 ≤ j ∧ j < ws.length := by
      have := modB r3 (show (0 : Int) < (ws.length : Int) by omega)
      exact ⟨(r3 % (ws.length : Int)).toNat, by omega, by omega, by omega⟩
    dsimp only
    rw [hat]
    -- near
    refine ⟨_, rfl, _, rfl, _, _, rfl, rfl, _, rfl, wa, _, rfl, SqT.of hw4, fun u H5 s5 hu => ?_⟩
    have hu : SqT K H5 u ((ws.take (at' + 1)).map V.int) := by
      rw [show ((at' : Int) + 1) = ((at' + 1 : Nat) : Int) by omega, cut_take_int] at hu
      exact hu
    refine ⟨u, _, rfl, .inr hu, (fun e => by have := congrArg List.length e; rw [List.length_take, List.length_nil] at this; omega), fun m hm => ⟨_, _, rfl, rfl, ?_⟩⟩
    have hd5 := s5 d _ hd4
    -- other
    refine ⟨_, rfl, d, _, _, _, rfl, rfl, SqL.of hd5, a4, _, _, rfl, rfl, _, rfl, _, rfl, _, _, rfl, rfl, ⟨by decide, by decide, by decide⟩, _, _, rfl, rfl, (by show (0 : Int) < 10 ^ (40 : Int).toNat; decide +kernel), _, rfl, le_line (by simp), fun e he => ?_⟩
    have hd6 := Same.new (o := HO.lst [V.int (r4 - 2), V.int (m + 1), V.int (c % 10 ^ (40 : Int).toNat), V.int (-1)]) he d _ hd5
    obtain ⟨oth, hoth⟩ : ∃ z : Int, atI [V.int (r4 - 2), V.int (m + 1), V.int (c % 10 ^ (40 : Int).toNat), V.int (-1)] (r2 % 4) = some (V.int z) := by
      have h4 := modB r2 (show (0 : Int) < 4 by decide)
      have : r2 % 4 = 0 ∨ r2 % 4 = 1 ∨ r2 % 4 = 2 ∨ r2 % 4 = 3 := by omega
      rcases this with h | h | h | h <;> rw [h] <;> exact ⟨_, rfl⟩
    refine ⟨_, rfl, d, _, _, _, rfl, rfl, SqL.of hd6, a2, _, _, rfl, rfl, p0, e, _, _, _, rfl, rfl, SqL.of upd_same, hoth, ?_⟩
    have S6 : Same H _ := (S4.trans s5).new2 (o := HO.lst [V.int (r4 - 2), V.int (m + 1), V.int (c % 10 ^ (40 : Int).toNat), V.int (-1)]) he
    generalize hH6 : upd H5 e (HO.lst [V.int (r4 - 2), V.int (m + 1), V.int (c % 10 ^ (40 : Int).toNat), V.int (-1)]) = H6 at S6 hd6
    have hw6 : SqT K H6 wa (ws.map V.int) := by rw [← hH6]; exact (s5.new2 he).seqT (SqT.of hw4)
    -- the end
    refine ⟨_, rfl, _, rfl, _, rfl, wa, _, rfl, hw6, fun u1 H7 s7 hu1 => ?_⟩
    rw [cut_take_int] at hu1
    refine ⟨_, rfl, le_line (by simp), fun u2 hu2 => ?_⟩
    refine ⟨u1, u2, _, _, rfl, rfl, (Same.new hu2).seqT hu1, SqT.of upd_same, le_line (by rw [ltm, List.length_take]; show _ + 1 ≤ _; omega), fun u3 H8 s8 hu3 => ?_⟩
    have hw8 := s8.seqT ((s7.new2 hu2).seqT hw6)
    refine ⟨_, rfl, _, rfl, _, _, rfl, rfl, _, rfl, wa, _, rfl, hw8, fun u4 H9 s9 hu4 => ?_⟩
    obtain ⟨ms, hms, hml⟩ := cut_ints ws (some ((at' : Int) + 1)) none
    rw [hms] at hu4
    refine ⟨u3, u4, _, _, rfl, rfl, s9.seqT hu3, hu4, le_line (by rw [List.length_append, ltm, ltm, List.length_take]; show _ + 1 + _ ≤ _; omega), fun u5 H10 s10 hu5 => ?_⟩
    have e9 : (List.map V.int (List.take at' ws) ++ [V.int oth]) ++ List.map V.int ms = ((ws.take at' ++ [oth]) ++ ms).map V.int := by rw [List.map_append, List.map_append]; rfl
    rw [e9] at hu5
    exact k u5 _ H10 ((((S6.trans s7).new2 hu2).trans s8).trans (s9.trans s10)) hu5 (by rw [List.length_append, List.length_append, List.length_take]; show _ + 1 + _ ≤ _; omega)
theorem sc_law_more_doors : FnScope (["_law_turn", "_law_row"]) (["_law_turn", "_law_row"]) (defScope s_law_more_doors) := ⟨rfl, rfl, rfl, by decide +kernel, rfl, by decide +kernel, by decide +kernel⟩
set_option maxHeartbeats 4000000 in
theorem ok_law_more_doors {f : Addr} {fd : FuncData} (F : Fun K "_law_more_doors" "_law_more_doors" s_law_more_doors f fd) (B : Bs mg) (T : Gs mg) (mBadWay : mg "BadWay" = some (.ref CBadWay)) (qBadWay : PySem.W.excIn K CBadWay bmV "ValueError.__new__" = true) (mBadTray : mg "BadTray" = some (.ref CBadTray)) (qBadTray : PySem.W.excIn K CBadTray bmV "ValueError.__new__" = true)  (clTray : Cls K CTray) (nTray_stock : NoAttr K CTray "stock") (kTray : CalKE P w K mg base CTray 3 "Tray" (spInit K CTray CBadTray)) (cchance : CalE P w K mg base 4 "chance" [] (spBadC K CBadWay)) (cheights : CalE P w K mg base 6 "heights" [] (spBad1 K CBadWay)) (cjoinings : CalE P w K mg base 4 "joinings" [] (spBad1 K CBadWay)) (cmark : CalE P w K mg base 7 "mark" [] (spBad1 K CBadWay)) (cpartings : CalE P w K mg base 5 "partings" [] (spBad1 K CBadWay)) : FnOk P w K mg base (CXE P w) 9 f fd ["_law_turn", "_law_row"] (spMoreDoors K CBadWay) := by
  have sc := sc_law_more_doors
  refine F.okE sc (fun vs H Q E h => ?_) (fun cdv A outer s H vs Q E hr F0 h => ?_)
  · obtain ⟨t, a, ws, rfl, _⟩ := h; rfl
  · obtain ⟨t, a, ws, rfl, h0, h1, hS, hb, kE⟩ := h
    refine ⟨_, (pss_cons (ps_if (pt_cmpR op_eq (pv 0) pe_int (nomark _)) (pss_one (ps_ret (pe_calE cheights (hr.mono (by decide)) rfl (pass_fn F0) (pa_cons (pv 1) pa_nil)))) pss_nil)
      (pss_cons (ps_if (pt_cmpR op_eq (pv 0) pe_int (nomark _)) (pss_one (ps_ret (pe_calE cmark (hr.mono (by decide)) rfl (pass_fn F0) (pa_cons (pv 1) pa_nil)))) pss_nil)
      (pss_cons (ps_if (pt_cmpR op_eq (pv 0) pe_int (nomark _)) (pss_one (ps_ret (pe_calE cjoinings (hr.mono (by decide)) rfl (pass_fn F0) (pa_cons (pv 1) pa_nil)))) pss_nil)
      (pss_cons (ps_if (pt_cmpR op_eq (pv 0) pe_int (nomark _)) (pss_one (ps_ret (pe_calE cpartings (hr.mono (by decide)) rfl (pass_fn F0) (pa_cons (pv 1) pa_nil)))) pss_nil)
      (pss_one (ps_ret (pe_calE cchance (hr.mono (by decide)) rfl (pass_fn F0) (pa_cons (pe_calKE kTray (hr.mono (by decide)) rfl (pass_fn F0) (pa_cons (pe_lst (pa_cons (pe_tup (pa_cons pe_str (pa_cons pe_int pa_nil))) pa_nil)) pa_nil)) (pa_cons (pv 1) pa_nil))))))))), ?_⟩
    refine ⟨_, rfl, rfl, _, rfl, ite2 (fun g => ⟨_, rfl, a, ws, rfl, hS, hb, kE⟩) (fun g0 => ?_)⟩
    refine ⟨_, rfl, rfl, _, rfl, ite2 (fun g => ⟨_, rfl, a, ws, rfl, hS, hb, kE⟩) (fun g1 => ?_)⟩
    refine ⟨_, rfl, rfl, _, rfl, ite2 (fun g => ⟨_, rfl, a, ws, rfl, hS, hb, kE⟩) (fun g2 => ?_)⟩
    refine ⟨_, rfl, rfl, _, rfl, ite2 (fun g => ⟨_, rfl, a, ws, rfl, hS, hb, kE⟩) (fun g3 => ?_)⟩
    refine ⟨le_line (by simp), fun t1 ht1 => ⟨le_line (by simp), fun l hl => ?_⟩⟩
    have sl := (Same.new (o := HO.tup [V.str "a", V.int 0]) ht1).new2 (o := HO.lst [V.ref t1]) hl
    have hl2 : upd (upd H t1 (HO.tup [V.str "a", V.int 0])) l (HO.lst [V.ref t1]) l = some (.lst ([t1].map V.ref)) := upd_same
    have ht2 : upd (upd H t1 (HO.tup [V.str "a", V.int 0])) l (HO.lst [V.ref t1]) t1 = some (.tup [V.str "a", V.int 0]) := by rw [upd_ne (ne_of_none upd_same hl), upd_same]
    generalize upd (upd H t1 (HO.tup [V.str "a", V.int 0])) l (HO.lst [V.ref t1]) = H1 at sl hl2 ht2
    intro x dx hx hdx hne
    have m0 := made_start (C := CTray) hx hdx
    have hW : WAt H1 [t1] [(("a" : Str), (0 : Int))] := .cons ht2 .nil
    refine ⟨x, dx, l, [t1], [("a", 0)], rfl, upd_same, m0 _ _ hl2, hW.same m0, by simp, ?_, fun _ q H3 hq hq3 hx3 kp => ⟨rfl, ?_⟩, fun e => absurd e (by decide)⟩
    · intro w hw
      rw [List.mem_singleton.mp hw]; decide
    have s3 := sl.trans (made_same hx hdx kp)
    exact ⟨_, rfl, _, a, ws, rfl, s3.seqT hS, hb, fun H' s' => kE H' (s3.trans s')⟩
theorem sc_law_one_door : FnScope (["_law_turn", "_law_row"]) (["_law_turn", "_law_row"]) (defScope s_law_one_door) := ⟨rfl, rfl, rfl, by decide +kernel, rfl, by decide +kernel, by decide +kernel⟩
set_option maxHeartbeats 4000000 in
theorem ok_law_one_door {f : Addr} {fd : FuncData} (F : Fun K "_law_one_door" "_law_one_door" s_law_one_door f fd) (B : Bs mg) (T : Gs mg) (mBadWay : mg "BadWay" = some (.ref CBadWay)) (qBadWay : PySem.W.excIn K CBadWay bmV "ValueError.__new__" = true) (mBadTray : mg "BadTray" = some (.ref CBadTray)) (qBadTray : PySem.W.excIn K CBadTray bmV "ValueError.__new__" = true)  (clTray : Cls K CTray) (nTray_stock : NoAttr K CTray "stock") (c_law_more_doors : CalE P w K mg base 9 "_law_more_doors" [] (spMoreDoors K CBadWay)) (calike : CalE P w K mg base 3 "alike" [] (spBad3 K CBadWay)) (cfollowing : CalE P w K mg base 3 "following" [] (spBad1 K CBadWay)) (clie : CalE P w K mg base 6 "lie" [] (spBad3 K CBadWay)) (clots : CalE P w K mg base 4 "lots" [] (spBad1 K CBadWay)) (cnumber : CalE P w K mg base 3 "number" [] (spBad1 K CBadWay)) (cturned : CalE P w K mg base 3 "turned" [] (spBad2x K CBadWay)) (cwoods : CalE P w K mg base 3 "woods" [] (spWoodsE K CBadWay)) : FnOk P w K mg base CX0 10 f fd ["_law_turn", "_law_row"] (spOneDoor K) := by
  have sc := sc_law_one_door
  refine F.ok sc (fun vs H Q E h => ?_) (fun cdv A outer s H vs Q E hr h => ?_)
  · obtain ⟨t, a, ws, rfl, _⟩ := h; rfl
  · obtain ⟨t, a, ws, rfl, h0, h1, hS, hb, k⟩ := h
    refine ⟨_, (pss_one (ps_try rfl rfl rfl rfl mBadWay qBadWay (fun _ _ => (pss_cons (ps_if (pt_cmpR op_eq (pv 0) pe_int (nomark _)) (pss_one (ps_ret (pe_calE cwoods (hr.mono (by decide)) rfl pass_try (pa_cons (pv 1) pa_nil)))) pss_nil)
      (pss_cons (ps_if (pt_cmpR op_eq (pv 0) pe_int (nomark _)) (pss_one (ps_ret (pe_calE clots (hr.mono (by decide)) rfl pass_try (pa_cons (pv 1) pa_nil)))) pss_nil)
      (pss_cons (ps_if (pt_cmpR op_eq (pv 0) pe_int (nomark _)) (pss_one (ps_ret (pe_calE calike (hr.mono (by decide)) rfl pass_try (pa_cons (pv 1) (pa_cons (pe_un un_neg pe_int) (pa_cons pe_int pa_nil)))))) pss_nil)
      (pss_cons (ps_if (pt_cmpR op_eq (pv 0) pe_int (nomark _)) (pss_one (ps_ret (pe_calE cturned (hr.mono (by decide)) rfl pass_try (pa_cons (pv 1) (pa_cons (pe_lst (pa_cons pe_int (pa_cons pe_int pa_nil))) pa_nil))))) pss_nil)
      (pss_cons (ps_if (pt_cmpR op_eq (pv 0) pe_int (nomark _)) (pss_one (ps_ret (pe_calE cnumber (hr.mono (by decide)) rfl pass_try (pa_cons (pv 1) pa_nil)))) pss_nil)
      (pss_cons (ps_if (pt_cmpR op_eq (pv 0) pe_int (nomark _)) (pss_one (ps_ret (pe_calE cfollowing (hr.mono (by decide)) rfl pass_try (pa_cons (pv 1) pa_nil)))) pss_nil)
      (pss_cons (ps_if (pt_cmpR op_eq (pv 0) pe_int (nomark _)) (pss_one (ps_ret (pe_calE clie (hr.mono (by decide)) rfl pass_try (pa_cons (pv 1) (pa_cons pe_int (pa_cons (pe_un un_neg pe_int) pa_nil)))))) pss_nil)
      (pss_one (ps_ret (pe_calE c_law_more_doors (hr.mono (by decide)) rfl pass_try (pa_cons (pv 0) (pa_cons (pv 1) pa_nil))))))))))))) (fun _ _ => (pss_one (ps_ret (pe_lst (pa_cons pe_str pa_nil))))))), ?_⟩
    have hE : ∀ {D : Ends}, D.rt = Q → ∀ H', Same H H' → ((Value.ref CBadWay = Value.ref CBadWay) ∧ tRet (tLst (tCons (tC (V.str (Str.ofString "refused"))) tNil)) D (List.replicate 2 none) H') := fun {D} e H' s' => ⟨rfl, le_line (by simp), fun p hp => by rw [e]; exact k p H' s' hp⟩
    refine ⟨_, rfl, rfl, _, rfl, ite2 (fun g => ⟨_, rfl, a, ws, rfl, hS, fun hw => (by rw [hb] at hw; cases hw), fun _ => hE rfl _ (Same.refl _)⟩) (fun g0 => ?_)⟩
    refine ⟨_, rfl, rfl, _, rfl, ite2 (fun g => ⟨_, rfl, a, ws, rfl, hS, hb, hE rfl⟩) (fun g1 => ?_)⟩
    refine ⟨_, rfl, rfl, _, rfl, ite2 (fun g => ⟨_, rfl, _, rfl, a, ws, _, _, rfl, hS, hb, hE rfl⟩) (fun g2 => ?_)⟩
    refine ⟨_, rfl, rfl, _, rfl, ite2 (fun g => ⟨_, rfl, le_line (by simp), fun p hp => ⟨a, ws, _, rfl, (Same.new hp).seqT hS, hb, fun H' s' => hE rfl _ ((Same.new hp).trans s')⟩⟩) (fun g3 => ?_)⟩
    refine ⟨_, rfl, rfl, _, rfl, ite2 (fun g => ⟨_, rfl, a, ws, rfl, hS, hb, hE rfl⟩) (fun g4 => ?_)⟩
    refine ⟨_, rfl, rfl, _, rfl, ite2 (fun g => ⟨_, rfl, a, ws, rfl, hS, hb, hE rfl⟩) (fun g5 => ?_)⟩
    refine ⟨_, rfl, rfl, _, rfl, ite2 (fun g => ⟨_, rfl, _, rfl, a, ws, _, _, rfl, hS, hb, hE rfl⟩) (fun g6 => ?_)⟩
    have ne : ∀ {m : Int}, ¬ decide (V.int t = V.int m) = true → t ≠ m := fun {m} g e => g (decide_eq_true (congrArg V.int e))
    have := ne g0; have := ne g1; have := ne g2; have := ne g3; have := ne g4; have := ne g5; have := ne g6
    exact ⟨_, rfl, _, rfl, t, a, ws, rfl, by omega, h1, hS, hb, hE rfl⟩
theorem sc_law_two_doors : FnScope (["_law_turn", "_law_one", "_law_other"]) (["_law_turn", "_law_one", "_law_other"]) (defScope s_law_two_doors) := ⟨rfl, rfl, rfl, by decide +kernel, rfl, by decide +kernel, by decide +kernel⟩
set_option maxHeartbeats 4000000 in
theorem ok_law_two_doors {f : Addr} {fd : FuncData} (F : Fun K "_law_two_doors" "_law_two_doors" s_law_two_doors f fd) (B : Bs mg) (T : Gs mg) (mBadWay : mg "BadWay" = some (.ref CBadWay)) (qBadWay : PySem.W.excIn K CBadWay bmV "ValueError.__new__" = true) (mBadTray : mg "BadTray" = some (.ref CBadTray)) (qBadTray : PySem.W.excIn K CBadTray bmV "ValueError.__new__" = true)  (clTray : Cls K CTray) (nTray_stock : NoAttr K CTray "stock") (cagreement : CalE P w K mg base 5 "agreement" [] (spBad2 K CBadWay)) (cjoined : CalE P w K mg base 5 "joined" [] (spBad2 K CBadWay)) (ckept : CalE P w K mg base 6 "kept" [] (spBad2 K CBadWay)) (clies_within : CalE P w K mg base 6 "lies_within" [] (spBad2 K CBadWay)) (cmet : CalE P w K mg base 5 "met" [] (spBad2 K CBadWay)) (cmoved : CalE P w K mg base 7 "moved" [] (spBad2 K CBadWay)) (coverlap : CalE P w K mg base 5 "overlap" [] (spBad2 K CBadWay)) (cpath : CalE P w K mg base 6 "path" [] (spBad2 K CBadWay)) (csteps : CalE P w K mg base 6 "steps" [] (spBad2 K CBadWay)) : FnOk P w K mg base CX0 8 f fd ["_law_turn", "_law_one", "_law_other"] (spTwoDoors K) := by
  have sc := sc_law_two_doors
  refine F.ok sc (fun vs H Q E h => ?_) (fun cdv A outer s H vs Q E hr h => ?_)
  · obtain ⟨t, a, b, ws, vs, rfl, _⟩ := h; rfl
  · obtain ⟨t, a, b, ws, vs, rfl, h0, h1, hS, hT, hb, k⟩ := h
    obtain ⟨f_joined, hm_joined, Djoined⟩ := cjoined.door (k := 7) (by decide)
    obtain ⟨f_met, hm_met, Dmet⟩ := cmet.door (k := 7) (by decide)
    obtain ⟨f_lies_within, hm_lies_within, Dlies_within⟩ := clies_within.door (k := 7) (by decide)
    obtain ⟨f_steps, hm_steps, Dsteps⟩ := csteps.door (k := 7) (by decide)
    obtain ⟨f_path, hm_path, Dpath⟩ := cpath.door (k := 7) (by decide)
    obtain ⟨f_overlap, hm_overlap, Doverlap⟩ := coverlap.door (k := 7) (by decide)
    obtain ⟨f_kept, hm_kept, Dkept⟩ := ckept.door (k := 7) (by decide)
    obtain ⟨f_moved, hm_moved, Dmoved⟩ := cmoved.door (k := 7) (by decide)
    obtain ⟨f_agreement, hm_agreement, Dagreement⟩ := cagreement.door (k := 7) (by decide)
    refine ⟨_, (pss_one (ps_try rfl rfl rfl rfl mBadWay qBadWay (fun _ _ => (pss_one (ps_ret (pe_doorS (P := P) (w := w) (K := K) (mg := mg) (base := base) (k := 7) (hr.mono (by decide)) pass_try (pe_ix (kix_list (K := K)) (pe_lst (pa_cons (pe_glob (v := .ref f_joined) rfl hm_joined rfl) (pa_cons (pe_glob (v := .ref f_met) rfl hm_met rfl) (pa_cons (pe_glob (v := .ref f_lies_within) rfl hm_lies_within rfl) (pa_cons (pe_glob (v := .ref f_steps) rfl hm_steps rfl) (pa_cons (pe_glob (v := .ref f_path) rfl hm_path rfl) (pa_cons (pe_glob (v := .ref f_overlap) rfl hm_overlap rfl) (pa_cons (pe_glob (v := .ref f_kept) rfl hm_kept rfl) (pa_cons (pe_glob (v := .ref f_moved) rfl hm_moved rfl) (pa_cons (pe_glob (v := .ref f_agreement) rfl hm_agreement rfl) pa_nil)))))))))) (pv 0) (fun _ _ => rfl)) (pa_cons (pv 1) (pa_cons (pv 2) pa_nil)))))) (fun _ _ => (pss_one (ps_ret (pe_lst (pa_cons pe_str pa_nil))))))), ?_⟩
    have hd : ∃ fz, atI ([V.ref f_joined, V.ref f_met, V.ref f_lies_within, V.ref f_steps, V.ref f_path, V.ref f_overlap, V.ref f_kept, V.ref f_moved, V.ref f_agreement] : List V) t = some (.ref fz) ∧ Door P w K mg base 7 fz (spBad2 K CBadWay) := by
      have ht : t = 0 ∨ t = 1 ∨ t = 2 ∨ t = 3 ∨ t = 4 ∨ t = 5 ∨ t = 6 ∨ t = 7 ∨ t = 8 := by omega
      rcases ht with rfl | rfl | rfl | rfl | rfl | rfl | rfl | rfl | rfl
      · exact ⟨_, rfl, Djoined⟩
      · exact ⟨_, rfl, Dmet⟩
      · exact ⟨_, rfl, Dlies_within⟩
      · exact ⟨_, rfl, Dsteps⟩
      · exact ⟨_, rfl, Dpath⟩
      · exact ⟨_, rfl, Doverlap⟩
      · exact ⟨_, rfl, Dkept⟩
      · exact ⟨_, rfl, Dmoved⟩
      · exact ⟨_, rfl, Dagreement⟩
    obtain ⟨fz, hat, Dz⟩ := hd
    refine ⟨le_line (by simp), fun l hl => ⟨_, rfl, l, _, _, _, rfl, rfl, SqL.of upd_same, hat, fz, _, rfl, Dz, _, rfl, _, rfl, a, b, ws, vs, rfl, (Same.new hl).seqT hS, (Same.new hl).seqT hT, hb, fun H' s' => ?_⟩⟩
    exact ⟨rfl, le_line (by simp), fun p hp => k p H' ((Same.new hl).trans s') hp⟩
theorem sc_law_council : FnScope (["_law_rows"]) (["_law_rows"]) (defScope s_law_council) := ⟨rfl, rfl, rfl, by decide +kernel, rfl, by decide +kernel, by decide +kernel⟩
set_option maxHeartbeats 4000000 in
theorem ok_law_council {f : Addr} {fd : FuncData} (F : Fun K "_law_council" "_law_council" s_law_council f fd) (B : Bs mg) (T : Gs mg) (mBadWay : mg "BadWay" = some (.ref CBadWay)) (qBadWay : PySem.W.excIn K CBadWay bmV "ValueError.__new__" = true) (mBadTray : mg "BadTray" = some (.ref CBadTray)) (qBadTray : PySem.W.excIn K CBadTray bmV "ValueError.__new__" = true)  (clTray : Cls K CTray) (nTray_stock : NoAttr K CTray "stock") (ccouncil : CalE P w K mg base 4 "council" [] (spCouncilB K CBadWay)) : FnOk P w K mg base CX0 5 f fd ["_law_rows"] (spLCouncil K) := by
  have sc := sc_law_council
  refine F.ok sc (fun vs H Q E h => ?_) (fun cdv A outer s H vs Q E hr h => ?_)
  · obtain ⟨l, as, U, rfl, _⟩ := h; rfl
  · obtain ⟨l, as, U, rfl, hl, hU, hz, hb, k⟩ := h
    refine ⟨_, (pss_one (ps_try rfl rfl rfl rfl mBadWay qBadWay (fun _ _ => (pss_one (ps_ret (pe_calE ccouncil (hr.mono (by decide)) rfl pass_try (pa_cons (pv 0) pa_nil))))) (fun _ _ => (pss_one (ps_ret (pe_lst (pa_cons pe_str pa_nil))))))), ?_⟩
    exact ⟨_, rfl, l, as, U, rfl, hl, hU, hz, hb, fun H' s' => ⟨rfl, le_line (by simp), fun p hp => k p H' s' hp⟩⟩
theorem sc_law_all_refuse : FnScope (["_law_row", "_law_good", "_law_turn", "_law_pair"]) (["_law_row", "_law_good"]) (defScope s_law_all_refuse) := ⟨rfl, rfl, rfl, by decide +kernel, rfl, by decide +kernel, by decide +kernel⟩
set_option maxHeartbeats 4000000 in
theorem ok_law_all_refuse {f : Addr} {fd : FuncData} (F : Fun K "_law_all_refuse" "_law_all_refuse" s_law_all_refuse f fd) (B : Bs mg) (T : Gs mg) (mBadWay : mg "BadWay" = some (.ref CBadWay)) (qBadWay : PySem.W.excIn K CBadWay bmV "ValueError.__new__" = true) (mBadTray : mg "BadTray" = some (.ref CBadTray)) (qBadTray : PySem.W.excIn K CBadTray bmV "ValueError.__new__" = true)  (clTray : Cls K CTray) (nTray_stock : NoAttr K CTray "stock") (c_law_council : Cal P w K mg base 5 "_law_council" [] (spLCouncil K)) (c_law_one_door : Cal P w K mg base 10 "_law_one_door" [] (spOneDoor K)) (c_law_refused : Cal P w K mg base 1 "_law_refused" [] (spRefused K)) (c_law_two_doors : Cal P w K mg base 8 "_law_two_doors" [] (spTwoDoors K)) : FnOk P w K mg base CX0 11 f fd ["_law_row", "_law_good"] (spAllRefuse K) := by
  have sc := sc_law_all_refuse
  refine F.ok sc (fun vs H Q E h => ?_) (fun cdv A outer s H vs Q E hr h => ?_)
  · obtain ⟨a, b, ws, vs, rfl, _⟩ := h; rfl
  · obtain ⟨a, b, ws, vs, rfl, hS, hT, hb, k⟩ := h
    refine ⟨_, (pss_cons (ps_for PassesOwn.never rfl (pi_range1 rfl B.range (pa_cons pe_int pa_nil)) (pg_name (i := 2) sc.nd rfl (Or.inl rfl))
      (pss_one (ps_if (pt_not (pt_val (pe_cal c_law_refused (hr.mono (by decide)) rfl (pa_cons (pe_cal c_law_one_door (hr.mono (by decide)) rfl (pa_cons (pv 2) (pa_cons (pv 0) pa_nil))) pa_nil)))) (pss_one (ps_ret pe_bl)) pss_nil)))
      (pss_cons (ps_for PassesOwn.never rfl (pi_range1 rfl B.range (pa_cons pe_int pa_nil)) (pg_name (i := 2) sc.nd rfl (Or.inl rfl))
      (pss_one (ps_for PassesOwn.never rfl (kpi_list (K := K) (pe_lst (pa_cons (pe_tup (pa_cons (pv 0) (pa_cons (pv 1) pa_nil))) (pa_cons (pe_tup (pa_cons (pv 1) (pa_cons (pv 0) pa_nil))) (pa_cons (pe_tup (pa_cons (pv 0) (pa_cons (pv 0) pa_nil))) pa_nil))))) (pg_name (i := 3) sc.nd rfl (Or.inl rfl))
      (pss_one (ps_if (pt_not (pt_val (pe_cal c_law_refused (hr.mono (by decide)) rfl (pa_cons (pe_cal c_law_two_doors (hr.mono (by decide)) rfl (pa_cons (pv 2) (pa_cons (pe_ix (kix_tup (K := K)) (pv 3) pe_int (fun _ _ => rfl)) (pa_cons (pe_ix (kix_tup (K := K)) (pv 3) pe_int (fun _ _ => rfl)) pa_nil)))) pa_nil)))) (pss_one (ps_ret pe_bl)) pss_nil)))))
      (pss_one (ps_ret (pe_callB (kc_all (K := K)) (by rfl) B.all PyProof.Rows.Boot.«all» (pa_cons (pe_lc (N' := ["_law_rows"]) (M := [none]) (lcSc_of (by rfl)) rfl (kpi_list (K := K) (pe_lst (pa_cons (pe_lst (pa_cons (pv 0) pa_nil)) (pa_cons (pe_lst (pa_cons (pv 1) (pa_cons (pv 0) pa_nil))) (pa_cons (pe_lst (pa_cons (pv 0) (pa_cons (pv 1) pa_nil))) (pa_cons (pe_lst (pa_cons (pv 0) (pa_cons (pv 0) (pa_cons (pv 0) pa_nil)))) pa_nil)))))) (fun _ _ _ _ _ => pg_name (i := 0) (show (["_law_rows"] : List Str).Nodup by decide +kernel) rfl (Or.inl rfl) (.inr rfl)) (frm_name rfl) (fun _ _ _ _ _ => pts_nil) (fun _ _ _ _ _ => (pe_cal c_law_refused (hr.mono (by decide)) rfl (pa_cons (pe_cal c_law_council (hr.mono (by decide)) rfl (pa_cons (pv 0) pa_nil)) pa_nil)))) pa_nil)))))), ?_⟩
    refine ⟨12, rfl, by decide, by decide, for_range (lo := 0) (n := 12) (fun i σ H2 => ∃ o : Option V, σ = [some (.ref a), some (.ref b), o, none] ∧ Same H H2) ⟨none, rfl, Same.refl _⟩ ?_ ?_⟩
    · rintro i σ H2 hi ⟨o, rfl, s2⟩
      refine ⟨_, rfl, _, rfl, _, a, ws, rfl, by omega, by omega, s2.seqT hS, hb, fun p H3 s3 hp => ⟨p, rfl, upd_same, _, rfl, iteF ?_⟩⟩
      exact ⟨_, rfl, (s2.trans s3).new2 hp⟩
    rintro σ H1 ⟨o, rfl, s1⟩
    refine ⟨9, rfl, by decide, by decide, for_range (lo := 0) (n := 9) (fun i σ H2 => ∃ o o' : Option V, σ = [some (.ref a), some (.ref b), o, o'] ∧ Same H H2) ⟨o, none, rfl, s1⟩ ?_ ?_⟩
    · rintro i σ H2 hi ⟨o, o', rfl, s2⟩
      refine ⟨_, rfl, _, rfl, le_line (by simp), fun t1 ht1 => ⟨_, rfl, _, rfl, le_line (by simp), fun t2 ht2 => ⟨_, rfl, _, rfl, le_line (by simp), fun t3 ht3 => ⟨le_line (by simp), fun l hl => ?_⟩⟩⟩⟩
      have s3 : Same H2 (upd (upd (upd (upd H2 t1 (HO.tup [.ref a, .ref b])) t2 (HO.tup [.ref b, .ref a])) t3 (HO.tup [.ref a, .ref a])) l (HO.lst [.ref t1, .ref t2, .ref t3])) := (((Same.new ht1).new2 ht2).new2 ht3).new2 hl
      have n1 : upd H2 t1 (HO.tup [.ref a, .ref b]) t1 = some (.tup [.ref a, .ref b]) := upd_same
      have n2 := (Same.new (o := HO.tup [.ref b, .ref a]) ht2) t1 _ n1
      have m2 : upd (upd H2 t1 (HO.tup [.ref a, .ref b])) t2 (HO.tup [.ref b, .ref a]) t2 = some (.tup [.ref b, .ref a]) := upd_same
      have n3 := ((Same.new (o := HO.tup [.ref a, .ref a]) ht3).new2 (o := HO.lst [.ref t1, .ref t2, .ref t3]) hl) t1 _ n2
      have m3 := ((Same.new (o := HO.tup [.ref a, .ref a]) ht3).new2 (o := HO.lst [.ref t1, .ref t2, .ref t3]) hl) t2 _ m2
      have q3 := (Same.new (o := HO.lst [.ref t1, .ref t2, .ref t3]) hl) t3 (HO.tup [.ref a, .ref a]) upd_same
      have hl3 : upd (upd (upd (upd H2 t1 (HO.tup [.ref a, .ref b])) t2 (HO.tup [.ref b, .ref a])) t3 (HO.tup [.ref a, .ref a])) l (HO.lst [.ref t1, .ref t2, .ref t3]) l = some (.lst ([t1, t2, t3].map V.ref)) := upd_same
      generalize upd (upd (upd (upd H2 t1 (HO.tup [.ref a, .ref b])) t2 (HO.tup [.ref b, .ref a])) t3 (HO.tup [.ref a, .ref a])) l (HO.lst [.ref t1, .ref t2, .ref t3]) = H3 at s3 n3 m3 q3 hl3
      have s13 := s2.trans s3
      refine ⟨l, rfl, ⟨_, SqL.of hl3⟩, for_list (K := K) (a := l) (xs := [t1, t2, t3].map V.ref) (fun j σ H4 => ∃ o' : Option V, σ = [some (.ref a), some (.ref b), some (.int (0 + (i : Int))), o'] ∧ Same H3 H4) ⟨_, rfl, Same.refl _⟩ (fun j σ H4 _ ⟨_, _, s4⟩ => SqL.of (s4 l _ hl3)) ?_ ?_⟩
      · rintro j y σ H4 hj ⟨o', rfl, s4⟩
        have hy : ∃ (q oa ob : Addr) (u1 u2 : List Int), y = .ref q ∧ H3 q = some (.tup [.ref oa, .ref ob]) ∧ SqT K H oa (u1.map V.int) ∧ SqT K H ob (u2.map V.int) ∧ (isWay u1 = false ∨ isWay u2 = false) := by
          match j, hj with
          | 0, hj => cases hj; exact ⟨t1, a, b, ws, vs, rfl, n3, hS, hT, .inl hb⟩
          | 1, hj => cases hj; exact ⟨t2, b, a, vs, ws, rfl, m3, hT, hS, .inr hb⟩
          | 2, hj => cases hj; exact ⟨t3, a, a, ws, ws, rfl, q3, hS, hS, .inl hb⟩
          | (n + 3), hj => cases hj
        obtain ⟨q, oa, ob, u1, u2, rfl, hq, hA, hB, hbad⟩ := hy
        have hq4 := s4 q _ hq
        have s14 := s13.trans s4
        refine gN ?_
        refine ⟨_, rfl, _, rfl, q, _, _, _, rfl, rfl, SqT.of hq4, rfl, _, rfl, q, _, _, _, rfl, rfl, SqT.of hq4, rfl, _, oa, ob, u1, u2, rfl, by omega, by omega, s14.seqT hA, s14.seqT hB, hbad, fun p H5 s5 hp => ⟨p, rfl, upd_same, _, rfl, iteF ?_⟩⟩
        exact ⟨_, rfl, (s4.trans s5).new2 hp⟩
      · rintro σ H4 ⟨o', rfl, s4⟩
        exact ⟨_, _, rfl, s13.trans s4⟩
    rintro σ H2 ⟨o, o', rfl, s2⟩
    refine ⟨_, rfl, le_line (by simp), fun l1 hl1 => ⟨_, rfl, _, rfl, le_line (by simp), fun l2 hl2 => ⟨_, rfl, _, rfl, le_line (by simp), fun l3 hl3 => ⟨_, rfl, _, rfl, _, rfl, le_line (by simp), fun l4 hl4 => ⟨le_line (by simp), fun l hl => ?_⟩⟩⟩⟩⟩
    have x1 := Same.new (o := HO.lst [V.ref a]) hl1
    have x2 := Same.new (o := HO.lst [V.ref b, V.ref a]) hl2
    have x3 := Same.new (o := HO.lst [V.ref a, V.ref b]) hl3
    have x4 := Same.new (o := HO.lst [V.ref a, V.ref a, V.ref a]) hl4
    have x5 := Same.new (o := HO.lst [V.ref l1, V.ref l2, V.ref l3, V.ref l4]) hl
    have e1 := (((x2.trans x3).trans x4).trans x5) l1 (HO.lst [V.ref a]) upd_same
    have e2 := ((x3.trans x4).trans x5) l2 (HO.lst [V.ref b, V.ref a]) upd_same
    have e3 := (x4.trans x5) l3 (HO.lst [V.ref a, V.ref b]) upd_same
    have e4 := x5 l4 (HO.lst [V.ref a, V.ref a, V.ref a]) upd_same
    have e5 : upd (upd (upd (upd (upd H2 l1 (HO.lst [V.ref a])) l2 (HO.lst [V.ref b, V.ref a])) l3 (HO.lst [V.ref a, V.ref b])) l4 (HO.lst [V.ref a, V.ref a, V.ref a])) l (HO.lst [V.ref l1, V.ref l2, V.ref l3, V.ref l4]) l = some (.lst ([l1, l2, l3, l4].map V.ref)) := upd_same
    have s3 := s2.trans ((((x1.trans x2).trans x3).trans x4).trans x5)
    generalize upd (upd (upd (upd (upd H2 l1 (HO.lst [V.ref a])) l2 (HO.lst [V.ref b, V.ref a])) l3 (HO.lst [V.ref a, V.ref b])) l4 (HO.lst [V.ref a, V.ref a, V.ref a])) l (HO.lst [V.ref l1, V.ref l2, V.ref l3, V.ref l4]) = H3 at e1 e2 e3 e4 e5 s3
    have S3 := s3.seqT hS
    have T3 := s3.seqT hT
    refine ⟨l, rfl, ⟨_, SqL.of e5⟩, lc_list (xs := [l1, l2, l3, l4].map V.ref) (fun j ys H4 => Same H3 H4 ∧ ys = (List.replicate j true).map V.bl) (le_line (by simp)) ⟨Same.refl _, rfl⟩
      (fun j ys H4 hj ⟨s4, e⟩ => ⟨SqL.of (s4 l _ e5), by rw [e, List.length_map, List.length_replicate]; omega⟩) ?_ ?_⟩
    · rintro j y ys H4 hj ⟨s4, rfl⟩
      have hy : ∃ (q : Addr) (as : List Addr) (U : List (List Int)), y = .ref q ∧ H3 q = some (.lst (as.map V.ref)) ∧ TsAt K H3 as U ∧ U.length ≤ 50 ∧ ∃ u ∈ U, isWay u = false := by
        match j, hj with
        | 0, hj => cases hj; exact ⟨l1, [a], [ws], rfl, e1, .cons S3 .nil, by simp, ws, by simp, hb⟩
        | 1, hj => cases hj; exact ⟨l2, [b, a], [vs, ws], rfl, e2, .cons T3 (.cons S3 .nil), by simp, ws, by simp, hb⟩
        | 2, hj => cases hj; exact ⟨l3, [a, b], [ws, vs], rfl, e3, .cons S3 (.cons T3 .nil), by simp, ws, by simp, hb⟩
        | 3, hj => cases hj; exact ⟨l4, [a, a, a], [ws, ws, ws], rfl, e4, .cons S3 (.cons S3 (.cons S3 .nil)), by simp, ws, by simp, hb⟩
        | (n + 4), hj => cases hj
      obtain ⟨q, as, U, rfl, hq, hU, h50, hbad⟩ := hy
      refine lcN ?_
      refine ⟨_, rfl, q, as, U, rfl, SqL.of (s4 q _ hq), L2.Paired.mapP hU fun a' xs z => s4.seqT z, h50, hbad, fun p H5 s5 hp => ⟨p, rfl, upd_same, (s4.trans s5).new2 hp, ?_⟩⟩
      rw [List.replicate_succ', List.map_append]; rfl
    · rintro ys H4 ⟨s4, rfl⟩ u hu
      exact ⟨u, List.replicate 4 true, rfl, .inl (SqL.of upd_same), k _ ((s3.trans s4).new2 hu)⟩
theorem sclaw : FnScope (["_law_script", "_law_k", "_law_row", "_law_good"]) (["_law_script"]) (defScope slaw) := ⟨rfl, rfl, rfl, by decide +kernel, rfl, by decide +kernel, by decide +kernel⟩
set_option maxHeartbeats 4000000 in
theorem oklaw {f : Addr} {fd : FuncData} (F : Fun K "law" "law" slaw f fd) (B : Bs mg) (T : Gs mg) (mBadWay : mg "BadWay" = some (.ref CBadWay)) (qBadWay : PySem.W.excIn K CBadWay bmV "ValueError.__new__" = true) (mBadTray : mg "BadTray" = some (.ref CBadTray)) (qBadTray : PySem.W.excIn K CBadTray bmV "ValueError.__new__" = true)  (clTray : Cls K CTray) (nTray_stock : NoAttr K CTray "stock") (c_law_all_refuse : Cal P w K mg base 11 "_law_all_refuse" [] (spAllRefuse K)) (c_law_cell : Cal P w K mg base 1 "_law_cell" [] (spCell K)) (c_law_many : Cal P w K mg base 1 "_law_many" [] (spMany K)) (c_law_row_ok : Cal P w K mg base 1 "_law_row_ok" [] (spRowOk K)) (c_law_some_row : Cal P w K mg base 3 "_law_some_row" [] (spSome K)) (c_law_way : Cal P w K mg base 2 "_law_way" [] (spWay K)) : FnOk P w K mg base CX0 12 f fd ["_law_script"] (spLaw K) := by
  have sc := sclaw
  refine F.ok sc (fun vs H Q E h => ?_) (fun cdv A outer s H vs Q E hr h => ?_)
  · obtain ⟨a, ns, rfl, _⟩ := h; rfl
  · obtain ⟨a, ns, rfl, hS, hlen, k⟩ := h
    refine ⟨_, (pss_cons (ps_for PassesOwn.never rfl (pi_range1 rfl B.range (pa_cons (pe_cal c_law_many (hr.mono (by decide)) rfl (pa_cons (pv 0) (pa_cons pe_int pa_nil))) pa_nil)) (pg_name (i := 1) sc.nd rfl (Or.inl rfl))
      (pss_cons (ps_set (i := 2) sc.nd rfl (Or.inl rfl) (pe_cal c_law_some_row (hr.mono (by decide)) rfl (pa_cons (pe_cal c_law_cell (hr.mono (by decide)) rfl (pa_cons (pv 0) (pa_cons (pv 1) pa_nil))) pa_nil)))
      (pss_cons (ps_set (i := 3) sc.nd rfl (Or.inl rfl) (pe_cal c_law_way (hr.mono (by decide)) rfl (pa_cons (pe_cal c_law_cell (hr.mono (by decide)) rfl (pa_cons (pv 0) (pa_cons (pe_op op_add (pv 1) pe_int) pa_nil))) (pa_cons (pe_callB kc_min2 (by rfl) B.min PyProof.Rows.Boot.«min» (pa_cons pe_int (pa_cons (pe_callB kc_max2 (by rfl) B.max PyProof.Rows.Boot.«max» (pa_cons pe_int (pa_cons (pe_callB (kc_len (K := K)) (by rfl) B.len PyProof.Rows.Boot.«len» (pa_cons (pv 2) pa_nil)) pa_nil))) pa_nil))) pa_nil))))
      (pss_one (ps_if (PW.pt (pw_and (pt_not (pt_val (pe_cal c_law_row_ok (hr.mono (by decide)) rfl (pa_cons (pv 2) pa_nil)))) (pw_and1 (pt_not (pt_val (pe_cal c_law_all_refuse (hr.mono (by decide)) rfl (pa_cons (pv 2) (pa_cons (pv 3) pa_nil)))))))) (pss_one (ps_ret pe_bl)) pss_nil)))))
      (pss_one (ps_ret pe_bl))), ?_⟩
    refine ⟨_, rfl, a, ns, 3, rfl, hS, fun z hz0 hz1 => ?_⟩
    refine ⟨_, rfl, by omega, by omega, for_range (lo := 0) (n := z.toNat) (fun i σ H2 => ∃ (o1 o2 o3 : Option V), σ = [some (.ref a), o1, o2, o3] ∧ Same H H2)
      ⟨none, none, none, rfl, Same.refl H⟩ ?_ ?_⟩
    · rintro i σ H2 hi ⟨o1, o2, o3, rfl, s2⟩
      refine ⟨_, rfl, _, rfl, a, ns, _, rfl, s2.seq hS, by omega, by omega, by omega, fun cell => ?_⟩
      refine ⟨cell, rfl, fun p ws H3 s3 hp hl => ?_⟩
      refine ⟨_, rfl, _, rfl, _, _, rfl, rfl, a, ns, _, rfl, (s2.trans s3).seq hS, by omega, by omega, by omega, fun cell2 => ?_⟩
      refine ⟨_, rfl, p, _, rfl, .inr hp, _, _, rfl, _, _, rfl, ?_⟩
      rw [ltm]
      generalize hm : (if (if (ws.length : Int) > 1 then (ws.length : Int) else 1) < 9 then (if (ws.length : Int) > 1 then (ws.length : Int) else 1) else 9) = m
      have m1 : 1 ≤ m := by split at hm <;> split at hm <;> omega
      have m9 : m ≤ 9 := by split at hm <;> split at hm <;> omega
      refine ⟨cell2, m, rfl, by omega, by omega, fun g us H4 _ s4 hg hul huw => ?_⟩
      have hp4 := s4.seqT hp
      refine ⟨_, rfl, p, ws, rfl, hp4, hl, fun H5 s5 => ⟨_, rfl, ?_⟩⟩
      have S5 := ((s2.trans s3).trans s4).trans s5
      rw [← way_rowOk]
      cases hw : isWay ws with
      | true => exact ⟨_, _, _, rfl, S5⟩
      | false =>
        refine ⟨_, rfl, _, rfl, p, g, ws, us, rfl, s5.seqT hp4, SqT.of (s5 g _ hg), hw, fun H6 s6 => ⟨_, rfl, ?_⟩⟩
        exact ⟨_, _, _, rfl, S5.trans s6⟩
    · rintro σ H2 ⟨o1, o2, o3, rfl, s2⟩
      exact k H2
end
set_option maxHeartbeats 4000000 in
theorem all_mk {l : PySem.W.OpenLaw} {w : World} {K : PySem.W.Frag} {h : Heap} {mg : Str → Option Value} {fa : Addr} (X : K.In h) (G : h.Ns mainGlobals mg) (hfa : mg "law" = some (.ref fa))
    {f1 : Addr} {od1 an1 : Option Addr} {sl1 : Array (Option Value)} {oc1 kV1 dc1 pm1 cd1 ct1 : Value} {f2 : Addr} {od2 an2 : Option Addr} {sl2 : Array (Option Value)} {oc2 kV2 dc2 pm2 cd2 ct2 : Value} {f3 : Addr} {od3 an3 : Option Addr} {sl3 : Array (Option Value)} {oc3 kV3 dc3 pm3 cd3 ct3 : Value} {f4 : Addr} {od4 an4 : Option Addr} {sl4 : Array (Option Value)} {oc4 kV4 dc4 pm4 cd4 ct4 : Value} {f5 : Addr} {od5 an5 : Option Addr} {sl5 : Array (Option Value)} {oc5 kV5 dc5 pm5 cd5 ct5 : Value} {f6 : Addr} {od6 an6 : Option Addr} {sl6 : Array (Option Value)} {oc6 kV6 dc6 pm6 cd6 ct6 : Value} {f7 : Addr} {od7 an7 : Option Addr} {sl7 : Array (Option Value)} {oc7 kV7 dc7 pm7 cd7 ct7 : Value} {f8 : Addr} {od8 an8 : Option Addr} {sl8 : Array (Option Value)} {oc8 kV8 dc8 pm8 cd8 ct8 : Value} {f9 : Addr} {od9 an9 : Option Addr} {sl9 : Array (Option Value)} {oc9 kV9 dc9 pm9 cd9 ct9 : Value} {f10 : Addr} {od10 an10 : Option Addr} {sl10 : Array (Option Value)} {oc10 kV10 dc10 pm10 cd10 ct10 : Value} {f11 : Addr} {od11 an11 : Option Addr} {sl11 : Array (Option Value)} {oc11 kV11 dc11 pm11 cd11 ct11 : Value} {f12 : Addr} {od12 an12 : Option Addr} {sl12 : Array (Option Value)} {oc12 kV12 dc12 pm12 cd12 ct12 : Value} {f13 : Addr} {od13 an13 : Option Addr} {sl13 : Array (Option Value)} {oc13 kV13 dc13 pm13 cd13 ct13 : Value} {f14 : Addr} {od14 an14 : Option Addr} {sl14 : Array (Option Value)} {oc14 kV14 dc14 pm14 cd14 ct14 : Value} {f15 : Addr} {od15 an15 : Option Addr} {sl15 : Array (Option Value)} {oc15 kV15 dc15 pm15 cd15 ct15 : Value} {f16 : Addr} {od16 an16 : Option Addr} {sl16 : Array (Option Value)} {oc16 kV16 dc16 pm16 cd16 ct16 : Value} {f17 : Addr} {od17 an17 : Option Addr} {sl17 : Array (Option Value)} {oc17 kV17 dc17 pm17 cd17 ct17 : Value} {f18 : Addr} {od18 an18 : Option Addr} {sl18 : Array (Option Value)} {oc18 kV18 dc18 pm18 cd18 ct18 : Value} {f19 : Addr} {od19 an19 : Option Addr} {sl19 : Array (Option Value)} {oc19 kV19 dc19 pm19 cd19 ct19 : Value} {f20 : Addr} {od20 an20 : Option Addr} {sl20 : Array (Option Value)} {oc20 kV20 dc20 pm20 cd20 ct20 : Value} {f21 : Addr} {od21 an21 : Option Addr} {sl21 : Array (Option Value)} {oc21 kV21 dc21 pm21 cd21 ct21 : Value} {f22 : Addr} {od22 an22 : Option Addr} {sl22 : Array (Option Value)} {oc22 kV22 dc22 pm22 cd22 ct22 : Value} {f23 : Addr} {od23 an23 : Option Addr} {sl23 : Array (Option Value)} {oc23 kV23 dc23 pm23 cd23 ct23 : Value} {f24 : Addr} {od24 an24 : Option Addr} {sl24 : Array (Option Value)} {oc24 kV24 dc24 pm24 cd24 ct24 : Value} {f25 : Addr} {od25 an25 : Option Addr} {sl25 : Array (Option Value)} {oc25 kV25 dc25 pm25 cd25 ct25 : Value} {f26 : Addr} {od26 an26 : Option Addr} {sl26 : Array (Option Value)} {oc26 kV26 dc26 pm26 cd26 ct26 : Value} {f27 : Addr} {od27 an27 : Option Addr} {sl27 : Array (Option Value)} {oc27 kV27 dc27 pm27 cd27 ct27 : Value} {f28 : Addr} {od28 an28 : Option Addr} {sl28 : Array (Option Value)} {oc28 kV28 dc28 pm28 cd28 ct28 : Value} {f29 : Addr} {od29 an29 : Option Addr} {sl29 : Array (Option Value)} {oc29 kV29 dc29 pm29 cd29 ct29 : Value} {f30 : Addr} {od30 an30 : Option Addr} {sl30 : Array (Option Value)} {oc30 kV30 dc30 pm30 cd30 ct30 : Value} {f31 : Addr} {od31 an31 : Option Addr} {sl31 : Array (Option Value)} {oc31 kV31 dc31 pm31 cd31 ct31 : Value} {f32 : Addr} {od32 an32 : Option Addr} {sl32 : Array (Option Value)} {oc32 kV32 dc32 pm32 cd32 ct32 : Value} {f33 : Addr} {od33 an33 : Option Addr} {sl33 : Array (Option Value)} {oc33 kV33 dc33 pm33 cd33 ct33 : Value} {f34 : Addr} {od34 an34 : Option Addr} {sl34 : Array (Option Value)} {oc34 kV34 dc34 pm34 cd34 ct34 : Value} {f35 : Addr} {od35 an35 : Option Addr} {sl35 : Array (Option Value)} {oc35 kV35 dc35 pm35 cd35 ct35 : Value} {f36 : Addr} {od36 an36 : Option Addr} {sl36 : Array (Option Value)} {oc36 kV36 dc36 pm36 cd36 ct36 : Value} {f37 : Addr} {od37 an37 : Option Addr} {sl37 : Array (Option Value)} {oc37 kV37 dc37 pm37 cd37 ct37 : Value} {T37 : Addr} {oT37 : Obj} {nT37 : Nat} {tk37 : Tok} {f38 : Addr} {od38 an38 : Option Addr} {sl38 : Array (Option Value)} {oc38 kV38 dc38 pm38 cd38 ct38 : Value} {f39 : Addr} {od39 an39 : Option Addr} {sl39 : Array (Option Value)} {oc39 kV39 dc39 pm39 cd39 ct39 : Value} {f40 : Addr} {od40 an40 : Option Addr} {sl40 : Array (Option Value)} {oc40 kV40 dc40 pm40 cd40 ct40 : Value} {f41 : Addr} {od41 an41 : Option Addr} {sl41 : Array (Option Value)} {oc41 kV41 dc41 pm41 cd41 ct41 : Value} {f42 : Addr} {od42 an42 : Option Addr} {sl42 : Array (Option Value)} {oc42 kV42 dc42 pm42 cd42 ct42 : Value} {f43 : Addr} {od43 an43 : Option Addr} {sl43 : Array (Option Value)} {oc43 kV43 dc43 pm43 cd43 ct43 : Value} {f44 : Addr} {od44 an44 : Option Addr} {sl44 : Array (Option Value)} {oc44 kV44 dc44 pm44 cd44 ct44 : Value} {f45 : Addr} {od45 an45 : Option Addr} {sl45 : Array (Option Value)} {oc45 kV45 dc45 pm45 cd45 ct45 : Value} {tg0 : Tok} {tg1 : Tok} {tg2 : Tok} {tg3 : Tok} {CBadWay : Addr} {CBadTray : Addr} {CTray : Addr}
    (a1 : PySem.W.nsIn K mainGlobals "_law_draw" = some (some (.ref f1)))
    (l1 : K.lookup f1 = some ⟨oc1, od1, .func (PySem.W.fnOf "_law_draw" "_law_draw" (defArgs s_law_draw) (defBody s_law_draw) (defScope s_law_draw) .none kV1 dc1 pm1 an1 cd1 ct1), sl1⟩)
    (c1 : PySem.W.codeIn K cd1 "_law_draw" = true) (k1 : PySem.W.keepIn K (.ref f1) = true)
    (a2 : PySem.W.nsIn K mainGlobals "_law_cell" = some (some (.ref f2)))
    (l2 : K.lookup f2 = some ⟨oc2, od2, .func (PySem.W.fnOf "_law_cell" "_law_cell" (defArgs s_law_cell) (defBody s_law_cell) (defScope s_law_cell) .none kV2 dc2 pm2 an2 cd2 ct2), sl2⟩)
    (c2 : PySem.W.codeIn K cd2 "_law_cell" = true) (k2 : PySem.W.keepIn K (.ref f2) = true)
    (a3 : PySem.W.nsIn K mainGlobals "_law_many" = some (some (.ref f3)))
    (l3 : K.lookup f3 = some ⟨oc3, od3, .func (PySem.W.fnOf "_law_many" "_law_many" (defArgs s_law_many) (defBody s_law_many) (defScope s_law_many) .none kV3 dc3 pm3 an3 cd3 ct3), sl3⟩)
    (c3 : PySem.W.codeIn K cd3 "_law_many" = true) (k3 : PySem.W.keepIn K (.ref f3) = true)
    (a4 : PySem.W.nsIn K mainGlobals "is_way" = some (some (.ref f4)))
    (l4 : K.lookup f4 = some ⟨oc4, od4, .func (PySem.W.fnOf "is_way" "is_way" (defArgs sis_way) (defBody sis_way) (defScope sis_way) .none kV4 dc4 pm4 an4 cd4 ct4), sl4⟩)
    (c4 : PySem.W.codeIn K cd4 "is_way" = true) (k4 : PySem.W.keepIn K (.ref f4) = true)
    (a5 : PySem.W.nsIn K mainGlobals "check_way" = some (some (.ref f5)))
    (l5 : K.lookup f5 = some ⟨oc5, od5, .func (PySem.W.fnOf "check_way" "check_way" (defArgs scheck_way) (defBody scheck_way) (defScope scheck_way) .none kV5 dc5 pm5 an5 cd5 ct5), sl5⟩)
    (c5 : PySem.W.codeIn K cd5 "check_way" = true) (k5 : PySem.W.keepIn K (.ref f5) = true)
    (a6 : PySem.W.nsIn K mainGlobals "check_way_of" = some (some (.ref f6)))
    (l6 : K.lookup f6 = some ⟨oc6, od6, .func (PySem.W.fnOf "check_way_of" "check_way_of" (defArgs scheck_way_of) (defBody scheck_way_of) (defScope scheck_way_of) .none kV6 dc6 pm6 an6 cd6 ct6), sl6⟩)
    (c6 : PySem.W.codeIn K cd6 "check_way_of" = true) (k6 : PySem.W.keepIn K (.ref f6) = true)
    (a7 : PySem.W.nsIn K mainGlobals "check_two_ways" = some (some (.ref f7)))
    (l7 : K.lookup f7 = some ⟨oc7, od7, .func (PySem.W.fnOf "check_two_ways" "check_two_ways" (defArgs scheck_two_ways) (defBody scheck_two_ways) (defScope scheck_two_ways) .none kV7 dc7 pm7 an7 cd7 ct7), sl7⟩)
    (c7 : PySem.W.codeIn K cd7 "check_two_ways" = true) (k7 : PySem.W.keepIn K (.ref f7) = true)
    (a8 : PySem.W.nsIn K mainGlobals "woods" = some (some (.ref f8)))
    (l8 : K.lookup f8 = some ⟨oc8, od8, .func (PySem.W.fnOf "woods" "woods" (defArgs swoods) (defBody swoods) (defScope swoods) .none kV8 dc8 pm8 an8 cd8 ct8), sl8⟩)
    (c8 : PySem.W.codeIn K cd8 "woods" = true) (k8 : PySem.W.keepIn K (.ref f8) = true)
    (a9 : PySem.W.nsIn K mainGlobals "alike" = some (some (.ref f9)))
    (l9 : K.lookup f9 = some ⟨oc9, od9, .func (PySem.W.fnOf "alike" "alike" (defArgs salike) (defBody salike) (defScope salike) .none kV9 dc9 pm9 an9 cd9 ct9), sl9⟩)
    (c9 : PySem.W.codeIn K cd9 "alike" = true) (k9 : PySem.W.keepIn K (.ref f9) = true)
    (a10 : PySem.W.nsIn K mainGlobals "lots" = some (some (.ref f10)))
    (l10 : K.lookup f10 = some ⟨oc10, od10, .func (PySem.W.fnOf "lots" "lots" (defArgs slots) (defBody slots) (defScope slots) .none kV10 dc10 pm10 an10 cd10 ct10), sl10⟩)
    (c10 : PySem.W.codeIn K cd10 "lots" = true) (k10 : PySem.W.keepIn K (.ref f10) = true)
    (a11 : PySem.W.nsIn K mainGlobals "joined" = some (some (.ref f11)))
    (l11 : K.lookup f11 = some ⟨oc11, od11, .func (PySem.W.fnOf "joined" "joined" (defArgs sjoined) (defBody sjoined) (defScope sjoined) .none kV11 dc11 pm11 an11 cd11 ct11), sl11⟩)
    (c11 : PySem.W.codeIn K cd11 "joined" = true) (k11 : PySem.W.keepIn K (.ref f11) = true)
    (a12 : PySem.W.nsIn K mainGlobals "met" = some (some (.ref f12)))
    (l12 : K.lookup f12 = some ⟨oc12, od12, .func (PySem.W.fnOf "met" "met" (defArgs smet) (defBody smet) (defScope smet) .none kV12 dc12 pm12 an12 cd12 ct12), sl12⟩)
    (c12 : PySem.W.codeIn K cd12 "met" = true) (k12 : PySem.W.keepIn K (.ref f12) = true)
    (a13 : PySem.W.nsIn K mainGlobals "lies_within" = some (some (.ref f13)))
    (l13 : K.lookup f13 = some ⟨oc13, od13, .func (PySem.W.fnOf "lies_within" "lies_within" (defArgs slies_within) (defBody slies_within) (defScope slies_within) .none kV13 dc13 pm13 an13 cd13 ct13), sl13⟩)
    (c13 : PySem.W.codeIn K cd13 "lies_within" = true) (k13 : PySem.W.keepIn K (.ref f13) = true)
    (a14 : PySem.W.nsIn K mainGlobals "turned" = some (some (.ref f14)))
    (l14 : K.lookup f14 = some ⟨oc14, od14, .func (PySem.W.fnOf "turned" "turned" (defArgs sturned) (defBody sturned) (defScope sturned) .none kV14 dc14 pm14 an14 cd14 ct14), sl14⟩)
    (c14 : PySem.W.codeIn K cd14 "turned" = true) (k14 : PySem.W.keepIn K (.ref f14) = true)
    (a15 : PySem.W.nsIn K mainGlobals "chance_behind" = some (some (.ref f15)))
    (l15 : K.lookup f15 = some ⟨oc15, od15, .func (PySem.W.fnOf "chance_behind" "chance_behind" (defArgs schance_behind) (defBody schance_behind) (defScope schance_behind) .none kV15 dc15 pm15 an15 cd15 ct15), sl15⟩)
    (c15 : PySem.W.codeIn K cd15 "chance_behind" = true) (k15 : PySem.W.keepIn K (.ref f15) = true)
    (a16 : PySem.W.nsIn K mainGlobals "chance" = some (some (.ref f16)))
    (l16 : K.lookup f16 = some ⟨oc16, od16, .func (PySem.W.fnOf "chance" "chance" (defArgs schance) (defBody schance) (defScope schance) .none kV16 dc16 pm16 an16 cd16 ct16), sl16⟩)
    (c16 : PySem.W.codeIn K cd16 "chance" = true) (k16 : PySem.W.keepIn K (.ref f16) = true)
    (a17 : PySem.W.nsIn K mainGlobals "agreement" = some (some (.ref f17)))
    (l17 : K.lookup f17 = some ⟨oc17, od17, .func (PySem.W.fnOf "agreement" "agreement" (defArgs sagreement) (defBody sagreement) (defScope sagreement) .none kV17 dc17 pm17 an17 cd17 ct17), sl17⟩)
    (c17 : PySem.W.codeIn K cd17 "agreement" = true) (k17 : PySem.W.keepIn K (.ref f17) = true)
    (a18 : PySem.W.nsIn K mainGlobals "council" = some (some (.ref f18)))
    (l18 : K.lookup f18 = some ⟨oc18, od18, .func (PySem.W.fnOf "council" "council" (defArgs scouncil) (defBody scouncil) (defScope scouncil) .none kV18 dc18 pm18 an18 cd18 ct18), sl18⟩)
    (c18 : PySem.W.codeIn K cd18 "council" = true) (k18 : PySem.W.keepIn K (.ref f18) = true)
    (a19 : PySem.W.nsIn K mainGlobals "stretches" = some (some (.ref f19)))
    (l19 : K.lookup f19 = some ⟨oc19, od19, .func (PySem.W.fnOf "stretches" "stretches" (defArgs sstretches) (defBody sstretches) (defScope sstretches) .none kV19 dc19 pm19 an19 cd19 ct19), sl19⟩)
    (c19 : PySem.W.codeIn K cd19 "stretches" = true) (k19 : PySem.W.keepIn K (.ref f19) = true)
    (a20 : PySem.W.nsIn K mainGlobals "lie" = some (some (.ref f20)))
    (l20 : K.lookup f20 = some ⟨oc20, od20, .func (PySem.W.fnOf "lie" "lie" (defArgs slie) (defBody slie) (defScope slie) .none kV20 dc20 pm20 an20 cd20 ct20), sl20⟩)
    (c20 : PySem.W.codeIn K cd20 "lie" = true) (k20 : PySem.W.keepIn K (.ref f20) = true)
    (a21 : PySem.W.nsIn K mainGlobals "heights" = some (some (.ref f21)))
    (l21 : K.lookup f21 = some ⟨oc21, od21, .func (PySem.W.fnOf "heights" "heights" (defArgs sheights) (defBody sheights) (defScope sheights) .none kV21 dc21 pm21 an21 cd21 ct21), sl21⟩)
    (c21 : PySem.W.codeIn K cd21 "heights" = true) (k21 : PySem.W.keepIn K (.ref f21) = true)
    (a22 : PySem.W.nsIn K mainGlobals "mark" = some (some (.ref f22)))
    (l22 : K.lookup f22 = some ⟨oc22, od22, .func (PySem.W.fnOf "mark" "mark" (defArgs smark) (defBody smark) (defScope smark) .none kV22 dc22 pm22 an22 cd22 ct22), sl22⟩)
    (c22 : PySem.W.codeIn K cd22 "mark" = true) (k22 : PySem.W.keepIn K (.ref f22) = true)
    (a23 : PySem.W.nsIn K mainGlobals "number" = some (some (.ref f23)))
    (l23 : K.lookup f23 = some ⟨oc23, od23, .func (PySem.W.fnOf "number" "number" (defArgs snumber) (defBody snumber) (defScope snumber) .none kV23 dc23 pm23 an23 cd23 ct23), sl23⟩)
    (c23 : PySem.W.codeIn K cd23 "number" = true) (k23 : PySem.W.keepIn K (.ref f23) = true)
    (a24 : PySem.W.nsIn K mainGlobals "following" = some (some (.ref f24)))
    (l24 : K.lookup f24 = some ⟨oc24, od24, .func (PySem.W.fnOf "following" "following" (defArgs sfollowing) (defBody sfollowing) (defScope sfollowing) .none kV24 dc24 pm24 an24 cd24 ct24), sl24⟩)
    (c24 : PySem.W.codeIn K cd24 "following" = true) (k24 : PySem.W.keepIn K (.ref f24) = true)
    (a25 : PySem.W.nsIn K mainGlobals "overlap" = some (some (.ref f25)))
    (l25 : K.lookup f25 = some ⟨oc25, od25, .func (PySem.W.fnOf "overlap" "overlap" (defArgs soverlap) (defBody soverlap) (defScope soverlap) .none kV25 dc25 pm25 an25 cd25 ct25), sl25⟩)
    (c25 : PySem.W.codeIn K cd25 "overlap" = true) (k25 : PySem.W.keepIn K (.ref f25) = true)
    (a26 : PySem.W.nsIn K mainGlobals "kept" = some (some (.ref f26)))
    (l26 : K.lookup f26 = some ⟨oc26, od26, .func (PySem.W.fnOf "kept" "kept" (defArgs skept) (defBody skept) (defScope skept) .none kV26 dc26 pm26 an26 cd26 ct26), sl26⟩)
    (c26 : PySem.W.codeIn K cd26 "kept" = true) (k26 : PySem.W.keepIn K (.ref f26) = true)
    (a27 : PySem.W.nsIn K mainGlobals "moved" = some (some (.ref f27)))
    (l27 : K.lookup f27 = some ⟨oc27, od27, .func (PySem.W.fnOf "moved" "moved" (defArgs smoved) (defBody smoved) (defScope smoved) .none kV27 dc27 pm27 an27 cd27 ct27), sl27⟩)
    (c27 : PySem.W.codeIn K cd27 "moved" = true) (k27 : PySem.W.keepIn K (.ref f27) = true)
    (a28 : PySem.W.nsIn K mainGlobals "joinings" = some (some (.ref f28)))
    (l28 : K.lookup f28 = some ⟨oc28, od28, .func (PySem.W.fnOf "joinings" "joinings" (defArgs sjoinings) (defBody sjoinings) (defScope sjoinings) .none kV28 dc28 pm28 an28 cd28 ct28), sl28⟩)
    (c28 : PySem.W.codeIn K cd28 "joinings" = true) (k28 : PySem.W.keepIn K (.ref f28) = true)
    (a29 : PySem.W.nsIn K mainGlobals "partings" = some (some (.ref f29)))
    (l29 : K.lookup f29 = some ⟨oc29, od29, .func (PySem.W.fnOf "partings" "partings" (defArgs spartings) (defBody spartings) (defScope spartings) .none kV29 dc29 pm29 an29 cd29 ct29), sl29⟩)
    (c29 : PySem.W.codeIn K cd29 "partings" = true) (k29 : PySem.W.keepIn K (.ref f29) = true)
    (a30 : PySem.W.nsIn K mainGlobals "steps" = some (some (.ref f30)))
    (l30 : K.lookup f30 = some ⟨oc30, od30, .func (PySem.W.fnOf "steps" "steps" (defArgs ssteps) (defBody ssteps) (defScope ssteps) .none kV30 dc30 pm30 an30 cd30 ct30), sl30⟩)
    (c30 : PySem.W.codeIn K cd30 "steps" = true) (k30 : PySem.W.keepIn K (.ref f30) = true)
    (a31 : PySem.W.nsIn K mainGlobals "path" = some (some (.ref f31)))
    (l31 : K.lookup f31 = some ⟨oc31, od31, .func (PySem.W.fnOf "path" "path" (defArgs spath) (defBody spath) (defScope spath) .none kV31 dc31 pm31 an31 cd31 ct31), sl31⟩)
    (c31 : PySem.W.codeIn K cd31 "path" = true) (k31 : PySem.W.keepIn K (.ref f31) = true)
    (a32 : PySem.W.nsIn K mainGlobals "is_name" = some (some (.ref f32)))
    (l32 : K.lookup f32 = some ⟨oc32, od32, .func (PySem.W.fnOf "is_name" "is_name" (defArgs sis_name) (defBody sis_name) (defScope sis_name) .none kV32 dc32 pm32 an32 cd32 ct32), sl32⟩)
    (c32 : PySem.W.codeIn K cd32 "is_name" = true) (k32 : PySem.W.keepIn K (.ref f32) = true)
    (a33 : PySem.W.nsIn K mainGlobals "check_woods" = some (some (.ref f33)))
    (l33 : K.lookup f33 = some ⟨oc33, od33, .func (PySem.W.fnOf "check_woods" "check_woods" (defArgs scheck_woods) (defBody scheck_woods) (defScope scheck_woods) .none kV33 dc33 pm33 an33 cd33 ct33), sl33⟩)
    (c33 : PySem.W.codeIn K cd33 "check_woods" = true) (k33 : PySem.W.keepIn K (.ref f33) = true)
    (a34 : PySem.W.findIn K (.ref CTray) "__init__" = some (some (.ref f34))) (i34 : PySem.W.isFn K (.ref f34) = true)
    (l34 : K.lookup f34 = some ⟨oc34, od34, .func (PySem.W.fnOf "__init__" "Tray.__init__" (defArgs sTray___init__) (defBody sTray___init__) (defScope sTray___init__) .none kV34 dc34 pm34 an34 cd34 ct34), sl34⟩)
    (c34 : PySem.W.codeIn K cd34 "Tray.__init__" = true) (k34 : PySem.W.keepIn K (.ref f34) = true)
    (a35 : PySem.W.nsIn K mainGlobals "_law_row_ok" = some (some (.ref f35)))
    (l35 : K.lookup f35 = some ⟨oc35, od35, .func (PySem.W.fnOf "_law_row_ok" "_law_row_ok" (defArgs s_law_row_ok) (defBody s_law_row_ok) (defScope s_law_row_ok) .none kV35 dc35 pm35 an35 cd35 ct35), sl35⟩)
    (c35 : PySem.W.codeIn K cd35 "_law_row_ok" = true) (k35 : PySem.W.keepIn K (.ref f35) = true)
    (a36 : PySem.W.nsIn K mainGlobals "_law_way" = some (some (.ref f36)))
    (l36 : K.lookup f36 = some ⟨oc36, od36, .func (PySem.W.fnOf "_law_way" "_law_way" (defArgs s_law_way) (defBody s_law_way) (defScope s_law_way) .none kV36 dc36 pm36 an36 cd36 ct36), sl36⟩)
    (c36 : PySem.W.codeIn K cd36 "_law_way" = true) (k36 : PySem.W.keepIn K (.ref f36) = true)
    (a37 : PySem.W.nsIn K mainGlobals "_law_split" = some (some (.ref f37)))
    (l37 : K.lookup f37 = some ⟨oc37, od37, .func (PySem.W.fnOf "_law_split" "_law_split" (defArgs s_law_split) (defBody s_law_split) (defScope s_law_split) (.ref T37) kV37 dc37 pm37 an37 cd37 ct37), sl37⟩)
    (c37 : PySem.W.codeIn K cd37 "_law_split" = true) (k37 : PySem.W.keepIn K (.ref f37) = true)
    (lT37 : K.lookup T37 = some oT37) (dT37 : oT37.data = .seq [Value.int 0 tk37].toArray nT37)
    (a38 : PySem.W.nsIn K mainGlobals "_law_refused" = some (some (.ref f38)))
    (l38 : K.lookup f38 = some ⟨oc38, od38, .func (PySem.W.fnOf "_law_refused" "_law_refused" (defArgs s_law_refused) (defBody s_law_refused) (defScope s_law_refused) .none kV38 dc38 pm38 an38 cd38 ct38), sl38⟩)
    (c38 : PySem.W.codeIn K cd38 "_law_refused" = true) (k38 : PySem.W.keepIn K (.ref f38) = true)
    (a39 : PySem.W.nsIn K mainGlobals "_law_some_row" = some (some (.ref f39)))
    (l39 : K.lookup f39 = some ⟨oc39, od39, .func (PySem.W.fnOf "_law_some_row" "_law_some_row" (defArgs s_law_some_row) (defBody s_law_some_row) (defScope s_law_some_row) .none kV39 dc39 pm39 an39 cd39 ct39), sl39⟩)
    (c39 : PySem.W.codeIn K cd39 "_law_some_row" = true) (k39 : PySem.W.keepIn K (.ref f39) = true)
    (a40 : PySem.W.nsIn K mainGlobals "_law_more_doors" = some (some (.ref f40)))
    (l40 : K.lookup f40 = some ⟨oc40, od40, .func (PySem.W.fnOf "_law_more_doors" "_law_more_doors" (defArgs s_law_more_doors) (defBody s_law_more_doors) (defScope s_law_more_doors) .none kV40 dc40 pm40 an40 cd40 ct40), sl40⟩)
    (c40 : PySem.W.codeIn K cd40 "_law_more_doors" = true) (k40 : PySem.W.keepIn K (.ref f40) = true)
    (a41 : PySem.W.nsIn K mainGlobals "_law_one_door" = some (some (.ref f41)))
    (l41 : K.lookup f41 = some ⟨oc41, od41, .func (PySem.W.fnOf "_law_one_door" "_law_one_door" (defArgs s_law_one_door) (defBody s_law_one_door) (defScope s_law_one_door) .none kV41 dc41 pm41 an41 cd41 ct41), sl41⟩)
    (c41 : PySem.W.codeIn K cd41 "_law_one_door" = true) (k41 : PySem.W.keepIn K (.ref f41) = true)
    (a42 : PySem.W.nsIn K mainGlobals "_law_two_doors" = some (some (.ref f42)))
    (l42 : K.lookup f42 = some ⟨oc42, od42, .func (PySem.W.fnOf "_law_two_doors" "_law_two_doors" (defArgs s_law_two_doors) (defBody s_law_two_doors) (defScope s_law_two_doors) .none kV42 dc42 pm42 an42 cd42 ct42), sl42⟩)
    (c42 : PySem.W.codeIn K cd42 "_law_two_doors" = true) (k42 : PySem.W.keepIn K (.ref f42) = true)
    (a43 : PySem.W.nsIn K mainGlobals "_law_council" = some (some (.ref f43)))
    (l43 : K.lookup f43 = some ⟨oc43, od43, .func (PySem.W.fnOf "_law_council" "_law_council" (defArgs s_law_council) (defBody s_law_council) (defScope s_law_council) .none kV43 dc43 pm43 an43 cd43 ct43), sl43⟩)
    (c43 : PySem.W.codeIn K cd43 "_law_council" = true) (k43 : PySem.W.keepIn K (.ref f43) = true)
    (a44 : PySem.W.nsIn K mainGlobals "_law_all_refuse" = some (some (.ref f44)))
    (l44 : K.lookup f44 = some ⟨oc44, od44, .func (PySem.W.fnOf "_law_all_refuse" "_law_all_refuse" (defArgs s_law_all_refuse) (defBody s_law_all_refuse) (defScope s_law_all_refuse) .none kV44 dc44 pm44 an44 cd44 ct44), sl44⟩)
    (c44 : PySem.W.codeIn K cd44 "_law_all_refuse" = true) (k44 : PySem.W.keepIn K (.ref f44) = true)
    (a45 : PySem.W.nsIn K mainGlobals "law" = some (some (.ref f45)))
    (l45 : K.lookup f45 = some ⟨oc45, od45, .func (PySem.W.fnOf "law" "law" (defArgs slaw) (defBody slaw) (defScope slaw) .none kV45 dc45 pm45 an45 cd45 ct45), sl45⟩)
    (c45 : PySem.W.codeIn K cd45 "law" = true) (k45 : PySem.W.keepIn K (.ref f45) = true)
    (z0 : PySem.W.nsIn K mainGlobals "all" = some none)
    (z1 : PySem.W.nsIn K mainGlobals "isinstance" = some none)
    (z2 : PySem.W.nsIn K mainGlobals "len" = some none)
    (z3 : PySem.W.nsIn K mainGlobals "list" = some none)
    (z4 : PySem.W.nsIn K mainGlobals "max" = some none)
    (z5 : PySem.W.nsIn K mainGlobals "min" = some none)
    (z6 : PySem.W.nsIn K mainGlobals "range" = some none)
    (z7 : PySem.W.nsIn K mainGlobals "set" = some none)
    (z8 : PySem.W.nsIn K mainGlobals "sum" = some none)
    (z9 : PySem.W.nsIn K mainGlobals "tuple" = some none)
    (mc0 : PySem.W.nsIn K mainGlobals "MOST_CENSERS" = some (some (.int 9 tg0)))
    (mc1 : PySem.W.nsIn K mainGlobals "LONGEST_NAME" = some (some (.int 12 tg1)))
    (mc2 : PySem.W.nsIn K mainGlobals "MOST_WOODS" = some (some (.int 6 tg2)))
    (mc3 : PySem.W.nsIn K mainGlobals "MOST_PACKETS" = some (some (.int 99 tg3)))
    (xmBadWay : PySem.W.nsIn K mainGlobals "BadWay" = some (some (.ref CBadWay))) (xqBadWay : PySem.W.excIn K CBadWay bmV "ValueError.__new__" = true)
    (xmBadTray : PySem.W.nsIn K mainGlobals "BadTray" = some (some (.ref CBadTray))) (xqBadTray : PySem.W.excIn K CBadTray bmV "ValueError.__new__" = true)
    (oaTray : PySem.W.nsIn K mainGlobals "Tray" = some (some (.ref CTray))) (opTray : PySem.W.plainGet K CTray Str.empty = true) (ohTray : PySem.W.hasDictIn K CTray = true) (ooTray : PySem.W.plainOver K CTray = true) (osTray : PySem.W.findIn K (.ref CTray) "__setattr__" = some (some (.builtin "object.__setattr__"))) (okTray : PySem.W.makesIn K CTray = true) (ocTray : PySem.W.keepIn K (.ref CTray) = true)
    (onTray_stock : PySem.W.findIn K (.ref CTray) "stock" = some none) :
    ∃ fd : FuncData, (∀ (s : Shared) (v : Value), BindsTo s fd ⟨[v], []⟩ [("_law_script", v)]) ∧ ∀ base : Heap, K.In base → base.Ns mainGlobals mg → FnOk l.prog w K mg base CX0 12 fa fd ["_law_script"] (spLaw K) := by
  have e := hfa.symm.trans (PySem.W.mg_of X G a45)
  cases e
  have B : Bs mg := ⟨PySem.W.mg_none_of X G z0, PySem.W.mg_none_of X G z1, PySem.W.mg_none_of X G z2, PySem.W.mg_none_of X G z3, PySem.W.mg_none_of X G z4, PySem.W.mg_none_of X G z5, PySem.W.mg_none_of X G z6, PySem.W.mg_none_of X G z7, PySem.W.mg_none_of X G z8, PySem.W.mg_none_of X G z9⟩
  have T : Gs mg := ⟨trivial, ⟨_, PySem.W.mg_of X G mc0⟩, ⟨_, PySem.W.mg_of X G mc1⟩, ⟨_, PySem.W.mg_of X G mc2⟩, ⟨_, PySem.W.mg_of X G mc3⟩⟩
  have mBadWay := PySem.W.mg_of X G xmBadWay
  have mBadTray := PySem.W.mg_of X G xmBadTray
  have clTray : Cls K CTray := ⟨opTray, ohTray, ooTray, osTray⟩
  refine ⟨PySem.W.fnOf "law" "law" (defArgs slaw) (defBody slaw) (defScope slaw) .none kV45 dc45 pm45 an45 cd45 ct45, fun s v => .of_eq rfl, fun base _ _ => ?_⟩
  have F1 := fun_mk (st := s_law_draw) l1 c1 k1
  have C1 : Cal l.prog w K mg base 1 "_law_draw" [] (spDraw K) := F1.cal (ok_law_draw F1 B T mBadWay xqBadWay mBadTray xqBadTray  clTray onTray_stock ) (PySem.W.mg_of X G a1) (fun _ _ _ _ _ _ us hl => match us, hl with | [_, _], _ => rfl)
  have F2 := fun_mk (st := s_law_cell) l2 c2 k2
  have C2 : Cal l.prog w K mg base 1 "_law_cell" [] (spCell K) := F2.cal (ok_law_cell F2 B T mBadWay xqBadWay mBadTray xqBadTray  clTray onTray_stock ) (PySem.W.mg_of X G a2) (fun _ _ _ _ _ _ us hl => match us, hl with | [_, _], _ => rfl)
  have F3 := fun_mk (st := s_law_many) l3 c3 k3
  have C3 : Cal l.prog w K mg base 1 "_law_many" [] (spMany K) := F3.cal (ok_law_many F3 B T mBadWay xqBadWay mBadTray xqBadTray  clTray onTray_stock ) (PySem.W.mg_of X G a3) (fun _ _ _ _ _ _ us hl => match us, hl with | [_, _], _ => rfl)
  have F4 := fun_mk (st := sis_way) l4 c4 k4
  have C4 : Cal l.prog w K mg base 1 "is_way" [] (spIsWay K) := F4.cal (okis_way F4 B T mBadWay xqBadWay mBadTray xqBadTray  clTray onTray_stock ) (PySem.W.mg_of X G a4) (fun _ _ _ _ _ _ us hl => match us, hl with | [_], _ => rfl)
  have F5 := fun_mk (st := scheck_way) l5 c5 k5
  have C5 : CalE l.prog w K mg base 2 "check_way" [] (spChkE K CBadWay) := F5.calE (okcheck_way F5 B T mBadWay xqBadWay mBadTray xqBadTray  clTray onTray_stock C4) (PySem.W.mg_of X G a5) (fun _ _ _ _ _ _ us hl => match us, hl with | [_], _ => rfl)
  have F6 := fun_mk (st := scheck_way_of) l6 c6 k6
  have C6 : CalE l.prog w K mg base 3 "check_way_of" [] (spChkOfE K CBadWay) := F6.calE (okcheck_way_of F6 B T mBadWay xqBadWay mBadTray xqBadTray  clTray onTray_stock C5) (PySem.W.mg_of X G a6) (fun _ _ _ _ _ _ us hl => match us, hl with | [_, _], _ => rfl)
  have F7 := fun_mk (st := scheck_two_ways) l7 c7 k7
  have C7 : CalE l.prog w K mg base 4 "check_two_ways" [] (spBad2 K CBadWay) := F7.calE (okcheck_two_ways F7 B T mBadWay xqBadWay mBadTray xqBadTray  clTray onTray_stock C5 C6) (PySem.W.mg_of X G a7) (fun _ _ _ _ _ _ us hl => match us, hl with | [_, _], _ => rfl)
  have F8 := fun_mk (st := swoods) l8 c8 k8
  have C8 : CalE l.prog w K mg base 3 "woods" [] (spWoodsE K CBadWay) := F8.calE (okwoods F8 B T mBadWay xqBadWay mBadTray xqBadTray  clTray onTray_stock C5) (PySem.W.mg_of X G a8) (fun _ _ _ _ _ _ us hl => match us, hl with | [_], _ => rfl)
  have F9 := fun_mk (st := salike) l9 c9 k9
  have C9 : CalE l.prog w K mg base 3 "alike" [] (spBad3 K CBadWay) := F9.calE (okalike F9 B T mBadWay xqBadWay mBadTray xqBadTray  clTray onTray_stock C5) (PySem.W.mg_of X G a9) (fun _ _ _ _ _ _ us hl => match us, hl with | [_, _, _], _ => rfl)
  have F10 := fun_mk (st := slots) l10 c10 k10
  have C10 : CalE l.prog w K mg base 4 "lots" [] (spBad1 K CBadWay) := F10.calE (oklots F10 B T mBadWay xqBadWay mBadTray xqBadTray  clTray onTray_stock C8) (PySem.W.mg_of X G a10) (fun _ _ _ _ _ _ us hl => match us, hl with | [_], _ => rfl)
  have F11 := fun_mk (st := sjoined) l11 c11 k11
  have C11 : CalE l.prog w K mg base 5 "joined" [] (spBad2 K CBadWay) := F11.calE (okjoined F11 B T mBadWay xqBadWay mBadTray xqBadTray  clTray onTray_stock C7) (PySem.W.mg_of X G a11) (fun _ _ _ _ _ _ us hl => match us, hl with | [_, _], _ => rfl)
  have F12 := fun_mk (st := smet) l12 c12 k12
  have C12 : CalE l.prog w K mg base 5 "met" [] (spBad2 K CBadWay) := F12.calE (okmet F12 B T mBadWay xqBadWay mBadTray xqBadTray  clTray onTray_stock C7) (PySem.W.mg_of X G a12) (fun _ _ _ _ _ _ us hl => match us, hl with | [_, _], _ => rfl)
  have F13 := fun_mk (st := slies_within) l13 c13 k13
  have C13 : CalE l.prog w K mg base 6 "lies_within" [] (spBad2 K CBadWay) := F13.calE (oklies_within F13 B T mBadWay xqBadWay mBadTray xqBadTray  clTray onTray_stock C12) (PySem.W.mg_of X G a13) (fun _ _ _ _ _ _ us hl => match us, hl with | [_, _], _ => rfl)
  have F14 := fun_mk (st := sturned) l14 c14 k14
  have C14 : CalE l.prog w K mg base 3 "turned" [] (spBad2x K CBadWay) := F14.calE (okturned F14 B T mBadWay xqBadWay mBadTray xqBadTray  clTray onTray_stock C5) (PySem.W.mg_of X G a14) (fun _ _ _ _ _ _ us hl => match us, hl with | [_, _], _ => rfl)
  have F15 := fun_mk (st := schance_behind) l15 c15 k15
  have C15 : CalE l.prog w K mg base 3 "chance_behind" [] (spBadB K CBadWay) := F15.calE (okchance_behind F15 B T mBadWay xqBadWay mBadTray xqBadTray  clTray onTray_stock C5) (PySem.W.mg_of X G a15) (fun _ _ _ _ _ _ us hl => match us, hl with | [_, _, _], _ => rfl)
  have F16 := fun_mk (st := schance) l16 c16 k16
  have C16 : CalE l.prog w K mg base 4 "chance" [] (spBadC K CBadWay) := F16.calE (okchance F16 B T mBadWay xqBadWay mBadTray xqBadTray  clTray onTray_stock C15) (PySem.W.mg_of X G a16) (fun _ _ _ _ _ _ us hl => match us, hl with | [_, _], _ => rfl)
  have F17 := fun_mk (st := sagreement) l17 c17 k17
  have C17 : CalE l.prog w K mg base 5 "agreement" [] (spBad2 K CBadWay) := F17.calE (okagreement F17 B T mBadWay xqBadWay mBadTray xqBadTray  clTray onTray_stock C7) (PySem.W.mg_of X G a17) (fun _ _ _ _ _ _ us hl => match us, hl with | [_, _], _ => rfl)
  have F18 := fun_mk (st := scouncil) l18 c18 k18
  have C18 : CalE l.prog w K mg base 4 "council" [] (spCouncilB K CBadWay) := F18.calE (okcouncil F18 B T mBadWay xqBadWay mBadTray xqBadTray  clTray onTray_stock C5 C6) (PySem.W.mg_of X G a18) (fun _ _ _ _ _ _ us hl => match us, hl with | [_], _ => rfl)
  have F19 := fun_mk (st := sstretches) l19 c19 k19
  have C19 : CalE l.prog w K mg base 5 "stretches" [] (spBad1 K CBadWay) := F19.calE (okstretches F19 B T mBadWay xqBadWay mBadTray xqBadTray  clTray onTray_stock C10) (PySem.W.mg_of X G a19) (fun _ _ _ _ _ _ us hl => match us, hl with | [_], _ => rfl)
  have F20 := fun_mk (st := slie) l20 c20 k20
  have C20 : CalE l.prog w K mg base 6 "lie" [] (spBad3 K CBadWay) := F20.calE (oklie F20 B T mBadWay xqBadWay mBadTray xqBadTray  clTray onTray_stock C19) (PySem.W.mg_of X G a20) (fun _ _ _ _ _ _ us hl => match us, hl with | [_, _, _], _ => rfl)
  have F21 := fun_mk (st := sheights) l21 c21 k21
  have C21 : CalE l.prog w K mg base 6 "heights" [] (spBad1 K CBadWay) := F21.calE (okheights F21 B T mBadWay xqBadWay mBadTray xqBadTray  clTray onTray_stock C19) (PySem.W.mg_of X G a21) (fun _ _ _ _ _ _ us hl => match us, hl with | [_], _ => rfl)
  have F22 := fun_mk (st := smark) l22 c22 k22
  have C22 : CalE l.prog w K mg base 7 "mark" [] (spBad1 K CBadWay) := F22.calE (okmark F22 B T mBadWay xqBadWay mBadTray xqBadTray  clTray onTray_stock C21) (PySem.W.mg_of X G a22) (fun _ _ _ _ _ _ us hl => match us, hl with | [_], _ => rfl)
  have F23 := fun_mk (st := snumber) l23 c23 k23
  have C23 : CalE l.prog w K mg base 3 "number" [] (spBad1 K CBadWay) := F23.calE (oknumber F23 B T mBadWay xqBadWay mBadTray xqBadTray  clTray onTray_stock C5) (PySem.W.mg_of X G a23) (fun _ _ _ _ _ _ us hl => match us, hl with | [_], _ => rfl)
  have F24 := fun_mk (st := sfollowing) l24 c24 k24
  have C24 : CalE l.prog w K mg base 3 "following" [] (spBad1 K CBadWay) := F24.calE (okfollowing F24 B T mBadWay xqBadWay mBadTray xqBadTray  clTray onTray_stock C5) (PySem.W.mg_of X G a24) (fun _ _ _ _ _ _ us hl => match us, hl with | [_], _ => rfl)
  have F25 := fun_mk (st := soverlap) l25 c25 k25
  have C25 : CalE l.prog w K mg base 5 "overlap" [] (spBad2 K CBadWay) := F25.calE (okoverlap F25 B T mBadWay xqBadWay mBadTray xqBadTray  clTray onTray_stock C7) (PySem.W.mg_of X G a25) (fun _ _ _ _ _ _ us hl => match us, hl with | [_, _], _ => rfl)
  have F26 := fun_mk (st := skept) l26 c26 k26
  have C26 : CalE l.prog w K mg base 6 "kept" [] (spBad2 K CBadWay) := F26.calE (okkept F26 B T mBadWay xqBadWay mBadTray xqBadTray  clTray onTray_stock C25) (PySem.W.mg_of X G a26) (fun _ _ _ _ _ _ us hl => match us, hl with | [_, _], _ => rfl)
  have F27 := fun_mk (st := smoved) l27 c27 k27
  have C27 : CalE l.prog w K mg base 7 "moved" [] (spBad2 K CBadWay) := F27.calE (okmoved F27 B T mBadWay xqBadWay mBadTray xqBadTray  clTray onTray_stock C26) (PySem.W.mg_of X G a27) (fun _ _ _ _ _ _ us hl => match us, hl with | [_, _], _ => rfl)
  have F28 := fun_mk (st := sjoinings) l28 c28 k28
  have C28 : CalE l.prog w K mg base 4 "joinings" [] (spBad1 K CBadWay) := F28.calE (okjoinings F28 B T mBadWay xqBadWay mBadTray xqBadTray  clTray onTray_stock C8) (PySem.W.mg_of X G a28) (fun _ _ _ _ _ _ us hl => match us, hl with | [_], _ => rfl)
  have F29 := fun_mk (st := spartings) l29 c29 k29
  have C29 : CalE l.prog w K mg base 5 "partings" [] (spBad1 K CBadWay) := F29.calE (okpartings F29 B T mBadWay xqBadWay mBadTray xqBadTray  clTray onTray_stock C10) (PySem.W.mg_of X G a29) (fun _ _ _ _ _ _ us hl => match us, hl with | [_], _ => rfl)
  have F30 := fun_mk (st := ssteps) l30 c30 k30
  have C30 : CalE l.prog w K mg base 6 "steps" [] (spBad2 K CBadWay) := F30.calE (oksteps F30 B T mBadWay xqBadWay mBadTray xqBadTray  clTray onTray_stock C11 C8) (PySem.W.mg_of X G a30) (fun _ _ _ _ _ _ us hl => match us, hl with | [_, _], _ => rfl)
  have F31 := fun_mk (st := spath) l31 c31 k31
  have C31 : CalE l.prog w K mg base 6 "path" [] (spBad2 K CBadWay) := F31.calE (okpath F31 B T mBadWay xqBadWay mBadTray xqBadTray  clTray onTray_stock C11) (PySem.W.mg_of X G a31) (fun _ _ _ _ _ _ us hl => match us, hl with | [_, _], _ => rfl)
  have F32 := fun_mk (st := sis_name) l32 c32 k32
  have C32 : Cal l.prog w K mg base 1 "is_name" [] (spIsName K) := F32.cal (okis_name F32 B T mBadWay xqBadWay mBadTray xqBadTray  clTray onTray_stock ) (PySem.W.mg_of X G a32) (fun _ _ _ _ _ _ us hl => match us, hl with | [_], _ => rfl)
  have F33 := fun_mk (st := scheck_woods) l33 c33 k33
  have C33 : CalE l.prog w K mg base 2 "check_woods" [] (spCheckWoods K CBadTray) := F33.calE (okcheck_woods F33 B T mBadWay xqBadWay mBadTray xqBadTray  clTray onTray_stock C32) (PySem.W.mg_of X G a33) (fun _ _ _ _ _ _ us hl => match us, hl with | [_], _ => rfl)
  have F34 := fun_mk (st := sTray___init__) l34 c34 k34
  have b34 := F34.binds (ps := ["self", "woods"]) fun _ _ _ _ _ _ us hl => match us, hl with | [_, _], _ => rfl
  have C34 : CalKE l.prog w K mg base CTray 3 "Tray" (spInit K CTray CBadTray) := ⟨f34, _, _, okTray___init__ F34 B T mBadWay xqBadWay mBadTray xqBadTray  clTray onTray_stock C33, ⟨okTray, a34, i34, ocTray⟩, PySem.W.mg_of X G oaTray, b34⟩
  have F35 := fun_mk (st := s_law_row_ok) l35 c35 k35
  have C35 : Cal l.prog w K mg base 1 "_law_row_ok" [] (spRowOk K) := F35.cal (ok_law_row_ok F35 B T mBadWay xqBadWay mBadTray xqBadTray  clTray onTray_stock ) (PySem.W.mg_of X G a35) (fun _ _ _ _ _ _ us hl => match us, hl with | [_], _ => rfl)
  have F36 := fun_mk (st := s_law_way) l36 c36 k36
  have C36 : Cal l.prog w K mg base 2 "_law_way" [] (spWay K) := F36.cal (ok_law_way F36 B T mBadWay xqBadWay mBadTray xqBadTray  clTray onTray_stock C1) (PySem.W.mg_of X G a36) (fun _ _ _ _ _ _ us hl => match us, hl with | [_, _], _ => rfl)
  have F37 := funD_mk (st := s_law_split) (ds := [Value.int 0 tk37]) l37 c37 k37 lT37 dT37
  have D37 : Cal l.prog w K mg base 1 "_law_split" [] spSplit := ⟨f37, _, _, [], ok_law_split F37 B T mBadWay xqBadWay mBadTray xqBadTray  clTray onTray_stock , PySem.W.mg_of X G a37, k37, F37.binds (es := []) (fun _ _ _ _ _ _ _ us hl => match us, (show us.length = 3 from by simpa using hl) with | [_, _, _], _ => ⟨_, rfl, rfl⟩), .nil⟩
  have C37 : Cal l.prog w K mg base 1 "_law_split" [.int 0] spSplit := ⟨f37, _, _, [Value.int 0 tk37], ok_law_split F37 B T mBadWay xqBadWay mBadTray xqBadTray  clTray onTray_stock , PySem.W.mg_of X G a37, k37, F37.binds (fun _ _ _ _ _ _ _ us hl => match us, (show us.length = 2 from by simpa using hl) with | [_, _], _ => ⟨_, rfl, rfl⟩), .cons ⟨_, rfl⟩ .nil⟩
  have F38 := fun_mk (st := s_law_refused) l38 c38 k38
  have C38 : Cal l.prog w K mg base 1 "_law_refused" [] (spRefused K) := F38.cal (ok_law_refused F38 B T mBadWay xqBadWay mBadTray xqBadTray  clTray onTray_stock ) (PySem.W.mg_of X G a38) (fun _ _ _ _ _ _ us hl => match us, hl with | [_], _ => rfl)
  have F39 := fun_mk (st := s_law_some_row) l39 c39 k39
  have C39 : Cal l.prog w K mg base 3 "_law_some_row" [] (spSome K) := F39.cal (ok_law_some_row F39 B T mBadWay xqBadWay mBadTray xqBadTray  clTray onTray_stock C1 C37 C36) (PySem.W.mg_of X G a39) (fun _ _ _ _ _ _ us hl => match us, hl with | [_], _ => rfl)
  have F40 := fun_mk (st := s_law_more_doors) l40 c40 k40
  have C40 : CalE l.prog w K mg base 9 "_law_more_doors" [] (spMoreDoors K CBadWay) := F40.calE (ok_law_more_doors F40 B T mBadWay xqBadWay mBadTray xqBadTray  clTray onTray_stock C34 C16 C21 C28 C22 C29) (PySem.W.mg_of X G a40) (fun _ _ _ _ _ _ us hl => match us, hl with | [_, _], _ => rfl)
  have F41 := fun_mk (st := s_law_one_door) l41 c41 k41
  have C41 : Cal l.prog w K mg base 10 "_law_one_door" [] (spOneDoor K) := F41.cal (ok_law_one_door F41 B T mBadWay xqBadWay mBadTray xqBadTray  clTray onTray_stock C40 C9 C24 C20 C10 C23 C14 C8) (PySem.W.mg_of X G a41) (fun _ _ _ _ _ _ us hl => match us, hl with | [_, _], _ => rfl)
  have F42 := fun_mk (st := s_law_two_doors) l42 c42 k42
  have C42 : Cal l.prog w K mg base 8 "_law_two_doors" [] (spTwoDoors K) := F42.cal (ok_law_two_doors F42 B T mBadWay xqBadWay mBadTray xqBadTray  clTray onTray_stock C17 C11 C26 C13 C12 C27 C25 C31 C30) (PySem.W.mg_of X G a42) (fun _ _ _ _ _ _ us hl => match us, hl with | [_, _, _], _ => rfl)
  have F43 := fun_mk (st := s_law_council) l43 c43 k43
  have C43 : Cal l.prog w K mg base 5 "_law_council" [] (spLCouncil K) := F43.cal (ok_law_council F43 B T mBadWay xqBadWay mBadTray xqBadTray  clTray onTray_stock C18) (PySem.W.mg_of X G a43) (fun _ _ _ _ _ _ us hl => match us, hl with | [_], _ => rfl)
  have F44 := fun_mk (st := s_law_all_refuse) l44 c44 k44
  have C44 : Cal l.prog w K mg base 11 "_law_all_refuse" [] (spAllRefuse K) := F44.cal (ok_law_all_refuse F44 B T mBadWay xqBadWay mBadTray xqBadTray  clTray onTray_stock C43 C41 C38 C42) (PySem.W.mg_of X G a44) (fun _ _ _ _ _ _ us hl => match us, hl with | [_, _], _ => rfl)
  have F45 := fun_mk (st := slaw) l45 c45 k45
  exact oklaw F45 B T mBadWay xqBadWay mBadTray xqBadTray  clTray onTray_stock C44 C2 C3 C35 C39 C36
theorem walk {l : PySem.W.OpenLaw} {q : Program} {loose : List Str} {XP : (Str → Option Value) → Heap → Prop} {YP : World → Heap → Prop} {d : DefRec} {K : Params → PySem.W.Frag} (hn : l.most = some 63) (hdf : d.params.defaults = [])
    (hY : ∀ (w : World) (h : Heap), YP w h → (K w.params).In h)
    (F : ∀ (w : World) (mg : Str → Option Value) (fa : Addr) (h : Heap), (K w.params).In h → h.Ns mainGlobals mg → mg d.name = some (.ref fa) →
      ∃ fd : FuncData, (∀ (s : Shared) (u : Value), BindsTo s fd ⟨[u], []⟩ [("_law_script", u)]) ∧ ∀ base : Heap, (K w.params).In base → base.Ns mainGlobals mg → FnOk l.prog w (K w.params) mg base CX0 12 fa fd ["_law_script"] (spLaw (K w.params))) :
    PySem.W.WalkO q loose XP YP l.row.toRowW d [] (fun f vs => PySem.call f vs) :=
  L2.walk_of (n := 63) (k := 12) (x := "_law_script") (CX := fun _ => CX0) (sp := fun w => spLaw (K w.params)) hn (by decide) hdf ⟨rfl, by decide, by decide⟩ hY F (fun _ _ a ns hl _ hS => ⟨a, ns, rfl, hS, hl, fun _ => rfl⟩) fun _ _ _ _ _ z => z
end Lw
namespace PySem.W.Fast
def tw12346108331952089870:=0
def tw11003449226617092512:=0
def tw234477024228334092:=0
def tw6851885136848220689:=0
def tw9661463987570556517:=0
def tw14599573257255194385:=0
def tw11411324930971188965:=0
def tw8637528330268490310:=0
def tw12890219297505944948:=0
def tw15582378488645439491:=0
def tw13568659162238301871:=0
def tw13637591902562549580:=0
def tw12864565155596104817:=0
def tw9890542846714273044:=0
def tw7173619488910807276:=0
def tw7622282505982982238:=0
def tw16548128725051444166:=0
def tw711105615558902542:=0
def tw13207247616376503677:=0
def tw12554792073888816187:=0
def tw17184206114786197420:=0
def tw13019219241325609034:=0
def tw10695670460771786320:=0
def tw10958842602392602814:=0
def tw13292638409492976051:=0
def tw3614219456413427056:=0
def tw4935177012881493549:=0
def tw9354507063648159678:=0
def tw12515852910930121742:=0
def tw12314021709839560683:=0
def tw834742694885435744:=0
def tw996145943154271948:=0
def tw15652708709066864245:=0
def tw8612910342235088742:=0
def tw14173523589310260893:=0
def tw4392346675851360515:=0
def tw10146554223078434157:=0
def tw15008416275906730103:=0
def tw16486442682334285848:=0
def tw1628077027174530042:=0
def tw15482076656590899218:=0
def tw2186142227770978913:=0
def tw12152981392544662266:=0
def tw13770600688127383795:=0
def tw14347722459218862489:=0
def tw17365980418989179861:=0
def tw6626008637597635323:=0
def tw15079285774724766692:=0
def tw9258344620397029165:=0
def tw15695793250891274723:=0
def tw10777180259127289197:=0
def tw5397376461412569609:=0
def tw8811922140186393608:=0
def tw1986163817479302981:=0
def tw7341144146507119941:=0
def tw13420395732123226739:=0
def tw12068953321478411610:=0
def tw11658013609640803452:=0
def tw11494357220372483866:=0
def tw14793080475905404432:=0
def tw9091095108134346236:=0
def tw8512162751433896932:=0
def tw16080706662140995426:=0
def tw11276131387465000186:=0
def tw5811376040541603744:=0
def tw5571932981804337329:=0
def tw7938639198312617216:=0
def tw8508994117643716955:=0
def tw8009747064492487824:=0
def tw12795157234767028762:=0
def tw13958091520986590106:=0
def tw51320563685489021:=0
def tw3002522477574189285:=0
def tw14871842090358580800:=0
def tw17042120220514486563:=0
def tw15060170137189464583:=0
def tw4835557968106403376:=0
def tw1851078568477360329:=0
def tw3343798873056450349:=0
def tw2573422955890462259:=0
def tw9584945362023386144:=0
def tw3368452655784267978:=0
def tw11655277023019490580:=0
def tw1943600515844092119:=0
def tw6341434951701491651:=0
def tw10707944779279920136:=0
def tw17768304924882307417:=0
def tw4924271294875241498:=0
def tw216036881088269980:=0
def tw2324154057876402965:=0
def tw6327130805981322582:=0
def tw12631116939411289328:=0
def tw16576451644449829855:=0
def tw6091410800121330066:=0
def tw8772653661825060881:=0
def tw9547402606906770354:=0
def tw6390481053111445510:=0
def tw9596757753572585732:=0
def tw11181583999326121041:=0
def tw1030460103229376956:=0
def tw9535114932051306002:=0
def tw16596571911759384281:=0
def tw3791662990231657323:=0
def tw2906427738027131935:=0
def tw218015648842562678:=0
def tw7035204201519222614:=0
def tw12627236492956215043:=0
def tw14725384450260170311:=0
def tw2079545014944674865:=0
def tw1172678428547649213:=0
def tw9455645237539851282:=0
def tw10000250732316543360:=0
def tw11362841458452973982:=0
def tw14662344328517685616:=0
def tw1919539312837537269:=0
def tw3012090443766939742:=0
def tw2234679990525870149:=0
def tw11064539388766131542:=0
def tw13918885782993590304:=0
def tw6331863501914032592:=0
def tw14749121770033972781:=0
def tw14696947676942402962:=0
def tw17728474234062883952:=0
def tw14734838648053864674:=0
def tw11267915942666806965:=0
def tw3839980462580618303:=0
def tw14346077732816887479:=0
def tw6651507132493101025:=0
def tw2154563530489163387:=0
def tw17193964337580069207:=0
def tw17771590535175610652:=0
def tw713503861174019858:=0
def tw3975549001138795811:=0
def tw15000708998724301823:=0
def tw7614212065313408914:=0
def tw9753365445186429004:=0
def tw16572899684639831477:=0
def tw5161805960893146655:=0
def tw5915408225487721522:=0
def tw5331063227707625821:=0
def tw10447588458064768100:=0
def tw2754529774520909865:=0
def tw7145613563502038463:=0
def tw12937441011723585859:=0
def tw7231081434811249842:=0
def tw7344728301690373037:=0
def tw5600619923924136207:=0
def tw761127343129764274:=0
def tw10469235390794037443:=0
def tw5041333467322928437:=0
def tw15578511042006941379:=0
def tw16378900016093608:=0
def tw15284962124021958577:=0
def tw10692184313224238787:=0
def tw2616232270012542931:=0
def tw3387645541048681901:=0
def tw10044285711553811140:=0
def tw6426498432752321706:=0
def tw9694030904922923059:=0
def tw10113993198559999143:=0
def tw12126497244679793342:=0
def tw915126045537431063:=0
def tw11306188150110707472:=0
def tw18243062669462382736:=0
def tw10270342499689295895:=0
def tw6619178342584937393:=0
def tw16417918079419370779:=0
def tw1913226838051211611:=0
def tw2801181334653699931:=0
def tw3649974939280977569:=0
def tw6959542680514246709:=0
def tw1252465962074148863:=0
def tw5095164226908234024:=0
def tw5876334454987104826:=0
def tw5455705482073488329:=0
def tw11591153009704442687:=0
def tw11819753459004511010:=0
def tw15123553234729680273:=0
def tw10430503386515059233:=0
def tw8953531189629749618:=0
def tw8429116620932113508:=0
def tw4592368138654099712:=0
def tw3955892336990813132:=0
def tw10975510608198582564:=0
def tw8788089636436463083:=0
def tw5674846166604437920:=0
def tw5690867719518542612:=0
def tw7464181934902144259:=0
def tw4814793043530753647:=0
def tw14649143155027672789:=0
def tw1650537646783424001:=0
def tw17187504197935302916:=0
def tw18278626289782178734:=0
def tw5412378170072497131:=0
def tw10892994952629069759:=0
def tw5644046940072800446:=0
def tw18036817523849034353:=0
def tw6406390356418724197:=0
def tw2053245209747960142:=0
def tw66329127401041533:=0
def tw12252539281692755463:=0
def tw3032513963445512857:=0
def tw8377966779956363191:=0
def tw607669239853285555:=0
def tw9965810499119706938:=0
def tw6355093781383492395:=0
def tw13091896549822301172:=0
def tw14632471098998245255:=0
def tw3386695458815657621:=0
def tw15361264807504202885:=0
def tw15421153587032807688:=0
def tw15865399765568126064:=0
def tw13026923020171106274:=0
def tw11468711249429463856:=0
def tw906966670062897756:=0
def tw4138816303787010009:=0
def tw337137542936377350:=0
def tw17535003669955853029:=0
def tw17363136522330800549:=0
def tw13667063694528748563:=0
def tw3375079027632491853:=0
def tw15653633079092332404:=0
def tw2155315472204895855:=0
def tw5680536297756699990:=0
def tw1225431942781112467:=0
def tw6647080795052068087:=0
def tw14454460630763375326:=0
def tw6659905695117083712:=0
def tw9026830015990624312:=0
def tw5223927388240752974:=0
def tw17585378165445073060:=0
def tw11863940151773636752:=0
def tw5681471908781665437:=0
def tw8160276820948251823:=0
def tw6229536611912487731:=0
def tw5695794502715825604:=0
def tw10748638079799435436:=0
def tw17930455392300226291:=0
def tw14717381700021259917:=0
def tw7709482808744143102:=0
def tw6683684799273486218:=0
def tw6606226017977265329:=0
def tw527214908111214017:=0
def tw5201624529697198172:=0
def tw12470809443250247491:=0
def tw9521297304749228514:=0
def tw8244287410447495823:=0
def tw7623698383271740794:=0
def tw3636250672055971797:=0
def tw3436314559259229571:=0
def tw1478071105387395920:=0
def tw1230407252853090883:=0
def tw10200768637443129628:=0
def tw7236866998730361382:=0
def tw4931772692118053282:=0
def tw15430173105533764085:=0
def tw16890039845995308049:=0
def tw11319114785795757320:=0
def tw12471848614978490770:=0
def tw2329405265266810935:=0
def tw405611346040873127:=0
def tw16264217967657873209:=0
def tw908776799304197130:=0
def tw8488506181035752398:=0
def tw5856318050824325023:=0
def tw5398721067992719350:=0
def tw17377929933898795465:=0
def tw17367078075459583790:=0
def tw16761292181724888340:=0
def tw7404018539226695384:=0
def tw6695774833269288957:=0
def tw13249427986935395502:=0
def tw9962125012834798242:=0
def tw9772388594463023357:=0
def tw863773233136623753:=0
def tw802001682687129398:=0
def tw5311334683988024810:=0
def tw4297510610864778868:=0
def tw4180395954538423172:=0
def tw17116920851213976493:=0
def tw13446670803234273900:=0
def tw10008727798541408807:=0
def tw15380312940404753532:=0
def tw15127563949910262605:=0
def tw14398681394008145272:=0
def tw4381945208202750537:=0
def tw8846119139583123734:=0
def tw8511027338606647059:=0
def tw3358869454793557293:=0
def tw12317119803763988931:=0
def tw12002886113445413494:=0
def tw10539128644176992185:=0
def tw9205047410837675614:=0
def tw4445296104177424341:=0
def tw6427516401265652958:=0
def tw18164533074757401473:=0
def tw15946533881384458448:=0
def tw14856941319594015728:=0
def tw12481382097799657440:=0
def tw11958285451801523255:=0
def tw2074206963814614529:=0
def tw1742243192255671864:=0
def tw1663874960090344220:=0
def tw11600214498565681089:=0
def tw9942071016216906182:=0
def tw12395098713169657005:=0
def tw9517537969246783731:=0
def tw9412478014335542857:=0
def tw9319753494753070991:=0
def tw9227989528773634613:=0
def tw8623132162613592229:=0
def tw8543582173984520975:=0
def tw8477721352129586442:=0
def tw8336288377235217949:=0
def tw8276671885081802664:=0
def tw7902051458836367790:=0
def tw7672349047699148970:=0
def tw7377381581215576277:=0
def tw7301362259494233479:=0
def tw7180218148009407537:=0
def tw7013003493086384258:=0
def tw6562272669522032053:=0
def tw6328233486415506176:=0
def tw6284347695254426646:=0
def tw6251435222590219925:=0
def tw561335802438085533:=0
def tw5533913086652083287:=0
def tw5422851845194733004:=0
def tw5335875419915270294:=0
def tw528204501967822738:=0
def tw5100249531728488260:=0
def tw4337953489912056213:=0
def tw393863721876335541:=0
def tw3890206686897967837:=0
def tw2890910104154151344:=0
def tw2851119139110145489:=0
def tw2751123597704442711:=0
def tw2740418446442781018:=0
def tw2518943268365065796:=0
def tw2500130016303205727:=0
def tw2100868687351150601:=0
def tw18310847440889230979:=0
def tw1816983103959173806:=0
def tw18026757559287165857:=0
def tw17935664140617099636:=0
def tw17692266403240929655:=0
def tw17565555029034094159:=0
def tw17182358968073529859:=0
def tw16358385049406696232:=0
def tw1581255317024767172:=0
def tw15382294538055360503:=0
def tw14886705587857962877:=0
def tw147555642768127630:=0
def tw14689314045092254665:=0
def tw14655888263221905029:=0
def tw13121127489568610829:=0
def tw12529940150122961979:=0
def tw12512975615634025353:=0
def tw12463416676889804774:=0
def tw12338566600081867800:=0
def tw12017158505491165888:=0
def tw11137459785146223367:=0
def tw10577222857534512945:=0
def tw10114623341849347777:=0
def tw10064354183923636336:=0
def tw10007830203698826042:=0
def tw1159194043606414401:=0
def tw16342076695264090094:=0
def tw15274892943986150383:=0
def tw7435899693542637944:=0
def tw15935916333614438960:=0
def tw1241996475943646978:=0
def tw9684641307447298898:=0
def tw8404572165671930375:=0
def tw4912225424296745272:=0
def tw4453288136442400909:=0
def tw3820577755651593794:=0
def tw3637615041978176339:=0
def tw3087660781532215272:=0
def tw2769174284653187700:=0
def tw15391266755572702062:=0
def tw14474154853075846313:=0
def tw13789576333703779892:=0
def tw12682042751427282704:=0
def tw11967825486399013602:=0
def tw10586826676836691453:=0
def tw4037440760515128870:=0
def tw17659440051975509891:=0
def tw7204097569620505546:=0
def tw5211085173633486314:=0
def tw417782311860316443:=0
def tw2565193982223781283:=0
def tw158807986119721219:=0
def tw11294505305065293421:=0
def tw7631113487397284896:=0
def tw13568826524413197285:=0
def tw13366377503522322528:=0
def tw9307373155189349280:=0
def tw3195980884293831763:=0
def tw2157670971261304006:=0
def tw6141410738241842827:=0
def tw2031432753183590837:=0
def tw13407968236968572302:=0
def tw14257145113104689746:=0
def tw8557173238843942779:=0
def tw8073696268157539630:=0
def tw5994336387611233255:=0
def tw5950897518147441708:=0
def tw4388218496724676939:=0
def tw14167108270389041525:=0
def tw7222019707046352320:=0
def tw4814455779749869992:=0
def tw14640025164955806350:=0
def tw5169627513228133531:=0
def tw737320243630067674:=0
def tw7129241118604738708:=0
def tw508010982158823701:=0
def tw5041910912769233465:=0
def tw503816643150375296:=0
def tw4663516832902946475:=0
def tw183985274946411677:=0
def tw17122494605485609890:=0
def tw16746684077504034913:=0
def tw16197449722471385985:=0
def tw10548241806271310368:=0
def tw9756861297909573803:=0
def tw9041828731887221899:=0
def tw7800890137073155052:=0
def tw13223013431922745778:=0
def tw13114338681758867693:=0
def tw11896872378830855304:=0
def tw10187361233697839259:=0
def tw5095443451567506380:=0
def tw800653841331315375:=0
def tw6714754101519086686:=0
def tw5002393234007290989:=0
def tw2553210162851229582:=0
def tw15252248995595969624:=0
def tw10111822250256666523:=0
def tw9391006005618148250:=0
def tw8582927584146981378:=0
def tw7228972165742249240:=0
def tw513152031424237510:=0
def tw2942348362084846925:=0
def tw16321677448161644862:=0
def tw1501607156637697017:=0
def tw12551368973950759700:=0
def tw11071223116665162770:=0
def tw15518852966165612360:=0
def tw3682400051857991276:=0
def tw2861227634844134486:=0
def tw1855616405448360212:=0
def tw17830346338111033835:=0
def tw17765879653377777140:=0
def tw15362834172470943126:=0
def tw1511301270615912944:=0
def tw14337596639198158606:=0
def tw13283534111217490147:=0
def tw12839715867890675669:=0
def tw10133845979840167425:=0
def tw8962908110139495871:=0
def tw8740100640520310465:=0
def tw7223290225096769124:=0
def tw2674580683597953731:=0
def tw13393316088218787631:=0
def tw11888135204645588883:=0
def tw11856388496116277439:=0
def tw11212178395025664720:=0
def tw9994273351336294086:=0
def tw9925319652739017526:=0
def tw9865758300973724374:=0
def tw9817293331248324952:=0
def tw9722191327906035037:=0
def tw9448729702001845465:=0
def tw933516477729136640:=0
def tw9315097275472363146:=0
def tw9297086583985833011:=0
def tw9198613481494823745:=0
def tw9061627206112632277:=0
def tw8997821289250215202:=0
def tw8659627619301143840:=0
def tw8645412268611454261:=0
def tw8430677076968064388:=0
def tw8276319199717553914:=0
def tw8229894268354247902:=0
def tw7906080269965477181:=0
def tw7801096585686236365:=0
def tw7695974150869388300:=0
def tw7683268324275601694:=0
def tw7667786463332878710:=0
def tw7375920728273840113:=0
def tw7316621623026611261:=0
def tw7243863407067003966:=0
def tw723768827969209916:=0
def tw70089173658819613:=0
def tw6977547703819067561:=0
def tw6967323340430175915:=0
def tw6870436065925540145:=0
def tw6867818745387552103:=0
def tw6850987877184616771:=0
def tw6761802202751550427:=0
def tw6739360450970243653:=0
def tw65950579684912163:=0
def tw6463633715068954761:=0
def tw6429571911044268058:=0
def tw6363158132283033192:=0
def tw6018186931779742148:=0
def tw5991809744784723771:=0
def tw5927732262853663374:=0
def tw5859610437309970600:=0
def tw5561003188190002606:=0
def tw5290796766492708341:=0
def tw5096999038529739288:=0
def tw4805149250730147423:=0
def tw4792888024320899660:=0
def tw4649014780547948009:=0
def tw4495004137687959292:=0
def tw4413122434128408757:=0
def tw4391571367942645509:=0
def tw4031077232150703484:=0
def tw4021308890188514511:=0
def tw3918248527257170720:=0
def tw3753344198794619159:=0
def tw3710510438337819156:=0
def tw345105839344452832:=0
def tw3441324962780523456:=0
def tw3275240187989020082:=0
def tw3167807462502673686:=0
def tw3158376635164248041:=0
def tw313561875068284851:=0
def tw3001828319261070313:=0
def tw2800914888494240283:=0
def tw2693430205448906980:=0
def tw2691837993670013648:=0
def tw254930200318227752:=0
def tw2376951977315825684:=0
def tw2302927050281949224:=0
def tw2238008253226106648:=0
def tw2179028723910144729:=0
def tw2132602083244347456:=0
def tw2105157289083528323:=0
def tw18369902590289682125:=0
def tw18358613490326510200:=0
def tw1832189033549531247:=0
def tw18138224510436423578:=0
def tw18132831132773260917:=0
def tw17988027579199266512:=0
def tw1788169407992252054:=0
def tw17570391118199541655:=0
def tw17562432504444294563:=0
def tw17426288561769104438:=0
def tw17000293624551443032:=0
def tw16895442328350842992:=0
def tw1665255211413145064:=0
def tw16629395664910164468:=0
def tw16508524759927480132:=0
def tw16507115665176377298:=0
def tw16357344749864461707:=0
def tw15711450149203730837:=0
def tw15613076729735256199:=0
def tw1547256001907489981:=0
def tw15168128833634622460:=0
def tw15158245655968776114:=0
def tw14842396603909380782:=0
def tw14677723840422651681:=0
def tw14657911933006817832:=0
def tw14600223995824688540:=0
def tw14361959646425232147:=0
def tw14322477499530312459:=0
def tw14272047701587288912:=0
def tw13977765960129312660:=0
def tw13945926781542049575:=0
def tw13909423847044697061:=0
def tw13866340796957787198:=0
def tw13832925189676189140:=0
def tw13816623268328741340:=0
def tw13690859047085698057:=0
def tw13605650670716166267:=0
def tw13568296871578224585:=0
def tw13502008020328249661:=0
def tw13444173223746291127:=0
def tw13425430956094757084:=0
def tw1321952001833488572:=0
def tw13008218296706139374:=0
def tw12978835317654617715:=0
def tw12961128429836517835:=0
def tw12916084479889745830:=0
def tw12857962771308591689:=0
def tw12844083882758842931:=0
def tw12785181211945787308:=0
def tw12577743169676922569:=0
def tw12577443863889987364:=0
def tw12378436814480891431:=0
def tw12358017697993862057:=0
def tw12352529760351789445:=0
def tw12335399924370773082:=0
def tw12038911633698330452:=0
def tw11941787848270382662:=0
def tw11872663689486181122:=0
def tw11610275801805832343:=0
def tw11553041049525377242:=0
def tw11522002960122686226:=0
def tw11503281992975768363:=0
def tw11372105994153419910:=0
def tw11174502183225994325:=0
def tw10971582405276829878:=0
def tw10931020490343992784:=0
def tw10923000570060749541:=0
def tw10864543384078834540:=0
def tw10825524121538619534:=0
def tw10656143178668316330:=0
def tw10634856060086775543:=0
def tw1048162278896463568:=0
end PySem.W.Fast
open PySem PySem.W PyProof.Rows
set_option maxRecDepth 100000 in
set_option maxHeartbeats 0 in
theorem PySem.Challenge.cw_censers_k47_bad_ways_at_each_door_holds : PySem.Challenge.rw_censers_k47_bad_ways_at_each_door.Holds := by
  w_on; o_law; k_head; (case hw => w_witness2)
  k_fill
  refine Lw.walk (l := PySem.Challenge.rw_censers_k47_bad_ways_at_each_door) rfl rfl (fun w h Y => PySem.W.kIn_of Y) ?F
  case F =>
    intro w mg fa h KX G hmg
    refine' Lw.all_mk KX G hmg ?a1 ?l1 ?c1 ?k1 ?a2 ?l2 ?c2 ?k2 ?a3 ?l3 ?c3 ?k3 ?a4 ?l4 ?c4 ?k4 ?a5 ?l5 ?c5 ?k5 ?a6 ?l6 ?c6 ?k6 ?a7 ?l7 ?c7 ?k7 ?a8 ?l8 ?c8 ?k8 ?a9 ?l9 ?c9 ?k9 ?a10 ?l10 ?c10 ?k10 ?a11 ?l11 ?c11 ?k11 ?a12 ?l12 ?c12 ?k12 ?a13 ?l13 ?c13 ?k13 ?a14 ?l14 ?c14 ?k14 ?a15 ?l15 ?c15 ?k15 ?a16 ?l16 ?c16 ?k16 ?a17 ?l17 ?c17 ?k17 ?a18 ?l18 ?c18 ?k18 ?a19 ?l19 ?c19 ?k19 ?a20 ?l20 ?c20 ?k20 ?a21 ?l21 ?c21 ?k21 ?a22 ?l22 ?c22 ?k22 ?a23 ?l23 ?c23 ?k23 ?a24 ?l24 ?c24 ?k24 ?a25 ?l25 ?c25 ?k25 ?a26 ?l26 ?c26 ?k26 ?a27 ?l27 ?c27 ?k27 ?a28 ?l28 ?c28 ?k28 ?a29 ?l29 ?c29 ?k29 ?a30 ?l30 ?c30 ?k30 ?a31 ?l31 ?c31 ?k31 ?a32 ?l32 ?c32 ?k32 ?a33 ?l33 ?c33 ?k33 ?a34 ?i34 ?l34 ?c34 ?k34 ?a35 ?l35 ?c35 ?k35 ?a36 ?l36 ?c36 ?k36 ?a37 ?l37 ?c37 ?k37 ?lT37 ?dT37 ?a38 ?l38 ?c38 ?k38 ?a39 ?l39 ?c39 ?k39 ?a40 ?l40 ?c40 ?k40 ?a41 ?l41 ?c41 ?k41 ?a42 ?l42 ?c42 ?k42 ?a43 ?l43 ?c43 ?k43 ?a44 ?l44 ?c44 ?k44 ?a45 ?l45 ?c45 ?k45 ?z0 ?z1 ?z2 ?z3 ?z4 ?z5 ?z6 ?z7 ?z8 ?z9 ?mc0 ?mc1 ?mc2 ?mc3 ?xmBadWay ?xqBadWay ?xmBadTray ?xqBadTray ?oaTray ?opTray ?ohTray ?ooTray ?osTray ?okTray ?ocTray ?onTray_stock
    (case oaTray => k_is)
    (case a1 => k_is)
    (case l1 => k_is)
    (case c1 => k_is)
    (case k1 => k_is)
    (case a2 => k_is)
    (case l2 => k_is)
    (case c2 => k_is)
    (case k2 => k_is)
    (case a3 => k_is)
    (case l3 => k_is)
    (case c3 => k_is)
    (case k3 => k_is)
    (case a4 => k_is)
    (case l4 => k_is)
    (case c4 => k_is)
    (case k4 => k_is)
    (case a5 => k_is)
    (case l5 => k_is)
    (case c5 => k_is)
    (case k5 => k_is)
    (case a6 => k_is)
    (case l6 => k_is)
    (case c6 => k_is)
    (case k6 => k_is)
    (case a7 => k_is)
    (case l7 => k_is)
    (case c7 => k_is)
    (case k7 => k_is)
    (case a8 => k_is)
    (case l8 => k_is)
    (case c8 => k_is)
    (case k8 => k_is)
    (case a9 => k_is)
    (case l9 => k_is)
    (case c9 => k_is)
    (case k9 => k_is)
    (case a10 => k_is)
    (case l10 => k_is)
    (case c10 => k_is)
    (case k10 => k_is)
    (case a11 => k_is)
    (case l11 => k_is)
    (case c11 => k_is)
    (case k11 => k_is)
    (case a12 => k_is)
    (case l12 => k_is)
    (case c12 => k_is)
    (case k12 => k_is)
    (case a13 => k_is)
    (case l13 => k_is)
    (case c13 => k_is)
    (case k13 => k_is)
    (case a14 => k_is)
    (case l14 => k_is)
    (case c14 => k_is)
    (case k14 => k_is)
    (case a15 => k_is)
    (case l15 => k_is)
    (case c15 => k_is)
    (case k15 => k_is)
    (case a16 => k_is)
    (case l16 => k_is)
    (case c16 => k_is)
    (case k16 => k_is)
    (case a17 => k_is)
    (case l17 => k_is)
    (case c17 => k_is)
    (case k17 => k_is)
    (case a18 => k_is)
    (case l18 => k_is)
    (case c18 => k_is)
    (case k18 => k_is)
    (case a19 => k_is)
    (case l19 => k_is)
    (case c19 => k_is)
    (case k19 => k_is)
    (case a20 => k_is)
    (case l20 => k_is)
    (case c20 => k_is)
    (case k20 => k_is)
    (case a21 => k_is)
    (case l21 => k_is)
    (case c21 => k_is)
    (case k21 => k_is)
    (case a22 => k_is)
    (case l22 => k_is)
    (case c22 => k_is)
    (case k22 => k_is)
    (case a23 => k_is)
    (case l23 => k_is)
    (case c23 => k_is)
    (case k23 => k_is)
    (case a24 => k_is)
    (case l24 => k_is)
    (case c24 => k_is)
    (case k24 => k_is)
    (case a25 => k_is)
    (case l25 => k_is)
    (case c25 => k_is)
    (case k25 => k_is)
    (case a26 => k_is)
    (case l26 => k_is)
    (case c26 => k_is)
    (case k26 => k_is)
    (case a27 => k_is)
    (case l27 => k_is)
    (case c27 => k_is)
    (case k27 => k_is)
    (case a28 => k_is)
    (case l28 => k_is)
    (case c28 => k_is)
    (case k28 => k_is)
    (case a29 => k_is)
    (case l29 => k_is)
    (case c29 => k_is)
    (case k29 => k_is)
    (case a30 => k_is)
    (case l30 => k_is)
    (case c30 => k_is)
    (case k30 => k_is)
    (case a31 => k_is)
    (case l31 => k_is)
    (case c31 => k_is)
    (case k31 => k_is)
    (case a32 => k_is)
    (case l32 => k_is)
    (case c32 => k_is)
    (case k32 => k_is)
    (case a33 => k_is)
    (case l33 => k_is)
    (case c33 => k_is)
    (case k33 => k_is)
    (case a34 => k_is)
    (case i34 => k_is)
    (case l34 => k_is)
    (case c34 => k_is)
    (case k34 => k_is)
    (case a35 => k_is)
    (case l35 => k_is)
    (case c35 => k_is)
    (case k35 => k_is)
    (case a36 => k_is)
    (case l36 => k_is)
    (case c36 => k_is)
    (case k36 => k_is)
    (case a37 => k_is)
    (case l37 => k_is)
    (case c37 => k_is)
    (case k37 => k_is)
    (case lT37 => k_is)
    (case dT37 => rfl)
    (case a38 => k_is)
    (case l38 => k_is)
    (case c38 => k_is)
    (case k38 => k_is)
    (case a39 => k_is)
    (case l39 => k_is)
    (case c39 => k_is)
    (case k39 => k_is)
    (case a40 => k_is)
    (case l40 => k_is)
    (case c40 => k_is)
    (case k40 => k_is)
    (case a41 => k_is)
    (case l41 => k_is)
    (case c41 => k_is)
    (case k41 => k_is)
    (case a42 => k_is)
    (case l42 => k_is)
    (case c42 => k_is)
    (case k42 => k_is)
    (case a43 => k_is)
    (case l43 => k_is)
    (case c43 => k_is)
    (case k43 => k_is)
    (case a44 => k_is)
    (case l44 => k_is)
    (case c44 => k_is)
    (case k44 => k_is)
    (case a45 => k_is)
    (case l45 => k_is)
    (case c45 => k_is)
    (case k45 => k_is)
    (case z0 => k_is)
    (case z1 => k_is)
    (case z2 => k_is)
    (case z3 => k_is)
    (case z4 => k_is)
    (case z5 => k_is)
    (case z6 => k_is)
    (case z7 => k_is)
    (case z8 => k_is)
    (case z9 => k_is)
    (case mc0 => k_is)
    (case mc1 => k_is)
    (case mc2 => k_is)
    (case mc3 => k_is)
    (case xmBadWay => k_is)
    (case xqBadWay => k_exc)
    (case xmBadTray => k_is)
    (case xqBadTray => k_exc)
    (case opTray => k_is)
    (case ohTray => k_is)
    (case ooTray => k_is)
    (case osTray => k_is)
    (case okTray => k_is)
    (case ocTray => k_is)
    (case onTray_stock => k_is)
