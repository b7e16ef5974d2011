import PyProof.Rows.All
import Wide.All
import OpenK.AllK
import Wide.FinOn
import Lean
import PyProof.EqAt
import PyProof.EqKinds
import PyProof.TupleCall
import KE.KSortTup
import KE.KRevSl
import KE.KDictSum
import PyProof.NeKinds
import PyProof.Rows.Range3
import PyProof.Rows.SetFrom
import PyProof.Rows.StrItems
import PyProof.StrWalks
import PyProof.EnumMake
import PyProof.FString5
import PyProof.Conv_int_bool
import PyProof.DictStraight
import PyProof.StrLawsIn
import PyProof.Rows.RuleN_abs
import PyProof.Rows.CallKwBuiltin
import PyProof.MinMaxWalk
import PySem.Challenge.RW_censers_k49_whole_councils_of_all_ways
set_option Elab.async false
set_option linter.all false
set_option maxRecDepth 100000
namespace L2
open PySem PySem.Spec PyProof.Rows
abbrev Key := Sum Int Str
def keyIs : Key → Value → Bool
  | .inl k, v => Value.isInt k v
  | .inr x, v => Value.isStrOf x v
def keyH (w : World) : Key → Int
  | .inl k => hashInt k
  | .inr x => hashStr w x
theorem keyIs_shape : ∀ {k : Key} {v : Value}, keyIs k v = true → (∃ i t, k = Sum.inl i ∧ v = Value.int i t) ∨ (∃ x t, k = Sum.inr x ∧ v = Value.str x t)
  | .inl i, v, h => by
    obtain ⟨t, e⟩ := Value.isInt_shape (k := i) (v := v) h
    exact .inl ⟨i, t, rfl, e⟩
  | .inr x, v, h => by
    obtain ⟨t, e⟩ := Value.isStrOf_shape (x := x) (v := v) h
    exact .inr ⟨x, t, rfl, e⟩
theorem keyIs_int (i : Int) (t : Tok) : keyIs (.inl i) (.int i t) = true := by simp [keyIs, Value.isInt]
theorem keyIs_str (x : Str) (t : Tok) : keyIs (.inr x) (.str x t) = true := by simp [keyIs, Value.isStrOf]
theorem key_ll (a b : Int) : decide ((Sum.inl a : Key) = Sum.inl b) = (a == b) := by
  by_cases e : a = b
  · subst e; simp
  · have h : ¬ (Sum.inl a : Key) = Sum.inl b := fun q => e (Sum.inl.inj q)
    rw [decide_eq_false h]
    exact (beq_eq_false_iff_ne.mpr e).symm
theorem key_rr (a b : Str) : decide ((Sum.inr a : Key) = Sum.inr b) = decide (a = b) := by
  by_cases e : a = b
  · subst e; simp
  · have h : ¬ (Sum.inr a : Key) = Sum.inr b := fun q => e (Sum.inr.inj q)
    rw [decide_eq_false h, decide_eq_false e]
theorem key_lr (a : Int) (b : Str) : decide ((Sum.inl a : Key) = Sum.inr b) = false := decide_eq_false (fun q => nomatch q)
theorem key_rl (a : Str) (b : Int) : decide ((Sum.inr a : Key) = Sum.inl b) = false := decide_eq_false (fun q => nomatch q)
def mixKind (prog : Program) (w : World) : PySem.KeyKind prog w Key where
  is := keyIs
  hash := keyH w
  inj := fun v a b ha hb => by
    rcases keyIs_shape ha with ⟨i, t, rfl, rfl⟩ | ⟨x, t, rfl, rfl⟩
    · rcases keyIs_shape hb with ⟨j, u, rfl, e⟩ | ⟨y, u, rfl, e⟩
      · injection e with e1 _; rw [e1]
      · exact nomatch e
    · rcases keyIs_shape hb with ⟨j, u, rfl, e⟩ | ⟨y, u, rfl, e⟩
      · exact nomatch e
      · injection e with e1 _; rw [e1]
  byValue := fun k v h => by
    rcases keyIs_shape h with ⟨i, t, rfl, rfl⟩ | ⟨x, t, rfl, rfl⟩ <;> rfl
  pyHash := fun hv h => by
    rcases keyIs_shape hv with ⟨i, t, rfl, rfl⟩ | ⟨x, t, rfl, rfl⟩
    · exact wpAny_pyHash_int h
    · exact wpAny_pyHash_str h
  eqBool := fun hu hv h => by
    rcases keyIs_shape hu with ⟨i, t, rfl, rfl⟩ | ⟨x, t, rfl, rfl⟩
    · rcases keyIs_shape hv with ⟨j, u, rfl, rfl⟩ | ⟨y, u, rfl, rfl⟩
      · rw [key_ll] at h; exact wpAny_eqBool_int h
      · rw [key_lr] at h; exact SeqAt.EqAt.int_str i t y u _ _ _ _ h
    · rcases keyIs_shape hv with ⟨j, u, rfl, rfl⟩ | ⟨y, u, rfl, rfl⟩
      · rw [key_rl] at h; exact SeqAt.EqAt.str_int x t j u _ _ _ _ h
      · rw [key_rr] at h; exact wpAny_eqBool_str h
  «strs» := fun k x t v h => by
    rcases keyIs_shape h with ⟨i, u, rfl, e⟩ | ⟨y, u, rfl, e⟩
    · exact nomatch e
    · injection e with e1 _
      subst e1
      cases v <;> rfl
theorem mixKind_int (prog : Program) (w : World) (i : Int) (t : Tok) : (mixKind prog w).is (.inl i) (.int i t) = true := keyIs_int i t
theorem mixKind_str (prog : Program) (w : World) (x : Str) (t : Tok) : (mixKind prog w).is (.inr x) (.str x t) = true := keyIs_str x t
end L2
namespace L2
open PySem PySem.Spec PyProof.Rows
inductive V where
  | non | bl (b : Bool) | int (i : Int) | str (x : Str) | byt (b : Array UInt8) | flt (b : UInt64) | ref (a : Addr) | ty (n : String)
  deriving DecidableEq
def RelV : V → Value → Prop
  | .non, u => u = Value.none
  | .bl b, u => u = Value.bool b
  | .int i, u => ∃ t, u = Value.int i t
  | .str x, u => ∃ t, u = Value.str x t
  | .byt b, u => ∃ t, u = Value.bytes b t
  | .flt b, u => ∃ t, u = Value.float b t
  | .ref a, u => u = Value.ref a
  | .ty n, u => u = Value.type n
abbrev Vals : List V → List Value → Prop := Paired RelV
theorem Vals.length {xs : List V} {us : List Value} (r : Vals xs us) : xs.length = us.length := Paired.length r
theorem Vals.get : ∀ {xs : List V} {us : List Value} {i : Nat} {x : V}, Vals xs us → xs[i]? = some x → ∃ u, us[i]? = some u ∧ RelV x u
  | _, _, _, _, .nil, e => by simp at e
  | _, _, 0, _, .cons r _, e => by simp at e; subst e; exact ⟨_, rfl, r⟩
  | _, _, i + 1, x, .cons _ t, e => by
    obtain ⟨u, h1, h2⟩ := Vals.get (i := i) (x := x) t (by simpa using e)
    exact ⟨u, by simpa using h1, h2⟩
theorem Vals.set {x : V} {u : Value} (r : RelV x u) : ∀ {xs : List V} {us : List Value} (i : Nat), Vals xs us → Vals (xs.set i x) (us.set i u)
  | _, _, _, .nil => .nil
  | _, _, 0, .cons _ t => .cons r t
  | _, _, i + 1, .cons q t => .cons q (Vals.set r i t)
theorem Vals.append : ∀ {xs ys : List V} {us ws : List Value}, Vals xs us → Vals ys ws → Vals (xs ++ ys) (us ++ ws)
  | _, _, _, _, .nil, s => s
  | _, _, _, _, .cons r t, s => .cons r (Vals.append t s)
theorem Vals.take : ∀ {xs : List V} {us : List Value} (n : Nat), Vals xs us → Vals (xs.take n) (us.take n)
  | _, _, 0, _ => .nil
  | _, _, _ + 1, .nil => .nil
  | _, _, n + 1, .cons r t => .cons r (Vals.take n t)
theorem Vals.drop : ∀ {xs : List V} {us : List Value} (n : Nat), Vals xs us → Vals (xs.drop n) (us.drop n)
  | _, _, 0, r => r
  | _, _, _ + 1, .nil => .nil
  | _, _, n + 1, .cons _ t => Vals.drop n t
theorem Vals.none_of : ∀ {xs : List V} {us : List Value} {i : Nat}, Vals xs us → xs[i]? = none → us[i]? = none := fun {xs us i} r e => by
  have h1 := r.length
  have h2 : xs.length ≤ i := List.getElem?_eq_none_iff.mp e
  exact List.getElem?_eq_none_iff.mpr (by omega)
def RelO : Option V → Option Value → Prop
  | some v, some u => RelV v u
  | none, none => True
  | _, _ => False
def KV {κ : Type} : List (κ × V) → List (κ × Value) → Prop := Paired fun (p : κ × V) (q : κ × Value) => p.1 = q.1 ∧ RelV p.2 q.2
def kV : Key → V
  | .inl i => .int i
  | .inr x => .str x
inductive HO where
  /-- a list -/
  | lst (xs : List V)
  /-- a tuple (never changes) -/
  | tup (xs : List V)
  /-- a dict whose keys are ints and texts; one whose keys are tuples of ints and texts (the empty one is both) -/
  | dK (kvs : List (Key × V)) | dT (kvs : List (List Key × V))
  /-- a set of ints: its members, its size -/
  | set (S : Int → Bool) (n : Nat)
  /-- an instance of the class at C, its dict at dx, its attributes -/
  | ins (C dx : Addr) (fs : List (Str × V))
  /-- the dict of the instance at x -/
  | own (x : Addr)
  /-- the dict of an exception -/
  | xd (fs : List (Str × V))
  /-- a bound method, f of x -/
  | met (f x : Addr)
  /-- a range object lo, lo + 1, .. below hi -/
  | rng (lo hi : Int)
  /-- a thing that is known to the object (the script; a dict while a loop walks it): read, never written while it is so -/
  | frz (o : Obj) (u : HO)
  /-- a code object's table -/
  | tbl (ps : Array Value)
  /-- any other thing, by what is true of its one object (a def of one's own: SetO a S n := HO.ext fun h => ..) -/
  | ext (φ : Heap → Prop)
abbrev Hp := Addr → Option HO
def upd (H : Hp) (a : Addr) (o : HO) : Hp := fun b => if b = a then some o else H b
theorem upd_same {H : Hp} {a : Addr} {o : HO} : upd H a o a = some o := by unfold upd; rw [if_pos rfl]
theorem upd_ne {H : Hp} {a b : Addr} {o : HO} (h : b ≠ a) : upd H a o b = H b := by unfold upd; rw [if_neg h]
theorem ne_of {H : Hp} {a b : Addr} {o u : HO} (h : H a = some o) (h' : H b = some u) (d : o ≠ u) : a ≠ b := by
  intro e; subst e; rw [h] at h'; exact d (Option.some.inj h')
theorem ne_of_none {H : Hp} {a b : Addr} {o : HO} (h : H a = some o) (h' : H b = none) : a ≠ b := by
  intro e; subst e; rw [h] at h'; cases h'
section
variable (P : Program) (w : World)
def ObjOk (H : Hp) (h : Heap) (a : Addr) : HO → Prop
  | .lst xs => xs.length ≤ sizeLine ∧ ∃ (its : List Value) (n : Nat), Vals xs its ∧ h.get? a = some { cls := .type "list", data := .seq its.toArray n }
  | .tup xs => xs.length ≤ sizeLine ∧ ∃ its : List Value, Vals xs its ∧ IsTup h a its.toArray
  | .dK kvs => kvs.length ≤ sizeLine ∧ (a == sysModules) = false ∧ ∃ vs, KV kvs vs ∧ h.DictOf (mixKind P w) a vs
  | .dT kvs => kvs.length ≤ sizeLine ∧ (a == sysModules) = false ∧ ∃ xs : List (List Key × Addr × Value),
      Paired (fun (p : List Key × V) (q : List Key × Addr × Value) => p.1 = q.1 ∧ H q.2.1 = some (.tup (p.1.map kV)) ∧ RelV p.2 q.2.2) kvs xs ∧
      ∃ o es ep, h.get? a = some o ∧ o.ExactDict ∧ o.data = .dict es ep ∧ es.toList = xs.map (entryOfKey (tupleKind (mixKind P w))) ∧ (xs.map (·.1)).Nodup
  | .set S n => h.SetOf (intKind P w) a S n
  | .ins C dx fs => H dx = some (.own a) ∧ fs.length ≤ 1000 ∧ dx ≠ a ∧ h.get? a = some (PySem.W.instObj C dx) ∧
      ∃ mA, h.Ns1 dx mA ∧ (∀ f, RelO (fs.lookup f) (mA f)) ∧ PySem.Within mA (fs.map (·.1))
  | .own _ => ∃ o, h.get? a = some o
  | .xd fs => ∃ mA, h.Ns1 a mA ∧ ∀ f, RelO (fs.lookup f) (mA f)
  | .rng lo hi => ∃ t u v, h.get? a = some { cls := .type "range", data := .fields #[.int lo t, .int hi u, .int 1 v] }
  | .frz o u => h.get? a = some o ∧ ObjOk H h a u
  | .tbl ps => h.get? a = some { cls := .none, data := .fields ps }
  | .met f x => h.get? a = some (PySem.W.methodObj (.ref f) (.ref x))
  | .ext φ => φ h ∧ (∃ o, h.get? a = some o) ∧ ∀ h1 h2 : Heap, φ h1 → (∀ o, h1.get? a = some o → h2.get? a = some o) → φ h2
def HOk (H : Hp) (h : Heap) : Prop := ∀ a o, H a = some o → ObjOk P w H h a o
end
section
variable {P : Program} {w : World} {H H' : Hp} {h h' : Heap} {a : Addr} {o : HO}
theorem ObjOk.lt (x : ObjOk P w H h a o) : a < h.objs.size := by
  cases o with
  | lst xs => obtain ⟨_, _, _, _, e⟩ := x; exact Heap.lt_size e
  | tup xs => obtain ⟨_, _, _, p⟩ := x; exact p.lt
  | dK kvs => obtain ⟨_, _, _, _, o, _, _, e, _⟩ := x; exact Heap.lt_size e
  | dT kvs => obtain ⟨_, _, _, _, o, _, _, e, _⟩ := x; exact Heap.lt_size e
  | set S n => obtain ⟨o, _, _, _, e, _⟩ := x; exact Heap.lt_size e
  | ins C dx fs => obtain ⟨_, _, _, e, _⟩ := x; exact Heap.lt_size e
  | own y => obtain ⟨_, e⟩ := x; exact Heap.lt_size e
  | xd fs => obtain ⟨_, ⟨_, _, _, e, _⟩, _⟩ := x; exact Heap.lt_size e
  | rng lo hi => obtain ⟨_, _, _, e⟩ := x; exact Heap.lt_size e
  | frz ob u => obtain ⟨e, _⟩ := x; exact Heap.lt_size e
  | tbl ps => exact Heap.lt_size (show h.get? a = some _ from x)
  | met f y => exact Heap.lt_size (show h.get? a = some _ from x)
  | ext φ => obtain ⟨_, ⟨_, e⟩, _⟩ := x; exact Heap.lt_size e
theorem Paired.mapP {α β : Type} {F G : α → β → Prop} : ∀ {l₁ : List α} {l₂ : List β}, Paired F l₁ l₂ → (∀ a b, F a b → G a b) → Paired G l₁ l₂
  | _, _, .nil, _ => .nil
  | _, _, .cons r t, f => .cons (f _ _ r) (Paired.mapP t f)
theorem ObjOk.stay (x : ObjOk P w H h a o) (k : ∀ b u, (b = a ∨ H b = some (.own a)) → h.get? b = some u → h'.get? b = some u)
    (ho : ∀ b, H b = some (.own a) → H' b = some (.own a)) (ht : ∀ b xs, H b = some (.tup xs) → H' b = some (.tup xs)) : ObjOk P w H' h' a o := by
  induction o with
  | lst xs => obtain ⟨z, its, n, r, e⟩ := x; exact ⟨z, its, n, r, k _ _ (.inl rfl) e⟩
  | tup xs => obtain ⟨z, its, r, ob, e, c⟩ := x; exact ⟨z, its, r, ob, k _ _ (.inl rfl) e, c⟩
  | dK kvs => obtain ⟨z, y, vs, r, ob, es, ep, e, c⟩ := x; exact ⟨z, y, vs, r, ob, es, ep, k _ _ (.inl rfl) e, c⟩
  | dT kvs =>
    obtain ⟨z, y, xs, r, ob, es, ep, e, c⟩ := x
    exact ⟨z, y, xs, Paired.mapP r fun p q z => ⟨z.1, ht _ _ z.2.1, z.2.2⟩, ob, es, ep, k _ _ (.inl rfl) e, c⟩
  | set S n => obtain ⟨ob, es, ep, t, e, c⟩ := x; exact ⟨ob, es, ep, t, k _ _ (.inl rfl) e, c⟩
  | ins C dx fs =>
    obtain ⟨d, z, ne, e, mA, ⟨od, es, ep, e2, c⟩, r⟩ := x
    exact ⟨ho _ d, z, ne, k _ _ (.inl rfl) e, mA, ⟨od, es, ep, k _ _ (.inr d) e2, c⟩, r⟩
  | own y => obtain ⟨ob, e⟩ := x; exact ⟨ob, k _ _ (.inl rfl) e⟩
  | xd fs => obtain ⟨mA, ⟨od, es, ep, e, c⟩, r⟩ := x; exact ⟨mA, ⟨od, es, ep, k _ _ (.inl rfl) e, c⟩, r⟩
  | rng lo hi => obtain ⟨t, u, v, e⟩ := x; exact ⟨t, u, v, k _ _ (.inl rfl) e⟩
  | frz ob u ih => obtain ⟨e, q⟩ := x; exact ⟨k _ _ (.inl rfl) e, ih q⟩
  | tbl ps =>
    have e : h.get? a = some { cls := .none, data := .fields ps } := x
    show h'.get? a = some { cls := .none, data := .fields ps }
    exact k a _ (.inl rfl) e
  | met f y =>
    have e : h.get? a = some (PySem.W.methodObj (.ref f) (.ref y)) := x
    show h'.get? a = some (PySem.W.methodObj (.ref f) (.ref y))
    exact k a _ (.inl rfl) e
  | ext φ => obtain ⟨p, ⟨o, e⟩, st⟩ := x; exact ⟨st _ _ p fun o q => k _ _ (.inl rfl) q, ⟨o, k _ _ (.inl rfl) e⟩, st⟩
theorem HOk.lt (x : HOk P w H h) (e : H a = some o) : a < h.objs.size := (x a o e).lt
theorem HOk.fresh (x : HOk P w H h) (e : h.objs.size ≤ a) : H a = none := by
  cases q : H a with
  | none => rfl
  | some u => exact absurd (Nat.lt_of_lt_of_le (x.lt q) e) (Nat.lt_irrefl _)
theorem HOk.kept (x : HOk P w H h) (k : ∀ b u, h.get? b = some u → h'.get? b = some u) : HOk P w H h' := fun a o e =>
  (x a o e).stay (fun b u _ q => k b u q) (fun _ q => q) fun _ _ q => q
theorem HOk.laid (x : HOk P w H h) (k : ∀ b u, h.get? b = some u → h'.get? b = some u) (hp : h.objs.size ≤ a) (new : ObjOk P w (upd H a o) h' a o) : HOk P w (upd H a o) h' := fun b u e => by
  have hn := x.fresh hp
  by_cases hb : b = a
  · subst hb; rw [upd_same] at e; cases e; exact new
  · rw [upd_ne hb] at e
    exact (x b u e).stay (fun c v _ q => k c v q) (fun c q => by rw [upd_ne (ne_of_none q hn)]; exact q) fun c xs q => by rw [upd_ne (ne_of_none q hn)]; exact q
end
def Rd (H : Hp) (a : Addr) (u : HO) : Prop := H a = some u ∨ ∃ o, H a = some (.frz o u)
theorem Rd.of {H : Hp} {a : Addr} {u : HO} (h : H a = some u) : Rd H a u := .inl h
theorem Rd.ok {P : Program} {w : World} {H : Hp} {h : Heap} {a : Addr} {u : HO} (r : Rd H a u) (x : HOk P w H h) : ObjOk P w H h a u := by
  rcases r with r | ⟨o, r⟩
  · exact x a u r
  · obtain ⟨_, q⟩ := x a _ r
    exact q
def Mut : Option HO → Prop
  | some (.lst _) => True
  | some (.dK _) => True
  | some (.dT _) => True
  | some (.set _ _) => True
  | some (.ins _ _ _) => True
  | some (.ext _) => True
  | _ => False
section
variable {P : Program} {w : World} {H : Hp} {h h' : Heap} {x e : Addr} {o' : HO}
theorem HOk.write (ok : HOk P w H h) (mu : Mut (H x)) (he : e = x ∨ H e = some (.own x)) (k : ∀ b u, b ≠ e → h.get? b = some u → h'.get? b = some u) (heo : ∃ u, h'.get? e = some u)
    (new : ObjOk P w (upd H x o') h' x o') : HOk P w (upd H x o') h' := fun b u q => by
  have nown : ∀ c y, H c = some (.own y) → c ≠ x := fun c y r z => by subst z; rw [r] at mu; exact mu
  have ntup : ∀ c xs, H c = some (.tup xs) → c ≠ x := fun c xs r z => by subst z; rw [r] at mu; exact mu
  by_cases hb : b = x
  · subst hb; rw [upd_same] at q; cases q; exact new
  · rw [upd_ne hb] at q
    by_cases hbe : b = e
    · have q' : H b = some (.own x) := by
        rcases he with z | z
        · exact absurd (hbe.trans z) hb
        · rw [hbe]; exact z
      rw [q] at q'; cases q'
      obtain ⟨v, hv⟩ := heo
      exact ⟨v, by rw [hbe]; exact hv⟩
    · refine (ok b u q).stay (fun c v hc r => k c v ?_ r) (fun c r => by rw [upd_ne (nown c b r)]; exact r) fun c xs r => by rw [upd_ne (ntup c xs r)]; exact r
      rcases hc with rfl | hc
      · exact hbe
      · rintro rfl
        rcases he with z | z
        · exact nown c b hc z
        · rw [hc] at z; cases z; exact hb rfl
end
structure Un (fs ex : List Addr) (H H' : Hp) (h h' : Heap) : Prop where
  keep : ∀ b o, h.get? b = some o → H b = none → b ∉ fs → b ∉ ex → h'.get? b = some o
  slot : ∀ b o, h.get? b = some o → H b = none → b ∈ fs → b ∉ ex → ∃ sl, h'.get? b = some { o with slots := sl }
  free : ∀ b o, h.get? b = some o → H b = none → b ∉ ex → H' b = none
  there : ∀ b o, h.get? b = some o → b ∉ ex → ∃ o', h'.get? b = some o'
  tups : ∀ b xs, H b = some (.tup xs) → H' b = some (.tup xs)
  frzs : ∀ b o u, H b = some (.frz o u) → H' b = some (.frz o u)
  tbls : ∀ b ps, H b = some (.tbl ps) → ∃ more, H' b = some (.tbl (ps ++ more))
section
variable {fs fs' ex ex' : List Addr} {H H1 H2 : Hp} {h h1 h2 h' : Heap} {a x e : Addr} {o : HO}
theorem Un.any (u : Un fs ex H H1 h h1) {b : Addr} {ob : Obj} (q : h.get? b = some ob) (n : H b = none) (hx : b ∉ ex) : ∃ sl, h1.get? b = some { ob with slots := sl } := by
  by_cases hb : b ∈ fs
  · exact u.slot b ob q n hb hx
  · exact ⟨ob.slots, u.keep b ob q n hb hx⟩
theorem Un.trans (a : Un fs ex H H1 h h1) (b : Un fs ex H1 H2 h1 h2) : Un fs ex H H2 h h2 where
  keep := fun c ob q n hc hx => b.keep c ob (a.keep c ob q n hc hx) (a.free c ob q n hx) hc hx
  slot := fun c ob q n hc hx => by
    obtain ⟨sl, e1⟩ := a.slot c ob q n hc hx
    obtain ⟨sl', e2⟩ := b.slot c _ e1 (a.free c ob q n hx) hc hx
    exact ⟨sl', e2⟩
  free := fun c ob q n hx => by
    obtain ⟨o', e1⟩ := a.there c ob q hx
    exact b.free c o' e1 (a.free c ob q n hx) hx
  there := fun c ob q hx => by
    obtain ⟨o', e1⟩ := a.there c ob q hx
    exact b.there c o' e1 hx
  tups := fun c xs q => b.tups c xs (a.tups c xs q)
  frzs := fun c ob xs q => b.frzs c ob xs (a.frzs c ob xs q)
  tbls := fun c ps q => by
    obtain ⟨m1, e1⟩ := a.tbls c ps q
    obtain ⟨m2, e2⟩ := b.tbls c _ e1
    exact ⟨m1 ++ m2, by rw [e2, Array.append_assoc]⟩
theorem Un.kept (k : ∀ b u, h.get? b = some u → h'.get? b = some u) : Un fs ex H H h h' :=
  ⟨fun b ob q _ _ _ => k b ob q, fun b ob q _ _ _ => ⟨ob.slots, k b ob q⟩, fun _ _ _ n _ => n, fun b ob q _ => ⟨ob, k b ob q⟩, fun _ _ q => q, fun _ _ _ q => q, fun _ ps q => ⟨#[], by rw [q]; simp⟩⟩
theorem Un.refl : Un fs ex H H h h := Un.kept fun _ _ q => q
theorem Un.laid (k : ∀ b u, h.get? b = some u → h'.get? b = some u) (hp : h.objs.size ≤ a) (hn : H a = none) : Un fs ex H (upd H a o) h h' where
  keep := fun b u q _ _ _ => k b u q
  slot := fun b u q _ _ _ => ⟨u.slots, k b u q⟩
  free := fun b u q n _ => by rw [upd_ne (Nat.ne_of_lt (Nat.lt_of_lt_of_le (Heap.lt_size q) hp))]; exact n
  there := fun b u q _ => ⟨u, k b u q⟩
  tups := fun b xs q => by rw [upd_ne (ne_of_none q hn)]; exact q
  frzs := fun b u xs q => by rw [upd_ne (ne_of_none q hn)]; exact q
  tbls := fun b ps q => ⟨#[], by rw [upd_ne (ne_of_none q hn), q]; simp⟩
theorem Un.write (mu : Mut (H x)) (he : e = x ∨ H e = some (.own x)) (k : ∀ b u, b ≠ e → h.get? b = some u → h'.get? b = some u) (heo : ∃ u, h'.get? e = some u) : Un fs ex H (upd H x o) h h' := by
  have hx : ∀ b, H b = none → b ≠ x := fun b n z => by subst z; rw [n] at mu; exact mu
  have hb : ∀ b, H b = none → b ≠ e := fun b n z => by
    subst z
    rcases he with r | r
    · exact hx b n r
    · rw [n] at r; cases r
  have hm : ∀ b u, H b = some u → ¬ Mut (some u) → b ≠ x := fun b u q nm z => by subst z; rw [q] at mu; exact nm mu
  refine ⟨fun b u q n _ _ => k b u (hb b n) q, fun b u q n _ _ => ⟨u.slots, k b u (hb b n) q⟩, fun b u q n _ => by rw [upd_ne (hx b n)]; exact n, fun b u q _ => ?_,
    fun b xs q => by rw [upd_ne (hm b _ q fun z => z)]; exact q, fun b u xs q => by rw [upd_ne (hm b _ q fun z => z)]; exact q, fun b ps q => ⟨#[], by rw [upd_ne (hm b _ q fun z => z), q]; simp⟩⟩
  by_cases hbe : b = e
  · subst hbe; exact heo
  · exact ⟨u, k b u hbe q⟩
theorem Un.mono (u : Un fs ex H H1 h h1) (hs : ∀ b ∈ fs, b ∈ fs') (hx : ∀ b ∈ ex, b ∈ ex') : Un fs' ex' H H1 h h1 :=
  ⟨fun b ob q n hb he => u.keep b ob q n (fun z => hb (hs b z)) fun z => he (hx b z), fun _ _ q n _ he => u.any q n fun z => he (hx _ z), fun b ob q n he => u.free b ob q n fun z => he (hx b z), fun b ob q he => u.there b ob q fun z => he (hx b z), u.tups, u.frzs, u.tbls⟩
end
def trk (h : Heap) (H : Hp) : List Addr := (List.range h.objs.size).filter fun a => (H a).isSome
def hidT (h : Heap) (H : Hp) : Heap := PySem.W.hideAll h (trk h H)
theorem hidT_size (h : Heap) (H : Hp) : (hidT h H).objs.size = h.objs.size := PySem.W.hideAll_size _ _
theorem hidT_get {h : Heap} {H : Hp} {b : Addr} {o : Obj} (e : h.get? b = some o) (n : H b = none) : (hidT h H).get? b = some o :=
  PySem.W.hideAll_get _ e fun hm => by
    have q : (H b).isSome = true := (List.mem_filter.mp hm).2
    rw [n] at q; simp at q
theorem of_hidT {h : Heap} {H : Hp} {b : Addr} {o : Obj} (e : (hidT h H).get? b = some o) : h.get? b = some o ∧ H b = none := by
  have e' : h.get? b = some o := PySem.W.of_hideAll (trk h H) e
  refine ⟨e', ?_⟩
  cases q : H b with
  | none => rfl
  | some x =>
    have hm : b ∈ trk h H := List.mem_filter.mpr ⟨List.mem_range.mpr (Heap.lt_size e'), by simp [q]⟩
    have z : (hidT h H).get? b = none := PySem.W.hideAll_none (trk h H) hm
    rw [z] at e; cases e
def allNews (g h : Heap) (L : Addr) : List (Addr × Obj) := (List.range h.objs.size).filterMap fun a => if a = L ∨ (g.get? a).isSome = true then none else (h.get? a).map fun o => (a, o)
theorem mem_allNews {g h : Heap} {L a : Addr} {o : Obj} (h1 : a ≠ L) (h2 : g.get? a = none) (h3 : h.get? a = some o) : (a, o) ∈ allNews g h L :=
  List.mem_filterMap.mpr ⟨a, List.mem_range.mpr (Heap.lt_size h3), by simp [h1, h2, h3]⟩
theorem of_mem_allNews {g h : Heap} {L : Addr} {p : Addr × Obj} (hp : p ∈ allNews g h L) : p.1 ≠ L ∧ g.get? p.1 = none ∧ h.get? p.1 = some p.2 := by
  obtain ⟨b, _, e⟩ := List.mem_filterMap.mp hp
  split at e
  · cases e
  · rename_i hn
    cases q : h.get? b with
    | none => rw [q] at e; simp at e
    | some u =>
      rw [q] at e
      simp only [Option.map_some, Option.some.injEq] at e
      subst e
      refine ⟨fun z => hn (.inl z), ?_, q⟩
      show g.get? b = none
      cases r : g.get? b with
      | none => rfl
      | some v => exact (hn (.inr (by simp [r]))).elim
def rest (g h : Heap) (L d : Addr) : List (Addr × Obj) := (allNews g h L).filter fun p => decide (p.1 ≠ d)
theorem news_all {g h : Heap} {L : Addr} : News g L h (allNews g h L) := fun p hp => let ⟨a, b, c⟩ := of_mem_allNews hp; ⟨c, a, b⟩
end L2
namespace L2
open PySem PySem.Spec PyProof.Rows
structure Mod (K : PySem.W.Frag) (mg : Str → Option Value) (base : Heap) : Prop where
  kin : K.In base
  glob : base.Ns mainGlobals mg
  blt : ∃ mb, base.Ns builtinsNs mb ∧ ∀ x : Str, x ≠ "__name__" → mb x = bootBuiltins x
  nolimit : base.NoLimit
structure Cx where
  prog : Program
  w : World
  K : PySem.W.Frag
  mg : Str → Option Value
  base : Heap
  A : Around
  N : List Str
  s₀ : Shared
  H₀ : Hp
  env : Env
  outer : List Env
  stack : List Env
  ex : List Addr
  fn : Str → Bool
  calm : Bool
  pn : List (Addr × Obj)
  xe : Value → Shared → Prop
def frs (l : List Env) : List Addr := l.filterMap (·.frame)
abbrev Cx.fs (X : Cx) : List Addr := frs X.outer
def Vis (sc : Scope) (x : Str) : Prop := sc.names.lookup x = some .local ∨ sc.names.lookup x = some .cell ∨ sc.names.lookup x = some .free
def Loc (sc : Scope) (x : Str) : Prop := sc.names.lookup x = some .local ∨ sc.names.lookup x = some .cell
def Look (env : Env) (h : Heap) (m : Str → Option Value) (x : Str) (u : Value) : Prop :=
  (env.kindOf x = some .local ∧ m x = some u) ∨ ((env.kindOf x = some .cell ∨ env.kindOf x = some .free) ∧ ∃ c, env.cells.lookup x = some c ∧ h.IsCell c (some u))
structure Cx.Ok (X : Cx) : Prop where
  mod : Mod X.K X.mg X.base
  kind : X.env.scope.kind = .function
  glob : X.env.globals = mainGlobals
  blt : X.env.builtins = builtinsNs
  above : X.s₀.heap.objs.size ≤ X.env.locals
  inj : ∀ x y c, X.env.cells.lookup x = some c → X.env.cells.lookup y = some c → x = y
  has : ∀ x, (X.env.kindOf x = some .cell ∨ X.env.kindOf x = some .free) → ∃ c, X.env.cells.lookup x = some c
  cab : ∀ x c, X.fn x = true → X.env.cells.lookup x = some c → X.s₀.heap.objs.size ≤ c
  hd : X.calm = true → X.A.handled = none
  frames : X.A.frames = some X.stack
  stk : X.stack = X.outer ∨ (X.stack = X.env :: X.outer ∧ X.env.frame = some X.env.locals)
  exf : ∀ b ∈ X.ex, b ≠ X.env.locals ∧ ∀ x c, X.env.cells.lookup x = some c → c ≠ b
  bs : ∀ b o, X.base.get? b = some o → X.s₀.heap.get? b = some o ∧ X.H₀ b = none
  bsz : X.base.objs.size ≤ X.s₀.heap.objs.size
  noex : ∀ b o, X.base.get? b = some o → b ∉ X.ex
  exfs : ∀ b ∈ X.ex, b ∉ X.fs
  funs : X.s₀.heap.FunFrames X.base X.outer
  frf : ∀ b ∈ X.fs, X.H₀ b = none
structure Inv (X : Cx) (pins : List (Addr × Obj)) (σ : List (Option V)) (H : Hp) (s : Shared) : Prop where
  ok : X.Ok
  os : s.os = X.s₀.os
  bare : AllBare s.gens
  base : Un X.fs X.ex X.H₀ H X.s₀.heap s.heap
  loc : ∃ m, s.heap.Ns X.env.locals m ∧ ∀ (i : Nat) (x : Str) (v : V), X.N[i]? = some x → σ[i]? = some (some v) → Vis X.env.scope x → ∃ u, RelV v u ∧ Look X.env s.heap m x u
  cell : ∀ x c, X.env.cells.lookup x = some c → ∃ v, s.heap.IsCell c v
  free : H X.env.locals = none
  freeC : ∀ x c, X.env.cells.lookup x = some c → H c = none
  pin : ∀ p ∈ X.pn ++ pins, s.heap.get? p.1 = some p.2 ∧ H p.1 = none ∧ p.1 ≠ X.env.locals ∧ p.1 ∉ X.fs ∧ ∀ v, p.2.data ≠ .cell v
  hok : HOk X.prog X.w H s.heap
  len : σ.length = X.N.length
section
variable {X : Cx} {pins : List (Addr × Obj)} {σ : List (Option V)} {H H' : Hp} {s : Shared} {h' : Heap}
theorem Cx.Ok.nofr (ok : X.Ok) {b : Addr} {o : Obj} (e : X.base.get? b = some o) : b ∉ X.fs := fun hb => by
  have := (ok.funs.mem hb).1
  rw [e] at this; cases this
theorem Inv.bs (I : Inv X pins σ H s) : ∀ b o, X.base.get? b = some o → s.heap.get? b = some o ∧ H b = none := fun b o e =>
  ⟨I.base.keep b o (I.ok.bs b o e).1 (I.ok.bs b o e).2 (I.ok.nofr e) (I.ok.noex b o e), I.base.free b o (I.ok.bs b o e).1 (I.ok.bs b o e).2 (I.ok.noex b o e)⟩
theorem Inv.bk (I : Inv X pins σ H s) : ∀ b o, X.base.get? b = some o → s.heap.get? b = some o := fun b o e => (I.bs b o e).1
theorem Inv.mod (I : Inv X pins σ H s) : Mod X.K X.mg X.base := I.ok.mod
theorem Inv.kIn (I : Inv X pins σ H s) : X.K.In s.heap := I.ok.mod.kin.keeps I.bk
theorem Inv.nolimit (I : Inv X pins σ H s) : s.heap.NoLimit := I.ok.mod.nolimit.keeps I.bk
theorem Inv.fr (I : Inv X pins σ H s) : ∃ m, Fr X.base X.env.locals s.heap m :=
  let ⟨m, hn, _⟩ := I.loc
  ⟨m, hn, I.bk, Nat.le_trans I.ok.bsz I.ok.above⟩
theorem Inv.lt (I : Inv X pins σ H s) : X.env.locals < s.heap.objs.size := let ⟨_, hn, _⟩ := I.loc; hn.lt
theorem Inv.sz (I : Inv X pins σ H s) : X.s₀.heap.objs.size ≤ s.heap.objs.size := Nat.le_trans I.ok.above (Nat.le_of_lt I.lt)
theorem Inv.nofs (I : Inv X pins σ H s) {a : Addr} (h : s.heap.objs.size ≤ a) : a ∉ X.fs := fun hb => by
  obtain ⟨_, o, ho, _⟩ := I.ok.funs.mem hb
  exact absurd (Nat.lt_of_lt_of_le (Heap.lt_size ho) (Nat.le_trans I.sz h)) (Nat.lt_irrefl _)
theorem Inv.cne (I : Inv X pins σ H s) : ∀ x c, X.env.cells.lookup x = some c → c ≠ X.env.locals := fun x c e z => by
  obtain ⟨v, o, ho, hd⟩ := I.cell x c e
  obtain ⟨m, ⟨o', es, ep, ho', hd', _⟩, _⟩ := I.loc
  rw [z, ho'] at ho; cases ho; rw [hd'] at hd; cases hd
theorem Inv.funs (I : Inv X pins σ H s) : s.heap.FunFrames X.base X.outer := by
  have all : ∀ (l : List Env), (∀ b ∈ frs l, b ∈ X.fs) → X.s₀.heap.FunFrames X.base l → s.heap.FunFrames X.base l := by
    intro l
    induction l with
    | nil => intro _ _; trivial
    | cons env r ih =>
      intro hs hl
      obtain ⟨hk, ⟨L, o, hf, hn, ho, hd⟩, hr⟩ := hl
      have hL : L ∈ X.fs := hs L (by unfold frs; rw [List.filterMap_cons, hf]; exact List.mem_cons_self)
      obtain ⟨sl, e⟩ := I.base.slot L o ho (I.ok.frf L hL) hL fun z => I.ok.exfs L z hL
      exact ⟨hk, ⟨L, _, hf, hn, e, hd⟩, ih (fun b hb => hs b (by unfold frs; rw [List.filterMap_cons, hf]; exact List.mem_cons_of_mem _ hb)) hr⟩
  exact all X.outer (fun _ hb => hb) I.ok.funs
theorem Inv.stack (I : Inv X pins σ H s) : s.heap.FunFrames X.base X.stack := by
  rcases I.ok.stk with e | ⟨e, hf⟩
  · rw [e]; exact I.funs
  · rw [e]
    obtain ⟨m, hn, _⟩ := I.loc
    refine .cons (by rw [I.ok.kind]; decide) hf hn ?_ I.funs
    exact Heap.get?_none_of_le (Nat.le_trans I.ok.bsz I.ok.above)
theorem Inv.stkSub (I : Inv X pins σ H s) : ∀ b ∈ frs X.stack, b ∈ X.env.locals :: X.fs := fun b hb => by
  rcases I.ok.stk with e | ⟨e, hf⟩
  · rw [e] at hb; exact List.mem_cons_of_mem _ hb
  · rw [e] at hb
    unfold frs at hb
    rw [List.filterMap_cons, hf] at hb
    exact hb
theorem Inv.stkFree (I : Inv X pins σ H s) : ∀ b ∈ frs X.stack, H b = none := fun b hb => by
  rcases List.mem_cons.mp (I.stkSub b hb) with e | hb
  · rw [e]; exact I.free
  · obtain ⟨_, o, ho, _⟩ := I.ok.funs.mem hb
    exact I.base.free b o ho (I.ok.frf b hb) fun z => I.ok.exfs b z hb
theorem Inv.step {g' : Array GenState} {t' : Nat} {d' : Drawn} {ch : List Addr} (I : Inv X pins σ H s)
    (hch : ∀ b ∈ ch, (b ∈ X.ex ∨ X.s₀.heap.objs.size ≤ b) ∧ b ≠ X.env.locals ∧ (∀ x c, X.env.cells.lookup x = some c → c ≠ b) ∧ ∀ p ∈ X.pn ++ pins, p.1 ≠ b)
    (keep : ∀ b o, b ≠ X.env.locals → b ∉ X.fs → b ∉ ch → s.heap.get? b = some o → H b = none → h'.get? b = some o)
    (slot : ∀ b o, b ≠ X.env.locals → b ∈ X.fs → b ∉ ch → s.heap.get? b = some o → H b = none → ∃ sl, h'.get? b = some { o with slots := sl }) (free : ∀ b o, b ∉ ch → s.heap.get? b = some o → H b = none → H' b = none)
    (there : ∀ b o, b ∉ ch → s.heap.get? b = some o → ∃ o', h'.get? b = some o')
    (tups : ∀ b xs, H b = some (.tup xs) → H' b = some (.tup xs)) (frzs : ∀ b o u, H b = some (.frz o u) → H' b = some (.frz o u)) (tbls : ∀ b ps, H b = some (.tbl ps) → ∃ more, H' b = some (.tbl (ps ++ more)))
    (ns : ∀ m, s.heap.Ns X.env.locals m → h'.Ns X.env.locals m) (hok : HOk X.prog X.w H' h') (hg : AllBare g') :
    Inv X pins σ H' { s with heap := h', gens := g', drawn := d', toks := t' } := by
  have neL : ∀ b o, X.s₀.heap.get? b = some o → b ≠ X.env.locals := fun b o e => Nat.ne_of_lt (Nat.lt_of_lt_of_le (Heap.lt_size e) I.ok.above)
  have neC : ∀ b o, X.s₀.heap.get? b = some o → b ∉ X.ex → b ∉ ch := fun b o e hx hb => by
    rcases (hch b hb).1 with z | z
    · exact hx z
    · exact absurd (Nat.lt_of_lt_of_le (Heap.lt_size e) z) (Nat.lt_irrefl _)
  have cellK : ∀ x c, X.env.cells.lookup x = some c → ∀ v, s.heap.IsCell c v → h'.IsCell c v := fun x c e v ⟨o, ho, hd⟩ => by
    have nch : c ∉ ch := fun z => (hch c z).2.2.1 x c e rfl
    by_cases hc : c ∈ X.fs
    · obtain ⟨sl, q⟩ := slot c o (I.cne x c e) hc nch ho (I.freeC x c e)
      exact ⟨_, q, hd⟩
    · exact ⟨o, keep c o (I.cne x c e) hc nch ho (I.freeC x c e), hd⟩
  refine ⟨I.ok, I.os, hg, ⟨fun b o e n hb hx => ?_, fun b o e n hb hx => ?_, fun b o e n hx => ?_, fun b o e hx => ?_, fun b xs e => tups b xs (I.base.tups b xs e), fun b o xs e => frzs b o xs (I.base.frzs b o xs e), fun b ps e => ?_⟩, ?_, fun x c e => ?_, ?_, fun x c e => ?_, fun p hp => ?_, hok, I.len⟩
  · exact keep b o (neL b o e) hb (neC b o e hx) (I.base.keep b o e n hb hx) (I.base.free b o e n hx)
  · obtain ⟨sl, e1⟩ := I.base.slot b o e n hb hx
    obtain ⟨sl', e2⟩ := slot b _ (neL b o e) hb (neC b o e hx) e1 (I.base.free b o e n hx)
    exact ⟨sl', e2⟩
  · obtain ⟨o', e1⟩ := I.base.there b o e hx
    exact free b o' (neC b o e hx) e1 (I.base.free b o e n hx)
  · obtain ⟨o', e1⟩ := I.base.there b o e hx
    exact there b o' (neC b o e hx) e1
  · obtain ⟨m1, e1⟩ := I.base.tbls b ps e
    obtain ⟨m2, e2⟩ := tbls b _ e1
    exact ⟨m1 ++ m2, by rw [e2, Array.append_assoc]⟩
  · obtain ⟨m, hn, hl⟩ := I.loc
    refine ⟨m, ns m hn, fun i x v e1 e2 e3 => ?_⟩
    obtain ⟨u, r, l⟩ := hl i x v e1 e2 e3
    refine ⟨u, r, ?_⟩
    rcases l with l | ⟨k, c, e, z⟩
    · exact .inl l
    · exact .inr ⟨k, c, e, cellK x c e _ z⟩
  · obtain ⟨v, z⟩ := I.cell x c e
    exact ⟨v, cellK x c e v z⟩
  · obtain ⟨m, ⟨o, _, _, ho, _⟩, _⟩ := I.loc
    exact free _ o (fun z => (hch _ z).2.1 rfl) ho I.free
  · obtain ⟨v, o, ho, hd⟩ := I.cell x c e
    exact free c o (fun z => (hch c z).2.2.1 x c e rfl) ho (I.freeC x c e)
  · obtain ⟨e, n, ne, nf, d⟩ := I.pin p hp
    have nch : p.1 ∉ ch := fun z => (hch p.1 z).2.2.2 p hp rfl
    exact ⟨keep p.1 p.2 ne nf nch e n, free p.1 p.2 nch e n, ne, nf, d⟩
theorem Inv.un {t' : Nat} (I : Inv X pins σ H s) (u : Un X.fs [] H H' s.heap h') (hok : HOk X.prog X.w H' h') : Inv X pins σ H' { s with heap := h', toks := t' } := by
  obtain ⟨m, ⟨o, es, ep, ho, r⟩, _⟩ := id I.loc
  obtain ⟨sl, hL⟩ := u.any ho I.free (by simp)
  exact I.step (g' := s.gens) (d' := s.drawn) (ch := []) (fun _ z => nomatch z) (fun b o _ hb _ e n => u.keep b o e n hb (by simp)) (fun b o _ hb _ e n => u.slot b o e n hb (by simp)) (fun b o _ e n => u.free b o e n (by simp)) (fun b o _ e => u.there b o e (by simp)) u.tups u.frzs u.tbls (fun m' hm => by
    obtain ⟨o', es', ep', ho', r'⟩ := hm
    rw [ho] at ho'; cases ho'
    exact ⟨_, es', ep', hL, r'⟩) hok I.bare
theorem Inv.call {g' : Array GenState} {t' : Nat} {d' : Drawn} {ch : List Addr} (I : Inv X pins σ H s) (u : Un (frs X.stack) ch H H' s.heap h') (hok : HOk X.prog X.w H' h') (hg : AllBare g')
    (hch : ∀ b ∈ ch, (b ∈ X.ex ∨ X.s₀.heap.objs.size ≤ b) ∧ b ≠ X.env.locals ∧ (∀ x c, X.env.cells.lookup x = some c → c ≠ b) ∧ ∀ p ∈ X.pn ++ pins, p.1 ≠ b) :
    Inv X pins σ H' { s with heap := h', gens := g', drawn := d', toks := t' } := by
  obtain ⟨m, ⟨o, es, ep, ho, r⟩, _⟩ := id I.loc
  obtain ⟨sl, hL⟩ := u.any ho I.free fun z => (hch _ z).2.1 rfl
  exact I.step (ch := ch) hch (fun b o hL hb hc e n => u.keep b o e n (fun z => (List.mem_cons.mp (I.stkSub b z)).elim hL hb) hc) (fun b o _ _ hc e n => u.any e n hc) (fun b o hc e n => u.free b o e n hc) (fun b o hc e => u.there b o e hc) u.tups u.frzs u.tbls (fun m' hm => by
    obtain ⟨o', es', ep', ho', r'⟩ := hm
    rw [ho] at ho'; cases ho'
    exact ⟨_, es', ep', hL, r'⟩) hok hg
theorem Inv.turned {t' : Nat} {it : Addr} (I : Inv X pins σ H s) (k : ∀ b o, b ≠ it → s.heap.get? b = some o → h'.get? b = some o) (hn : H it = none) (hL : it ≠ X.env.locals)
    (h1 : it ∈ X.ex ∨ X.s₀.heap.objs.size ≤ it) (h2 : ∀ x c, X.env.cells.lookup x = some c → c ≠ it) (h3 : ∀ p ∈ X.pn ++ pins, p.1 ≠ it) : Inv X pins σ H { s with heap := h', toks := t' } := by
  have nit : ∀ b u, H b = some u → b ≠ it := fun b u e z => by rw [z, hn] at e; cases e
  refine I.step (g' := s.gens) (d' := s.drawn) (ch := [it]) (fun b hb => ?_) (fun b o _ _ hc e _ => k b o (fun z => hc (by simp [z])) e) (fun b o _ _ hc e _ => ⟨o.slots, k b o (fun z => hc (by simp [z])) e⟩) (fun _ _ _ _ n => n)
    (fun b o hc e => ⟨o, k b o (fun z => hc (by simp [z])) e⟩) (fun _ _ e => e) (fun _ _ _ e => e) (fun b ps e => ⟨#[], by rw [e]; simp⟩) (fun m hm => ?_) (fun b u e => ?_) I.bare
  · have e : b = it := by simpa using hb
    subst e
    exact ⟨h1, hL, h2, h3⟩
  · obtain ⟨o, es, ep, ho, r⟩ := hm
    exact ⟨o, es, ep, k _ o (Ne.symm hL) ho, r⟩
  · refine (I.hok b u e).stay (fun c v hc q => k c v ?_ q) (fun _ q => q) fun _ _ q => q
    rcases hc with z | z
    · rw [z]; exact nit b u e
    · exact nit c _ z
theorem Inv.tok (I : Inv X pins σ H s) (t : Nat) : Inv X pins σ H { s with toks := t } := I.un (h' := s.heap) (t' := t) Un.refl I.hok
theorem Inv.kept {t' : Nat} (I : Inv X pins σ H s) (k : ∀ b u, s.heap.get? b = some u → h'.get? b = some u) : Inv X pins σ H { s with heap := h', toks := t' } := I.un (Un.kept k) (I.hok.kept k)
theorem Inv.laid {a : Addr} {o : HO} {t' : Nat} (I : Inv X pins σ H s) (k : ∀ b u, s.heap.get? b = some u → h'.get? b = some u) (hp : s.heap.objs.size ≤ a) (new : ObjOk X.prog X.w (upd H a o) h' a o) :
    Inv X pins σ (upd H a o) { s with heap := h', toks := t' } := I.un (Un.laid k hp (I.hok.fresh hp)) (I.hok.laid k hp new)
theorem Inv.write {x e : Addr} {o : HO} {t' : Nat} (I : Inv X pins σ H s) (mu : Mut (H x)) (he : e = x ∨ H e = some (.own x)) (k : ∀ b u, b ≠ e → s.heap.get? b = some u → h'.get? b = some u) (heo : ∃ u, h'.get? e = some u)
    (new : ObjOk X.prog X.w (upd H x o) h' x o) : Inv X pins σ (upd H x o) { s with heap := h', toks := t' } := I.un (Un.write mu he k heo) (I.hok.write mu he k heo new)
theorem Inv.weak {σ' : List (Option V)} (I : Inv X pins σ H s) (hl : σ'.length = σ.length) (w : ∀ (i : Nat) v, σ'[i]? = some (some v) → σ[i]? = some (some v)) : Inv X pins σ' H s :=
  ⟨I.ok, I.os, I.bare, I.base, let ⟨m, hn, hl'⟩ := I.loc; ⟨m, hn, fun i x v e1 e2 e3 => hl' i x v e1 (w i v e2) e3⟩, I.cell, I.free, I.freeC, I.pin, I.hok, hl.trans I.len⟩
theorem Inv.pins_of {pins' : List (Addr × Obj)} (I : Inv X pins σ H s) (h : ∀ p ∈ pins', s.heap.get? p.1 = some p.2 ∧ H p.1 = none ∧ p.1 ≠ X.env.locals ∧ p.1 ∉ X.fs ∧ ∀ v, p.2.data ≠ .cell v) : Inv X pins' σ H s :=
  ⟨I.ok, I.os, I.bare, I.base, I.loc, I.cell, I.free, I.freeC, fun p hp => (List.mem_append.mp hp).elim (fun z => I.pin p (List.mem_append_left _ z)) (h p), I.hok, I.len⟩
theorem nodup_ix {N : List Str} (hN : N.Nodup) {i j : Nat} {x : Str} (a : N[i]? = some x) (b : N[j]? = some x) : i = j := by
  obtain ⟨h1, e1⟩ := List.getElem?_eq_some_iff.mp a
  obtain ⟨h2, e2⟩ := List.getElem?_eq_some_iff.mp b
  exact (List.getElem_inj hN).mp (e1.trans e2.symm)
theorem store_ok2 {M : Model} {A : Around} {E : Value → Shared → Prop} {i : Nat} {x : Str} {v : V} {u : Value} {Q : Unit → Shared → Prop} (I : Inv X pins σ H s) (hN : X.N.Nodup) (hi : X.N[i]? = some x) (hx : Loc X.env.scope x) (r : RelV v u)
    (h : ∀ s', Inv X pins (σ.set i (some v)) H s' → (∃ a, Heap.SameBut a s.heap s'.heap ∧ (a = X.env.locals ∨ X.env.cells.lookup x = some a)) → Q () s') (hf : X.fn x = true ∨ X.env.scope.names.lookup x = some .local := by first | exact .inl rfl | exact .inr rfl | assumption) : wpAny M A (storeName X.env x u) Q E s := by
  obtain ⟨m, hn, hl⟩ := id I.loc
  have hcls : (X.env.scope.kind == .class || (X.env.scope.kind == .module && X.env.locals != X.env.globals)) = false := by rw [I.ok.kind]; rfl
  have hiσ : i < σ.length := by rw [I.len]; exact (List.getElem?_eq_some_iff.mp hi).1
  have cne := I.cne
  have tracked : ∀ {a : Addr} {h' : Heap}, (∃ o, s.heap.get? a = some o ∧ H a = none) → Heap.SameBut a s.heap h' → HOk X.prog X.w H h' := fun {a h'} ha hs b ob e => by
    obtain ⟨_, _, hfree⟩ := ha
    refine (I.hok b ob e).stay (fun c w' hc q => (hs.2 c ?_).trans q) (fun _ q => q) fun _ _ q => q
    rintro rfl
    rcases hc with rfl | hc
    · rw [hfree] at e; cases e
    · rw [hfree] at hc; cases hc
  rcases hx with hk | hk
  · refine wpAny_storeName_local hk hn (fun h' hn' hs => ?_) hcls
    obtain ⟨oL, _, _, hoL, _⟩ := id hn
    refine h _ ⟨I.ok, I.os, I.bare, ⟨fun b o e n hb hx => ?_, fun b o e n hb hx => ?_, I.base.free, fun b o e hx => ?_, I.base.tups, I.base.frzs, I.base.tbls⟩, ⟨_, hn', fun j y v' e1 e2 e3 => ?_⟩, fun y c e => ?_, I.free, I.freeC, fun p hp => ?_, tracked ⟨oL, hoL, I.free⟩ hs, by simpa using I.len⟩ ⟨_, hs, .inl rfl⟩
    · exact (hs.2 b (Nat.ne_of_lt (Nat.lt_of_lt_of_le (Heap.lt_size e) I.ok.above))).trans (I.base.keep b o e n hb hx)
    · obtain ⟨sl, e1⟩ := I.base.slot b o e n hb hx
      exact ⟨sl, (hs.2 b (Nat.ne_of_lt (Nat.lt_of_lt_of_le (Heap.lt_size e) I.ok.above))).trans e1⟩
    · obtain ⟨o', e1⟩ := I.base.there b o e hx
      exact ⟨o', (hs.2 b (Nat.ne_of_lt (Nat.lt_of_lt_of_le (Heap.lt_size e) I.ok.above))).trans e1⟩
    · by_cases hj : j = i
      · subst hj
        rw [hi] at e1; cases e1
        rw [List.getElem?_set_self hiσ] at e2
        cases e2
        exact ⟨u, r, .inl ⟨hk, by simp⟩⟩
      · rw [List.getElem?_set_ne (Ne.symm hj)] at e2
        obtain ⟨u', r', q⟩ := hl j y v' e1 e2 e3
        refine ⟨u', r', ?_⟩
        rcases q with ⟨k, e⟩ | ⟨k, c, e, z⟩
        · refine .inl ⟨k, ?_⟩
          have : y ≠ x := fun e => hj (nodup_ix hN e1 (e ▸ hi))
          simp [this, e]
        · exact .inr ⟨k, c, e, z.sameBut hs (cne y c e)⟩
    · obtain ⟨w', z⟩ := I.cell y c e
      exact ⟨w', z.sameBut hs (cne y c e)⟩
    · obtain ⟨e, n, ne, nf, d⟩ := I.pin p hp
      exact ⟨(hs.2 p.1 ne).trans e, n, ne, nf, d⟩
  · have hfn : X.fn x = true := by
      rcases hf with z | z
      · exact z
      · rw [z] at hk; cases hk
    obtain ⟨c, hc⟩ := I.ok.has x (.inl hk)
    obtain ⟨w', z⟩ := I.cell x c hc
    refine wpAny_storeName_cell I.ok.kind hk hc z (fun h' hc' hs => ?_)
    obtain ⟨oc, hoc, hocd⟩ := id z
    refine h { s with heap := h' } ⟨I.ok, I.os, I.bare, ⟨fun b o e n hb hx => ?_, fun b o e n hb hx => ?_, I.base.free, fun b o e hx => ?_, I.base.tups, I.base.frzs, I.base.tbls⟩, ⟨m, hn.sameBut hs (Ne.symm (cne x c hc)), fun j y v' e1 e2 e3 => ?_⟩, fun y c' e => ?_, I.free, I.freeC, fun p hp => ?_, tracked ⟨oc, hoc, I.freeC x c hc⟩ hs, by simpa using I.len⟩ ⟨c, hs, .inr hc⟩
    · exact (hs.2 b (Nat.ne_of_lt (Nat.lt_of_lt_of_le (Heap.lt_size e) (I.ok.cab x c hfn hc)))).trans (I.base.keep b o e n hb hx)
    · obtain ⟨sl, e1⟩ := I.base.slot b o e n hb hx
      exact ⟨sl, (hs.2 b (Nat.ne_of_lt (Nat.lt_of_lt_of_le (Heap.lt_size e) (I.ok.cab x c hfn hc)))).trans e1⟩
    · obtain ⟨o', e1⟩ := I.base.there b o e hx
      exact ⟨o', (hs.2 b (Nat.ne_of_lt (Nat.lt_of_lt_of_le (Heap.lt_size e) (I.ok.cab x c hfn hc)))).trans e1⟩
    · by_cases hj : j = i
      · subst hj
        rw [hi] at e1; cases e1
        rw [List.getElem?_set_self hiσ] at e2
        cases e2
        exact ⟨u, r, .inr ⟨.inl hk, c, hc, hc'⟩⟩
      · rw [List.getElem?_set_ne (Ne.symm hj)] at e2
        obtain ⟨u', r', q⟩ := hl j y v' e1 e2 e3
        refine ⟨u', r', ?_⟩
        rcases q with q | ⟨k, c', e, z'⟩
        · exact .inl q
        · refine .inr ⟨k, c', e, z'.sameBut hs ?_⟩
          rintro rfl
          exact hj (nodup_ix hN e1 (I.ok.inj _ _ _ e hc ▸ hi))
    · by_cases hcc : c' = c
      · subst hcc; exact ⟨_, hc'⟩
      · obtain ⟨w2, z2⟩ := I.cell y c' e
        exact ⟨w2, z2.sameBut hs hcc⟩
    · obtain ⟨e, n, ne, nf, d⟩ := I.pin p hp
      refine ⟨(hs.2 p.1 ?_).trans e, n, ne, nf, d⟩
      intro q
      rw [q, hoc] at e
      have q' : oc = p.2 := Option.some.inj e
      exact d w' (by rw [← q']; exact hocd)
theorem store_ok {M : Model} {A : Around} {E : Value → Shared → Prop} {i : Nat} {x : Str} {v : V} {u : Value} {Q : Unit → Shared → Prop} (I : Inv X pins σ H s) (hN : X.N.Nodup) (hi : X.N[i]? = some x) (hx : Loc X.env.scope x) (r : RelV v u)
    (h : ∀ s', Inv X pins (σ.set i (some v)) H s' → Q () s') (hf : X.fn x = true ∨ X.env.scope.names.lookup x = some .local := by first | exact .inl rfl | exact .inr rfl | assumption) : wpAny M A (storeName X.env x u) Q E s :=
  store_ok2 I hN hi hx r (fun s' I' _ => h s' I') hf
theorem Inv.call' {s' : Shared} {ch : List Addr} (I : Inv X pins σ H s) (ho : s'.os = s.os) (u : Un (frs X.stack) ch H H' s.heap s'.heap) (hok : HOk X.prog X.w H' s'.heap) (hg : AllBare s'.gens)
    (hch : ∀ b ∈ ch, (b ∈ X.ex ∨ X.s₀.heap.objs.size ≤ b) ∧ b ≠ X.env.locals ∧ (∀ x c, X.env.cells.lookup x = some c → c ≠ b) ∧ ∀ p ∈ X.pn ++ pins, p.1 ≠ b) : Inv X pins σ H' s' := by
  obtain ⟨h', g', d', t', o'⟩ := s'
  have e : o' = s.os := ho
  subst e
  exact I.call (g' := g') (t' := t') (d' := d') u hok hg hch
end
abbrev XK := Value → Option Addr → Hp → Prop
abbrev St := List (Option V)
abbrev VK := V → Hp → Prop
abbrev TE := St → Hp → VK → Prop
abbrev TT := St → Hp → (Bool → Hp → Prop) → Prop
abbrev TA := St → Hp → (List V → Hp → Prop) → Prop
structure Ends where
  nx : St → Hp → Prop
  rt : VK
  bk : St → Hp → Prop := fun _ _ => False
  ct : St → Hp → Prop := fun _ _ => False
abbrev TS := Ends → St → Hp → Prop
def EP (X : Cx) (pins : List (Addr × Obj)) (σ : St) (Q : VK) (u : Value) (s' : Shared) : Prop := ∃ v H', Inv X pins σ H' s' ∧ RelV v u ∧ Q v H'
def TP (X : Cx) (pins : List (Addr × Obj)) (σ : St) (Q : Bool → Hp → Prop) (b : Bool) (s' : Shared) : Prop := ∃ H', Inv X pins σ H' s' ∧ Q b H'
def AP (X : Cx) (pins : List (Addr × Obj)) (σ : St) (Q : List V → Hp → Prop) (us : List Value) (s' : Shared) : Prop := ∃ vs H', Inv X pins σ H' s' ∧ Vals vs us ∧ Q vs H'
def SP (X : Cx) (pins : List (Addr × Obj)) (D : Ends) (f : Flow) (s' : Shared) : Prop :=
  match f with
  | .next => ∃ σ' H', Inv X pins σ' H' s' ∧ D.nx σ' H'
  | .brk => ∃ σ' H', Inv X pins σ' H' s' ∧ D.bk σ' H'
  | .cont => ∃ σ' H', Inv X pins σ' H' s' ∧ D.ct σ' H'
  | .ret u => ∃ v σ' H', Inv X pins σ' H' s' ∧ RelV v u ∧ D.rt v H'
def PE (X : Cx) (e : Expr) (t : TE) : Prop :=
  ∀ (pins : List (Addr × Obj)) (s : Shared) (σ : St) (H : Hp) (Q : VK), Inv X pins σ H s → t σ H Q → wpAny (model X.prog X.w) X.A (eval e X.env) (EP X pins σ Q) X.xe s
def PT (X : Cx) (e : Expr) (t : TT) : Prop :=
  ∀ (pins : List (Addr × Obj)) (s : Shared) (σ : St) (H : Hp) (Q : Bool → Hp → Prop), Inv X pins σ H s → t σ H Q → wpAny (model X.prog X.w) X.A (isTrue e X.env (eval e X.env)) (TP X pins σ Q) X.xe s
def PW (X : Cx) (e : Expr) (t : TT) : Prop :=
  ∀ (whole : Sem Value) (pins : List (Addr × Obj)) (s : Shared) (σ : St) (H : Hp) (Q : Bool → Hp → Prop), Inv X pins σ H s → t σ H Q → wpAny (model X.prog X.w) X.A (isTrue e X.env whole) (TP X pins σ Q) X.xe s
theorem PW.pt {X : Cx} {e : Expr} {t : TT} (h : PW X e t) : PT X e t := h _
def PA (X : Cx) (es : List Expr) (t : TA) : Prop :=
  ∀ (pos : Pos) (pins : List (Addr × Obj)) (s : Shared) (σ : St) (H : Hp) (Q : List V → Hp → Prop), Inv X pins σ H s → t σ H Q → wpAny (model X.prog X.w) X.A (spliced (backTo pos (starEach es X.env))) (AP X pins σ Q) X.xe s
def PS (X : Cx) (st : Stmt) (t : TS) : Prop :=
  ∀ (pins : List (Addr × Obj)) (s : Shared) (σ : St) (H : Hp) (D : Ends), Inv X pins σ H s → t D σ H → wpAny (model X.prog X.w) X.A (exec st X.env) (SP X pins D) X.xe s
def PSs (X : Cx) (st : List Stmt) (t : TS) : Prop :=
  ∀ (pins : List (Addr × Obj)) (s : Shared) (σ : St) (H : Hp) (D : Ends), Inv X pins σ H s → t D σ H → wpAny (model X.prog X.w) X.A (execs st X.env) (SP X pins D) X.xe s
theorem thn {α : Type} {t : Sem α} {Q Q' : α → Shared → Prop} {M : Model} {A : Around} {E : Value → Shared → Prop} {s : Shared} (h : wpAny M A t Q E s) (hQ : ∀ a s, Q a s → Q' a s) : wpAny M A t Q' E s := wpAny_mono h hQ fun _ _ x => x
end L2
namespace L2
open PySem PySem.Spec PyProof.Rows
section
variable {X : Cx}
theorem bin {a b : Expr} {ta tb : TE} (ha : PE X a ta) (hb : PE X b tb) {pins : List (Addr × Obj)} {s : Shared} {σ : St} {H : Hp} {R : V → V → Hp → Prop} (I : Inv X pins σ H s) (h : ta σ H fun x H1 => tb σ H1 fun y H2 => R x y H2)
    {α : Type} {Q : α → Shared → Prop} {f : Value → Value → Sem α}
    (hf : ∀ v u s2 x y H2, Inv X pins σ H2 s2 → RelV x v → RelV y u → R x y H2 → wpAny (model X.prog X.w) X.A (f v u) Q X.xe s2) :
    wpAny (model X.prog X.w) X.A (eval a X.env) (fun v s₁ => wpAny (model X.prog X.w) X.A (eval b X.env) (fun u s₂ => wpAny (model X.prog X.w) X.A (f v u) Q X.xe s₂) X.xe s₁) X.xe s := by
  refine thn (ha pins s σ H _ I h) fun v s1 ⟨x, H1, I1, r1, q1⟩ => ?_
  refine thn (hb pins s1 σ H1 _ I1 q1) fun u s2 ⟨y, H2, I2, r2, q2⟩ => ?_
  exact hf v u s2 x y H2 I2 r1 r2 q2
def tVar (i : Nat) : TE := fun σ H Q => ∃ v, σ[i]? = some (some v) ∧ Q v H
def tC (v : V) : TE := fun _ H Q => Q v H
theorem pe_var {i : Nat} {x : Str} {pos : Pos} (hN : X.N[i]? = some x) (hv : Vis X.env.scope x) (hd : (x == ("__debug__" : Str)) = false := by decide) (hcd : (x == ("__classdict__" : Str)) = false := by decide) : PE X (.Name x pos) (tVar i) := by
  intro pins s σ H Q I h
  obtain ⟨v, e, h⟩ := h
  obtain ⟨m, hn, hl⟩ := I.loc
  obtain ⟨u, r, l⟩ := hl i x v hN e hv
  have fin : EP X pins σ Q u s := ⟨v, H, I, r, h⟩
  rcases l with ⟨hk, hm⟩ | ⟨hk, c, hc, hcell⟩
  · exact wpAny_Name (wpAny_loadName_local I.ok.kind hk hn hm fin) hd
  · rcases hk with hk | hk
    · exact wpAny_Name (wpAny_loadName_cell I.ok.kind hk hc hcell fin) hd
    · exact wpAny_Name (wpAny_loadName_free I.ok.kind hk hc hcell fin hcd) hd
theorem pe_int {i j pos} : PE X (.Constant (.int i) j pos) (tC (.int i)) := fun _ _ _ H _ I h => wpAny_Constant_int ⟨.int i, H, I.tok _, ⟨_, rfl⟩, h⟩
theorem pe_bl {b j pos} : PE X (.Constant (.bool b) j pos) (tC (.bl b)) := fun _ _ _ H _ I h => Constant_bool ⟨.bl b, H, I, rfl, h⟩
theorem pe_non {j pos} : PE X (.Constant .none j pos) (tC .non) := fun _ _ _ H _ I h => Constant_none ⟨.non, H, I, rfl, h⟩
theorem pe_str {x j pos} : PE X (.Constant (.str x) j pos) (tC (.str x)) := fun _ _ _ H _ I h => Calls.Constant_str ⟨.str x, H, I.tok _, ⟨_, rfl⟩, h⟩
def Gl (X : Cx) (x : Str) : Prop := X.env.kindOf x = some .globalImplicit
theorem ld_glob {E : Value → Shared → Prop} {pins : List (Addr × Obj)} {s : Shared} {σ : St} {H : Hp} {x : Str} {u : Value} {pos : Pos} {Q : Value → Shared → Prop} (I : Inv X pins σ H s) (hg : Gl X x) (hm : X.mg x = some u) (h : Q u s)
    (hd : (x == ("__debug__" : Str)) = false := by decide) : wpAny (model X.prog X.w) X.A (eval (.Name x pos) X.env) Q E s :=
  Calls.Name_function_global I.ok.kind hg (Calls.loadGlobal_global (by rw [I.ok.glob]; exact I.mod.glob.keeps I.bk) hm h) hd
theorem ld_blt {E : Value → Shared → Prop} {pins : List (Addr × Obj)} {s : Shared} {σ : St} {H : Hp} {x : Str} {u : Value} {pos : Pos} {Q : Value → Shared → Prop} (I : Inv X pins σ H s) (hg : Gl X x) (hm : X.mg x = none) (hv : bootBuiltins x = some u) (h : Q u s)
    (hn : x ≠ "__name__" := by decide) (hd : (x == ("__debug__" : Str)) = false := by decide) : wpAny (model X.prog X.w) X.A (eval (.Name x pos) X.env) Q E s := by
  obtain ⟨mb, h1, h2⟩ := I.mod.blt
  exact Calls.Name_function_global I.ok.kind hg (Calls.loadGlobal_builtin (by rw [I.ok.glob]; exact I.mod.glob.keeps I.bk) hm (by rw [I.ok.blt]; exact h1.keeps I.bk) ((h2 x hn).trans hv) h) hd
theorem pe_glob {x : Str} {v : V} {u : Value} {pos : Pos} (hg : Gl X x) (hm : X.mg x = some u) (r : RelV v u) (hd : (x == ("__debug__" : Str)) = false := by decide) : PE X (.Name x pos) (tC v) :=
  fun _ _ _ H _ I h => ld_glob I hg hm ⟨v, H, I, r, h⟩ hd
theorem pe_bltn {x : Str} {v : V} {u : Value} {pos : Pos} (hg : Gl X x) (hm : X.mg x = none) (hv : bootBuiltins x = some u) (r : RelV v u) (hn : x ≠ "__name__" := by decide) (hd : (x == ("__debug__" : Str)) = false := by decide) : PE X (.Name x pos) (tC v) :=
  fun _ _ _ H _ I h => ld_blt I hg hm hv ⟨v, H, I, r, h⟩ hn hd
variable {a b : Expr} {ta tb : TE} {pos : Pos}
def PC (X : Cx) (op : CmpOp) (a b : Expr) (t : TE) : Prop :=
  ∀ (pins : List (Addr × Obj)) (s : Shared) (σ : St) (H : Hp) (Q : VK), Inv X pins σ H s → t σ H Q →
    wpAny (model X.prog X.w) X.A (eval a X.env) (fun v s₁ => wpAny (model X.prog X.w) X.A (eval b X.env) (fun u s₂ => wpAny (model X.prog X.w) X.A (compareOp op v u) (EP X pins σ Q) X.xe s₂) X.xe s₁) X.xe s
theorem nobehind (b : Expr) {op : CmpOp} (h : op ≠ .In) (h2 : op ≠ .NotIn) : behindInMarks op b = false := by
  have e1 : (op == CmpOp.In) = false := by cases op <;> first | rfl | exact absurd rfl h
  have e2 : (op == CmpOp.NotIn) = false := by cases op <;> first | rfl | exact absurd rfl h2
  cases b <;> simp [behindInMarks, e1, e2]
def tB (t : TE) : TT := fun σ H Q => t σ H fun x H1 => ∃ c, x = .bl c ∧ Q c H1
theorem pt_cmp {op : CmpOp} {t : TE} (h : PC X op a b t) (h1 : behindInMarks op b = false := by first | exact nobehind _ (by decide) (by decide) | rfl) : PT X (.Compare a [op] [b] pos) (tB t) := by
  intro pins s σ H Q I hw
  refine wpAny_isTrue_Compare1 (thn (h pins s σ H _ I hw) fun v s1 h1 => thn h1 fun u s2 h2 => thn h2 fun c s3 ⟨x, H1, I1, r1, q1⟩ => ?_) h1
  obtain ⟨d, rfl, q⟩ := q1
  cases r1
  exact wpAny_truthy_bool ⟨H1, I1, q⟩
theorem pt_val {e : Expr} {t : TE} (h : PE X e t) (he : ∀ whole, isTrue e X.env whole = (do let v ← whole; standAt e.pos; holding [v] (truthy v)) := by intro _; rfl) : PT X e (tB t) := by
  intro pins s σ H Q I hw
  refine isTrue_plain (thn (h pins s σ H _ I hw) fun v s1 ⟨x, H1, I1, r1, q1⟩ => ?_) (he _)
  obtain ⟨d, rfl, q⟩ := q1
  cases r1
  exact wpAny_truthy_bool ⟨H1, I1, q⟩
variable {tA tB' : TT} {rest : List Expr}
def tAnd (t u : TT) : TT := fun σ H Q => t σ H fun c H1 => if c = true then u σ H1 Q else Q false H1
def tOr (t u : TT) : TT := fun σ H Q => t σ H fun c H1 => if c = true then Q true H1 else u σ H1 Q
def tNot (t : TT) : TT := fun σ H Q => t σ H fun c H1 => Q (!c) H1
theorem pw_and1 (ha : PT X a tA) : PW X (.BoolOp .And [a] pos) tA := by
  intro wh pins s σ H Q I h
  refine isTrue_and (thn (ha pins s σ H Q I h) fun c s1 e => ?_)
  cases c with
  | true => exact isTrue_and_nil e
  | false => exact e
theorem pw_or1 (ha : PT X a tA) : PW X (.BoolOp .Or [a] pos) tA := by
  intro wh pins s σ H Q I h
  refine isTrue_or (thn (ha pins s σ H Q I h) fun c s1 e => ?_)
  cases c with
  | false => exact isTrue_or_nil e
  | true => exact e
theorem pw_and (ha : PT X a tA) (hb : PW X (.BoolOp .And (b :: rest) pos) tB') : PW X (.BoolOp .And (a :: b :: rest) pos) (tAnd tA tB') := by
  intro wh pins s σ H Q I h
  refine isTrue_and (thn (ha pins s σ H _ I h) fun c s1 ⟨H1, I1, q1⟩ => ?_)
  cases c with
  | true => exact hb wh pins s1 σ H1 Q I1 q1
  | false => exact ⟨H1, I1, q1⟩
theorem pw_or (ha : PT X a tA) (hb : PW X (.BoolOp .Or (b :: rest) pos) tB') : PW X (.BoolOp .Or (a :: b :: rest) pos) (tOr tA tB') := by
  intro wh pins s σ H Q I h
  refine isTrue_or (thn (ha pins s σ H _ I h) fun c s1 ⟨H1, I1, q1⟩ => ?_)
  cases c with
  | true => exact ⟨H1, I1, q1⟩
  | false => exact hb wh pins s1 σ H1 Q I1 q1
theorem pt_not (ha : PT X a tA) : PT X (.UnaryOp .Not a pos) (tNot tA) := by
  intro pins s σ H Q I h
  exact isTrue_not (ha pins s σ H (fun c H1 => Q (!c) H1) I h)
def tAndV (ta tb : TE) : TE := fun σ H Q => ta σ H fun x H1 => ∃ c, x = .bl c ∧ if c = true then tb σ H1 Q else Q (.bl false) H1
def tNotV (ta : TE) : TE := fun σ H Q => ta σ H fun x H1 => ∃ c, x = .bl c ∧ Q (.bl (!c)) H1
theorem pe_one {op} {t : TE} (h : PE X a t) : PE X (.BoolOp op [a] pos) t := fun pins s σ H Q I hw => BoolOp_one (h pins s σ H Q I hw)
theorem pe_and (ha : PE X a ta) (hb : PE X (.BoolOp .And (b :: rest) pos) tb) : PE X (.BoolOp .And (a :: b :: rest) pos) (tAndV ta tb) := by
  intro pins s σ H Q I h
  refine BoolOp_and (thn (ha pins s σ H _ I h) fun v s1 ⟨x, H1, I1, r1, q1⟩ => ?_)
  obtain ⟨c, rfl, q1⟩ := q1
  cases r1
  refine wpAny_truthy_bool ?_
  cases c with
  | true => exact hb pins s1 σ H1 Q I1 q1
  | false => exact ⟨.bl false, H1, I1, rfl, q1⟩
theorem pe_not (ha : PE X a ta) : PE X (.UnaryOp .Not a pos) (tNotV ta) := by
  intro pins s σ H Q I h
  refine UnaryOp_ (thn (ha pins s σ H _ I h) fun v s1 ⟨x, H1, I1, r1, q1⟩ => ?_)
  obtain ⟨c, rfl, q1⟩ := q1
  cases r1
  exact not_of (wpAny_truthy_bool ⟨.bl (!c), H1, I1, rfl, q1⟩)
def tIf (t : TT) (ta tb : TE) : TE := fun σ H Q => t σ H fun c H1 => if c = true then ta σ H1 Q else tb σ H1 Q
theorem pe_ifExp {c : Expr} (hc : PT X c tA) (ha : PE X a ta) (hb : PE X b tb) : PE X (.IfExp c a b pos) (tIf tA ta tb) := by
  intro pins s σ H Q I h
  refine wpAny_IfExp (thn (hc pins s σ H _ I h) fun d s1 ⟨H1, I1, q1⟩ => ?_)
  cases d with
  | true => exact ha pins s1 σ H1 Q I1 q1
  | false => exact hb pins s1 σ H1 Q I1 q1
end
end L2
namespace L2
open PySem PySem.Spec PyProof.Rows
def SqL (K : PySem.W.Frag) (H : Hp) (a : Addr) (xs : List V) : Prop :=
  Rd H a (.lst xs) ∨
    ∃ (o : Obj) (its : Array Value) (n : Nat), K.lookup a = some o ∧ o.cls = .type "list" ∧ o.dict = none ∧ o.data = .seq its n ∧ its.size ≤ sizeLine ∧ Vals xs its.toList
def SqT (K : PySem.W.Frag) (H : Hp) (a : Addr) (xs : List V) : Prop :=
  Rd H a (.tup xs) ∨
    ∃ (o : Obj) (its : Array Value) (n : Nat), K.lookup a = some o ∧ o.cls = .type "tuple" ∧ o.data = .seq its n ∧ its.size ≤ sizeLine ∧ Vals xs its.toList
def absV : Value → Option V
  | .none => some .non
  | .bool b => some (.bl b)
  | .int i _ => some (.int i)
  | .str x _ => some (.str x)
  | .bytes b _ => some (.byt b)
  | .float b _ => some (.flt b)
  | .ref a => some (.ref a)
  | .type n => some (.ty n)
  | _ => none
theorem RelV.abs {x : V} {u : Value} (r : RelV x u) : absV u = some x := by
  cases x with
  | non => cases r; rfl
  | bl _ => cases r; rfl
  | int _ => obtain ⟨t, rfl⟩ := r; rfl
  | str _ => obtain ⟨t, rfl⟩ := r; rfl
  | byt _ => obtain ⟨t, rfl⟩ := r; rfl
  | flt _ => obtain ⟨t, rfl⟩ := r; rfl
  | ref _ => cases r; rfl
  | ty _ => cases r; rfl
theorem RelV.inj {x y : V} {u : Value} (r : RelV x u) (q : RelV y u) : x = y := Option.some.inj (r.abs.symm.trans q.abs)
theorem Vals.inj : ∀ {xs ys : List V} {us : List Value}, Vals xs us → Vals ys us → xs = ys
  | _, _, _, .nil, .nil => rfl
  | _, _, _, .cons r t, .cons r' t' => by rw [r.inj r', Vals.inj t t']
section
variable {X : Cx} {pins : List (Addr × Obj)} {σ : St} {H : Hp} {s : Shared} {a : Addr} {xs ys : List V}
theorem SqL.of {K : PySem.W.Frag} (h : H a = some (.lst xs)) : SqL K H a xs := .inl (.inl h)
theorem SqT.of {K : PySem.W.Frag} (h : H a = some (.tup xs)) : SqT K H a xs := .inl (.inl h)
theorem Inv.list (I : Inv X pins σ H s) (h : SqL X.K H a xs) : ∃ its : List Value, Vals xs its ∧ PlainL s.heap a its.toArray ∧ xs.length ≤ sizeLine := by
  rcases h with h | ⟨o, its, n, hk, hc, hd, hs, hz, r⟩
  · obtain ⟨z, its, n, r, e⟩ := h.ok I.hok
    exact ⟨its, r, ⟨_, n, e, rfl, rfl, rfl⟩, z⟩
  · refine ⟨its.toList, r, ⟨o, n, I.kIn a o hk, hc, hd, by simpa using hs⟩, ?_⟩
    have e := r.length
    simp only [Array.length_toList] at e
    omega
theorem Inv.tuple (I : Inv X pins σ H s) (h : SqT X.K H a xs) : ∃ its : List Value, Vals xs its ∧ IsTup s.heap a its.toArray ∧ xs.length ≤ sizeLine := by
  rcases h with h | ⟨o, its, n, hk, hc, hs, hz, r⟩
  · obtain ⟨z, its, r, p⟩ := h.ok I.hok
    exact ⟨its, r, p, z⟩
  · refine ⟨its.toList, r, ⟨o, I.kIn a o hk, hc, n, by simpa using hs⟩, ?_⟩
    have e := r.length
    simp only [Array.length_toList] at e
    omega
theorem Inv.list_inj (I : Inv X pins σ H s) (h : SqL X.K H a xs) (h' : SqL X.K H a ys) : xs = ys := by
  obtain ⟨its, r, ⟨o, n, e, _, _, d⟩, _⟩ := I.list h
  obtain ⟨its', r', ⟨o', n', e', _, _, d'⟩, _⟩ := I.list h'
  rw [e] at e'; cases e'
  rw [d] at d'
  injection d' with d1 _
  have : its = its' := by simpa using congrArg Array.toList d1
  subst this
  exact r.inj r'
theorem Inv.tuple_inj (I : Inv X pins σ H s) (h : SqT X.K H a xs) (h' : SqT X.K H a ys) : xs = ys := by
  obtain ⟨its, r, ⟨o, e, _, n, d⟩, _⟩ := I.tuple h
  obtain ⟨its', r', ⟨o', e', _, n', d'⟩, _⟩ := I.tuple h'
  rw [e] at e'; cases e'
  rw [d] at d'
  injection d' with d1 _
  have : its = its' := by simpa using congrArg Array.toList d1
  subst this
  exact r.inj r'
end
abbrev Cx.wish (X : Cx) (E : Value → Shared → Prop) : Cx := { X with xe := E }
abbrev Cx.nox (X : Cx) : Cx := X.wish fun _ _ => False
theorem Cx.Ok.wish {X : Cx} (ok : X.Ok) (E : Value → Shared → Prop) : (X.wish E).Ok :=
  ⟨ok.mod, ok.kind, ok.glob, ok.blt, ok.above, ok.inj, ok.has, ok.cab, ok.hd, ok.frames, ok.stk, ok.exf, ok.bs, ok.bsz, ok.noex, ok.exfs, ok.funs, ok.frf⟩
theorem Cx.Ok.unwish {X : Cx} {E : Value → Shared → Prop} (ok : (X.wish E).Ok) : X.Ok :=
  ⟨ok.mod, ok.kind, ok.glob, ok.blt, ok.above, ok.inj, ok.has, ok.cab, ok.hd, ok.frames, ok.stk, ok.exf, ok.bs, ok.bsz, ok.noex, ok.exfs, ok.funs, ok.frf⟩
section
variable {X : Cx} {pins : List (Addr × Obj)} {σ : St} {H : Hp} {s : Shared} {E : Value → Shared → Prop}
theorem Inv.wish (I : Inv X pins σ H s) (E : Value → Shared → Prop) : Inv (X.wish E) pins σ H s := ⟨I.ok.wish E, I.os, I.bare, I.base, I.loc, I.cell, I.free, I.freeC, I.pin, I.hok, I.len⟩
theorem Inv.unwish (I : Inv (X.wish E) pins σ H s) : Inv X pins σ H s := ⟨I.ok.unwish, I.os, I.bare, I.base, I.loc, I.cell, I.free, I.freeC, I.pin, I.hok, I.len⟩
theorem SP.unwish {D : Ends} {f : Flow} {s' : Shared} (h : SP (X.wish E) pins D f s') : SP X pins D f s' := by
  cases f with
  | next => obtain ⟨σ', H', I, q⟩ := h; exact ⟨σ', H', I.unwish, q⟩
  | brk => obtain ⟨σ', H', I, q⟩ := h; exact ⟨σ', H', I.unwish, q⟩
  | cont => obtain ⟨σ', H', I, q⟩ := h; exact ⟨σ', H', I.unwish, q⟩
  | ret u => obtain ⟨v, σ', H', I, r, q⟩ := h; exact ⟨v, σ', H', I.unwish, r, q⟩
theorem PE.nox {e : Expr} {t : TE} (h : PE X.nox e t) : PE X e t := fun pins s σ H Q I hw =>
  wpAny_mono (h pins s σ H Q (I.wish _) hw) (fun _ _ ⟨v, H', I', r, q⟩ => ⟨v, H', I'.unwish, r, q⟩) fun _ _ z => False.elim z
theorem PT.nox {e : Expr} {t : TT} (h : PT X.nox e t) : PT X e t := fun pins s σ H Q I hw =>
  wpAny_mono (h pins s σ H Q (I.wish _) hw) (fun _ _ ⟨H', I', q⟩ => ⟨H', I'.unwish, q⟩) fun _ _ z => False.elim z
theorem PSs.nox {st : List Stmt} {t : TS} (h : PSs X.nox st t) : PSs X st t := fun pins s σ H D I hw =>
  wpAny_mono (h pins s σ H D (I.wish _) hw) (fun _ _ q => q.unwish) fun _ _ z => False.elim z
end
section
variable {X : Cx} {st : Stmt} {rest : List Stmt} {t u : TS} {e : Expr} {te : TE} {pos : Pos}
def tNext : TS := fun D σ H => D.nx σ H
def tSeq (t u : TS) : TS := fun D σ H => t { D with nx := u D } σ H
theorem pss_nil : PSs X [] tNext := fun _ _ σ H _ I h => wpAny_execs_nil ⟨σ, H, I, h⟩
theorem pss_cons (h1 : PS X st t) (h2 : PSs X rest u) : PSs X (st :: rest) (tSeq t u) := by
  intro pins s σ H D I h
  refine wpAny_execs_cons (thn (h1 pins s σ H { D with nx := u D } I h) fun f s1 q => ?_)
  cases f with
  | next =>
    obtain ⟨σ', H', I', q⟩ := q
    exact h2 pins s1 σ' H' D I' q
  | ret v => exact q
  | brk => exact q
  | cont => exact q
theorem pss_one (h1 : PS X st t) : PSs X [st] t := by
  intro pins s σ H D I h
  refine wpAny_execs_cons (thn (h1 pins s σ H D I h) fun f s1 q => ?_)
  cases f with
  | next => exact wpAny_execs_nil q
  | ret v => exact q
  | brk => exact q
  | cont => exact q
theorem Inv.quiet {pins : List (Addr × Obj)} {σ : St} {H : Hp} {s : Shared} (I : Inv X pins σ H s) : interactive X.env = false := by simp [interactive, I.ok.kind]
def tDrop (te : TE) : TS := fun D σ H => te σ H fun _ H1 => D.nx σ H1
theorem ps_expr (he : PE X e te) (hs : swapsWith e none pos.line X.env = pure false := by rfl) : PS X (.Expr e pos) (tDrop te) := by
  intro pins s σ H D I h
  exact wpAny_Expr_any (thn (he pins s σ H _ I h) fun v s1 ⟨x, H1, I1, r1, q1⟩ => ⟨σ, H1, I1, q1⟩) I.quiet hs
def tRet (te : TE) : TS := fun D σ H => te σ H D.rt
theorem ps_ret (he : PE X e te) : PS X (.Return (some e) pos) (tRet te) := by
  intro pins s σ H D I h
  exact wpAny_Return_some (thn (he pins s σ H _ I h) fun v s1 ⟨x, H1, I1, r1, q1⟩ => ⟨x, σ, H1, I1, r1, q1⟩)
def tRetN : TS := fun D _ H => D.rt .non H
theorem ps_retN : PS X (.Return none pos) tRetN := fun _ _ σ H _ I h => wpAny_Return_none ⟨.non, σ, H, I, rfl, h⟩
def tIfS (c : TT) (t u : TS) : TS := fun D σ H => c σ H fun b H1 => if b = true then t D σ H1 else u D σ H1
theorem ps_if {c : Expr} {a b : List Stmt} {tc : TT} (hc : PT X c tc) (ha : PSs X a t) (hb : PSs X b u) : PS X (.If c a b pos) (tIfS tc t u) := by
  intro pins s σ H D I h
  refine wpAny_If (thn (hc pins s σ H _ I h) fun d s1 ⟨H1, I1, q1⟩ => ?_)
  cases d with
  | true => exact ha pins s1 σ H1 D I1 q1
  | false => exact hb pins s1 σ H1 D I1 q1
def tNever : TS := fun _ _ _ => False
theorem ps_never : PS X st tNever := fun _ _ _ _ _ _ h => h.elim
end
abbrev TG := V → St → Hp → (St → Hp → Prop) → Prop
abbrev TGs := List V → St → Hp → (St → Hp → Prop) → Prop
def PG (X : Cx) (target : Expr) (t : TG) : Prop :=
  ∀ (pins : List (Addr × Obj)) (s : Shared) (σ : St) (H : Hp) (v : V) (u : Value) (Q : St → Hp → Prop), Inv X pins σ H s → RelV v u → t v σ H Q →
    wpAny (model X.prog X.w) X.A (assign target X.env u) (fun _ s' => ∃ σ' H', Inv X pins σ' H' s' ∧ Q σ' H') X.xe s
def PGs (X : Cx) (ts : List Expr) (t : TGs) : Prop :=
  ∀ (pins : List (Addr × Obj)) (s : Shared) (σ : St) (H : Hp) (vs : List V) (us : List Value) (Q : St → Hp → Prop), Inv X pins σ H s → Vals vs us → t vs σ H Q →
    wpAny (model X.prog X.w) X.A (assignInOrder ((assignEach ts X.env).map (·.2)) us) (fun _ s' => ∃ σ' H', Inv X pins σ' H' s' ∧ Q σ' H') X.xe s
abbrev TSet := V → V → V → Hp → (Hp → Prop) → Prop
def PSet (X : Cx) (t : TSet) : Prop :=
  ∀ (pins : List (Addr × Obj)) (s : Shared) (σ : St) (H : Hp) (o i v : V) (ov iv u : Value) (Q : Hp → Prop), Inv X pins σ H s → RelV o ov → RelV i iv → RelV v u → t o i v H Q →
    wpAny (model X.prog X.w) X.A (setItem ov iv u) (fun _ s' => ∃ H', Inv X pins σ H' s' ∧ Q H') X.xe s
abbrev TIp := V → V → Hp → VK → Prop
def PIp (X : Cx) (op : Operator) (t : TIp) : Prop :=
  ∀ (pins : List (Addr × Obj)) (s : Shared) (σ : St) (H : Hp) (x y : V) (v u : Value) (Q : VK), Inv X pins σ H s → RelV x v → RelV y u → t x y H Q →
    wpAny (model X.prog X.w) X.A (inplaceOp op v u) (EP X pins σ Q) X.xe s
section
variable {X : Cx} {pos : Pos}
def gName (i : Nat) : TG := fun v σ H Q => Q (σ.set i (some v)) H
theorem pg_name {i : Nat} {x : Str} (hN : X.N.Nodup) (hi : X.N[i]? = some x) (hx : Loc X.env.scope x) (hf : X.fn x = true ∨ X.env.scope.names.lookup x = some .local := by first | exact .inl rfl | exact .inr rfl | assumption) : PG X (.Name x pos) (gName i) := by
  intro pins s σ H v u Q I r h
  exact wpAny_assign_Name (store_ok I hN hi hx r (fun s' I' => ⟨_, H, I', h⟩) hf)
def gNil : TGs := fun vs σ H Q => vs = [] ∧ Q σ H
def gCons (t : TG) (u : TGs) : TGs := fun vs σ H Q => ∃ v r, vs = v :: r ∧ t v σ H fun σ' H' => u r σ' H' Q
theorem pgs_nil : PGs X [] gNil := by
  intro pins s σ H vs us Q I r h
  obtain ⟨e, h⟩ := h
  subst e
  cases r
  exact assignInOrder_nil ⟨σ, H, I, h⟩
theorem pgs_cons {e : Expr} {es : List Expr} {t : TG} {u : TGs} (h1 : PG X e t) (h2 : PGs X es u)
    (hs : (assignEach (e :: es) X.env).map (·.2) = assign e X.env :: (assignEach es X.env).map (·.2) := by rfl) : PGs X (e :: es) (gCons t u) := by
  intro pins s σ H vs us Q I r h
  obtain ⟨v, vr, e1, h⟩ := h
  subst e1
  cases r with
  | cons r rr =>
    rw [hs]
    refine assignInOrder_cons (thn (h1 pins s σ H _ _ _ I r h) fun _ s1 ⟨σ1, H1, I1, q1⟩ => ?_)
    exact h2 pins s1 σ1 H1 _ _ Q I1 rr q1
def gTup (K : PySem.W.Frag) (n : Nat) (t : TGs) : TG := fun v σ H Q => ∃ a xs, v = .ref a ∧ SqT K H a xs ∧ xs.length = n ∧ t xs σ H Q
theorem pg_tup {es : List Expr} {k : Nat} {t : TGs} {n : Nat} (hc : X.calm = true) (h : PGs X es t)
    (hn : (assignEach es X.env).length = n := by rfl) (hst : (assignEach es X.env).findIdx? (·.1) = none := by rfl) : PG X (.Tuple es k pos) (gTup X.K n t) := by
  intro pins s σ H v u Q I r hw
  obtain ⟨a, xs, e1, hq, hl, hw⟩ := hw
  subst e1
  cases r
  obtain ⟨its, rv, ht, hz⟩ := I.tuple hq
  refine assign_Tuple_tuple (I.ok.hd hc) ht (by simp [hn, ← hl, rv.length]) hst fun h' hx => ?_
  have I1 : Inv X pins σ H { s with heap := h' } := I.kept (t' := s.toks) fun b o e => hx b o (Nat.ne_of_lt (Heap.lt_size e)) e
  exact h pins _ σ H xs _ Q I1 (by simpa using rv) hw
def gSub (to ti : TE) (t : TSet) : TG := fun v σ H Q => to σ H fun o H1 => ti σ H1 fun i H2 => t o i v H2 fun H3 => Q σ H3
theorem pg_sub {o i : Expr} {to ti : TE} {t : TSet} (ho : PE X o to) (hi : PE X i ti) (hs : PSet X t)
    (ha : ∀ v, assign (.Subscript o i pos) X.env v = (do
      let ov ← holding [v] (eval o X.env)
      let iv ← holding [v, ov] (eval i X.env)
      standAt pos
      holding [v, ov, iv] (setItem ov iv v)
      release [v, ov, iv] []) := by intro _; rfl) : PG X (.Subscript o i pos) (gSub to ti t) := by
  intro pins s σ H v u Q I r h
  rw [ha]
  refine wpAny_bind (wpAny_holding (thn (ho pins s σ H _ I h) fun ov s1 ⟨x, H1, I1, r1, q1⟩ => ?_))
  refine wpAny_bind (wpAny_holding (thn (hi pins s1 σ H1 _ I1 q1) fun iv s2 ⟨y, H2, I2, r2, q2⟩ => ?_))
  refine wpAny_bind (wpAny_standAt (wpAny_bind (wpAny_holding (thn (hs pins s2 σ H2 x y v ov iv u _ I2 r1 r2 r q2) fun _ s3 ⟨H3, I3, q3⟩ => ?_))))
  exact wpAny_release ⟨σ, H3, I3, q3⟩
def tAsg (te : TE) (g : TG) : TS := fun D σ H => te σ H fun x H1 => g x σ H1 D.nx
theorem ps_asg {tg e : Expr} {te : TE} {g : TG} (he : PE X e te) (hg : PG X tg g) (hs : swapsWithSole [tg] e pos.line X.env = pure false := by rfl) (hw : swappedStores [tg] e X.env = pure none := by rfl)
    (h1 : (assignEach [tg] X.env).map (·.2) = [assign tg X.env] := by rfl) : PS X (.Assign [tg] e pos) (tAsg te g) := by
  intro pins s σ H D I h
  refine wpAny_Assign_stores (thn (he pins s σ H _ I h) fun v s1 ⟨x, H1, I1, r1, q1⟩ => ?_) hs hw
  rw [h1]
  exact thn (hg pins s1 σ H1 x v _ I1 r1 q1) fun _ s2 q => q
theorem ps_set {i : Nat} {x : Str} {e : Expr} {te : TE} {pos' : Pos} (hN : X.N.Nodup) (hi : X.N[i]? = some x) (hx : Loc X.env.scope x) (he : PE X e te) (hs : swapsWith e (some (.Name x pos')) pos.line X.env = pure false := by rfl) (hf : X.fn x = true ∨ X.env.scope.names.lookup x = some .local := by first | exact .inl rfl | exact .inr rfl | assumption) :
    PS X (.Assign [.Name x pos'] e pos) (tAsg te (gName i)) := by
  intro pins s σ H D I h
  refine wpAny_Assign_Name (thn (he pins s σ H _ I h) fun v s1 ⟨y, H1, I1, r1, q1⟩ => ?_) hs
  exact store_ok I1 hN hi hx r1 (fun s2 I2 => ⟨_, H1, I2, q1⟩) hf
def tAug (i : Nat) (te : TE) (ti : TIp) : TS := fun D σ H => ∃ x, σ[i]? = some (some x) ∧ te σ H fun y H1 => ti x y H1 fun z H2 => D.nx (σ.set i (some z)) H2
theorem ps_aug {i : Nat} {x : Str} {e : Expr} {te : TE} {op : Operator} {ti : TIp} {pos' : Pos} (hN : X.N.Nodup) (hi : X.N[i]? = some x) (hx : Loc X.env.scope x) (he : PE X e te) (ho : PIp X op ti) (hf : X.fn x = true ∨ X.env.scope.names.lookup x = some .local := by first | exact .inl rfl | exact .inr rfl | assumption) :
    PS X (.AugAssign (.Name x pos') op e pos) (tAug i te ti) := by
  intro pins s σ H D I h
  obtain ⟨v, e1, h⟩ := h
  obtain ⟨m, hn, hl⟩ := I.loc
  have vis : Vis X.env.scope x := by rcases hx with k | k; exact .inl k; exact .inr (.inl k)
  obtain ⟨u, r, l⟩ := hl i x v hi e1 vis
  refine wpAny_AugAssign_Name ?_
  have go : wpAny (model X.prog X.w) X.A (eval e X.env) (fun w s₂ => wpAny (model X.prog X.w) X.A (inplaceOp op u w) (fun r s₃ => wpAny (model X.prog X.w) X.A (storeName X.env x r) (fun _ => SP X pins D .next) X.xe s₃) X.xe s₂) X.xe s := by
    refine thn (he pins s σ H _ I h) fun w s1 ⟨y, H1, I1, r1, q1⟩ => ?_
    refine thn (ho pins s1 σ H1 v y u w _ I1 r r1 q1) fun z s2 ⟨zv, H2, I2, r2, q2⟩ => ?_
    exact store_ok I2 hN hi hx r2 (fun s3 I3 => ⟨_, H2, I3, q2⟩) hf
  rcases l with ⟨hk, hm⟩ | ⟨hk, c, hc, hcell⟩
  · exact wpAny_loadName_local I.ok.kind hk hn hm go
  · rcases hk with hk | hk
    · exact wpAny_loadName_cell I.ok.kind hk hc hcell go
    · rcases hx with k | k
      · have : X.env.scope.names.lookup x = some .free := hk
        rw [k] at this; cases this
      · have : X.env.scope.names.lookup x = some .free := hk
        rw [k] at this; cases this
def tAugS (to ti te : TE) (tget : V → V → Hp → VK → Prop) (tip : TIp) (tset : TSet) : TS := fun D σ H => to σ H fun o H1 => ti σ H1 fun i H2 => tget o i H2 fun x H3 => te σ H3 fun y H4 => tip x y H4 fun z H5 => tset o i z H5 fun H6 => D.nx σ H6
def PGet (X : Cx) (t : V → V → Hp → VK → Prop) : Prop :=
  ∀ (pins : List (Addr × Obj)) (s : Shared) (σ : St) (H : Hp) (o i : V) (ov iv : Value) (Q : VK), Inv X pins σ H s → RelV o ov → RelV i iv → t o i H Q →
    wpAny (model X.prog X.w) X.A (getItem ov iv) (EP X pins σ Q) X.xe s
theorem ps_augS {o i e : Expr} {to ti te : TE} {tget : V → V → Hp → VK → Prop} {tip : TIp} {tset : TSet} {op : Operator} {tpos : Pos} (ho : PE X o to) (hi : PE X i ti) (hg : PGet X tget) (he : PE X e te) (hp : PIp X op tip) (hs : PSet X tset)
    (ha : ∀ ov iv new, augStore i ov iv new = (do holding [new, ov, iv] (setItem ov iv new); release [new, ov, iv] []; pure .next) := by intros; rfl) : PS X (.AugAssign (.Subscript o i tpos) op e pos) (tAugS to ti te tget tip tset) := by
  intro pins s σ H D I h
  refine wpAny_AugAssign_SubscriptAny (thn (ho pins s σ H _ I h) fun ov s1 ⟨x1, H1, I1, r1, q1⟩ => ?_) ha
  refine thn (hi pins s1 σ H1 _ I1 q1) fun iv s2 ⟨x2, H2, I2, r2, q2⟩ => ?_
  refine thn (hg pins s2 σ H2 x1 x2 ov iv _ I2 r1 r2 q2) fun old s3 ⟨x3, H3, I3, r3, q3⟩ => ?_
  refine thn (he pins s3 σ H3 _ I3 q3) fun v s4 ⟨x4, H4, I4, r4, q4⟩ => ?_
  refine thn (hp pins s4 σ H4 x3 x4 old v _ I4 r3 r4 q4) fun new s5 ⟨x5, H5, I5, r5, q5⟩ => ?_
  exact thn (hs pins s5 σ H5 x1 x2 x5 ov iv new _ I5 r1 r2 r5 q5) fun _ s6 ⟨H6, I6, q6⟩ => ⟨σ, H6, I6, q6⟩
def ipI (f : Int → Int → Int) : TIp := fun x y H Q => ∃ i j, x = .int i ∧ y = .int j ∧ Q (.int (f i j)) H
theorem ip_add : PIp X .Add (ipI fun i j => i + j) := by
  intro pins s σ H x y v u Q I r1 r2 h
  obtain ⟨i, j, e1, e2, q⟩ := h
  subst e1; subst e2
  obtain ⟨t, rfl⟩ := r1
  obtain ⟨t', rfl⟩ := r2
  exact iadd_int ⟨.int _, H, I.tok _, ⟨_, rfl⟩, q⟩
end
section
variable {X : Cx} {pos : Pos}
end
structure It where
  go : Nat → Hp → Prop
  yld : Nat → Hp → V → Hp → Prop
  stop : Nat → Hp → Prop
def FpOk (X : Cx) (pins : List (Addr × Obj)) (H : Hp) (b : Addr) : Prop :=
  H b = none ∧ b ≠ X.env.locals ∧ b ∉ X.fs ∧ (b ∈ X.ex ∨ X.s₀.heap.objs.size ≤ b) ∧ (∀ x c, X.env.cells.lookup x = some c → c ≠ b) ∧ ∀ p ∈ X.pn ++ pins, p.1 ≠ b
theorem Inv.fpOk {X : Cx} {pins : List (Addr × Obj)} {σ : St} {H H' : Hp} {s : Shared} {b : Addr} (I : Inv X pins σ H s) (hb : s.heap.objs.size ≤ b) (hn : H' b = none) : FpOk X pins H' b := by
  refine ⟨hn, Nat.ne_of_gt (Nat.lt_of_lt_of_le I.lt hb), I.nofs hb, .inr (Nat.le_trans I.sz hb), fun x c e z => ?_, fun p hp z => ?_⟩
  · obtain ⟨v, q⟩ := I.cell x c e
    exact absurd (Nat.lt_of_lt_of_le q.lt (by rw [z]; exact hb)) (Nat.lt_irrefl _)
  · exact absurd (Nat.lt_of_lt_of_le (Heap.lt_size (I.pin p hp).1) (by rw [z]; exact hb)) (Nat.lt_irrefl _)
structure Turn (P : Program) (w : World) (K : PySem.W.Frag) (tg : Expr) (J : It) (fp : List Addr) (it : Addr) (tn : Nat → Heap → Prop) : Prop where
  mem : it ∈ fp
  obj : ∀ i h, tn i h → ∀ b ∈ fp, ∃ o, h.get? b = some o ∧ ∀ v, o.data ≠ .cell v
  keep : ∀ i h h', tn i h → (∀ b ∈ fp, ∀ o, h.get? b = some o → h'.get? b = some o) → tn i h'
  item : ∀ (X : Cx), X.prog = P → X.w = w → X.K = K → X.calm = true → ∀ (i : Nat) (pins : List (Addr × Obj)) (s : Shared) (σ : St) (H : Hp) (E : Value → Shared → Prop), Inv X pins σ H s → (∀ b ∈ fp, FpOk X pins H b) → tn i s.heap → J.go i H →
    wpAny (model P w) X.A (pyNext (.ref it)) (fun r s1 => ∃ u, r = some u ∧
      wpAny (model P w) X.A (letOwnedTupleGo tg (.ref it) u) (fun _ s2 => ∃ x H', Inv X pins σ H' s2 ∧ RelV x u ∧ J.yld i H x H' ∧ tn (i + 1) s2.heap ∧ ∀ b ∈ fp, H' b = none) E s1) E s
  done : ∀ (X : Cx), X.prog = P → X.w = w → X.K = K → X.calm = true → ∀ (i : Nat) (pins : List (Addr × Obj)) (s : Shared) (σ : St) (H : Hp) (E : Value → Shared → Prop), Inv X pins σ H s → (∀ b ∈ fp, FpOk X pins H b) → tn i s.heap → J.stop i H →
    wpAny (model P w) X.A (pyNext (.ref it)) (fun r s1 => r = none ∧ Inv X pins σ H s1) E s
  self : ∀ (A : Around) (i : Nat) (s : Shared) (Q : Value → Shared → Prop) (E : Value → Shared → Prop), tn i s.heap → Q (.ref it) s → wpAny (model P w) A (pyIter (.ref it)) Q E s
abbrev TI := St → Hp → (It → Hp → Prop) → Prop
def PIE (X : Cx) (pins : List (Addr × Obj)) (σ : St) (tg : Expr) (R : It → Hp → Prop) (itv : Value) (s2 : Shared) : Prop :=
  ∃ (it : Addr) (fp : List Addr) (tn : Nat → Heap → Prop) (J : It) (H' : Hp), itv = .ref it ∧ Inv X pins σ H' s2 ∧ Turn X.prog X.w X.K tg J fp it tn ∧ tn 0 s2.heap ∧ (∀ b ∈ fp, FpOk X pins H' b) ∧ R J H'
def PI (X : Cx) (tg iter : Expr) (wi : TI) : Prop :=
  ∀ (pins : List (Addr × Obj)) (s : Shared) (σ : St) (H : Hp) (R : It → Hp → Prop), Inv X pins σ H s → wi σ H R →
    wpAny (model X.prog X.w) X.A (eval iter X.env) (fun v s1 => wpAny (model X.prog X.w) X.A (pyIter v) (PIE X pins σ tg R) X.xe s1) X.xe s
theorem go_of {M : Model} {A : Around} {E : Value → Shared → Prop} {s : Shared} {tg : Expr} {it : Addr} {u : Value} {o : Obj} {n : String} {vs : Array Value} {Q : Unit → Shared → Prop} (ho : s.heap.get? it = some o) (hc : o.cls = .type n) (hd : o.data = .fields vs)
    (hn : ["enumerate", "zip", "dict_itemiterator", "dict_reverseitemiterator", "odict_iterator", "itertools.zip_longest", "itertools.pairwise"].contains n = false) (hQ : Q () s) : wpAny M A (letOwnedTupleGo tg (.ref it) u) Q E s := by
  unfold letOwnedTupleGo
  cases tg <;> first
    | exact wpAny_pure hQ
    | (cases u <;> first
        | exact wpAny_pure hQ
        | (refine wpAny_bind (wpAny_load ho ?_)
           rw [hc, hd]
           show wpAny M A (if (["enumerate", "zip", "dict_itemiterator", "dict_reverseitemiterator", "odict_iterator", "itertools.zip_longest", "itertools.pairwise"].contains n && vs[0]? == some (rawInt _)) = true then _ else _) Q E s
           rw [if_neg (by intro h; rw [hn, Bool.false_and] at h; cases h)]
           exact wpAny_pure hQ))
def Itl (K : PySem.W.Frag) (a : Addr) : It :=
  ⟨fun i H => ∃ xs x, SqL K H a xs ∧ xs[i]? = some x, fun i H x H' => H' = H ∧ ∀ xs, SqL K H a xs → xs[i]? = some x, fun i H => ∃ xs, SqL K H a xs ∧ xs.length ≤ i⟩
def Itt (K : PySem.W.Frag) (a : Addr) : It :=
  ⟨fun i H => ∃ xs x, SqT K H a xs ∧ xs[i]? = some x, fun i H x H' => H' = H ∧ ∀ xs, SqT K H a xs → xs[i]? = some x, fun i H => ∃ xs, SqT K H a xs ∧ xs.length ≤ i⟩
def Itr (lo : Int) (n : Nat) : It := ⟨fun i _ => i < n, fun i H x H' => H' = H ∧ x = .int (lo + i), fun i _ => n ≤ i⟩
theorem turn_list {P : Program} {w : World} {K : PySem.W.Frag} {tg : Expr} (a it : Addr) : Turn P w K tg (Itl K a) [it] it (fun i h => h.IsListIter it a i) where
  mem := by simp
  obj := fun i h st b hb => by
    have e : b = it := by simpa using hb
    subst e
    obtain ⟨o, e, c, d⟩ := st
    exact ⟨o, e, fun v z => by rw [d] at z; cases z⟩
  keep := fun i h h' st k => st.at fun o e => k it (by simp) o e
  item := by
    intro X hP hw hK hc i pins s σ H E I hf st hg
    subst hP hw hK
    obtain ⟨xs, x, hq, hx⟩ := hg
    obtain ⟨its, rv, p, hz⟩ := I.list hq
    obtain ⟨u, hu, ru⟩ := rv.get hx
    obtain ⟨f0, f1, f2, f3, f4, f5⟩ := hf it (by simp)
    refine wpAny_pyNext_list_item st p.isList (x := u) (by simpa using hu) fun h' st' sb => ?_
    have I1 : Inv X pins σ H { s with heap := h' } := I.turned (t' := s.toks) (fun b o hb e => (sb.2 b hb).trans e) f0 f1 f3 f4 f5
    obtain ⟨o, e, c, d⟩ := id st'
    exact ⟨u, rfl, go_of (s := { s with heap := h' }) e c d (by decide) ⟨x, H, I1, ru, ⟨rfl, fun ys hy => by rw [I.list_inj hy hq]; exact hx⟩, st', fun b hb => (hf b hb).1⟩⟩
  done := by
    intro X hP hw hK hc i pins s σ H E I hf st hg
    subst hP hw hK
    obtain ⟨xs, hq, hx⟩ := hg
    obtain ⟨its, rv, p, hz⟩ := I.list hq
    obtain ⟨f0, f1, f2, f3, f4, f5⟩ := hf it (by simp)
    have hl := rv.length
    exact wpAny_pyNext_list_end (I.ok.hd hc) st p.isList (by simp; omega) fun h' eb => ⟨rfl, I.turned (t' := s.toks) (fun b o hb e => eb b o hb e) f0 f1 f3 f4 f5⟩
  self := fun _ _ _ _ _ st h => wpAny_pyIter_listiter st h
theorem turn_tuple {P : Program} {w : World} {K : PySem.W.Frag} {tg : Expr} (a it : Addr) : Turn P w K tg (Itt K a) [it] it (fun i h => h.IsTupleIter it a i) where
  mem := by simp
  obj := fun i h st b hb => by
    have e : b = it := by simpa using hb
    subst e
    obtain ⟨o, e, c, d⟩ := st
    exact ⟨o, e, fun v z => by rw [d] at z; cases z⟩
  keep := fun i h h' st k => st.at fun o e => k it (by simp) o e
  item := by
    intro X hP hw hK hc i pins s σ H E I hf st hg
    subst hP hw hK
    obtain ⟨xs, x, hq, hx⟩ := hg
    obtain ⟨its, rv, p, hz⟩ := I.tuple hq
    obtain ⟨u, hu, ru⟩ := rv.get hx
    obtain ⟨f0, f1, f2, f3, f4, f5⟩ := hf it (by simp)
    refine wpAny_pyNext_tuple_item st (show s.heap.IsTuple a its.toArray from p) (x := u) (by simpa using hu) fun h' st' sb => ?_
    have I1 : Inv X pins σ H { s with heap := h' } := I.turned (t' := s.toks) (fun b o hb e => (sb.2 b hb).trans e) f0 f1 f3 f4 f5
    obtain ⟨o, e, c, d⟩ := id st'
    exact ⟨u, rfl, go_of (s := { s with heap := h' }) e c d (by decide) ⟨x, H, I1, ru, ⟨rfl, fun ys hy => by rw [I.tuple_inj hy hq]; exact hx⟩, st', fun b hb => (hf b hb).1⟩⟩
  done := by
    intro X hP hw hK hc i pins s σ H E I hf st hg
    subst hP hw hK
    obtain ⟨xs, hq, hx⟩ := hg
    obtain ⟨its, rv, p, hz⟩ := I.tuple hq
    obtain ⟨f0, f1, f2, f3, f4, f5⟩ := hf it (by simp)
    have hl := rv.length
    exact wpAny_pyNext_tuple_end (I.ok.hd hc) st (show s.heap.IsTuple a its.toArray from p) (by simp; omega) fun h' eb => ⟨rfl, I.turned (t' := s.toks) (fun b o hb e => eb b o hb e) f0 f1 f3 f4 f5⟩
  self := fun _ _ _ _ _ st h => wpAny_pyIter_tupleiter st h
theorem turn_range {P : Program} {w : World} {K : PySem.W.Frag} {tg : Expr} (it : Addr) (lo : Int) (n : Nat) : Turn P w K tg (Itr lo n) [it] it (fun i h => IsRangeIter h it (lo + (i : Nat) * 1) ((n : Int) - (i : Nat)) 1) where
  mem := by simp
  obj := fun i h st b hb => by
    have e : b = it := by simpa using hb
    subst e
    exact ⟨_, st, fun v z => by
      have z' : Data.fields _ = Data.cell v := z
      cases z'⟩
  keep := fun i h h' st k => k it (by simp) _ st
  item := by
    intro X hP hw hK hc i pins s σ H E I hf st hg
    subst hP hw hK
    obtain ⟨f0, f1, f2, f3, f4, f5⟩ := hf it (by simp)
    have W := Walks.range (prog := X.prog) (w := X.w) (I.ok.hd hc) it lo 1 n
    refine W.item i s _ _ hg st fun v h' tk hv st' kk => ?_
    obtain ⟨t, rfl⟩ := hv
    have I1 : Inv X pins σ H { s with heap := h', toks := tk } := I.turned (fun b o hb e => kk b o (by simpa using hb) e) f0 f1 f3 f4 f5
    refine ⟨_, rfl, go_of (s := { s with heap := h', toks := tk }) (n := "range_iterator") st' rfl rfl (by decide) ⟨.int (lo + i), H, I1, ⟨t, ?_⟩, ⟨rfl, rfl⟩, st', fun b hb => (hf b hb).1⟩⟩
    rw [Int.mul_one]
  done := by
    intro X hP hw hK hc i pins s σ H E I hf st hg
    subst hP hw hK
    obtain ⟨f0, f1, f2, f3, f4, f5⟩ := hf it (by simp)
    exact wpAny_pyNext_range_end (I.ok.hd hc) st (by have : n ≤ i := hg; omega) fun h' eb => ⟨rfl, I.turned (t' := s.toks) (fun b o hb e => eb b o hb e) f0 f1 f3 f4 f5⟩
  self := fun _ _ _ _ _ st h => wpAny_pyIter_rangeiter st h
end L2
namespace L2
open PySem PySem.Spec PyProof.Rows
section
variable {X : Cx} {tg : Expr}
def iList (K : PySem.W.Frag) (tl : TE) : TI := fun σ H R => tl σ H fun x H1 => ∃ a, x = .ref a ∧ (∃ xs, SqL K H1 a xs) ∧ R (Itl K a) H1
def iTup (K : PySem.W.Frag) (tl : TE) : TI := fun σ H R => tl σ H fun x H1 => ∃ a, x = .ref a ∧ (∃ xs, SqT K H1 a xs) ∧ R (Itt K a) H1
theorem pi_list {l : Expr} {tl : TE} (hl : PE X l tl) : PI X tg l (iList X.K tl) := by
  intro pins s σ H R I h
  refine thn (hl pins s σ H _ I h) fun v s1 ⟨x, H1, I1, r1, q1⟩ => ?_
  obtain ⟨a, e, ⟨xs, hq⟩, q⟩ := q1
  subst e
  cases r1
  obtain ⟨its, rv, p, hz⟩ := I1.list hq
  refine wpAny_pyIter_list p.isList ?_
  refine ⟨s1.heap.objs.size, [s1.heap.objs.size], _, _, H1, rfl, I1.kept (t' := s1.toks) fun b o e => Heap.get?_push_of_some _ e, turn_list a _, ⟨_, Heap.get?_push_size _ rfl, rfl, rfl⟩, fun b hb => ?_, q⟩
  have e : b = s1.heap.objs.size := by simpa using hb
  subst e
  exact I1.fpOk (Nat.le_refl _) (I1.hok.fresh (Nat.le_refl _))
theorem pi_tup {l : Expr} {tl : TE} (hl : PE X l tl) : PI X tg l (iTup X.K tl) := by
  intro pins s σ H R I h
  refine thn (hl pins s σ H _ I h) fun v s1 ⟨x, H1, I1, r1, q1⟩ => ?_
  obtain ⟨a, e, ⟨xs, hq⟩, q⟩ := q1
  subst e
  cases r1
  obtain ⟨its, rv, p, hz⟩ := I1.tuple hq
  refine wpAny_pyIter_tuple (show s1.heap.IsTuple a its.toArray from p) ?_
  refine ⟨s1.heap.objs.size, [s1.heap.objs.size], _, _, H1, rfl, I1.kept (t' := s1.toks) fun b o e => Heap.get?_push_of_some _ e, turn_tuple a _, ⟨_, Heap.get?_push_size _ rfl, rfl, rfl⟩, fun b hb => ?_, q⟩
  have e : b = s1.heap.objs.size := by simpa using hb
  subst e
  exact I1.fpOk (Nat.le_refl _) (I1.hok.fresh (Nat.le_refl _))
theorem range_it {pins : List (Addr × Obj)} {σ : St} {H : Hp} {s : Shared} {R : It → Hp → Prop} {E : Value → Shared → Prop} {lo hi : Int} {t u v : Tok} {tk : Nat} (I : Inv X pins σ H s) (h1 : -(2 ^ 62) ≤ lo) (h2 : lo < 2 ^ 62) (h3 : -(2 ^ 62) ≤ hi) (h4 : hi < 2 ^ 62)
    (q : R (Itr lo (hi - lo).toNat) H) : wpAny (model X.prog X.w) X.A (pyIter (.ref s.heap.objs.size)) (PIE X pins σ tg R) E { s with heap := s.heap.push { cls := .type "range", data := .fields #[.int lo t, .int hi u, .int 1 v] }, toks := tk } := by
  refine wpAny_pyIter_range (IsRange.new ..) (small_one h1 h2 h3 h4) ?_
  have I1 : Inv X pins σ H { s with heap := s.heap.push { cls := .type "range", data := .fields #[.int lo t, .int hi u, .int 1 v] }, toks := tk } := I.kept fun b o e => Heap.get?_push_of_some _ e
  refine ⟨(s.heap.push { cls := .type "range", data := .fields #[.int lo t, .int hi u, .int 1 v] }).objs.size, [(s.heap.push { cls := .type "range", data := .fields #[.int lo t, .int hi u, .int 1 v] }).objs.size], _, _, H, rfl,
    I1.kept (t' := tk) fun b o e => Heap.get?_push_of_some _ e, turn_range _ lo (hi - lo).toNat, ?_, fun b hb => ?_, q⟩
  · have e1 : lo + ((0 : Nat) : Int) * 1 = lo := by simp
    have e2 : (((hi - lo).toNat : Nat) : Int) - ((0 : Nat) : Int) = Builtin.Range.rangeSize lo hi 1 := by rw [rangeSize_one]; split <;> omega
    show IsRangeIter _ _ (lo + ((0 : Nat) : Int) * 1) ((((hi - lo).toNat : Nat) : Int) - ((0 : Nat) : Int)) 1
    rw [e1, e2]
    exact Heap.get?_push_size _ rfl
  · have e : b = (s.heap.push { cls := .type "range", data := .fields #[.int lo t, .int hi u, .int 1 v] }).objs.size := by simpa using hb
    subst e
    exact I1.fpOk (Nat.le_refl _) (I1.hok.fresh (Nat.le_refl _))
def iRng1 (ta : TA) : TI := fun σ H R => ta σ H fun vs H1 => ∃ j : Int, vs = [.int j] ∧ -(2 ^ 62) ≤ j ∧ j < 2 ^ 62 ∧ R (Itr 0 j.toNat) H1
def iRng2 (ta : TA) : TI := fun σ H R => ta σ H fun vs H1 => ∃ i j : Int, vs = [.int i, .int j] ∧ (-(2 ^ 62) ≤ i ∧ i < 2 ^ 62 ∧ -(2 ^ 62) ≤ j ∧ j < 2 ^ 62) ∧ R (Itr i (j - i).toNat) H1
theorem pi_range1 {a : Expr} {ta : TA} {p pos : Pos} (hg : Gl X "range") (hm : X.mg "range" = none) (ha : PA X [a] ta) (hs : starEach [a] X.env = [(false, eval a X.env)] := by rfl) : PI X tg (.Call (.Name "range" p) [a] [] pos) (iRng1 ta) := by
  intro pins s σ H R I h
  refine Call_ (ld_blt I hg hm boot_range (PyProof.Rows.callWith_type1 (thn (ha pos pins s σ H _ I h) fun us s1 ⟨vs, H1, I1, r1, q1⟩ => ?_) hs rfl))
  obtain ⟨j, e, q1, q2, q⟩ := q1
  subst e
  cases r1 with
  | cons r rr =>
    cases rr
    obtain ⟨t, rfl⟩ := r
    exact call_range_1 (range_it I1 (by omega) (by omega) q1 q2 (by simpa using q))
theorem pi_range2 {a b : Expr} {ta : TA} {p pos : Pos} (hg : Gl X "range") (hm : X.mg "range" = none) (ha : PA X [a, b] ta) (hs : starEach [a, b] X.env = [(false, eval a X.env), (false, eval b X.env)] := by rfl) (hs2 : starEach [b] X.env = [(false, eval b X.env)] := by rfl) :
    PI X tg (.Call (.Name "range" p) [a, b] [] pos) (iRng2 ta) := by
  intro pins s σ H R I h
  refine Call_ (ld_blt I hg hm boot_range (PyProof.Rows.callWith_type1 (thn (ha pos pins s σ H _ I h) fun us s1 ⟨vs, H1, I1, r1, q1⟩ => ?_) (by rw [hs, hs2]) (by rw [hs2]; rfl)))
  obtain ⟨i, j, e, ⟨q1, q2, q3, q4⟩, q⟩ := q1
  subst e
  cases r1 with
  | cons r rr =>
    cases rr with
    | cons r' rr =>
      cases rr
      obtain ⟨t, rfl⟩ := r
      obtain ⟨t', rfl⟩ := r'
      exact call_range_2 (range_it I1 q1 q2 q3 q4 q)
def tFor (wi : TI) (g : TG) (tb : TS) : TS := fun D σ H => wi σ H fun J H1 => ∃ W : Nat → Nat → St → Hp → Prop, (∃ m, W 0 m σ H1) ∧ ∀ i m σ H, W i m σ H →
  (J.stop i H ∧ D.nx σ H) ∨ (J.go i H ∧ ∃ N : St → Hp → Prop, (∀ σ' H', N σ' H' → ∃ m', m' < m ∧ W (i + 1) m' σ' H') ∧ ∀ x H', J.yld i H x H' → g x σ H' fun σ2 H2 => tb { D with nx := N, ct := N, bk := D.nx } σ2 H2)
def pinsAt (fp : List Addr) (h : Heap) : List (Addr × Obj) := fp.filterMap fun b => (h.get? b).map fun o => (b, o)
theorem mem_pinsAt {fp : List Addr} {h : Heap} {b : Addr} {o : Obj} (hb : b ∈ fp) (e : h.get? b = some o) : (b, o) ∈ pinsAt fp h := List.mem_filterMap.mpr ⟨b, hb, by rw [e]; rfl⟩
theorem of_pinsAt {fp : List Addr} {h : Heap} {p : Addr × Obj} (hp : p ∈ pinsAt fp h) : p.1 ∈ fp ∧ h.get? p.1 = some p.2 := by
  obtain ⟨b, hb, e⟩ := List.mem_filterMap.mp hp
  cases q : h.get? b with
  | none => rw [q] at e; cases e
  | some o =>
    rw [q] at e
    have e' : (b, o) = p := Option.some.inj e
    subst e'
    exact ⟨hb, q⟩
theorem Inv.pinned {pins : List (Addr × Obj)} {σ : St} {H : Hp} {s : Shared} {fp : List Addr} (I : Inv X pins σ H s) (hf : ∀ b ∈ fp, FpOk X pins H b) (ho : ∀ b ∈ fp, ∃ o, s.heap.get? b = some o ∧ ∀ v, o.data ≠ .cell v) : Inv X (pins ++ pinsAt fp s.heap) σ H s :=
  I.pins_of fun p hp => (List.mem_append.mp hp).elim (fun z => I.pin p (List.mem_append_right _ z)) fun z => by
    obtain ⟨hb, e⟩ := of_pinsAt z
    obtain ⟨f0, f1, f2, _⟩ := hf p.1 hb
    obtain ⟨o, e', d⟩ := ho p.1 hb
    rw [e] at e'; cases e'
    exact ⟨e, f0, f1, f2, d⟩
theorem Inv.unpinned {pins pl : List (Addr × Obj)} {σ : St} {H : Hp} {s : Shared} (I : Inv X (pins ++ pl) σ H s) : Inv X pins σ H s := I.pins_of fun p hp => I.pin p (List.mem_append_right _ (List.mem_append_left _ hp))
theorem ps_for {iter : Expr} {body : List Stmt} {wi : TI} {g : TG} {tb : TS} {pos : Pos} (hp : PassesOwn (model X.prog X.w) X.A X.env X.xe) (hc : X.calm = true) (hi : PI X tg iter wi) (hg : PG X tg g) (hb : PSs X body tb)
    (hs : ∀ x, foldedSetIterable iter X.env x = pure x := by intro _; rfl) : PS X (.For tg iter body [] pos) (tFor wi g tb) := by
  intro pins s σ H D I h
  refine wpAny_For (thn (hi pins s σ H _ I h) fun v s1 h1 => thn h1 fun itv s2 h2 => ?_) hs
  obtain ⟨it, fp, tn, J, H2, e, I2, T, st2, f2, W, ⟨m0, w0⟩, turn⟩ := h2
  subst e
  -- what stays true of the iterator's objects through the loop
  have stat : ∀ {H' : Hp}, (∀ b ∈ fp, H' b = none) → ∀ b ∈ fp, FpOk X pins H' b := fun hn b hb => ⟨hn b hb, (f2 b hb).2⟩
  refine codeAny_forLoop_any (fun n s' => ∃ i σ' H', Inv X pins σ' H' s' ∧ tn i s'.heap ∧ (∀ b ∈ fp, H' b = none) ∧ W i n σ' H') ?_ m0 ⟨0, σ, H2, I2, st2, fun b hb => (f2 b hb).1, w0⟩
  rintro n s3 ⟨i, σ3, H3, I3, st3, fr3, w3⟩
  rcases turn i n σ3 H3 w3 with ⟨stop, qn⟩ | ⟨go, N, hN, step⟩
  · refine wpAny_passesOwn hp (thn (T.done X rfl rfl rfl hc i pins s3 σ3 H3 X.xe I3 (stat fr3) st3 stop) fun r s4 ⟨hr, I4⟩ => ?_)
    subst hr
    exact wpAny_execs_nil ⟨σ3, H3, I4, qn⟩
  · refine wpAny_passesOwn hp (thn (T.item X rfl rfl rfl hc i pins s3 σ3 H3 X.xe I3 (stat fr3) st3 go) fun r s4 ⟨u, hr, h4⟩ => ?_)
    subst hr
    refine wpAny_passesOwn hp (thn h4 fun _ s5 ⟨x, H5, I5, r5, y5, st5, fr5⟩ => ?_)
    have I5' := I5.pinned (stat fr5) (T.obj _ _ st5)
    refine wpAny_passesOwn hp (thn (hg _ s5 σ3 H5 x u _ I5' r5 (step x H5 y5)) fun _ s6 ⟨σ6, H6, I6, q6⟩ => ?_)
    refine wpAny_passesOwn hp (thn (hb _ s6 σ6 H6 _ I6 q6) fun f s7 q7 => ?_)
    have again : ∀ {σ7 : St} {H7 : Hp}, Inv X (pins ++ pinsAt fp s5.heap) σ7 H7 s7 → N σ7 H7 → ∃ m, m < n ∧ ∃ i σ' H', Inv X pins σ' H' s7 ∧ tn i s7.heap ∧ (∀ b ∈ fp, H' b = none) ∧ W i m σ' H' := fun {σ7 H7} I7 n7 => by
      obtain ⟨m', hm, w7⟩ := hN σ7 H7 n7
      refine ⟨m', hm, i + 1, σ7, H7, I7.unpinned, T.keep _ _ _ st5 fun b hb o e => (I7.pin (b, o) (List.mem_append_right _ (List.mem_append_right _ (mem_pinsAt hb e)))).1, fun b hb => ?_, w7⟩
      obtain ⟨o, e, d⟩ := T.obj _ _ st5 b hb
      exact (I7.pin (b, o) (List.mem_append_right _ (List.mem_append_right _ (mem_pinsAt hb e)))).2.1
    cases f with
    | next => obtain ⟨σ7, H7, I7, n7⟩ := q7; exact again I7 n7
    | cont => obtain ⟨σ7, H7, I7, n7⟩ := q7; exact again I7 n7
    | brk => obtain ⟨σ7, H7, I7, q7⟩ := q7; exact ⟨σ7, H7, I7.unpinned, q7⟩
    | ret v => obtain ⟨x7, σ7, H7, I7, r7, q7⟩ := q7; exact ⟨x7, σ7, H7, I7.unpinned, r7, q7⟩
end
theorem for_list {K : PySem.W.Frag} {a : Addr} {xs : List V} {g : TG} {tb : TS} {D : Ends} {σ : St} {H : Hp} (Pv : Nat → St → Hp → Prop) (h0 : Pv 0 σ H) (hl : ∀ i σ H, i ≤ xs.length → Pv i σ H → SqL K H a xs)
    (hs : ∀ i x σ H, xs[i]? = some x → Pv i σ H → g x σ H fun σ2 H2 => tb { D with nx := Pv (i + 1), ct := Pv (i + 1), bk := D.nx } σ2 H2) (hd : ∀ σ H, Pv xs.length σ H → D.nx σ H) :
    ∃ W : Nat → Nat → St → Hp → Prop, (∃ m, W 0 m σ H) ∧ ∀ i m σ H, W i m σ H →
      ((Itl K a).stop i H ∧ D.nx σ H) ∨ ((Itl K a).go i H ∧ ∃ N : St → Hp → Prop, (∀ σ' H', N σ' H' → ∃ m', m' < m ∧ W (i + 1) m' σ' H') ∧ ∀ x H', (Itl K a).yld i H x H' → g x σ H' fun σ2 H2 => tb { D with nx := N, ct := N, bk := D.nx } σ2 H2) := by
  refine ⟨fun i m σ H => m = xs.length - i ∧ i ≤ xs.length ∧ Pv i σ H, ⟨xs.length, by simp, Nat.zero_le _, h0⟩, ?_⟩
  rintro i m σ H ⟨rfl, hi, p⟩
  have q := hl i σ H hi p
  by_cases hlt : i < xs.length
  · refine .inr ⟨⟨xs, xs[i], q, by simp [hlt]⟩, Pv (i + 1), fun σ' H' p' => ⟨xs.length - (i + 1), by omega, rfl, hlt, p'⟩, fun x H' y => ?_⟩
    obtain ⟨e, y⟩ := y
    subst e
    exact hs i x σ _ (y xs q) p
  · have e : i = xs.length := by omega
    subst e
    exact .inl ⟨⟨xs, q, Nat.le_refl _⟩, hd σ H p⟩
theorem for_tup {K : PySem.W.Frag} {a : Addr} {xs : List V} {g : TG} {tb : TS} {D : Ends} {σ : St} {H : Hp} (Pv : Nat → St → Hp → Prop) (h0 : Pv 0 σ H) (hl : ∀ i σ H, i ≤ xs.length → Pv i σ H → SqT K H a xs)
    (hs : ∀ i x σ H, xs[i]? = some x → Pv i σ H → g x σ H fun σ2 H2 => tb { D with nx := Pv (i + 1), ct := Pv (i + 1), bk := D.nx } σ2 H2) (hd : ∀ σ H, Pv xs.length σ H → D.nx σ H) :
    ∃ W : Nat → Nat → St → Hp → Prop, (∃ m, W 0 m σ H) ∧ ∀ i m σ H, W i m σ H →
      ((Itt K a).stop i H ∧ D.nx σ H) ∨ ((Itt K a).go i H ∧ ∃ N : St → Hp → Prop, (∀ σ' H', N σ' H' → ∃ m', m' < m ∧ W (i + 1) m' σ' H') ∧ ∀ x H', (Itt K a).yld i H x H' → g x σ H' fun σ2 H2 => tb { D with nx := N, ct := N, bk := D.nx } σ2 H2) := by
  refine ⟨fun i m σ H => m = xs.length - i ∧ i ≤ xs.length ∧ Pv i σ H, ⟨xs.length, by simp, Nat.zero_le _, h0⟩, ?_⟩
  rintro i m σ H ⟨rfl, hi, p⟩
  have q := hl i σ H hi p
  by_cases hlt : i < xs.length
  · refine .inr ⟨⟨xs, xs[i], q, by simp [hlt]⟩, Pv (i + 1), fun σ' H' p' => ⟨xs.length - (i + 1), by omega, rfl, hlt, p'⟩, fun x H' y => ?_⟩
    obtain ⟨e, y⟩ := y
    subst e
    exact hs i x σ _ (y xs q) p
  · have e : i = xs.length := by omega
    subst e
    exact .inl ⟨⟨xs, q, Nat.le_refl _⟩, hd σ H p⟩
theorem for_range {lo : Int} {n : Nat} {g : TG} {tb : TS} {D : Ends} {σ : St} {H : Hp} (Pv : Nat → St → Hp → Prop) (h0 : Pv 0 σ H)
    (hs : ∀ i σ H, i < n → Pv i σ H → g (.int (lo + i)) σ H fun σ2 H2 => tb { D with nx := Pv (i + 1), ct := Pv (i + 1), bk := D.nx } σ2 H2) (hd : ∀ σ H, Pv n σ H → D.nx σ H) :
    ∃ W : Nat → Nat → St → Hp → Prop, (∃ m, W 0 m σ H) ∧ ∀ i m σ H, W i m σ H →
      ((Itr lo n).stop i H ∧ D.nx σ H) ∨ ((Itr lo n).go i H ∧ ∃ N : St → Hp → Prop, (∀ σ' H', N σ' H' → ∃ m', m' < m ∧ W (i + 1) m' σ' H') ∧ ∀ x H', (Itr lo n).yld i H x H' → g x σ H' fun σ2 H2 => tb { D with nx := N, ct := N, bk := D.nx } σ2 H2) := by
  refine ⟨fun i m σ H => m = n - i ∧ i ≤ n ∧ Pv i σ H, ⟨n, by simp, Nat.zero_le _, h0⟩, ?_⟩
  rintro i m σ H ⟨rfl, hi, p⟩
  by_cases hlt : i < n
  · refine .inr ⟨hlt, Pv (i + 1), fun σ' H' p' => ⟨n - (i + 1), by omega, rfl, hlt, p'⟩, fun x H' y => ?_⟩
    obtain ⟨e, y⟩ := y
    subst e y
    exact hs i σ _ hlt p
  · have e : i = n := by omega
    subst e
    exact .inl ⟨Nat.le_refl _, hd σ H p⟩
end L2
namespace L2
open PySem PySem.Spec PyProof.Rows
abbrev R2 := V → V → Hp → VK → Prop
def OpR (X : Cx) (f : Value → Value → Sem Value) (r : R2) : Prop :=
  ∀ (pins : List (Addr × Obj)) (s : Shared) (σ : St) (H : Hp) (x y : V) (v u : Value) (Q : VK), Inv X pins σ H s → RelV x v → RelV y u → r x y H Q →
    wpAny (model X.prog X.w) X.A (f v u) (EP X pins σ Q) X.xe s
def UnR (X : Cx) (f : Value → Sem Value) (r : V → Hp → VK → Prop) : Prop :=
  ∀ (pins : List (Addr × Obj)) (s : Shared) (σ : St) (H : Hp) (x : V) (v : Value) (Q : VK), Inv X pins σ H s → RelV x v → r x H Q →
    wpAny (model X.prog X.w) X.A (f v) (EP X pins σ Q) X.xe s
def CallR (X : Cx) (f : Value) (r : List V → Hp → VK → Prop) : Prop :=
  ∀ (pins : List (Addr × Obj)) (s : Shared) (σ : St) (H : Hp) (xs : List V) (us : List Value) (Q : VK), Inv X pins σ H s → Vals xs us → r xs H Q →
    wpAny (model X.prog X.w) X.A (call f us) (EP X pins σ Q) X.xe s
def tOp (r : R2) (ta tb : TE) : TE := fun σ H Q => ta σ H fun x H1 => tb σ H1 fun y H2 => r x y H2 Q
def tUn (r : V → Hp → VK → Prop) (ta : TE) : TE := fun σ H Q => ta σ H fun x H1 => r x H1 Q
def rI (C : Int → Int → Prop) (g : Int → Int → V) : R2 := fun x y H Q => ∃ i j, x = .int i ∧ y = .int j ∧ C i j ∧ Q (g i j) H
def rI0 (g : Int → Int → V) : R2 := fun x y H Q => ∃ i j, x = .int i ∧ y = .int j ∧ Q (g i j) H
def rU (g : Int → V) : V → Hp → VK → Prop := fun x H Q => ∃ i, x = .int i ∧ Q (g i) H
section
variable {X : Cx} {a b c : Expr} {ta tb tc : TE} {pos : Pos}
theorem binT (ha : PE X a ta) (hb : PE X b tb) {pins : List (Addr × Obj)} {s : Shared} {σ : St} {H : Hp} {R : V → V → Hp → Prop} (I : Inv X pins σ H s)
    (h : ta σ H fun x H1 => tb σ H1 fun y H2 => R x y H2) {Q : Value → Shared → Prop} {f : Value → Value → Sem Value}
    (hf : ∀ v u s2 x y H2, Inv X pins σ H2 s2 → RelV x v → RelV y u → R x y H2 → wpAny (model X.prog X.w) X.A (f v u) Q X.xe s2) :
    wpAny (model X.prog X.w) X.A (eval a X.env) (fun v s₁ => wpAny (model X.prog X.w) X.A (eval b X.env) (fun u s₂ => wpAny (model X.prog X.w) X.A (f v u) Q X.xe s₂) X.xe s₁) X.xe s := by
  refine thn (ha pins s σ H _ I h) fun v s1 ⟨x, H1, I1, r1, q1⟩ => ?_
  refine thn (hb pins s1 σ H1 _ I1 q1) fun u s2 ⟨y, H2, I2, r2, q2⟩ => ?_
  exact hf v u s2 x y H2 I2 r1 r2 q2
theorem pe_op {op : Operator} {r : R2} (ho : OpR X (binaryOp op) r) (ha : PE X a ta) (hb : PE X b tb) : PE X (.BinOp a op b pos) (tOp r ta tb) := by
  intro pins s σ H Q I h
  exact wpAny_BinOp (binT ha hb I h fun v u s2 x y H2 I2 rx ry q => ho pins s2 σ H2 x y v u Q I2 rx ry q)
theorem pe_un {op : UnaryOp} {r : V → Hp → VK → Prop} (ho : UnR X (unaryOp op) r) (ha : PE X a ta) : PE X (.UnaryOp op a pos) (tUn r ta) := by
  intro pins s σ H Q I h
  exact UnaryOp_ (thn (ha pins s σ H _ I h) fun v s1 ⟨x, H1, I1, r1, q1⟩ => ho pins s1 σ H1 x v Q I1 r1 q1)
theorem opI {f : Value → Value → Sem Value} {C : Int → Int → Prop} {g : Int → Int → Int}
    (rule : ∀ (i j : Int) (t u : Tok) (s : Shared) (Q : Value → Shared → Prop) (E : Value → Shared → Prop), C i j → Q (.int (g i j) s.toks) { s with toks := s.toks + 1 } → wpAny (model X.prog X.w) X.A (f (.int i t) (.int j u)) Q E s) :
    OpR X f (rI C fun i j => .int (g i j)) := by
  intro pins s σ H x y v u Q I rx ry h
  obtain ⟨i, j, rfl, rfl, hc, q⟩ := h
  obtain ⟨t, rfl⟩ := rx
  obtain ⟨t', rfl⟩ := ry
  exact rule i j t t' s _ _ hc ⟨.int (g i j), H, I.tok _, ⟨_, rfl⟩, q⟩
theorem opI0 {f : Value → Value → Sem Value} {g : Int → Int → Int}
    (rule : ∀ (i j : Int) (t u : Tok) (s : Shared) (Q : Value → Shared → Prop) (E : Value → Shared → Prop), Q (.int (g i j) s.toks) { s with toks := s.toks + 1 } → wpAny (model X.prog X.w) X.A (f (.int i t) (.int j u)) Q E s) :
    OpR X f (rI0 fun i j => .int (g i j)) := by
  intro pins s σ H x y v u Q I rx ry h
  obtain ⟨i, j, rfl, rfl, q⟩ := h
  obtain ⟨t, rfl⟩ := rx
  obtain ⟨t', rfl⟩ := ry
  exact rule i j t t' s _ _ ⟨.int (g i j), H, I.tok _, ⟨_, rfl⟩, q⟩
theorem opB0 {f : Value → Value → Sem Value} {g : Int → Int → Bool}
    (rule : ∀ (i j : Int) (t u : Tok) (s : Shared) (Q : Value → Shared → Prop) (E : Value → Shared → Prop), Q (.bool (g i j)) s → wpAny (model X.prog X.w) X.A (f (.int i t) (.int j u)) Q E s) :
    OpR X f (rI0 fun i j => .bl (g i j)) := by
  intro pins s σ H x y v u Q I rx ry h
  obtain ⟨i, j, rfl, rfl, q⟩ := h
  obtain ⟨t, rfl⟩ := rx
  obtain ⟨t', rfl⟩ := ry
  exact rule i j t t' s _ _ ⟨.bl (g i j), H, I, rfl, q⟩
def CPow (i j : Int) : Prop := 0 ≤ j ∧ j ≤ 1000000 ∧ i.natAbs < 2 ^ 64
def CMul (i j : Int) : Prop := (-(2 ^ 64) < i ∧ i < 2 ^ 64) ∨ (-(2 ^ 64) < j ∧ j < 2 ^ 64)
theorem CMul.ok {i j : Int} (h : CMul i j) : IntMulOk i j := by
  rcases h with ⟨h1, h2⟩ | ⟨h1, h2⟩
  · exact .of_left (intBits_le_64 h1 h2)
  · exact .of_right (intBits_le_64 h1 h2)
theorem op_add : OpR X (binaryOp .Add) (rI0 fun i j => .int (i + j)) := opI0 fun _ _ _ _ _ _ _ q => add_int q
theorem op_sub : OpR X (binaryOp .Sub) (rI0 fun i j => .int (i - j)) := opI0 fun _ _ _ _ _ _ _ q => sub_int q
theorem op_mod : OpR X (binaryOp .Mod) (rI (fun _ j => 0 < j) fun i j => .int (i % j)) := opI fun i j _ _ _ _ _ hc q => by
  have h1 : (0 : Int) < j := hc
  exact mod_int' (by omega) (by rw [Int.fmod_eq_emod_of_nonneg i (by omega)]; exact q)
theorem op_pow : OpR X (binaryOp .Pow) (rI CPow fun i j => .int (i ^ j.toNat)) := opI fun _ _ _ _ _ _ _ hc q => pow_int_small hc.1 hc.2.1 hc.2.2 q
theorem unI {f : Value → Sem Value} {g : Int → Int}
    (rule : ∀ (i : Int) (t : Tok) (s : Shared) (Q : Value → Shared → Prop) (E : Value → Shared → Prop), Q (.int (g i) s.toks) { s with toks := s.toks + 1 } → wpAny (model X.prog X.w) X.A (f (.int i t)) Q E s) :
    UnR X f (rU fun i => .int (g i)) := by
  intro pins s σ H x v Q I rx h
  obtain ⟨i, rfl, q⟩ := h
  obtain ⟨t, rfl⟩ := rx
  exact rule i t s _ _ ⟨.int (g i), H, I.tok _, ⟨_, rfl⟩, q⟩
theorem un_neg : UnR X (unaryOp .USub) (rU fun i => .int (-i)) := unI fun _ _ _ _ _ q => neg_int q
end
def scal : V → V → Bool
  | .non, .non => true | .non, .int _ => true | .int _, .non => true | .non, .bl _ => true | .bl _, .non => true | .non, .str _ => true | .str _, .non => true
  | .int _, .int _ => true | .bl _, .bl _ => true | .str _, .str _ => true | .byt _, .byt _ => true
  | .int _, .str _ => true | .str _, .int _ => true | .bl _, .str _ => true | .str _, .bl _ => true
  | _, _ => false
def rEq : R2 := fun x y H Q => scal x y = true ∧ Q (.bl (decide (x = y))) H
def rNe : R2 := fun x y H Q => scal x y = true ∧ Q (.bl (!decide (x = y))) H
theorem dec_int {i j : Int} : decide (V.int i = V.int j) = (i == j) := by
  rw [Bool.eq_iff_iff]
  simp
theorem dec_bl {i j : Bool} : decide (V.bl i = V.bl j) = (i == j) := by
  rw [Bool.eq_iff_iff]
  simp
theorem dec_str {i j : Str} : decide (V.str i = V.str j) = (i == j) := by
  rw [Bool.eq_iff_iff]
  simp
theorem dec_byt {i j : Array UInt8} : decide (V.byt i = V.byt j) = (i.toList == j.toList) := by
  rw [Bool.eq_iff_iff]
  cases i
  cases j
  simp
section
variable {X : Cx} {a b c : Expr} {ta tb tc : TE} {pos : Pos}
theorem fin_bl {pins : List (Addr × Obj)} {σ : St} {H : Hp} {s : Shared} {Q : VK} {k k' : Bool} (I : Inv X pins σ H s) (q : Q (.bl k) H) (e : k = k') : EP X pins σ Q (.bool k') s := by
  subst e
  exact ⟨.bl k, H, I, rfl, q⟩
theorem op_eq : OpR X (compareOp .Eq) rEq := by
  intro pins s σ H x y v u Q I rx ry h
  obtain ⟨hs, q⟩ := h
  cases x with
  | non =>
    cases rx
    cases y with
    | non => cases ry; exact PySem.EqNone.eq_none_none (fin_bl I q (by simp))
    | bl j => cases ry; exact PySem.EqNone.eq_none_bool (fin_bl I q (by simp))
    | int j => obtain ⟨t', rfl⟩ := ry; exact PySem.EqNone.eq_none_int (fin_bl I q (by simp))
    | str j => obtain ⟨t', rfl⟩ := ry; exact PySem.EqNone.eq_none_str (fin_bl I q (by simp))
    | _ => exact absurd (show false = true from hs) Bool.false_ne_true
  | bl i =>
    cases rx
    cases y with
    | non => cases ry; exact PySem.EqNone.eq_bool_none (fin_bl I q (by simp))
    | bl j => cases ry; exact eq_bool (fin_bl I q dec_bl)
    | str j => obtain ⟨t', rfl⟩ := ry; exact PySem.EqMixed.eq_bool_str (fin_bl I q (by simp))
    | _ => exact absurd (show false = true from hs) Bool.false_ne_true
  | int i =>
    obtain ⟨t, rfl⟩ := rx
    cases y with
    | non => cases ry; exact PySem.EqNone.eq_int_none (fin_bl I q (by simp))
    | int j => obtain ⟨t', rfl⟩ := ry; exact eq_int (fin_bl I q dec_int)
    | str j => obtain ⟨t', rfl⟩ := ry; exact PySem.EqMixed.eq_int_str (fin_bl I q (by simp))
    | _ => exact absurd (show false = true from hs) Bool.false_ne_true
  | str i =>
    obtain ⟨t, rfl⟩ := rx
    cases y with
    | non => cases ry; exact PySem.EqNone.eq_str_none (fin_bl I q (by simp))
    | bl j => cases ry; exact PySem.EqMixed.eq_str_bool (fin_bl I q (by simp))
    | int j => obtain ⟨t', rfl⟩ := ry; exact PySem.EqMixed.eq_str_int (fin_bl I q (by simp))
    | str j => obtain ⟨t', rfl⟩ := ry; exact eq_str (fin_bl I q dec_str)
    | _ => exact absurd (show false = true from hs) Bool.false_ne_true
  | byt i =>
    obtain ⟨t, rfl⟩ := rx
    cases y with
    | byt j => obtain ⟨t', rfl⟩ := ry; exact PySem.W.eq_bytes (fin_bl I q dec_byt)
    | _ => exact absurd (show false = true from hs) Bool.false_ne_true
  | _ => cases y <;> exact absurd (show false = true from hs) Bool.false_ne_true
theorem op_ne : OpR X (compareOp .NotEq) rNe := by
  intro pins s σ H x y v u Q I rx ry h
  obtain ⟨hs, q⟩ := h
  cases x with
  | non =>
    cases rx
    cases y with
    | non => cases ry; exact PySem.EqNone.ne_none_none (fin_bl I q (by simp))
    | bl j => cases ry; exact PySem.EqNone.ne_none_bool (fin_bl I q (by simp))
    | int j => obtain ⟨t', rfl⟩ := ry; exact PySem.EqNone.ne_none_int (fin_bl I q (by simp))
    | str j => obtain ⟨t', rfl⟩ := ry; exact PySem.EqNone.ne_none_str (fin_bl I q (by simp))
    | _ => exact absurd (show false = true from hs) Bool.false_ne_true
  | bl i =>
    cases rx
    cases y with
    | non => cases ry; exact PySem.EqNone.ne_bool_none (fin_bl I q (by simp))
    | bl j => cases ry; exact ne_bool (fin_bl I q (congrArg not dec_bl))
    | str j => obtain ⟨t', rfl⟩ := ry; exact PySem.EqMixed.ne_bool_str (fin_bl I q (by simp))
    | _ => exact absurd (show false = true from hs) Bool.false_ne_true
  | int i =>
    obtain ⟨t, rfl⟩ := rx
    cases y with
    | non => cases ry; exact PySem.EqNone.ne_int_none (fin_bl I q (by simp))
    | int j => obtain ⟨t', rfl⟩ := ry; exact ne_int (fin_bl I q (congrArg not dec_int))
    | str j => obtain ⟨t', rfl⟩ := ry; exact PySem.EqMixed.ne_int_str (fin_bl I q (by simp))
    | _ => exact absurd (show false = true from hs) Bool.false_ne_true
  | str i =>
    obtain ⟨t, rfl⟩ := rx
    cases y with
    | non => cases ry; exact PySem.EqNone.ne_str_none (fin_bl I q (by simp))
    | bl j => cases ry; exact PySem.EqMixed.ne_str_bool (fin_bl I q (by simp))
    | int j => obtain ⟨t', rfl⟩ := ry; exact PySem.EqMixed.ne_str_int (fin_bl I q (by simp))
    | str j => obtain ⟨t', rfl⟩ := ry; exact ne_str (fin_bl I q (congrArg not dec_str))
    | _ => exact absurd (show false = true from hs) Bool.false_ne_true
  | byt i =>
    obtain ⟨t, rfl⟩ := rx
    cases y with
    | byt j => obtain ⟨t', rfl⟩ := ry; exact PySem.W.ne_bytes (fin_bl I q (congrArg not dec_byt))
    | _ => exact absurd (show false = true from hs) Bool.false_ne_true
  | _ => cases y <;> exact absurd (show false = true from hs) Bool.false_ne_true
theorem op_lt : OpR X (compareOp .Lt) (rI0 fun i j => .bl (decide (i < j))) := opB0 fun _ _ _ _ _ _ _ q => lt_int q
theorem op_le : OpR X (compareOp .LtE) (rI0 fun i j => .bl (decide (i ≤ j))) := opB0 fun _ _ _ _ _ _ _ q => le_int q
theorem op_gt : OpR X (compareOp .Gt) (rI0 fun i j => .bl (decide (j < i))) := opB0 fun _ _ _ _ _ _ _ q => gt_int q
theorem op_ge : OpR X (compareOp .GtE) (rI0 fun i j => .bl (decide (j ≤ i))) := opB0 fun _ _ _ _ _ _ _ q => ge_int q
theorem op_notN : OpR X (compareOp .IsNot) (fun x y H Q => y = .non ∧ Q (.bl (!decide (x = .non))) H) := by
  intro pins s σ H x y v u Q I rx ry h
  obtain ⟨rfl, q⟩ := h
  cases ry
  refine isnot_none_gen (fin_bl I q ?_)
  cases x <;> first
    | (cases rx; rfl)
    | (obtain ⟨t, rfl⟩ := rx; rfl)
theorem OpR.or {f : Value → Value → Sem Value} {r r' : R2} (h : OpR X f r) (h' : OpR X f r') : OpR X f (fun x y H Q => r x y H Q ∨ r' x y H Q) := by
  intro pins s σ H x y v u Q I rx ry q
  rcases q with q | q
  · exact h pins s σ H x y v u Q I rx ry q
  · exact h' pins s σ H x y v u Q I rx ry q
theorem nomark (b : Expr) {op : CmpOp} (h : op ≠ .In := by decide) (h2 : op ≠ .NotIn := by decide) : behindInMarks op b = false := by
  have e1 : (op == CmpOp.In) = false := by cases op <;> first | rfl | exact absurd rfl h
  have e2 : (op == CmpOp.NotIn) = false := by cases op <;> first | rfl | exact absurd rfl h2
  cases b <;> simp [behindInMarks, e1, e2]
def tTest (t : TE) : TT := fun σ H Q => t σ H fun x H' => ∃ k, x = .bl k ∧ Q k H'
theorem pt_cmpR {op : CmpOp} {r : R2} (ho : OpR X (compareOp op) r) (ha : PE X a ta) (hb : PE X b tb) (hm : behindInMarks op b = false) : PT X (.Compare a [op] [b] pos) (tTest (tOp r ta tb)) := by
  intro pins s σ H Q I h
  refine wpAny_isTrue_Compare1 (thn (ha pins s σ H _ I h) fun v s1 ⟨x, H1, I1, r1, q1⟩ => thn (hb pins s1 σ H1 _ I1 q1) fun u s2 ⟨y, H2, I2, r2, q2⟩ =>
    thn (ho pins s2 σ H2 x y v u _ I2 r1 r2 q2) fun c s3 ⟨z, H3, I3, r3, k, e, q3⟩ => ?_) hm
  subst e
  cases r3
  exact wpAny_truthy_bool ⟨H3, I3, q3⟩
def tChain (r r' : R2) (ta tb tc : TE) : TE := fun σ H Q => ta σ H fun x H1 => tb σ H1 fun y H2 => r x y H2 fun z H3 => ∃ k, z = .bl k ∧
  (if k = true then tc σ H3 fun w' H4 => r' y w' H4 Q else Q (.bl false) H3)
theorem pe_chain {op op' : CmpOp} {r r' : R2} (ho : OpR X (compareOp op) r) (ho' : OpR X (compareOp op') r') (ha : PE X a ta) (hb : PE X b tb) (hc : PE X c tc)
    (hm : lastMarks [op, op'] [b, c] = false := by with_unfolding_all rfl) : PE X (.Compare a [op, op'] [b, c] pos) (tChain r r' ta tb tc) := by
  intro pins s σ H Q I h
  refine Compare_chain (thn (ha pins s σ H _ I h) fun v s1 ⟨x, H1, I1, r1, q1⟩ => chain_link (thn (hb pins s1 σ H1 _ I1 q1) fun u s2 ⟨y, H2, I2, r2, q2⟩ =>
    thn (ho pins s2 σ H2 x y v u _ I2 r1 r2 q2) fun d s3 ⟨z, H3, I3, r3, k, e, q3⟩ => ?_)) hm
  subst e
  cases r3
  refine wpAny_truthy_bool ?_
  cases k with
  | false => exact ite_ff ⟨.bl false, H3, I3, rfl, q3⟩
  | true => exact ite_tt (chain_last (thn (hc pins s3 σ H3 _ I3 q3) fun w' s4 ⟨z', H4, I4, r4, q4⟩ => ho' pins s4 σ H4 y z' u w' Q I4 r2 r4 q4))
theorem pt_chain {op op' : CmpOp} {r r' : R2} (ho : OpR X (compareOp op) r) (ho' : OpR X (compareOp op') r') (ha : PE X a ta) (hb : PE X b tb) (hc : PE X c tc)
    (hm : lastMarks [op, op'] [b, c] = false := by with_unfolding_all rfl) : PT X (.Compare a [op, op'] [b, c] pos) (tTest (tChain r r' ta tb tc)) := by
  intro pins s σ H Q I h
  refine isTrue_chain (thn (ha pins s σ H _ I h) fun v s1 ⟨x, H1, I1, r1, q1⟩ => test_link (thn (hb pins s1 σ H1 _ I1 q1) fun u s2 ⟨y, H2, I2, r2, q2⟩ =>
    thn (ho pins s2 σ H2 x y v u _ I2 r1 r2 q2) fun d s3 ⟨z, H3, I3, r3, k, e, q3⟩ => ?_)) hm
  subst e
  cases r3
  refine wpAny_truthy_bool ?_
  cases k with
  | false =>
    obtain ⟨k', e', q'⟩ := q3
    cases e'
    exact ite_ff ⟨H3, I3, q'⟩
  | true =>
    refine ite_tt (test_last (thn (hc pins s3 σ H3 _ I3 q3) fun w' s4 ⟨z', H4, I4, r4, q4⟩ => thn (ho' pins s4 σ H4 y z' u w' _ I4 r2 r4 q4) fun d' s5 ⟨z2, H5, I5, r5, k2, e2, q5⟩ => ?_))
    subst e2
    cases r5
    exact wpAny_truthy_bool ⟨H5, I5, q5⟩
theorem line63 : (sizeLine : Nat) < 2 ^ 63 := by rw [sizeLine_eq]; decide
theorem vals1 {x : V} {us : List Value} (r : Vals [x] us) : ∃ u, us = [u] ∧ RelV x u := by
  cases r with
  | cons r1 r2 => cases r2; exact ⟨_, rfl, r1⟩
theorem vals2 {x y : V} {us : List Value} (r : Vals [x, y] us) : ∃ u w', us = [u, w'] ∧ RelV x u ∧ RelV y w' := by
  cases r with
  | cons r1 r2 =>
    cases r2 with
    | cons r3 r4 => cases r4; exact ⟨_, _, rfl, r1, r3⟩
theorem call_max2 (hc : X.calm = true) : CallR X (.builtin "max") (fun xs H Q => ∃ i j, xs = [.int i, .int j] ∧ Q (.int (if j > i then j else i)) H) := by
  intro pins s σ H xs us Q I r h
  obtain ⟨i, j, rfl, q⟩ := h
  obtain ⟨u, w', rfl, ⟨t, rfl⟩, ⟨t', rfl⟩⟩ := vals2 r
  refine max_two_ints (I.ok.hd hc) fun h' tk k => ⟨_, H, I.kept k, ?_, q⟩
  by_cases hj : j > i
  · rw [if_pos hj, if_pos hj]; exact ⟨_, rfl⟩
  · rw [if_neg hj, if_neg hj]; exact ⟨_, rfl⟩
theorem call_min2 (hc : X.calm = true) : CallR X (.builtin "min") (fun xs H Q => ∃ i j, xs = [.int i, .int j] ∧ Q (.int (if j < i then j else i)) H) := by
  intro pins s σ H xs us Q I r h
  obtain ⟨i, j, rfl, q⟩ := h
  obtain ⟨u, w', rfl, ⟨t, rfl⟩, ⟨t', rfl⟩⟩ := vals2 r
  refine min_two_ints (I.ok.hd hc) fun h' tk k => ⟨_, H, I.kept k, ?_, q⟩
  by_cases hj : j < i
  · rw [if_pos hj, if_pos hj]; exact ⟨_, rfl⟩
  · rw [if_neg hj, if_neg hj]; exact ⟨_, rfl⟩
end
end L2
namespace L2
open PySem PySem.Spec PyProof.Rows
structure ObjM (h : Heap) (x dx C : Addr) (mA : Str → Option Value) : Prop where
  obj : h.get? x = some (PySem.W.instObj C dx)
  ns : h.Ns1 dx mA
  ne : dx ≠ x
theorem lookIn_ns {h : Heap} {dx : Addr} {mA : Str → Option Value} (n : h.Ns1 dx mA) : ∃ od, h.get? dx = some od ∧ ∀ name, PySem.W.lookIn name od = some (mA name) := by
  obtain ⟨o, es, ep, ho, hd, hk, _, hm⟩ := n
  refine ⟨o, ho, fun name => ?_⟩
  have e := hm name
  unfold nsFind findBy at e
  rw [← Array.find?_toList] at e
  unfold PySem.W.lookIn
  rw [hd]
  dsimp only
  split
  · rename_i y q
    rw [q] at e
    exact congrArg some e
  · rename_i q
    rw [q] at e
    have a : es.toList.any (·.refKey) = false := by
      rw [List.any_eq_false]
      intro y hy
      obtain ⟨z, t, hkey⟩ := hk y (Array.mem_toList_iff.mp hy)
      simp [DictEntry.refKey, hkey]
    have a' : ¬ es.toList.any (·.refKey) = true := by rw [a]; exact Bool.false_ne_true
    rw [if_neg a']
    exact congrArg some e
theorem ObjM.look {h : Heap} {x dx C : Addr} {mA : Str → Option Value} (I : ObjM h x dx C mA) : ∃ od, PySem.W.InstAt h x (PySem.W.instObj C dx) C (some od) ∧ ∀ name, PySem.W.lookIn name od = some (mA name) :=
  let ⟨od, ho, hl⟩ := lookIn_ns I.ns
  ⟨od, ⟨I.obj, rfl, rfl, ho⟩, hl⟩
section
variable {prog : Program} {w : World} {A : Around} {E : Value → Shared → Prop} {s : Shared} {K : PySem.W.Frag} {x dx C f : Addr} {mA : Str → Option Value} {name : Str} {v : Value}
theorem get_map {expr : Bool} {Q : Value → Shared → Prop} (X : K.In s.heap) (I : ObjM s.heap x dx C mA) (hg : PySem.W.plainGet K C name = true) (hh : PySem.W.hasDictIn K C = true)
    (ha : PySem.W.findIn K (.ref C) name = some none) (hv : mA name = some v) (hv' : PySem.W.handedIn v = true) (h : Q v { s with toks := s.toks + 1 }) :
    wpAny (model prog w) A (getAttr (.ref x) name expr) Q E s := by
  obtain ⟨od, J, hl⟩ := I.look
  exact PySem.W.get_value X J (PySem.W.plainGet_of hg).1 (PySem.W.findObj_own hh ha rfl (by rw [hl, hv])) hv' h
theorem get_meth {pl : Sem Bool} {Q : Value × List Value → Shared → Prop} (X : K.In s.heap) (I : ObjM s.heap x dx C mA) (hg : PySem.W.plainGet K C name = true)
    (hf : PySem.W.findIn K (.ref C) name = some (some (.ref f))) (ht : PySem.W.isFn K (.ref f) = true) (hv : mA name = none) (h : Q (.ref f, [.ref x]) s) :
    wpAny (model prog w) A (getMethod (.ref x) name pl) Q E s := by
  obtain ⟨od, J, hl⟩ := I.look
  exact PySem.W.method_fn X J (PySem.W.plainGet_of hg).1 (PySem.W.plainGet_of hg).2 hf (beq_iff_eq.mp ht) (by show (PySem.W.lookIn name od).map (·.isSome) = some false; rw [hl, hv]; rfl) h
theorem set_map {ns : List Str} {Q : Unit → Shared → Prop} (X : K.In s.heap) (I : ObjM s.heap x dx C mA)
    (hs : PySem.W.findIn K (.ref C) "__setattr__" = some (some (.builtin "object.__setattr__"))) (hp : PySem.W.plainOver K C = true) (ht : PySem.W.takerIn K C name = some none) (hh : PySem.W.hasDictIn K C = true)
    (hw : PySem.Within mA ns) (hsz : ns.length ≤ sizeLine)
    (h : ∀ h', ObjM h' x dx C (fun y => if y = name then some v else mA y) → Heap.SameBut dx s.heap h' → Q () { s with heap := h', toks := s.toks + 2 }) :
    wpAny (model prog w) A (setAttr (.ref x) name v) Q E s := by
  obtain ⟨od, J, hl⟩ := I.look
  refine PySem.W.set_plain X J hs (PySem.W.osa_open (s := { s with toks := s.toks + 1 }) (r := none) X J hp ht fun b => ?_)
  obtain ⟨cd, hc, hd'⟩ := PySem.W.any_some hh
  have hx : s.heap.get? x = some ⟨.ref C, some dx, .plain, #[]⟩ := I.obj
  refine wpAny_bind (wpAny_pure (wpAny_bind (wpAny_bind (wpAny_loadPart hx (wpAny_bind (PySem.W.Looks.here (s := { s with toks := s.toks + 1 }) (PySem.W.looks_clsIn X hc) ?_))))))
  rw [hd']
  refine wpAny_pure (a := some dx) (wpAny_bind (wpAny_pure (wpAny_bind ?_)))
  refine wpAny_nsSet1 (s := { s with toks := s.toks + 1 }) I.ns fun h' hn2 hs2 => ?_
  obtain ⟨oD, esD, epD, hoD, hdD, hcD⟩ := hn2.count (PySem.Within.cons name v hw)
  refine wpAny_bind (wpAny_lookBehind hoD (by rw [hdD]; exact pastItsLine_dict (Nat.le_trans hcD (by rw [List.length_cons]; omega))) ?_)
  exact wpAny_pure (h _ ⟨(hs2.2 _ (Ne.symm I.ne)).trans I.obj, hn2, I.ne⟩ hs2)
theorem make_map {R : Result → Shared → Prop} {vs : List Value} {kw : List (Str × Value)} (X : K.In s.heap) (hm : PySem.W.makesIn K C = true)
    (hi : PySem.W.findIn K (.ref C) "__init__" = some (some (.ref f))) (hf : PySem.W.typeIn K (.ref f) = some (.type "function"))
    (h : codeAny (model prog w) (A.under (.builtin "type.__call__" ⟨.ref C :: vs, kw⟩)) (.call (.ref f) ⟨.ref (s.heap.objs.size + 1) :: vs, kw⟩) (PySem.W.InitBack (s.heap.objs.size + 1) R)
      { s with heap := (s.heap.push PySem.W.emptyDict).push (PySem.W.instObj C s.heap.objs.size) }) :
    codeAny (model prog w) A (.call (.ref C) ⟨vs, kw⟩) R s := by
  obtain ⟨hh, g, d, t, os⟩ := s
  exact PySem.W.make_core (PySem.W.makes_of X hm) (PySem.W.looks_findIn X hi) (fun self => PySem.W.bind_fn X self hf) (.inl rfl) h
end
def putF (f : Str) (v : V) : List (Str × V) → List (Str × V)
  | [] => [(f, v)]
  | (g, x) :: r => if g = f then (g, v) :: r else (g, x) :: putF f v r
theorem lookup_putF (f g : Str) (v : V) : ∀ fs : List (Str × V), (putF f v fs).lookup g = if g = f then some v else fs.lookup g
  | [] => by
    show List.lookup g [(f, v)] = _
    by_cases h : g = f
    · have hb : (g == f) = true := beq_iff_eq.mpr h
      simp only [List.lookup, hb, if_pos h]
    · have hb : (g == f) = false := beq_eq_false_iff_ne.mpr h
      simp only [List.lookup, hb, if_neg h]
  | (k, x) :: r => by
    have ih := lookup_putF f g v r
    rw [show putF f v ((k, x) :: r) = (if k = f then (k, v) :: r else (k, x) :: putF f v r) from rfl]
    by_cases hk : k = f
    · rw [if_pos hk]
      by_cases h : g = k
      · have hb : (g == k) = true := beq_iff_eq.mpr h
        simp only [List.lookup, hb, if_pos (h.trans hk)]
      · have hb : (g == k) = false := beq_eq_false_iff_ne.mpr h
        simp only [List.lookup, hb, if_neg (fun e : g = f => h (e.trans hk.symm))]
    · rw [if_neg hk]
      by_cases h : g = k
      · have hb : (g == k) = true := beq_iff_eq.mpr h
        simp only [List.lookup, hb, if_neg (fun e : g = f => hk (h.symm.trans e))]
      · have hb : (g == k) = false := beq_eq_false_iff_ne.mpr h
        simp only [List.lookup, hb]
        exact ih
theorem keys_putF (f : Str) (v : V) : ∀ fs : List (Str × V), f ∈ (putF f v fs).map (·.1) ∧ ∀ g, g ∈ fs.map (·.1) → g ∈ (putF f v fs).map (·.1)
  | [] => ⟨by simp [putF], fun g h => by simp at h⟩
  | (k, x) :: r => by
    obtain ⟨i1, i2⟩ := keys_putF f v r
    rw [show putF f v ((k, x) :: r) = (if k = f then (k, v) :: r else (k, x) :: putF f v r) from rfl]
    by_cases hk : k = f
    · rw [if_pos hk]
      subst hk
      exact ⟨by simp, fun g h => by simpa using h⟩
    · rw [if_neg hk]
      refine ⟨?_, fun g h => ?_⟩
      · rw [List.map_cons]
        exact List.mem_cons_of_mem _ i1
      · rw [List.map_cons] at h ⊢
        rcases List.mem_cons.mp h with e | e
        · exact List.mem_cons.mpr (.inl e)
        · exact List.mem_cons_of_mem _ (i2 g e)
theorem length_putF (f : Str) (v : V) : ∀ fs : List (Str × V), (putF f v fs).length ≤ fs.length + 1
  | [] => by simp [putF]
  | (k, x) :: r => by
    have ih := length_putF f v r
    rw [show putF f v ((k, x) :: r) = (if k = f then (k, v) :: r else (k, x) :: putF f v r) from rfl]
    by_cases hk : k = f
    · rw [if_pos hk, List.length_cons, List.length_cons]; omega
    · rw [if_neg hk, List.length_cons, List.length_cons]; omega
theorem RelO.some_of {v : V} {o : Option Value} (r : RelO (some v) o) : ∃ u, o = some u ∧ RelV v u := by
  cases o with
  | none => exact (show False from r).elim
  | some u => exact ⟨u, rfl, r⟩
theorem RelO.none_of {o : Option Value} (r : RelO none o) : o = none := by
  cases o with
  | none => rfl
  | some u => exact (show False from r).elim
theorem handed_of {v : V} {u : Value} (r : RelV v u) : PySem.W.handedIn u = true := by
  cases v with
  | non => cases (show u = Value.none from r); rfl
  | bl b => cases (show u = Value.bool b from r); rfl
  | int i => obtain ⟨t, e⟩ := (show ∃ t, u = Value.int i t from r); cases e; rfl
  | str x => obtain ⟨t, e⟩ := (show ∃ t, u = Value.str x t from r); cases e; rfl
  | byt b => obtain ⟨t, e⟩ := (show ∃ t, u = Value.bytes b t from r); cases e; rfl
  | flt b => obtain ⟨t, e⟩ := (show ∃ t, u = Value.float b t from r); cases e; rfl
  | ref a => cases (show u = Value.ref a from r); rfl
  | ty n => cases (show u = Value.type n from r); rfl
section
variable {P : Program} {w : World} {H H' : Hp} {h h' : Heap} {a C dx : Addr} {fs fs' : List (Str × V)}
theorem ins_get (hok : HOk P w H h) (e : H a = some (.ins C dx fs)) : ∃ mA, ObjM h a dx C mA ∧ (∀ f, RelO (fs.lookup f) (mA f)) ∧ PySem.Within mA (fs.map (·.1)) ∧ fs.length ≤ 1000 ∧ H dx = some (.own a) := by
  obtain ⟨d, z, ne, ob, mA, n, r, q⟩ := (show ObjOk P w H h a (.ins C dx fs) from hok a _ e)
  exact ⟨mA, ⟨ob, n, ne⟩, r, q, z, d⟩
end
structure Cls (K : PySem.W.Frag) (C : Addr) : Prop where
  pg : PySem.W.plainGet K C Str.empty = true
  hd : PySem.W.hasDictIn K C = true
  po : PySem.W.plainOver K C = true
  sa : PySem.W.findIn K (.ref C) "__setattr__" = some (some (.builtin "object.__setattr__"))
theorem Cls.get {K : PySem.W.Frag} {C : Addr} (c : Cls K C) (f : Str) : PySem.W.plainGet K C f = true := c.pg
def NoAttr (K : PySem.W.Frag) (C : Addr) (f : Str) : Prop := PySem.W.findIn K (.ref C) f = some none
theorem NoAttr.taker {K : PySem.W.Frag} {C : Addr} {f : Str} (n : NoAttr K C f) : PySem.W.takerIn K C f = some none := by
  unfold PySem.W.takerIn
  rw [show PySem.W.findIn K (.ref C) f = some none from n]
  rfl
structure Meth (K : PySem.W.Frag) (C : Addr) (m : Str) (f : Addr) : Prop where
  at_ : PySem.W.findIn K (.ref C) m = some (some (.ref f))
  fn : PySem.W.isFn K (.ref f) = true
  kp : PySem.W.keepIn K (.ref f) = true
section
variable {X : Cx} {pins : List (Addr × Obj)} {σ : St} {H : Hp} {s : Shared} {a C dx : Addr} {fs : List (Str × V)} {f : Str} {v : V} {A : Around} {E : Value → Shared → Prop}
theorem getattr_ok {b : Bool} {Q : Value → Shared → Prop} (I : Inv X pins σ H s) (e : H a = some (.ins C dx fs)) (c : Cls X.K C) (n : NoAttr X.K C f) (l : fs.lookup f = some v)
    (h : ∀ u s', Inv X pins σ H s' → RelV v u → Q u s') : wpAny (model X.prog X.w) A (getAttr (.ref a) f b) Q E s := by
  obtain ⟨mA, O, r, _, _, _⟩ := ins_get I.hok e
  obtain ⟨u, hu, ru⟩ := RelO.some_of (v := v) (o := mA f) (by rw [← l]; exact r f)
  exact get_map I.kIn O (c.get f) c.hd n hu (handed_of ru) (h u _ (I.tok _) ru)
theorem getmeth_ok {m : Str} {g : Addr} {pl : Sem Bool} {Q : Value × List Value → Shared → Prop} (I : Inv X pins σ H s) (e : H a = some (.ins C dx fs)) (c : Cls X.K C) (k : Meth X.K C m g) (l : fs.lookup m = none)
    (h : Q (.ref g, [.ref a]) s) : wpAny (model X.prog X.w) A (getMethod (.ref a) m pl) Q E s := by
  obtain ⟨mA, O, r, _, _, _⟩ := ins_get I.hok e
  have hn : mA m = none := RelO.none_of (by rw [← l]; exact r m)
  exact get_meth I.kIn O (c.get m) k.at_ k.fn hn h
theorem setattr_ok {y : V} {u : Value} {Q : Unit → Shared → Prop} (I : Inv X pins σ H s) (e : H a = some (.ins C dx fs)) (c : Cls X.K C) (n : NoAttr X.K C f) (hl : fs.length < 1000) (ry : RelV y u)
    (h : ∀ s', Inv X pins σ (upd H a (.ins C dx (putF f y fs))) s' → Q () s') : wpAny (model X.prog X.w) A (setAttr (.ref a) f u) Q E s := by
  obtain ⟨mA, O, r, wi, _, ho⟩ := ins_get I.hok e
  have hz : (fs.map (·.1)).length ≤ sizeLine := by rw [List.length_map, sizeLine_eq]; omega
  refine set_map I.kIn O c.sa c.po n.taker c.hd wi hz fun h' O' sb => h _ ?_
  have hd : ∃ o, h'.get? dx = some o := let ⟨o, _, _, e', _⟩ := O'.ns; ⟨o, e'⟩
  refine I.write (x := a) (e := dx) (by rw [e]; exact True.intro) (.inr ho) (fun b q hb z => (sb.2 b hb).trans z) hd ?_
  refine ⟨by rw [upd_ne O.ne]; exact ho, ?_, O.ne, O'.obj, _, O'.ns, fun g => ?_, fun g hg => ?_⟩
  · have := length_putF f y fs; omega
  · show RelO ((putF f y fs).lookup g) (if g = f then some u else mA g)
    rw [lookup_putF]
    by_cases q : g = f
    · rw [if_pos q, if_pos q]; exact ry
    · rw [if_neg q, if_neg q]; exact r g
  · by_cases q : g = f
    · rw [q]; exact (keys_putF f y fs).1
    · refine (keys_putF f y fs).2 g (wi g fun z => hg ?_)
      show (if g = f then some u else mA g) = none
      rw [if_neg q]; exact z
theorem Inv.made (I : Inv X pins σ H s) : Inv X pins σ (upd (upd H s.heap.objs.size (.own (s.heap.objs.size + 1))) (s.heap.objs.size + 1) (.ins C s.heap.objs.size []))
    { s with heap := (s.heap.push PySem.W.emptyDict).push (PySem.W.instObj C s.heap.objs.size) } := by
  have e1 : (s.heap.push PySem.W.emptyDict).get? s.heap.objs.size = some PySem.W.emptyDict := Heap.get?_push_size s.heap rfl
  have e2 : ((s.heap.push PySem.W.emptyDict).push (PySem.W.instObj C s.heap.objs.size)).get? (s.heap.objs.size + 1) = some (PySem.W.instObj C s.heap.objs.size) := by
    have := Heap.get?_push_size (s.heap.push PySem.W.emptyDict) (o := PySem.W.instObj C s.heap.objs.size) rfl
    rwa [Heap.size_push] at this
  have e3 : (s.heap.push PySem.W.emptyDict).Ns s.heap.objs.size (fun _ => none) := ⟨PySem.W.emptyDict, #[], _, e1, rfl, (fun e he => absurd he (by simp)), fun _ => rfl⟩
  have I1 := I.laid (a := s.heap.objs.size) (o := .own (s.heap.objs.size + 1)) (h' := s.heap.push PySem.W.emptyDict) (t' := s.toks) (fun b u q => Heap.get?_push_of_some _ q) (Nat.le_refl _) ⟨_, e1⟩
  refine I1.laid (a := s.heap.objs.size + 1) (o := .ins C s.heap.objs.size []) (t' := s.toks) (fun b u q => Heap.get?_push_of_some _ q) (Nat.le_of_eq (Heap.size_push _ _)) ?_
  have ne : s.heap.objs.size ≠ s.heap.objs.size + 1 := Nat.ne_of_lt (Nat.lt_succ_self _)
  refine ⟨by rw [upd_ne ne, upd_same], Nat.zero_le _, ne, e2, fun _ => none, (Heap.Ns1.of_empty e3).at fun o q => Heap.get?_push_of_some _ q, fun _ => True.intro, fun y hy => absurd rfl hy⟩
theorem attr_of {prog : Program} {w : World} {env : Env} {e : Expr} {f : Str} {pos : Pos} {s : Shared} {Q : Value → Shared → Prop} (hb : attributeBase e f env (eval e env) = eval e env)
    (h : wpAny (model prog w) A (eval e env) (fun o s₁ => wpAny (model prog w) A (getAttr o f true) Q E s₁) E s) : wpAny (model prog w) A (eval (.Attribute e f pos) env) Q E s :=
  Attribute_any_ h (by rw [arm_eval_Attribute, hb])
end
def tFld (K : PySem.W.Frag) (ta : TE) (f : Str) : TE := fun σ H Q => ta σ H fun x H1 => ∃ a C dx fs v, x = .ref a ∧ H1 a = some (.ins C dx fs) ∧ Cls K C ∧ NoAttr K C f ∧ fs.lookup f = some v ∧ Q v H1
def sFld (K : PySem.W.Frag) (ta tv : TE) (f : Str) : TS := fun D σ H => tv σ H fun y H1 => ta σ H1 fun x H2 => ∃ a C dx fs, x = .ref a ∧ H2 a = some (.ins C dx fs) ∧ Cls K C ∧ NoAttr K C f ∧ fs.length < 1000 ∧
  D.nx σ (upd H2 a (.ins C dx (putF f y fs)))
section
variable {X : Cx} {o e value : Expr} {f : Str} {pos pos' tpos : Pos} {ta tv : TE}
theorem pe_fld (he : PE X e ta) (hb : attributeBase e f X.env (eval e X.env) = eval e X.env) : PE X (.Attribute e f pos) (tFld X.K ta f) := by
  intro pins s σ H Q I h
  refine attr_of hb (thn (he pins s σ H _ I h) fun u s1 ⟨x, H1, I1, rx, a, C, dx, fs, v, ex, ea, c, n, l, q⟩ => ?_)
  subst ex
  obtain rfl : u = Value.ref a := rx
  exact getattr_ok I1 ea c n l fun u' s2 I2 ru => ⟨v, H1, I2, ru, q⟩
theorem ps_fld (ha : PE X o ta) (hv : PE X value tv) (hs : swapsWith value (some (.Attribute o f pos')) pos.line X.env = pure false) : PS X (.Assign [.Attribute o f pos'] value pos) (sFld X.K ta tv f) := by
  intro pins s σ H D I h
  refine plainObj_wpAny_Assign_Attribute (thn (hv pins s σ H _ I h) fun u s1 ⟨y, H1, I1, ry, q⟩ => thn (ha pins s1 σ H1 _ I1 q) fun ov s2 ⟨x, H2, I2, rx, a, C, dx, fs, ex, ea, c, n, l, q2⟩ => ?_) hs
  subst ex
  obtain rfl : ov = Value.ref a := rx
  exact setattr_ok I2 ea c n l ry fun s3 I3 => ⟨σ, _, I3, q2⟩
theorem methcall_of {pl : Sem Bool} {m : Str} {apos : Pos} {args : List Expr} {pins : List (Addr × Obj)} {s : Shared} {σ : St} {H : Hp} {Q : Value → Shared → Prop} {te : TE} (he : PE X e te) (I : Inv X pins σ H s)
    (h : te σ H fun x H1 => ∃ a C dx fs g, x = .ref a ∧ H1 a = some (.ins C dx fs) ∧ Cls X.K C ∧ Meth X.K C m g ∧ fs.lookup m = none ∧
      ∀ s1, Inv X pins σ H1 s1 → wpAny (model X.prog X.w) X.A (callWith pos (.ref g) [.ref a] (backTo pos (starEach args X.env)) (backToKw pos (keywordEach [] X.env))) Q X.xe s1)
    (ht : eval (.Call (.Attribute e m apos) args [] pos) X.env = (do
      let ov ← eval e X.env
      standAt apos.atName
      let (f, first) ← holding [ov] (getMethod ov m pl)
      callWith pos f first (backTo pos (starEach args X.env)) (backToKw pos (keywordEach [] X.env)))) :
    wpAny (model X.prog X.w) X.A (eval (.Call (.Attribute e m apos) args [] pos) X.env) Q X.xe s := by
  refine PySem.W.methodCall_KW (pl := pl) (thn (he pins s σ H _ I h) fun u s1 ⟨x, H1, I1, rx, a, C, dx, fs, g, ex, ea, c, k, l, q⟩ => ?_) ht
  subst ex
  obtain rfl : u = Value.ref a := rx
  exact getmeth_ok I1 ea c k l (q s1 I1)
end
section
variable {X : Cx} {pins : List (Addr × Obj)} {σ : St} {H : Hp} {s : Shared} {A : Around} {E : Value → Shared → Prop} {Q : Value → Shared → Prop} {c : Value} {b : Bool}
inductive TyOf (K : PySem.W.Frag) (H : Hp) : V → Value → Prop where
  | non : TyOf K H .non (.type "NoneType")
  | bl (x : Bool) : TyOf K H (.bl x) (.type "bool")
  | int (i : Int) : TyOf K H (.int i) (.type "int")
  | str (x : Str) : TyOf K H (.str x) (.type "str")
  | flt (x : UInt64) : TyOf K H (.flt x) (.type "float")
  | lst {a : Addr} {xs : List V} (e : H a = some (.lst xs)) : TyOf K H (.ref a) (.type "list")
  | frz {a : Addr} {o : Obj} {xs : List V} (e : H a = some (.frz o (.lst xs))) : TyOf K H (.ref a) (.type "list")
  | tup {a : Addr} {xs : List V} (e : H a = some (.tup xs)) : TyOf K H (.ref a) (.type "tuple")
  | dK {a : Addr} {kvs : List (Key × V)} (e : H a = some (.dK kvs)) : TyOf K H (.ref a) (.type "dict")
  | dT {a : Addr} {kvs : List (List Key × V)} (e : H a = some (.dT kvs)) : TyOf K H (.ref a) (.type "dict")
  | ins {a C dx : Addr} {fs : List (Str × V)} (e : H a = some (.ins C dx fs)) (cl : Cls K C) (ha : PySem.W.findIn K (.ref C) "__class__" = some (some (.builtin "object.__class__")))
      (hn : PySem.W.specialIn K (.builtin "object.__class__") "__get__" = some (some (.builtin "getset_descriptor.__get__"))) (htk : PySem.W.takesIn K (.builtin "object.__class__") = some true)
      (hm : PySem.W.mroIn K C (.type "object") = some true) : TyOf K H (.ref a) (.ref C)
theorem isinst_ok {x : V} {u t : Value} (I : Inv X pins σ H s) (rx : RelV x u) (ty : TyOf X.K H x t) (e : PySem.W.kitOne X.K t c = some b) (h : ∀ tk, Q (.bool b) { s with toks := tk }) :
    wpAny (model X.prog X.w) A (call (.builtin "isinstance") [u, c]) Q E s := by
  cases ty with
  | non => cases (show u = Value.none from rx); exact PySem.W.kia_one PySem.W.kitx_none I.kIn True.intro e (fun z => nomatch z) h
  | bl y => cases (show u = Value.bool y from rx); exact PySem.W.kia_one PySem.W.kitx_bool I.kIn True.intro e (fun z => nomatch z) h
  | int i => obtain ⟨t, q⟩ := (show ∃ t, u = Value.int i t from rx); cases q; exact PySem.W.kia_one PySem.W.kitx_int I.kIn True.intro e (fun z => nomatch z) h
  | str y => obtain ⟨t, q⟩ := (show ∃ t, u = Value.str y t from rx); cases q; exact PySem.W.kia_one PySem.W.kitx_str I.kIn True.intro e (fun z => nomatch z) h
  | flt y => obtain ⟨t, q⟩ := (show ∃ t, u = Value.float y t from rx); cases q; exact PySem.W.kia_one PySem.W.kitx_float I.kIn True.intro e (fun z => nomatch z) h
  | @lst a xs ea =>
    cases (show u = Value.ref a from rx)
    obtain ⟨_, _, n, _, h1⟩ := (show ObjOk X.prog X.w H s.heap a (.lst xs) from I.hok a _ ea)
    exact PySem.W.kia_one PySem.W.kitx_list I.kIn ⟨_, h1, rfl⟩ e (fun z => nomatch z) h
  | @frz a ob xs ea =>
    cases (show u = Value.ref a from rx)
    obtain ⟨_, _, _, n, _, h1⟩ := (show ObjOk X.prog X.w H s.heap a (.frz ob (.lst xs)) from I.hok a _ ea)
    exact PySem.W.kia_one PySem.W.kitx_list I.kIn ⟨_, h1, rfl⟩ e (fun z => nomatch z) h
  | @tup a xs ea =>
    cases (show u = Value.ref a from rx)
    obtain ⟨_, _, _, p⟩ := (show ObjOk X.prog X.w H s.heap a (.tup xs) from I.hok a _ ea)
    obtain ⟨o, h1, h2, _⟩ := p
    exact PySem.W.kia_one PySem.W.kitx_tuple I.kIn ⟨o, h1, h2⟩ e (fun z => nomatch z) h
  | @dK a kvs ea =>
    cases (show u = Value.ref a from rx)
    obtain ⟨_, _, vs, _, p⟩ := (show ObjOk X.prog X.w H s.heap a (.dK kvs) from I.hok a _ ea)
    obtain ⟨o, es, ep, h1, h2, _⟩ := p
    exact PySem.W.kia_one PySem.W.kitx_dict I.kIn ⟨o, h1, h2.1⟩ e (fun z => nomatch z) h
  | @dT a kvs ea =>
    cases (show u = Value.ref a from rx)
    obtain ⟨_, _, xs, _, o, es, ep, h1, h2, _⟩ := (show ObjOk X.prog X.w H s.heap a (.dT kvs) from I.hok a _ ea)
    exact PySem.W.kia_one PySem.W.kitx_dict I.kIn ⟨o, h1, h2.1⟩ e (fun z => nomatch z) h
  | @ins a C dx fs ea cl ha hn htk hm =>
    cases (show u = Value.ref a from rx)
    obtain ⟨mA, O, _⟩ := ins_get I.hok ea
    obtain ⟨od, J, _⟩ := O.look
    exact PySem.W.kia_one (PySem.W.kitx_own (cl.get _) cl.hd ha hn htk hm) I.kIn J e (fun z => nomatch z) h
end
end L2
namespace L2
open PySem PySem.Spec PyProof.Rows
structure Room (k : Nat) (A : Around) : Prop where
  hd : A.handled = none
  dp : A.depth + 3 * k + 5 < recursionLimit
  un : A.units + 16 * k + 200 < cLine
theorem Room.mono {j k : Nat} {A : Around} (r : Room k A) (h : j ≤ k) : Room j A := ⟨r.hd, by have := r.dp; omega, by have := r.un; omega⟩
theorem Room.deeper {k : Nat} {A : Around} (r : Room (k + 1) A) (env : Env) : Room k (A.deeper env) :=
  ⟨r.hd, by have := r.dp; show A.depth + 1 + 3 * k + 5 < _; omega, by have := r.un; show A.units + 3 + 16 * k + 200 < _; omega⟩
theorem Room.in1 {k : Nat} {A : Around} (r : Room (k + 1) A) : Room k A.in1 :=
  ⟨r.hd, by have := r.dp; show A.depth + 3 * k + 5 < _; omega, by have := r.un; show A.units + 1 + 16 * k + 200 < _; omega⟩
theorem make_depth {A : Around} {C : Addr} {us : List Value} {kw : List (Str × Value)} : (A.under (.builtin "type.__call__" ⟨.ref C :: us, kw⟩)).depth = A.depth + 1 := by
  first | rfl | simp [Around.under, Code.weight, Code.isCreation, Code.isGuard, Code.isCaller, Code.frames, Code.isFrame, guardIds]
theorem make_units {A : Around} {C : Addr} {us : List Value} {kw : List (Str × Value)} : (A.under (.builtin "type.__call__" ⟨.ref C :: us, kw⟩)).units = A.units + 1 := by
  first | rfl | simp [Around.under, Code.cUnits, Code.frames, Code.isFrame]
theorem Room.make {k : Nat} {A : Around} (r : Room (k + 1) A) (C : Addr) (us : List Value) (kw : List (Str × Value)) : Room k (A.under (.builtin "type.__call__" ⟨.ref C :: us, kw⟩)) :=
  ⟨r.hd, by have := r.dp; rw [make_depth]; omega, by have := r.un; rw [make_units]; omega⟩
theorem Room.depth {k : Nat} {A : Around} (r : Room k A) : A.depth < recursionLimit := by have := r.dp; omega
theorem Room.units {k : Nat} {A : Around} (r : Room k A) : A.units + 64 < cLine := by have := r.un; omega
theorem Room.units0 {k : Nat} {A : Around} (r : Room k A) : A.units < cLine := by have := r.un; omega
def tNil : TA := fun _ H Q => Q [] H
def tCons (ta : TE) (tr : TA) : TA := fun σ H Q => ta σ H fun x H1 => tr σ H1 fun xs H2 => Q (x :: xs) H2
section
variable {X : Cx} {e : Expr} {es : List Expr} {te : TE} {t : TA} {pos : Pos}
theorem pa_nil : PA X [] tNil := fun _ _ _ _ H Q I h => Calls.spliced_nil ⟨[], H, I, .nil, h⟩
theorem pa_cons (ha : PE X e te) (hr : PA X es t) (hs : starEach (e :: es) X.env = (false, eval e X.env) :: starEach es X.env := by rfl) : PA X (e :: es) (tCons te t) := by
  intro pos pins s σ H Q I h
  rw [hs]
  show wpAny _ _ (spliced ((false, eval e X.env) :: backTo pos (starEach es X.env))) _ _ s
  refine Calls.spliced_cons (thn (ha pins s σ H _ I h) fun u s1 ⟨x, H1, I1, r1, q1⟩ => ?_)
  exact thn (hr pos pins s1 σ H1 _ I1 q1) fun us s2 ⟨xs, H2, I2, r2, q2⟩ => ⟨x :: xs, H2, I2, .cons r1 r2, q2⟩
def tTup (t : TA) : TE := fun σ H Q => t σ H fun xs H1 => xs.length ≤ sizeLine ∧ ∀ p, H1 p = none → Q (.ref p) (upd H1 p (.tup xs))
def tLst (t : TA) : TE := fun σ H Q => t σ H fun xs H1 => xs.length ≤ sizeLine ∧ ∀ p, H1 p = none → Q (.ref p) (upd H1 p (.lst xs))
theorem pe_tup {x1} (h : PA X es t) : PE X (.Tuple es x1 pos) (tTup t) := by
  intro pins s σ H Q I hq
  refine wpAny_Tuple_spliced (thn (h pos pins s σ H _ I hq) fun us s1 ⟨xs, H1, I1, r, z, q⟩ => ⟨by rw [← r.length]; exact z, ?_⟩)
  have hf : H1 s1.heap.objs.size = none := I1.hok.fresh (Nat.le_refl _)
  refine ⟨.ref s1.heap.objs.size, upd H1 s1.heap.objs.size (.tup xs), I1.laid (t' := s1.toks) (fun b u e => Heap.get?_push_of_some _ e) (Nat.le_refl _) ?_, rfl, q _ hf⟩
  exact ⟨z, us, r, ⟨_, Heap.get?_push_size _ rfl, rfl, _, rfl⟩⟩
theorem pe_lst (h : PA X es t) : PE X (.List es pos) (tLst t) := by
  intro pins s σ H Q I hq
  refine wpAny_List_spliced (thn (h pos pins s σ H _ I hq) fun us s1 ⟨xs, H1, I1, r, z, q⟩ => ⟨by rw [← r.length]; exact z, ?_⟩)
  have hf : H1 s1.heap.objs.size = none := I1.hok.fresh (Nat.le_refl _)
  refine ⟨.ref s1.heap.objs.size, upd H1 s1.heap.objs.size (.lst xs), I1.laid (t' := s1.toks) (fun b u e => Heap.get?_push_of_some _ e) (Nat.le_refl _) ?_, rfl, q _ hf⟩
  exact ⟨z, us, 0, r, Heap.get?_push_size _ rfl⟩
end
abbrev Sp := List V → Hp → VK → XK → Prop
abbrev CXT := List Env → Hp → Shared → XK → Value → Shared → Prop
structure Env0 (P : Program) (w : World) (K : PySem.W.Frag) (mg : Str → Option Value) (base : Heap) (A : Around) (outer : List Env) (s : Shared) (H : Hp) : Prop where
  frames : A.frames = some outer
  mod : Mod K mg base
  bs : ∀ b o, base.get? b = some o → s.heap.get? b = some o ∧ H b = none
  bsz : base.objs.size ≤ s.heap.objs.size
  funs : s.heap.FunFrames base outer
  frf : ∀ b ∈ frs outer, H b = none
  hok : HOk P w H s.heap
  bare : AllBare s.gens
def CE (outer : List Env) (P : Program) (w : World) (H : Hp) (s : Shared) (Q : VK) (u : Value) (s' : Shared) : Prop :=
  ∃ v H', s'.os = s.os ∧ AllBare s'.gens ∧ Un (frs outer) [] H H' s.heap s'.heap ∧ HOk P w H' s'.heap ∧ RelV v u ∧ Q v H'
def CR (CX : CXT) (outer : List Env) (P : Program) (w : World) (H : Hp) (s : Shared) (Q : VK) (E : XK) (r : Result) (s' : Shared) : Prop :=
  match r with
  | .ok (.ret u) => CE outer P w H s Q u s'
  | .ok _ => False
  | .error e => CX outer H s E e s'
structure FnOk (P : Program) (w : World) (K : PySem.W.Frag) (mg : Str → Option Value) (base : Heap) (CX : CXT) (k : Nat) (f : Addr) (fd : FuncData) (ps : List Str) (sp : Sp) : Prop where
  len : ∀ vs H Q E, sp vs H Q E → vs.length = ps.length
  run : ∀ (A : Around) (outer : List Env) (s : Shared) (H : Hp) (args : Args) (us : List Value) (vs : List V) (Q : VK) (E : XK), Room k A → Env0 P w K mg base A outer s H → BindsTo s fd args (ps.zip us) → Vals vs us → sp vs H Q E →
    codeAny (model P w) A (.call (.ref f) args) (CR CX outer P w H s Q E) s
theorem FnOk.mono {P : Program} {w : World} {K : PySem.W.Frag} {mg : Str → Option Value} {base : Heap} {CX : CXT} {j k : Nat} {f : Addr} {fd : FuncData} {ps : List Str} {sp : Sp} (F : FnOk P w K mg base CX j f fd ps sp) (h : j ≤ k) :
    FnOk P w K mg base CX k f fd ps sp := ⟨F.len, fun A outer s H args us vs Q E hr => F.run A outer s H args us vs Q E (hr.mono h)⟩
theorem FnOk.imp {P : Program} {w : World} {K : PySem.W.Frag} {mg : Str → Option Value} {base : Heap} {CX : CXT} {k : Nat} {f : Addr} {fd : FuncData} {ps : List Str} {sp sp' : Sp} (F : FnOk P w K mg base CX k f fd ps sp)
    (h : ∀ vs H Q E, sp' vs H Q E → sp vs H Q E) : FnOk P w K mg base CX k f fd ps sp' :=
  ⟨fun vs H Q E q => F.len vs H Q E (h _ _ _ _ q), fun A outer s H args us vs Q E hr he hb hv hs => F.run A outer s H args us vs Q E hr he hb hv (h _ _ _ _ hs)⟩
theorem Env0.make {P : Program} {w : World} {K : PySem.W.Frag} {mg : Str → Option Value} {base : Heap} {A : Around} {outer : List Env} {s : Shared} {H : Hp} (e : Env0 P w K mg base A outer s H) (C : Addr) (us : List Value) (kw : List (Str × Value)) :
    Env0 P w K mg base (A.under (.builtin "type.__call__" ⟨.ref C :: us, kw⟩)) outer s H := ⟨by first | exact e.frames | (simpa [Around.under, Code.envs, Code.isFrame, pushEnvs] using e.frames), e.mod, e.bs, e.bsz, e.funs, e.frf, e.hok, e.bare⟩
theorem Env0.in1 {P : Program} {w : World} {K : PySem.W.Frag} {mg : Str → Option Value} {base : Heap} {A : Around} {outer : List Env} {s : Shared} {H : Hp} (e : Env0 P w K mg base A outer s H) :
    Env0 P w K mg base A.in1 outer s H := ⟨e.frames, e.mod, e.bs, e.bsz, e.funs, e.frf, e.hok, e.bare⟩
section
variable {X : Cx} {pins : List (Addr × Obj)} {σ : St} {H : Hp} {s s' : Shared}
theorem Inv.env0 (I : Inv X pins σ H s) : Env0 X.prog X.w X.K X.mg X.base X.A X.stack s H :=
  ⟨I.ok.frames, I.ok.mod, I.bs, Nat.le_trans I.ok.bsz I.sz, I.stack, I.stkFree, I.hok, I.bare⟩
theorem Inv.after {Q : VK} {u : Value} (I : Inv X pins σ H s) (h : CE X.stack X.prog X.w H s Q u s') : EP X pins σ Q u s' := by
  obtain ⟨v, H', os, bare, un, hok, r, q⟩ := h
  obtain ⟨hh, g, d, t, os'⟩ := s'
  obtain rfl : os' = s.os := os
  exact ⟨v, H', I.call (h' := hh) (g' := g) (d' := d) (t' := t) (ch := []) un hok bare (fun b z => absurd z (by simp)), r, q⟩
end
def tCall (sp : Sp) (dvs : List V) (E : XK) (t : TA) : TE := fun σ H Q => t σ H fun vs H1 => sp (vs ++ dvs) H1 Q E
def tMeth (C : Addr) (m : Str) (sp : Sp) (dvs : List V) (E : XK) (ta : TE) (t : TA) : TE := fun σ H Q => ta σ H fun x H1 => ∃ a dx fs, x = .ref a ∧ H1 a = some (.ins C dx fs) ∧ fs.lookup m = none ∧
  t σ H1 fun vs H2 => sp (x :: (vs ++ dvs)) H2 Q E
def tMake (C : Addr) (sp : Sp) (dvs : List V) (E : XK) (t : TA) : TE := fun σ H Q => t σ H fun vs H1 => ∀ x dx, H1 x = none → H1 dx = none → dx ≠ x →
  sp (.ref x :: (vs ++ dvs)) (upd (upd H1 dx (.own x)) x (.ins C dx [])) (fun v H2 => v = .non ∧ Q (.ref x) H2) E
def Binds (K : PySem.W.Frag) (fd : FuncData) (ps : List Str) (ds : List Value) : Prop :=
  ∀ (s : Shared) (us : List Value), K.In s.heap → (us ++ ds).length = ps.length → BindsTo s fd ⟨us, []⟩ (ps.zip (us ++ ds))
theorem Binds.all {K : PySem.W.Frag} {fd : FuncData} {ps : List Str} (h : ∀ us : List Value, us.length = ps.length → bindArgs fd ⟨us, []⟩ = pure (ps.zip us)) : Binds K fd ps [] := fun s us _ hl => by
  rw [List.append_nil] at hl ⊢
  exact .of_eq (h us hl)
def Passes (CX : CXT) (X : Cx) (E : XK) : Prop := ∀ (pins : List (Addr × Obj)) (σ : St) (H : Hp) (s : Shared) (e : Value) (s' : Shared), Inv X pins σ H s → CX X.stack H s E e s' → X.xe e s'
section
variable {X : Cx} {CX : CXT} {k : Nat} {f C : Addr} {fd : FuncData} {ps : List Str} {sp : Sp} {dvs : List V} {ds : List Value} {E : XK} {x m : Str} {p pos apos : Pos} {e o : Expr} {es : List Expr} {ta : TE} {t : TA}
theorem run_fn {pins : List (Addr × Obj)} {σ : St} {H : Hp} {s : Shared} {Q : VK} {us : List Value} {vs : List V} (F : FnOk X.prog X.w X.K X.mg X.base CX k f fd ps sp) (hr : Room k X.A) (hb : Binds X.K fd ps ds) (hd : Vals dvs ds) (hx : Passes CX X E)
    (I : Inv X pins σ H s) (r : Vals vs us) (h : sp (vs ++ dvs) H Q E) : wpAny (model X.prog X.w) X.A (call (.ref f) us) (EP X pins σ Q) X.xe s := by
  have r2 : Vals (vs ++ dvs) (us ++ ds) := r.append hd
  have hl : (us ++ ds).length = ps.length := by rw [← r2.length]; exact F.len _ _ _ _ h
  refine wpAny_call (codeAny_mono (F.run X.A X.stack s H ⟨us, []⟩ (us ++ ds) (vs ++ dvs) Q E hr I.env0 (hb s us I.kIn hl) r2 h) fun r s' hq => ?_)
  cases r with
  | error e => exact hx pins σ H s e s' I hq
  | ok fl =>
    cases fl with
    | ret u => exact I.after hq
    | next => exact False.elim hq
    | brk => exact False.elim hq
    | cont => exact False.elim hq
theorem pe_call (F : FnOk X.prog X.w X.K X.mg X.base CX k f fd ps sp) (hr : Room k X.A) (hg : Gl X x) (hm : X.mg x = some (.ref f)) (hk : PySem.W.keepIn X.K (.ref f) = true) (hb : Binds X.K fd ps ds) (hd : Vals dvs ds) (hx : Passes CX X E)
    (ha : PA X (e :: es) t) (hdb : (x == ("__debug__" : Str)) = false := by decide) (he : starEach (e :: es) X.env = (false, eval e X.env) :: starEach es X.env := by rfl) (hpl : (backTo pos (starEach es X.env)).any (·.1) = false := by rfl) :
    PE X (.Call (.Name x p) (e :: es) [] pos) (tCall sp dvs E t) := by
  intro pins s σ H Q I h
  refine wpAny_Call_Name_kw (ld_glob I hg hm ?_ hdb)
  refine PySem.W.callWith_K (h₀ := X.base) I.ok.mod.kin hk (thn (ha pos pins s σ H _ I h) fun us s1 ⟨vs, H1, I1, r, q⟩ => ⟨I1.kIn, ?_⟩) he hpl
  exact run_fn F hr hb hd hx I1 r q
theorem pe_meth {pl : Sem Bool} (he : PE X o ta) (c : Cls X.K C) (hm : Meth X.K C m f) (F : FnOk X.prog X.w X.K X.mg X.base CX k f fd ps sp) (hr : Room k X.A) (hb : Binds X.K fd ps ds) (hd : Vals dvs ds) (hx : Passes CX X E) (ha : PA X (e :: es) t)
    (hst : starEach (e :: es) X.env = (false, eval e X.env) :: starEach es X.env := by rfl) (hpl : (backTo pos (starEach es X.env)).any (·.1) = false := by rfl)
    (ht : eval (.Call (.Attribute o m apos) (e :: es) [] pos) X.env = (do
      let ov ← eval o X.env
      standAt apos.atName
      let (f, first) ← holding [ov] (getMethod ov m pl)
      callWith pos f first (backTo pos (starEach (e :: es) X.env)) (backToKw pos (keywordEach [] X.env))) := by rfl) :
    PE X (.Call (.Attribute o m apos) (e :: es) [] pos) (tMeth C m sp dvs E ta t) := by
  intro pins s σ H Q I h
  refine PySem.W.methodCall_KW (pl := pl) (thn (he pins s σ H _ I h) fun u s1 ⟨x, H1, I1, rx, a, dx, fs, ex, ea, l, q⟩ => ?_) ht
  subst ex
  obtain rfl : u = Value.ref a := rx
  refine getmeth_ok I1 ea c hm l ?_
  refine PySem.W.callWith_K (first := [.ref a]) (h₀ := X.base) I.ok.mod.kin hm.kp (thn (ha pos pins s1 σ H1 _ I1 q) fun us s2 ⟨vs, H2, I2, r, q2⟩ => ⟨I2.kIn, ?_⟩) hst hpl
  exact run_fn (us := .ref a :: us) (vs := .ref a :: vs) F hr hb hd hx I2 (.cons rfl r) q2
structure Mk (K : PySem.W.Frag) (C f : Addr) : Prop where
  makes : PySem.W.makesIn K C = true
  init : PySem.W.findIn K (.ref C) "__init__" = some (some (.ref f))
  fn : PySem.W.isFn K (.ref f) = true
  kp : PySem.W.keepIn K (.ref C) = true
theorem run_make {pins : List (Addr × Obj)} {σ : St} {H : Hp} {s : Shared} {Q : VK} {us : List Value} {vs : List V} (M : Mk X.K C f) (F : FnOk X.prog X.w X.K X.mg X.base CX k f fd ps sp) (hr : Room (k + 1) X.A) (hb : Binds X.K fd ps ds) (hd : Vals dvs ds)
    (hx : Passes CX X E) (I : Inv X pins σ H s) (r : Vals vs us)
    (h : ∀ x dx, H x = none → H dx = none → dx ≠ x → sp (.ref x :: (vs ++ dvs)) (upd (upd H dx (.own x)) x (.ins C dx [])) (fun v H2 => v = .non ∧ Q (.ref x) H2) E) :
    wpAny (model X.prog X.w) X.A (call (.ref C) us) (EP X pins σ Q) X.xe s := by
  have hq := h (s.heap.objs.size + 1) s.heap.objs.size (I.hok.fresh (Nat.le_succ _)) (I.hok.fresh (Nat.le_refl _)) (Nat.ne_of_lt (Nat.lt_succ_self _))
  have I2 := Inv.made (C := C) I
  have r2 : Vals (V.ref (s.heap.objs.size + 1) :: (vs ++ dvs)) (Value.ref (s.heap.objs.size + 1) :: (us ++ ds)) := .cons rfl (r.append hd)
  have hl : (Value.ref (s.heap.objs.size + 1) :: us ++ ds).length = ps.length := by
    have e := r2.length
    rw [F.len _ _ _ _ hq] at e
    exact e.symm
  refine wpAny_call (make_map (f := f) I.kIn M.makes M.init (beq_iff_eq.mp M.fn) (codeAny_mono (F.run _ X.stack _ _ ⟨Value.ref (s.heap.objs.size + 1) :: us, []⟩ (Value.ref (s.heap.objs.size + 1) :: (us ++ ds)) _ _ E (hr.make C us [])
    (I2.env0.make C us []) (hb _ (Value.ref (s.heap.objs.size + 1) :: us) I2.kIn hl) r2 hq) fun r s' hq' => ?_))
  cases r with
  | error e => exact hx pins σ _ _ e s' I2 hq'
  | ok fl =>
    cases fl with
    | ret u =>
      obtain ⟨v, H', I3, rv, ev, q3⟩ := I2.after hq'
      subst ev
      exact ⟨rv, ⟨V.ref (s.heap.objs.size + 1), H', I3, rfl, q3⟩⟩
    | next => exact False.elim hq'
    | brk => exact False.elim hq'
    | cont => exact False.elim hq'
theorem pe_make (M : Mk X.K C f) (F : FnOk X.prog X.w X.K X.mg X.base CX k f fd ps sp) (hr : Room (k + 1) X.A) (hg : Gl X x) (hm : X.mg x = some (.ref C)) (hb : Binds X.K fd ps ds) (hd : Vals dvs ds) (hx : Passes CX X E)
    (ha : PA X (e :: es) t) (hdb : (x == ("__debug__" : Str)) = false := by decide) (he : starEach (e :: es) X.env = (false, eval e X.env) :: starEach es X.env := by rfl) (hpl : (backTo pos (starEach es X.env)).any (·.1) = false := by rfl) :
    PE X (.Call (.Name x p) (e :: es) [] pos) (tMake C sp dvs E t) := by
  intro pins s σ H Q I h
  refine wpAny_Call_Name_kw (ld_glob I hg hm ?_ hdb)
  refine PySem.W.callWith_K (h₀ := X.base) I.ok.mod.kin M.kp (thn (ha pos pins s σ H _ I h) fun us s1 ⟨vs, H1, I1, r, q⟩ => ⟨I1.kIn, ?_⟩) he hpl
  exact run_make M F hr hb hd hx I1 r q
end
def PK (X : Cx) (kws : List Keyword) (t : TA) : Prop :=
  ∀ (pos : Pos) (pins : List (Addr × Obj)) (s : Shared) (σ : St) (H : Hp) (Q : List V → Hp → Prop), Inv X pins σ H s → t σ H Q → wpAny (model X.prog X.w) X.A (evalAll ((backToKw pos (keywordEach kws X.env)).map (·.2))) (AP X pins σ Q) X.xe s
section
variable {X : Cx} {CX : CXT} {k : Nat} {f C : Addr} {fd : FuncData} {ps ks : List Str} {sp : Sp} {E : XK} {x m : Str} {p pos apos kpos : Pos} {e o : Expr} {es : List Expr} {kws : List Keyword} {te ta : TE} {t tk : TA} {nm : Option Str}
theorem pk_nil : PK X [] tNil := fun _ _ _ _ H Q I h => wpAny_evalAll_nil ⟨[], H, I, .nil, h⟩
theorem pk_cons (ha : PE X e te) (hr : PK X kws t) : PK X (⟨nm, e, kpos⟩ :: kws) (tCons te t) := by
  intro pos pins s σ H Q I h
  show wpAny _ _ (evalAll ((do let v ← eval e X.env; standAt pos; pure v) :: (backToKw pos (keywordEach kws X.env)).map (·.2))) _ _ s
  refine wpAny_evalAll_cons (wpAny_bind (thn (ha pins s σ H _ I h) fun u s1 ⟨x, H1, I1, r1, q1⟩ => wpAny_bind (wpAny_standAt (wpAny_pure ?_))))
  exact thn (hr pos pins s1 σ H1 _ I1 q1) fun us s2 ⟨xs, H2, I2, r2, q2⟩ => ⟨x :: xs, H2, I2, .cons r1 r2, q2⟩
variable {g : List Value → List Value → List Value} {gV : List V → List V → List V}
end
structure FnScope (N P : List Str) (sc : Scope) : Prop where
  kind : sc.kind = .function
  co : sc.isCoroutine = false
  gen : sc.isGenerator = false
  nd : N.Nodup
  pre : N.take P.length = P
  par : ∀ x ∈ P, sc.names.lookup x = some .local ∨ sc.names.lookup x = some .cell
  nofree : ∀ y ∈ sc.names, y.2 ≠ .free
theorem bindL_out {kindOf : Str → Option NameKind} {x : Str} : ∀ {binds : List (Str × Value)} {m : Str → Option Value}, (∀ v, (x, v) ∉ binds) → bindL kindOf binds m x = m x
  | [], _, _ => rfl
  | (n, v) :: r, m, h => by
    unfold bindL
    rw [bindL_out fun w hw => h w (List.mem_cons_of_mem _ hw)]
    split
    · have : x ≠ n := by rintro rfl; exact h v List.mem_cons_self
      simp [this]
    · rfl
theorem bindC_out {kindOf : Str → Option NameKind} {x : Str} : ∀ {binds : List (Str × Value)} {m : Str → Option Value}, (∀ v, (x, v) ∉ binds) → bindC kindOf binds m x = m x
  | [], _, _ => rfl
  | (n, v) :: r, m, h => by
    unfold bindC
    rw [bindC_out fun w hw => h w (List.mem_cons_of_mem _ hw)]
    split
    · rfl
    · have : x ≠ n := by rintro rfl; exact h v List.mem_cons_self
      simp [this]
theorem bindL_get {kindOf : Str → Option NameKind} {x : Str} {v : Value} : ∀ {P : List Str} {vs : List Value} {i : Nat} {m : Str → Option Value}, P.Nodup → P[i]? = some x → vs[i]? = some v → kindOf x = some .local →
    bindL kindOf (P.zip vs) m x = some v
  | [], _, _, _, _, h, _, _ => by simp at h
  | _ :: _, [], _, _, _, _, h, _ => by simp at h
  | p :: P, w :: vs, 0, m, nd, h1, h2, hk => by
    simp at h1 h2; subst h1; subst h2
    show bindL kindOf ((p, w) :: P.zip vs) m p = _
    unfold bindL
    rw [bindL_out fun v hv => (List.nodup_cons.mp nd).1 (List.of_mem_zip hv).1, if_pos hk]
    simp
  | p :: P, w :: vs, i + 1, m, nd, h1, h2, hk => by
    show bindL kindOf ((p, w) :: P.zip vs) m x = _
    unfold bindL
    exact bindL_get (i := i) (List.nodup_cons.mp nd).2 (by simpa using h1) (by simpa using h2) hk
theorem bindC_get {kindOf : Str → Option NameKind} {x : Str} {v : Value} : ∀ {P : List Str} {vs : List Value} {i : Nat} {m : Str → Option Value}, P.Nodup → P[i]? = some x → vs[i]? = some v → kindOf x ≠ some .local →
    bindC kindOf (P.zip vs) m x = some v
  | [], _, _, _, _, h, _, _ => by simp at h
  | _ :: _, [], _, _, _, _, h, _ => by simp at h
  | p :: P, w :: vs, 0, m, nd, h1, h2, hk => by
    simp at h1 h2; subst h1; subst h2
    show bindC kindOf ((p, w) :: P.zip vs) m p = _
    unfold bindC
    rw [bindC_out fun v hv => (List.nodup_cons.mp nd).1 (List.of_mem_zip hv).1, if_neg hk]
    simp
  | p :: P, w :: vs, i + 1, m, nd, h1, h2, hk => by
    show bindC kindOf ((p, w) :: P.zip vs) m x = _
    unfold bindC
    exact bindC_get (i := i) (List.nodup_cons.mp nd).2 (by simpa using h1) (by simpa using h2) hk
def start (N : List Str) (vs : List V) : St := vs.map some ++ List.replicate (N.length - vs.length) none
def cxOf (CX : CXT) (P : Program) (w : World) (K : PySem.W.Frag) (mg : Str → Option Value) (base : Heap) (N : List Str) (qual : Str) (scope : Scope) (f : Addr) (cd : Value) (A : Around) (outer : List Env) (s : Shared) (H : Hp) (E : XK) : Cx where
  prog := P
  w := w
  K := K
  mg := mg
  base := base
  A := A.deeper (envOfC qual scope s.heap.objs.size f cd)
  N := N
  s₀ := s
  H₀ := H
  env := envOfC qual scope s.heap.objs.size f cd
  outer := outer
  stack := envOfC qual scope s.heap.objs.size f cd :: outer
  ex := []
  calm := true
  fn := fun _ => true
  pn := []
  xe := fun e s' => wpAny (model P w) (A.deeper (envOfC qual scope s.heap.objs.size f cd)) (leaving (envOfC qual scope s.heap.objs.size f cd) e) (fun _ s'' => CX outer H s E e s'') (fun e' s'' => CX outer H s E e' s'') s'
theorem cell_has {sc : Scope} {n : Nat} {x : Str} (h : sc.names.lookup x = some .cell) : ∃ c, (cellsFrom n sc.names []).lookup x = some c := by
  have q := PySem.W.cellsFrom_some sc.names n [] (.inl h)
  exact Option.isSome_iff_exists.mp q
theorem inv_start {CX : CXT} {P : Program} {w : World} {K : PySem.W.Frag} {mg : Str → Option Value} {base : Heap} {N ps : List Str} {qual : Str} {scope : Scope} {f : Addr} {cd : Value} {A : Around} {outer : List Env} {s s1 : Shared} {H : Hp} {E : XK} {us : List Value} {vs : List V}
    (S : FnScope N ps scope) (hd : A.handled = none) (e0 : Env0 P w K mg base A outer s H) (hl : vs.length = ps.length) (r : Vals vs us)
    (x : InCallC s s.heap.objs.size (bindL (envOfC qual scope s.heap.objs.size f cd).kindOf (ps.zip us) fun _ => none) (cellsFrom (s.heap.objs.size + 1) scope.names []) (bindC (envOfC qual scope s.heap.objs.size f cd).kindOf (ps.zip us) fun _ => none) s1) :
    Inv (cxOf CX P w K mg base N qual scope f cd A outer s H E) [] (start N vs) H s1 := by
  have hpl : ps.length ≤ N.length := by have := congrArg List.length S.pre; rw [List.length_take] at this; omega
  obtain ⟨h1, tk, rfl, hk⟩ := x.done
  have noA : ∀ b : Addr, b ∉ (cxOf CX P w K mg base N qual scope f cd A outer s H E).ex := fun b z => absurd (show b ∈ ([] : List Addr) from z) (by simp)
  refine ⟨⟨e0.mod, S.kind, rfl, rfl, Nat.le_refl _, fun y z c h1 h2 => ?_, fun y hy => ?_, fun y c _ h => ?_, fun _ => hd, Around.frames_deeper e0.frames, .inr ⟨rfl, rfl⟩, fun b z => absurd z (noA b), e0.bs, e0.bsz, fun b _ _ => noA b, fun b z => absurd z (noA b), e0.funs, e0.frf⟩,
    rfl, e0.bare, Un.kept hk, ⟨_, x.toInCall.ns, fun i y v h1 h2 h3 => ?_⟩, fun y c h => ⟨_, x.cell y c h⟩, e0.hok.fresh (Nat.le_refl _), fun y c h => ?_, fun p hp => absurd (show p ∈ ([] : List (Addr × Obj)) from hp) (by simp), e0.hok.kept hk, ?_⟩
  · exact name_of_addr x.apart (PySem.mem_of_lookup h1) (PySem.mem_of_lookup h2)
  · have hy : scope.names.lookup y = some .cell ∨ scope.names.lookup y = some .free := hy
    rcases hy with hy | hy
    · exact cell_has hy
    · exact absurd rfl (S.nofree _ (PySem.mem_of_lookup hy))
  · exact Nat.le_of_lt (x.above y c (PySem.mem_of_lookup h))
  · have hi : i < vs.length := by
      unfold start at h2
      by_cases hi : i < vs.length
      · exact hi
      · rw [List.getElem?_append_right (by simpa using hi)] at h2
        rw [List.getElem?_replicate] at h2
        split at h2 <;> cases h2
    have ha : vs[i]? = some v := by
      unfold start at h2
      rw [List.getElem?_append_left (by simpa using hi), List.getElem?_map] at h2
      cases e : vs[i]? with
      | none => rw [e] at h2; cases h2
      | some a => rw [e] at h2; cases h2; rfl
    obtain ⟨u, hu, rv⟩ := r.get ha
    have hp : ps[i]? = some y := by
      rw [← S.pre, List.getElem?_take_of_lt (by omega)]; exact h1
    have ndP : ps.Nodup := by rw [← S.pre]; exact S.nd.sublist (List.take_sublist _ _)
    refine ⟨u, rv, ?_⟩
    rcases S.par y (List.mem_of_getElem? hp) with k | k
    · exact .inl ⟨k, bindL_get ndP hp hu k⟩
    · obtain ⟨c, e⟩ := cell_has (n := s.heap.objs.size + 1) k
      refine .inr ⟨.inl k, c, e, ?_⟩
      have q := x.cell y c e
      rw [bindC_get ndP hp hu (by show scope.names.lookup y ≠ _; rw [k]; decide)] at q
      exact q
  · exact e0.hok.fresh (Nat.le_of_lt (x.above y c (PySem.mem_of_lookup h)))
  · unfold start
    show _ = N.length
    rw [List.length_append, List.length_map, List.length_replicate]
    omega
theorem fn_of {CX : CXT} {P : Program} {w : World} {K : PySem.W.Frag} {mg : Str → Option Value} {base : Heap} {k : Nat} {f : Addr} {name qual : Str} {params : Arguments} {body : List Stmt} {scope : Scope} {dV kV doc pm cdv ct oc : Value} {an od : Option Addr}
    {osl : Array (Option Value)} {N ps : List Str} {sp : Sp} (lk : K.lookup f = some ⟨oc, od, .func (PySem.W.fnOf name qual params body scope dV kV doc pm an cdv ct), osl⟩) (hcd : PySem.W.codeIn K cdv qual = true) (S : FnScope N ps scope)
    (len : ∀ vs H Q E, sp vs H Q E → vs.length = ps.length)
    (hbody : ∀ (A : Around) (outer : List Env) (s : Shared) (H : Hp) (vs : List V) (Q : VK) (E : XK), Room k (A.deeper (envOfC qual scope s.heap.objs.size f cdv)) → sp vs H Q E →
      ∃ t, PSs (cxOf CX P w K mg base N qual scope f cdv A outer s H E) body t ∧ t { nx := fun _ H' => Q .non H', rt := Q } (start N vs) H) :
    FnOk P w K mg base CX (k + 1) f (PySem.W.fnOf name qual params body scope dV kV doc pm an cdv ct) ps sp := by
  refine ⟨len, fun A outer s H args us vs Q E hr e0 hb r hsp => ?_⟩
  have hl := len _ _ _ _ hsp
  have KX : K.In s.heap := e0.mod.kin.keeps fun b o e => (e0.bs b o e).1
  have lim : s.heap.NoLimit := e0.mod.nolimit.keeps fun b o e => (e0.bs b o e).1
  have hkind : ∀ y ∈ ps.zip us, scope.names.lookup y.1 = some .local ∨ (scope.names.lookup y.1 = some .cell ∧ ((cellsFrom (s.heap.objs.size + 1) scope.names []).lookup y.1).isSome = true) := fun ⟨n, v⟩ hy => by
    rcases S.par n (List.of_mem_zip hy).1 with q | q
    · exact .inl q
    · exact .inr ⟨q, PySem.W.cellsFrom_some _ _ _ (.inl q)⟩
  refine codeAny_call_function hr.depth (KX _ _ lk) rfl S.co S.gen rfl (PySem.W.codeRec_of KX hcd) (hb _ _ _ _ ?_)
  refine wpAny_newFunctionEnv_cells S.kind hkind fun env he s1 x => ?_
  subst he
  refine ⟨lim.keeps x.toInCall.keep, codeAny_func ?_⟩
  obtain ⟨t, ht, hq⟩ := hbody A outer s H vs Q E (hr.deeper _) hsp
  have I : Inv (cxOf CX P w K mg base N qual scope f cdv A outer s H E) [] (start N vs) H s1 := inv_start S hr.hd e0 hl r x
  refine wpAny_mono (ht [] s1 (start N vs) H _ I hq) (fun fl s' hs => ?_) fun e s' hs => hs
  have fin : ∀ {σ' : St} {H' : Hp} {v : V} {u : Value}, Inv (cxOf CX P w K mg base N qual scope f cdv A outer s H E) [] σ' H' s' → RelV v u → Q v H' → CE outer P w H s Q u s' :=
    fun {σ' H' v u} J rv q => ⟨v, H', J.os, J.bare, J.base, J.hok, rv, q⟩
  cases fl with
  | ret u =>
    obtain ⟨v, σ', H', J, rv, q⟩ := hs
    exact fin J rv q
  | next =>
    obtain ⟨σ', H', J, q⟩ := hs
    exact fin (v := V.non) (u := Value.none) J rfl q
  | brk =>
    obtain ⟨_, _, _, q⟩ := hs
    exact False.elim q
  | cont =>
    obtain ⟨_, _, _, q⟩ := hs
    exact False.elim q
end L2
namespace L2
open PySem PySem.Spec PyProof.Rows
section
variable {X : Cx} {x : Str} {p pos : Pos} {e : Expr} {es : List Expr} {t : TA} {id T : String} {r : List V → Hp → VK → Prop}
def tCB (r : List V → Hp → VK → Prop) (t : TA) : TE := fun σ H Q => t σ H fun vs H1 => r vs H1 Q
theorem pe_callB (hc : CallR X (.builtin id) r) (hg : Gl X x) (hm : X.mg x = none) (hv : bootBuiltins x = some (.builtin id)) (ha : PA X (e :: es) t) (hn : x ≠ "__name__" := by decide) (hdb : (x == ("__debug__" : Str)) = false := by decide)
    (he : starEach (e :: es) X.env = (false, eval e X.env) :: starEach es X.env := by rfl) (hpl : (backTo pos (starEach es X.env)).any (·.1) = false := by rfl) : PE X (.Call (.Name x p) (e :: es) [] pos) (tCB r t) := by
  intro pins s σ H Q I h
  refine wpAny_Call_Name_kw (ld_blt I hg hm hv ?_ hn hdb)
  exact PyProof.Rows.callWith_builtin1 (thn (ha pos pins s σ H _ I h) fun us s1 ⟨vs, H1, I1, r1, q1⟩ => hc pins s1 σ H1 vs us Q I1 r1 q1) he hpl
theorem pe_callTy (hc : CallR X (.type T) r) (hg : Gl X x) (hm : X.mg x = none) (hv : bootBuiltins x = some (.type T)) (ha : PA X (e :: es) t) (hn : x ≠ "__name__" := by decide) (hdb : (x == ("__debug__" : Str)) = false := by decide)
    (he : starEach (e :: es) X.env = (false, eval e X.env) :: starEach es X.env := by rfl) (hpl : (backTo pos (starEach es X.env)).any (·.1) = false := by rfl) : PE X (.Call (.Name x p) (e :: es) [] pos) (tCB r t) := by
  intro pins s σ H Q I h
  refine wpAny_Call_Name_kw (ld_blt I hg hm hv ?_ hn hdb)
  exact PyProof.Rows.callWith_type1 (thn (ha pos pins s σ H _ I h) fun us s1 ⟨vs, H1, I1, r1, q1⟩ => hc pins s1 σ H1 vs us Q I1 r1 q1) he hpl
end
end L2
namespace HT
open PySem PyProof.Rows
def lexLt : List Int → List Int → Bool
  | [], [] => false
  | [], _ :: _ => true
  | _ :: _, [] => false
  | x :: xs, y :: ys => if x = y then lexLt xs ys else decide (x < y)
theorem lexLt_cons (x y : Int) (xs ys : List Int) : lexLt (x :: xs) (y :: ys) = if x = y then lexLt xs ys else decide (x < y) := rfl
theorem lexLt_nil_nil : lexLt [] [] = false := rfl
theorem lexLt_nil_cons (y : Int) (ys : List Int) : lexLt [] (y :: ys) = true := rfl
theorem lexLt_cons_nil (x : Int) (xs : List Int) : lexLt (x :: xs) [] = false := rfl
theorem eqAt_int (A : Around) (s : Shared) (a : Int) (t : Tok) (c : Int) (u : Tok) : ∃ e, SeqAt.EqAt A s (.int a t) (.int c u) e ∧ (e = true ↔ a = c) :=
  ⟨(a == c), SeqAt.EqAt.int_int a t c u, by simp⟩
theorem rcLt_int (A : Around) (s : Shared) (a : Int) (t : Tok) (c : Int) (u : Tok) (prog : Program) (w : World) (E : Value → Shared → Prop) (Q : Value → Shared → Prop) (h : Q (.bool (decide (a < c))) s) :
    wpAny (model prog w) A (richCompare .Lt (.int a t) (.int c u)) Q E s :=
  (PyProof.Rows.lt_int h : wpAny (model prog w) A (compareOp .Lt (.int a t) (.int c u)) Q E s)
section
open PySem.SeqAt
open PySem.AutoSeq1 (wpAny_loadPart')
open PySem.MeetsSeq PySem.MeetsSeq2 PySem.MeetsSeq3
theorem tuple_lt_ints (l b : Addr) (items items2 : Array Value) (n n2 : Nat) (dd dd2 : Option Addr) (sl sl2 : Array (Option Value)) (ns ms : List Int) (hi : IntsAre items.toList ns) (hj : IntsAre items2.toList ms) :
    Meets (Builtin.«tuple.__lt__» ⟨[.ref l, .ref b], []⟩)
      (fun _ R s => s.heap.get? l = some { cls := .type "tuple", dict := dd, data := .seq items n, slots := sl } ∧ s.heap.get? b = some { cls := .type "tuple", dict := dd2, data := .seq items2 n2, slots := sl2 } ∧
        R (.ok (.ret (.bool (lexLt ns ms)))) s) :=
  .of_wp fun prog w A R s h => by
    obtain ⟨hp, g, d, tk, os⟩ := s; obtain ⟨hl, hb, h⟩ := h
    have f2 := AutoSeq1.sub_tuple_tuple
    have z1 : items.size = ns.length := by rw [← hi.length]; simp
    have z2 : items2.size = ms.length := by rw [← hj.length]; simp
    wp_walk using wpAny_loadPart' hl, wpAny_loadPart' hb, wpAny_forIn_list _ (fun rest b s' => b.1 = none ∧ s' = ⟨hp, g, d, tk, os⟩ ∧ ∃ (vs ws : List Value) (ns' ms' : List Int), rest = vs.zip ws ∧
      IntsAre vs ns' ∧ IntsAre ws ms' ∧ ns'.length + items2.size = ms'.length + items.size ∧ R (.ok (.ret (.bool (lexLt ns' ms')))) ⟨hp, g, d, tk, os⟩) _
    case turn =>
      rintro ⟨y, x⟩ rest b s' ⟨hb', rfl, vs, ws, ns', ms', hz, hvi, hwi, hlen, hR⟩
      cases hvi with
      | nil => rw [List.zip_nil_left] at hz; cases hz
      | cons a t hvi' =>
        cases hwi with
        | nil => rw [List.zip_nil_right] at hz; cases hz
        | cons c u hwi' =>
          rw [List.zip_cons_cons] at hz
          injection hz with hyx hrest
          injection hyx with hy hx
          subst hy hx
          rw [lexLt_cons] at hR
          simp only [List.length_cons] at hlen
          obtain ⟨e, he, hiff⟩ := eqAt_int A.in1 ⟨hp, g, d, tk, os⟩ a t c u
          refine wpAny_bind (he prog w _ _ ?_)
          cases e with
          | true =>
            rw [if_pos (hiff.mp rfl)] at hR
            wp_walk
            exact ⟨rfl, rfl, _, _, _, _, hrest, hvi', hwi', by omega, hR⟩
          | false =>
            rw [if_neg (fun q => absurd (hiff.mpr q) Bool.false_ne_true)] at hR
            have hri := rcLt_int A.in1 ⟨hp, g, d, tk, os⟩ a t c u prog w
            wp_walk using hri
            exact ⟨_, rfl, by simpa using hR⟩
    case fin =>
      rintro ⟨b1, b2⟩ s' ⟨hb', rfl, vs, ws, ns', ms', hz, hvi, hwi, hlen, hR⟩
      simp only at hb'
      subst hb'
      have hv : lexLt ns' ms' = decide (items.size < items2.size) := by
        cases hvi with
        | nil =>
          cases hwi with
          | nil =>
            simp only [List.length_nil] at hlen
            rw [lexLt_nil_nil]
            exact (decide_eq_false (by omega)).symm
          | cons c u hw =>
            simp only [List.length_nil, List.length_cons] at hlen
            rw [lexLt_nil_cons]
            exact (decide_eq_true (by omega)).symm
        | cons a t hv =>
          cases hwi with
          | nil =>
            simp only [List.length_nil, List.length_cons] at hlen
            rw [lexLt_cons_nil]
            exact (decide_eq_false (by omega)).symm
          | cons c u hw =>
            rw [List.zip_cons_cons] at hz
            cases hz
      rw [hv] at hR
      wp_walk
      exact ⟨_, rfl, by simpa [Builtin.Tuple.tupleCompareSizes] using hR⟩
    case h =>
      exact ⟨rfl, rfl, items.toList, items2.toList, ns, ms, rfl, hi, hj, by omega, h⟩
end
section
variable {prog : Program} {w : World} {A : Around} {E : Value → Shared → Prop} {s : Shared}
theorem lt_tupInts {l b : Addr} {items items2 : Array Value} {ns ms : List Int} {Q : Value → Shared → Prop} (hl : IsTup s.heap l items) (hb : IsTup s.heap b items2) (hi : IntsAre items.toList ns) (hj : IntsAre items2.toList ms)
    (hu : A.units < cLine) (h : Q (.bool (lexLt ns ms)) s) : wpAny (model prog w) A (compareOp .Lt (.ref l) (.ref b)) Q E s := by
  obtain ⟨⟨cls, dd, data, sl⟩, ho, hc, n, hd⟩ := id hl
  obtain ⟨⟨cls2, dd2, data2, sl2⟩, ho2, hc2, n2, hd2⟩ := id hb
  simp only at hc hd hc2 hd2
  subst hc hd hc2 hd2
  exact richCompare_meets_room (op := .Lt) ⟨_, ho, rfl⟩ ⟨_, ho2, rfl⟩ PySem.F.slot_tuple_lt PySem.F.entry_tuple_lt (PySem.F.args_tuple_lt_2 _ _) (tuple_lt_ints l b items items2 n n2 dd dd2 sl sl2 ns ms hi hj)
    ⟨ho, ho2, show Value.bool (lexLt ns ms) ≠ Value.notImplemented ∧ Q (.bool (lexLt ns ms)) s from ⟨(fun x => nomatch x), h⟩⟩ hu
theorem cat_tup {t b : Addr} {vs ws : List Value} {Q : Value → Shared → Prop} (ht : IsTup s.heap t vs.toArray) (hb : IsTup s.heap b ws.toArray) (hv : vs ≠ [])
    (h1 : ws = [] → Q (.ref t) s) (h2 : ws ≠ [] → Q (.ref s.heap.objs.size) { s with heap := s.heap.push { cls := .type "tuple", data := .seq (vs ++ ws).toArray } })
    (hsz : vs.length + ws.length ≤ sizeLine) : wpAny (model prog w) A (binaryOp .Add (.ref t) (.ref b)) Q E s := by
  obtain ⟨⟨cls, dd, data, sl⟩, ho, hc, n, hd⟩ := id ht
  obtain ⟨⟨cls2, dd2, data2, sl2⟩, ho2, hc2, n2, hd2⟩ := id hb
  simp only at hc hd hc2 hd2
  subst hc hd hc2 hd2
  have e : vs.toArray ++ ws.toArray = (vs ++ ws).toArray := by simp
  by_cases hw : ws = []
  · exact concat_meets ⟨_, ho, rfl⟩ ⟨_, ho2, rfl⟩ noFill_tuple_add seq_tuple_add PySem.F.slot_tuple_add PySem.F.entry_tuple_add (PySem.F.args_tuple_add_2 _ _)
      (tuple_addW1 t b vs.toArray ws.toArray n n2 dd dd2 sl sl2 (by simpa using hv) (by simp [hw])) ⟨ho, ho2, h1 hw⟩
  · refine concat_meets ⟨_, ho, rfl⟩ ⟨_, ho2, rfl⟩ noFill_tuple_add seq_tuple_add PySem.F.slot_tuple_add PySem.F.entry_tuple_add (PySem.F.args_tuple_add_2 _ _)
      (tuple_addW2 t b vs.toArray ws.toArray n n2 dd dd2 sl sl2 (by simpa using hv) (by simpa using hw) (by rw [List.size_toArray, List.size_toArray]; exact hsz)) ⟨ho, ho2, ?_⟩
    rw [e]
    exact h2 hw
def sIx (n d : Nat) : Option Int → Nat
  | none => d
  | some v => if v < 0 then (v + (n : Int)).toNat else min v.toNat n
theorem sIx_none (n d : Nat) : sIx n d none = d := rfl
theorem sIx_nat (n d k : Nat) : sIx n d (some (k : Int)) = min k n := by
  show (if (k : Int) < 0 then ((k : Int) + (n : Int)).toNat else min (k : Int).toNat n) = min k n
  rw [if_neg (by omega), Int.toNat_natCast]
theorem sIx_le (n d : Nat) (hd : d ≤ n) (o : Option Int) : sIx n d o ≤ n := by
  cases o with
  | none => exact hd
  | some v =>
    show (if v < 0 then (v + (n : Int)).toNat else min v.toNat n) ≤ n
    by_cases hv : v < 0
    · rw [if_pos hv]; omega
    · rw [if_neg hv]; exact Nat.min_le_right _ _
theorem clip_eq (v : Int) (n d : Nat) : (if v < 0 then max (v + (n : Int)) 0 else min v (n : Int)) = ((sIx n d (some v) : Nat) : Int) := by
  show (if v < 0 then max (v + (n : Int)) 0 else min v (n : Int)) = (((if v < 0 then (v + (n : Int)).toNat else min v.toNat n) : Nat) : Int)
  by_cases hv : v < 0
  · simp only [if_pos hv]; omega
  · simp only [if_neg hv]; omega
theorem adjust_gen (lo hi : Option Int) (n : Nat) : Builtin.Slice.sliceAdjust lo hi 1 (n : Int) = (((sIx n 0 lo : Nat) : Int), ((sIx n n hi : Nat) : Int)) := by
  have h1 : ¬ ((1 : Int) < 0) := by omega
  unfold Builtin.Slice.sliceAdjust
  simp only [h1, if_false]
  refine Prod.ext ?_ ?_
  · cases lo with
    | none => rfl
    | some v => exact clip_eq v n 0
  · cases hi with
    | none => rfl
    | some v => exact clip_eq v n n
theorem places_gen (i j : Nat) : Builtin.Slice.slicePlaces (i : Int) (j : Int) 1 = j - i := by
  unfold Builtin.Slice.slicePlaces
  have h1 : (1 : Int) > 0 := by omega
  simp only [h1, if_true, Int.ediv_one]
  split <;> omega
theorem slicePart_ {v : Value} {o : Option Int} {Q : Option Int → Shared → Prop} (p : IsPart v o) (h : Q o s) : wpAny (model prog w) A (Builtin.Slice.slicePartIndex v) Q E s := by
  cases p with
  | none => exact slicePart_none h
  | int i t => exact slicePart_int h
theorem sliceApplied_gen {sl : Addr} {vl vu : Value} {lo hi : Option Int} {n : Nat} {Q : Int × Int × Nat → Shared → Prop} (hs : s.heap.IsSliceOf sl vl vu .none) (pl : IsPart vl lo) (pu : IsPart vu hi)
    (h : Q (((sIx n 0 lo : Nat) : Int), 1, sIx n n hi - sIx n 0 lo) s) : wpAny (model prog w) A (Builtin.Slice.sliceApplied (.ref sl) (pure (n : Int))) Q E s := by
  obtain ⟨os, hos, hcs, hds⟩ := id hs
  unfold Builtin.Slice.sliceApplied Builtin.Slice.sliceFields
  refine wpAny_bind (wpAny_bind (wpAny_field hos hds (x := vl) rfl (wpAny_bind (wpAny_field hos hds (x := vu) rfl (wpAny_bind (wpAny_field hos hds (x := .none) rfl (wpAny_pure ?_)))))))
  refine wpAny_bind (slicePart_none ?_)
  show wpAny _ _ (if ((1 : Int) == 0) = true then _ else _) _ _ s
  rw [if_neg (by decide)]
  refine wpAny_bind (slicePart_ pl (wpAny_bind (slicePart_ pu (wpAny_bind (wpAny_pure ?_)))))
  show wpAny _ _ (match Builtin.Slice.sliceAdjust lo hi 1 (n : Int) with | (lo, hi) => pure (lo, (1 : Int), Builtin.Slice.slicePlaces lo hi 1)) _ _ s
  rw [adjust_gen lo hi n]
  show wpAny _ _ (pure (((sIx n 0 lo : Nat) : Int), (1 : Int), Builtin.Slice.slicePlaces ((sIx n 0 lo : Nat) : Int) ((sIx n n hi : Nat) : Int) 1)) _ _ s
  rw [places_gen]
  exact wpAny_pure h
theorem pick_gen (xs : Array Value) (i k : Nat) : ((List.range k).filterMap fun (m : Nat) => xs[((i : Int) + (m : Int) * 1).toNat]?).toArray = ((xs.toList.drop i).take k).toArray := by
  have e : (fun (m : Nat) => xs[((i : Int) + (m : Int) * 1).toNat]?) = fun m => xs[i + m]? := by
    funext m
    have : ((i : Int) + (m : Int) * 1).toNat = i + m := by omega
    rw [this]
  rw [e]
  have := pick_run xs i k
  rw [List.filterMap_map] at this
  have e2 : ((fun x => xs[x]?) ∘ fun x => i + x) = fun m => xs[i + m]? := rfl
  rw [e2] at this
  rw [this]
theorem getItem_tuple_cut {t sl : Addr} {items : Array Value} {vl vu : Value} {lo hi : Option Int} {Q : Value → Shared → Prop} (ht : IsTup s.heap t items) (hs : s.heap.IsSliceOf sl vl vu .none) (pl : IsPart vl lo) (pu : IsPart vu hi)
    (hw : ¬ (sIx items.size 0 lo = 0 ∧ sIx items.size items.size hi = items.size))
    (h : Q (.ref s.heap.objs.size) { s with heap := s.heap.push { cls := .type "tuple", data := .seq ((items.toList.drop (sIx items.size 0 lo)).take (sIx items.size items.size hi - sIx items.size 0 lo)).toArray } })
    (hsz : items.size ≤ sizeLine) : wpAny (model prog w) A (getItem (.ref t) (.ref sl)) Q E s := by
  have htake : sizeOk (.seq ((items.toList.drop (sIx items.size 0 lo)).take (sIx items.size items.size hi - sIx items.size 0 lo)).toArray) := by
    show ((items.toList.drop (sIx items.size 0 lo)).take (sIx items.size items.size hi - sIx items.size 0 lo)).toArray.size ≤ sizeLine
    rw [List.size_toArray, List.length_take, List.length_drop, Array.length_toList]
    omega
  have hj : sIx items.size items.size hi ≤ items.size := sIx_le _ _ (Nat.le_refl _) hi
  obtain ⟨os, hos, hcs, hds⟩ := id hs
  have hTs : s.TypeIs (.ref sl) "slice" := ⟨os, hos, hcs⟩
  unfold getItem
  try with_reducible refine wpAny_holding ?_
  first | refine wpAny_bind (wpAny_pure ?_) | skip
  refine wpAny_bind (wpAny_sequenceKey ht.typeIs (by decide) ?_)
  refine wpAny_bind (wpAny_callSpecial?_slot (name := Str.ofString "__getitem__") ht.typeIs PyProof.Rows.slot_tuple_getitem
    (wpAny_call_entry PyProof.Rows.slot_tuple_getitem ht.typeIs entry_tuple_getitem ?_ (args_tuple_getitem _ _)))
  show wpAny _ _ (Builtin.Tuple.tupleItemsOf (.ref t) >>= _) _ _ s
  refine wpAny_bind (tupleItemsOf_ ht ?_)
  refine wpAny_bind (wpAny_typeOf hTs ?_)
  rw [if_pos (by decide)]
  refine wpAny_bind (sliceApplied_gen hs pl pu ?_)
  have hno : ¬ ((((sIx items.size 0 lo : Nat) : Int) == 0 && (1 : Int) == 1 && (sIx items.size items.size hi - sIx items.size 0 lo) == items.size) = true) := by
    intro q
    rw [Bool.and_eq_true, Bool.and_eq_true] at q
    have q1 : ((sIx items.size 0 lo : Nat) : Int) = 0 := eq_of_beq q.1.1
    have q2 : sIx items.size items.size hi - sIx items.size 0 lo = items.size := eq_of_beq q.2
    exact hw ⟨by omega, by omega⟩
  show wpAny _ _ (if (((sIx items.size 0 lo : Nat) : Int) == 0 && (1 : Int) == 1 && (sIx items.size items.size hi - sIx items.size 0 lo) == items.size) = true then _ else _) _ _ s
  rw [if_neg hno, pick_gen]
  first
    | exact wpAny_bind (m := Builtin.Tuple.tupleExact _) (wpAny_newObj_type (wpAny_pure ⟨_, rfl, wpAny_pure h⟩) htake)
    | exact wpAny_bind (m := Builtin.Tuple.tupleExact _) (wpAny_newObj_type (wpAny_bind (wpAny_pure (wpAny_pure ⟨_, rfl, wpAny_pure h⟩))) htake)
    | exact wpAny_bind (wpAny_bind (m := Builtin.Tuple.tupleExact _) (wpAny_newObj_type (wpAny_pure (wpAny_pure ⟨_, rfl, wpAny_pure h⟩)) htake))
    | exact wpAny_bind (wpAny_bind (m := Builtin.Tuple.tupleExact _) (wpAny_newObj_type (wpAny_pure ⟨_, rfl, wpAny_pure h⟩) htake))
end
end HT
namespace L2
open PySem PySem.Spec PyProof.Rows
abbrev TO := St → Hp → (Option Int → Hp → Prop) → Prop
def PO (X : Cx) (e : Option Expr) (t : TO) : Prop :=
  ∀ (pins : List (Addr × Obj)) (s : Shared) (σ : St) (H : Hp) (Q : Option Int → Hp → Prop), Inv X pins σ H s → t σ H Q →
    wpAny (model X.prog X.w) X.A (evalPart e X.env) (fun u s' => ∃ o H', Inv X pins σ H' s' ∧ IsPart u o ∧ Q o H') X.xe s
def tNoPart : TO := fun _ H Q => Q none H
def tPart (t : TE) : TO := fun σ H Q => t σ H fun x H1 => ∃ i, x = .int i ∧ Q (some i) H1
theorem intsAre_of {ns : List Int} : ∀ {us : List Value}, Vals (ns.map V.int) us → IntsAre us ns := by
  induction ns with
  | nil => intro us r; rw [List.map_nil] at r; cases r; exact .nil
  | cons n ns ih =>
    intro us r
    rw [List.map_cons] at r
    cases r with
    | cons r1 r2 =>
      obtain ⟨t, e⟩ := r1
      subst e
      exact .cons n t (ih r2)
section
variable {X : Cx} {e : Expr} {te : TE} {lo hi : Option Expr} {tl th : TO} {pos p2 : Pos}
theorem po_none : PO X none tNoPart := by
  intro pins s σ H Q I h
  rw [evalPart_none]
  exact wpAny_pure ⟨none, H, I, .none, h⟩
theorem po_some (h : PE X e te) : PO X (some e) (tPart te) := by
  intro pins s σ H Q I hw
  rw [evalPart_some]
  refine thn (h pins s σ H _ I hw) fun u s1 ⟨x, H1, I1, r1, q1⟩ => ?_
  obtain ⟨i, rfl, q⟩ := q1
  obtain ⟨t, rfl⟩ := r1
  exact ⟨some i, H1, I1, .int i t, q⟩
def SlR (X : Cx) (r : V → Option Int → Option Int → Hp → VK → Prop) : Prop :=
  ∀ (pins : List (Addr × Obj)) (s : Shared) (σ : St) (H : Hp) (x : V) (v vl vu : Value) (lo hi : Option Int) (sl : Addr) (Q : VK), Inv X pins σ H s → RelV x v → s.heap.IsSliceOf sl vl vu .none → IsPart vl lo → IsPart vu hi → r x lo hi H Q →
    ∃ T id, typeLookup (.type T) "__getitem__" = pure (some (.builtin id)) ∧ s.TypeIs v T ∧ wpAny (model X.prog X.w) X.A (getItem v (.ref sl)) (EP X pins σ Q) X.xe s
theorem SlR.or {r r' : V → Option Int → Option Int → Hp → VK → Prop} (h : SlR X r) (h' : SlR X r') : SlR X (fun x lo hi H Q => r x lo hi H Q ∨ r' x lo hi H Q) := by
  intro pins s σ H x v vl vu lo hi sl Q I rx hs pl pu q
  rcases q with q | q
  · exact h pins s σ H x v vl vu lo hi sl Q I rx hs pl pu q
  · exact h' pins s σ H x v vl vu lo hi sl Q I rx hs pl pu q
def tSl (r : V → Option Int → Option Int → Hp → VK → Prop) (te : TE) (tl th : TO) : TE := fun σ H Q => te σ H fun x H1 => tl σ H1 fun l H2 => th σ H2 fun u H3 => r x l u H3 Q
theorem pe_slice {r : V → Option Int → Option Int → Hp → VK → Prop} (hr : SlR X r) (he : PE X e te) (hl : PO X lo tl) (hu : PO X hi th) : PE X (.Subscript e (.Slice lo hi none p2) pos) (tSl r te tl th) := by
  intro pins s σ H Q I h
  refine Subscript_ (thn (he pins s σ H _ I h) fun v s1 ⟨x, H1, I1, r1, q1⟩ => ?_)
  refine wpAny_Slice (thn (hl pins s1 σ H1 _ I1 q1) fun vl s2 ⟨l, H2, I2, pl, q2⟩ => thn (hu pins s2 σ H2 _ I2 q2) fun vu s3 ⟨u, H3, I3, pu, q3⟩ => ?_)
  rw [evalPart_none]
  refine wpAny_pure ?_
  have I4 : Inv X pins σ H3 { s3 with heap := s3.heap.push { cls := .type "slice", data := .fields #[vl, vu, .none] } } := I3.kept (t' := s3.toks) fun b ob q => Heap.get?_push_of_some _ q
  obtain ⟨T, id, hT, ht, hg⟩ := hr pins { s3 with heap := s3.heap.push { cls := .type "slice", data := .fields #[vl, vu, .none] } } σ H3 x v vl vu l u s3.heap.objs.size Q I4 r1 (Heap.IsSliceOf.new ..) pl pu q3
  show wpAny (model X.prog X.w) X.A (subscriptTail e (.Slice lo hi none p2) v (.ref s3.heap.objs.size)) (EP X pins σ Q) X.xe { s3 with heap := s3.heap.push { cls := .type "slice", data := .fields #[vl, vu, .none] } }
  exact tail_any (ops := [.ref s3.heap.objs.size, v]) ht hT hg (by with_unfolding_all rfl)
def cutV (xs : List V) (lo hi : Option Int) : List V := (xs.drop (HT.sIx xs.length 0 lo)).take (HT.sIx xs.length xs.length hi - HT.sIx xs.length 0 lo)
theorem cutV_length (xs : List V) (lo hi : Option Int) : (cutV xs lo hi).length ≤ xs.length := by
  unfold cutV
  rw [List.length_take, List.length_drop]
  omega
def rSlT (K : PySem.W.Frag) : V → Option Int → Option Int → Hp → VK → Prop := fun x lo hi H Q => ∃ a xs, x = .ref a ∧ SqT K H a xs ∧
  ¬ (HT.sIx xs.length 0 lo = 0 ∧ HT.sIx xs.length xs.length hi = xs.length) ∧ ∀ p, H p = none → Q (.ref p) (upd H p (.tup (cutV xs lo hi)))
theorem sl_tup : SlR X (rSlT X.K) := by
  intro pins s σ H x v vl vu lo hi sl Q I rx hs pl pu h
  obtain ⟨a, xs, rfl, hx, hw, q⟩ := h
  cases rx
  obtain ⟨its, r, ht, hz⟩ := I.tuple hx
  have hlen : its.toArray.size = xs.length := by rw [List.size_toArray]; exact r.length.symm
  refine ⟨"tuple", _, PyProof.Rows.slot_tuple_getitem.lookup, ht.typeIs, ?_⟩
  refine HT.getItem_tuple_cut ht hs pl pu (by rw [hlen]; exact hw) ?_ (by rw [hlen]; exact hz)
  rw [hlen]
  refine ⟨.ref s.heap.objs.size, _, I.laid (t' := s.toks) (o := .tup (cutV xs lo hi)) (fun b ob q => Heap.get?_push_of_some _ q) (Nat.le_refl _) ?_, rfl, q _ (I.hok.fresh (Nat.le_refl _))⟩
  exact ⟨Nat.le_trans (cutV_length xs lo hi) hz, _, (r.drop (HT.sIx xs.length 0 lo)).take (HT.sIx xs.length xs.length hi - HT.sIx xs.length 0 lo), IsTup.new _ _⟩
def rLtT (K : PySem.W.Frag) : R2 := fun x y H Q => ∃ a b ns ms, x = .ref a ∧ y = .ref b ∧ SqT K H a (ns.map V.int) ∧ SqT K H b (ms.map V.int) ∧ Q (.bl (HT.lexLt ns ms)) H
theorem op_ltT (hu : X.A.units < cLine) : OpR X (compareOp .Lt) (rLtT X.K) := by
  intro pins s σ H x y v u Q I rx ry h
  obtain ⟨a, b, ns, ms, rfl, rfl, ha, hb, q⟩ := h
  cases rx
  cases ry
  obtain ⟨its, r1, p1, _⟩ := I.tuple ha
  obtain ⟨its2, r2, p2, _⟩ := I.tuple hb
  have i1 : IntsAre its.toArray.toList ns := intsAre_of r1
  have i2 : IntsAre its2.toArray.toList ms := intsAre_of r2
  exact HT.lt_tupInts p1 p2 i1 i2 hu ⟨.bl (HT.lexLt ns ms), H, I, rfl, q⟩
def rCatT (K : PySem.W.Frag) : R2 := fun x y H Q => ∃ a b xs ys, x = .ref a ∧ y = .ref b ∧ SqT K H a xs ∧ SqT K H b ys ∧ xs ≠ [] ∧ xs.length + ys.length ≤ sizeLine ∧
  (ys = [] → Q (.ref a) H) ∧ (ys ≠ [] → ∀ p, H p = none → Q (.ref p) (upd H p (.tup (xs ++ ys))))
theorem Vals.nil_iff {xs : List V} {us : List Value} (r : Vals xs us) : us = [] ↔ xs = [] := by
  cases r with
  | nil => simp
  | cons _ _ => simp
theorem op_catT : OpR X (binaryOp .Add) (rCatT X.K) := by
  intro pins s σ H x y v u Q I rx ry h
  obtain ⟨a, b, xs, ys, rfl, rfl, ha, hb, hx, hz, q1, q2⟩ := h
  cases rx
  cases ry
  obtain ⟨its, r1, p1, _⟩ := I.tuple ha
  obtain ⟨its2, r2, p2, _⟩ := I.tuple hb
  refine HT.cat_tup p1 p2 (fun z => hx (r1.nil_iff.mp z)) (fun z => ⟨.ref a, H, I, rfl, q1 (r2.nil_iff.mp z)⟩) (fun z => ?_) (by rw [← r1.length, ← r2.length]; exact hz)
  refine ⟨.ref s.heap.objs.size, _, I.laid (t' := s.toks) (o := .tup (xs ++ ys)) (fun b ob q => Heap.get?_push_of_some _ q) (Nat.le_refl _) ?_, rfl, q2 (fun w => z (r2.nil_iff.mpr w)) _ (I.hok.fresh (Nat.le_refl _))⟩
  exact ⟨by rw [List.length_append]; exact hz, _, r1.append r2, IsTup.new _ _⟩
end
end L2
namespace L2
open PySem PySem.Spec PyProof.Rows
def ixN (n : Nat) (i : Int) : Option Nat := if 0 ≤ i then (if i < n then some i.toNat else none) else if -(n : Int) ≤ i then some (i + n).toNat else none
def atI {α : Type} (xs : List α) (i : Int) : Option α := (ixN xs.length i).bind fun j => xs[j]?
theorem ixN_seq {n : Nat} {i : Int} {j : Nat} (h : ixN n i = some j) : seqIndex? i n = some j ∧ j < n ∧ -(n : Int) ≤ i ∧ i < n := by
  unfold ixN at h
  by_cases h0 : 0 ≤ i
  · rw [if_pos h0] at h
    by_cases h1 : i < n
    · rw [if_pos h1] at h
      have e : i.toNat = j := Option.some.inj h
      exact ⟨by rw [seqIndex_of h0 h1, e], by omega, by omega, h1⟩
    · rw [if_neg h1] at h; cases h
  · rw [if_neg h0] at h
    by_cases h1 : -(n : Int) ≤ i
    · rw [if_pos h1] at h
      have e : (i + n).toNat = j := Option.some.inj h
      exact ⟨by rw [seqIndex_neg (by omega) h1, e], by omega, h1, by omega⟩
    · rw [if_neg h1] at h; cases h
theorem atI_get {α : Type} {xs : List α} {i : Int} {v : α} (h : atI xs i = some v) : ∃ j, seqIndex? i xs.length = some j ∧ xs[j]? = some v ∧ j < xs.length ∧ -(xs.length : Int) ≤ i ∧ i < xs.length := by
  unfold atI at h
  cases e : ixN xs.length i with
  | none => rw [e] at h; cases h
  | some j =>
    rw [e] at h
    obtain ⟨h1, h2, h3, h4⟩ := ixN_seq e
    exact ⟨j, h1, h, h2, h3, h4⟩
theorem atI_nat {α : Type} {xs : List α} {j : Nat} {v : α} (h : xs[j]? = some v) : atI xs (j : Int) = some v := by
  have hj : j < xs.length := (List.getElem?_eq_some_iff.mp h).1
  have e : ixN xs.length (j : Int) = some j := by
    unfold ixN
    rw [if_pos (by omega), if_pos (by omega)]; simp
  unfold atI; rw [e]; exact h
def PlainIx (b : Expr) : Prop := ∀ o i, subscripted b false o i = operate [o, i] (getItem o i)
def IxR (X : Cx) (r : R2) : Prop :=
  ∀ (value slice : Expr) (pins : List (Addr × Obj)) (s : Shared) (σ : St) (H : Hp) (x y : V) (v u : Value) (Q : VK), Inv X pins σ H s → RelV x v → RelV y u → r x y H Q →
    subscripted slice false v u = operate [v, u] (getItem v u) → wpAny (model X.prog X.w) X.A (subscriptTail value slice v u) (EP X pins σ Q) X.xe s
def MtR (X : Cx) (id : String) (r : V → List V → Hp → VK → Prop) : Prop :=
  ∀ (pins : List (Addr × Obj)) (s : Shared) (σ : St) (H : Hp) (x : V) (xs : List V) (v : Value) (us : List Value) (Q : VK), Inv X pins σ H s → RelV x v → Vals xs us → r x xs H Q →
    wpAny (model X.prog X.w) X.A (call (.builtin id) (v :: us)) (EP X pins σ Q) X.xe s
section
variable {X : Cx} {a b : Expr} {ta tb : TE} {pos : Pos}
theorem IxR.or {r r' : R2} (h : IxR X r) (h' : IxR X r') : IxR X (fun x y H Q => r x y H Q ∨ r' x y H Q) := by
  intro value slice pins s σ H x y v u Q I rx ry q hs
  rcases q with q | q
  · exact h value slice pins s σ H x y v u Q I rx ry q hs
  · exact h' value slice pins s σ H x y v u Q I rx ry q hs
theorem MtR.or {id : String} {r r' : V → List V → Hp → VK → Prop} (h : MtR X id r) (h' : MtR X id r') : MtR X id (fun x xs H Q => r x xs H Q ∨ r' x xs H Q) := by
  intro pins s σ H x xs v us Q I rx rs q
  rcases q with q | q
  · exact h pins s σ H x xs v us Q I rx rs q
  · exact h' pins s σ H x xs v us Q I rx rs q
theorem pe_ix {r : R2} (hr : IxR X r) (ha : PE X a ta) (hb : PE X b tb) (hs : PlainIx b) : PE X (.Subscript a b pos) (tOp r ta tb) := by
  intro pins s σ H Q I h
  exact Subscript_ (binT ha hb I h fun v u s2 x y H2 I2 rx ry q => hr a b pins s2 σ H2 x y v u Q I2 rx ry q (hs _ _))
def rIxL (K : PySem.W.Frag) : R2 := fun x y H Q => ∃ p xs i v, x = .ref p ∧ y = .int i ∧ SqL K H p xs ∧ atI xs i = some v ∧ Q v H
def rIxT (K : PySem.W.Frag) : R2 := fun x y H Q => ∃ p xs i v, x = .ref p ∧ y = .int i ∧ SqT K H p xs ∧ atI xs i = some v ∧ Q v H
theorem ix_list : IxR X (rIxL X.K) := by
  intro value slice pins s σ H x y v u Q I rx ry h hs
  obtain ⟨p, xs, i, z, rfl, rfl, hq, he, q⟩ := h
  cases rx
  obtain ⟨t, rfl⟩ := ry
  obtain ⟨its, r, pl, hz⟩ := I.list hq
  obtain ⟨j, h1, h2, h3, h4, h5⟩ := atI_get he
  obtain ⟨w, ew, rw'⟩ := r.get h2
  have hl := r.length
  have hn := line63
  have fin : EP X pins σ Q w s := ⟨z, H, I, rw', q⟩
  by_cases h0 : 0 ≤ i
  · have hj : i.toNat = j := by
      rw [seqIndex_of h0 h5] at h1
      exact Option.some.inj h1
    exact item_listR pl.isList h0 (by omega) (by rw [hj]; simpa using ew) fin hs
  · have hj : (i + (its.toArray.size : Int)).toNat = j := by
      rw [seqIndex_neg (by omega) h4] at h1
      rw [List.size_toArray, ← hl]
      exact Option.some.inj h1
    exact subscriptTail_builtinR (x := w) pl.isList.typeIs slot_list_getitem.lookup
      (wpAny_getItem_list_neg (Q := fun r s' => r = w ∧ EP X pins σ Q r s') pl.isList (by omega) (by rw [List.size_toArray] <;> omega) (by omega) (by rw [hj]; simpa using ew) ⟨rfl, fin⟩) hs
theorem ix_tup : IxR X (rIxT X.K) := by
  intro value slice pins s σ H x y v u Q I rx ry h hs
  obtain ⟨p, xs, i, z, rfl, rfl, hq, he, q⟩ := h
  cases rx
  obtain ⟨t, rfl⟩ := ry
  obtain ⟨its, r, pl, hz⟩ := I.tuple hq
  obtain ⟨j, h1, h2, h3, h4, h5⟩ := atI_get he
  obtain ⟨w, ew, rw'⟩ := r.get h2
  have hl := r.length
  have hn := line63
  have fin : EP X pins σ Q w s := ⟨z, H, I, rw', q⟩
  exact subscriptTail_builtinR (x := w) pl.typeIs slot_tuple_getitem.lookup
    (getItem_tuple (j := j) (Q := fun r s' => r = w ∧ EP X pins σ Q r s') pl (by omega) (by omega) (by rw [List.size_toArray, ← hl]; exact h1) (by simpa using ew) ⟨rfl, fin⟩) hs
theorem mapSeq_set (its : List Value) (n j : Nat) (u : Value) : Obj.mapSeq (·.setIfInBounds j u) { cls := .type "list", data := .seq its.toArray n } = { cls := .type "list", data := .seq (its.set j u).toArray n } := by
  simp [Obj.mapSeq]
theorem Inv.lst {pins : List (Addr × Obj)} {σ : St} {H : Hp} {s : Shared} {p : Addr} {xs : List V} (I : Inv X pins σ H s) (h : H p = some (.lst xs)) :
    ∃ (its : List Value) (n : Nat), Vals xs its ∧ s.heap.get? p = some { cls := .type "list", data := .seq its.toArray n } ∧ xs.length ≤ sizeLine := by
  obtain ⟨z, its, n, r, e⟩ := I.hok p _ h
  exact ⟨its, n, r, e, z⟩
theorem Inv.lstUpd {pins : List (Addr × Obj)} {σ : St} {H : Hp} {s : Shared} {p : Addr} {xs ys : List V} {its its' : List Value} {n n' : Nat} {f : Obj → Obj} (I : Inv X pins σ H s) (h : H p = some (.lst xs))
    (ho : s.heap.get? p = some { cls := .type "list", data := .seq its.toArray n }) (hf : f { cls := .type "list", data := .seq its.toArray n } = { cls := .type "list", data := .seq its'.toArray n' }) (r : Vals ys its') (hz : ys.length ≤ sizeLine) (t : Nat) :
    Inv X pins σ (upd H p (.lst ys)) { s with heap := s.heap.update p f, toks := t } := by
  have e : (s.heap.update p f).get? p = some { cls := .type "list", data := .seq its'.toArray n' } := by
    rw [Heap.get?_update_self f ho (by rw [hf] <;> rfl), hf]
  refine I.write (x := p) (e := p) (by rw [h]; trivial) (.inl rfl) (fun b u hb q => (Heap.get?_update_other _ _ (Ne.symm hb)).trans q) ⟨_, e⟩ ?_
  exact ⟨hz, its', n', r, e⟩
def rSetL : V → V → V → Hp → (Hp → Prop) → Prop := fun o i v H Q => ∃ p xs k j, o = .ref p ∧ i = .int k ∧ H p = some (.lst xs) ∧ ixN xs.length k = some j ∧ Q (upd H p (.lst (xs.set j v)))
theorem set_list : PSet X rSetL := by
  intro pins s σ H o i v ov iv u Q I ro ri rv h
  obtain ⟨p, xs, k, j, rfl, rfl, hp, hj, q⟩ := h
  cases ro
  obtain ⟨t, rfl⟩ := ri
  obtain ⟨its, n, r, ho, hz⟩ := I.lst hp
  obtain ⟨h1, h2, h3, h4⟩ := ixN_seq hj
  have hl := r.length
  have hn := line63
  have I' : Inv X pins σ (upd H p (.lst (xs.set j v))) { s with heap := s.heap.update p (Obj.mapSeq (·.setIfInBounds j u)) } :=
    I.lstUpd hp ho (mapSeq_set its n j u) (r.set rv j) (by rw [List.length_set]; exact hz) s.toks
  by_cases h0 : 0 ≤ k
  · have hk : k.toNat = j := by
      rw [seqIndex_of h0 h4] at h1
      exact Option.some.inj h1
    exact PySem.W.ki_setAt ho h0 (by omega) (by rw [List.size_toArray, ← hl]; exact h4) (by rw [hk]; exact ⟨_, I', q⟩)
  · have hk : (k + (its.toArray.size : Int)).toNat = j := by
      rw [seqIndex_neg (by omega) h3] at h1
      rw [List.size_toArray, ← hl]
      exact Option.some.inj h1
    exact PySem.W.ki_setBack ho (by omega) (by rw [List.size_toArray, ← hl]; exact h3) (by omega) (by rw [hk]; exact ⟨_, I', q⟩)
theorem slice_bounds (lo hi : Option Int) (n : Nat) : (sliceBounds lo hi none n).1 = ((HT.sIx n 0 lo : Nat) : Int) ∧ (sliceBounds lo hi none n).2.1 = ((HT.sIx n n hi : Nat) : Int) ∧ (sliceBounds lo hi none n).2.2 = 1 := by
  refine ⟨?_, ?_, rfl⟩
  · cases lo with
    | none => simp [sliceBounds, HT.sIx]
    | some i =>
      simp only [sliceBounds, HT.sIx, Option.getD_none, show (1 : Int) > 0 by decide, if_true]
      by_cases h : i < 0
      · simp only [h, if_true] <;> omega
      · simp only [h, if_false] <;> omega
  · cases hi with
    | none => simp [sliceBounds, HT.sIx]
    | some i =>
      simp only [sliceBounds, HT.sIx, Option.getD_none, show (1 : Int) > 0 by decide, if_true]
      by_cases h : i < 0
      · simp only [h, if_true] <;> omega
      · simp only [h, if_false] <;> omega
theorem slicePick_cut (its : List Value) (lo hi : Option Int) : slicePick its.toArray lo hi none = ((its.drop (HT.sIx its.length 0 lo)).take (HT.sIx its.length its.length hi - HT.sIx its.length 0 lo)).toArray := by
  obtain ⟨h1, h2, h3⟩ := slice_bounds lo hi its.toArray.size
  unfold slicePick
  rw [h1, h2, h3]
  simp only [sliceRange_one, pick_run, List.size_toArray] <;> rfl
def rSlL (K : PySem.W.Frag) : V → Option Int → Option Int → Hp → VK → Prop := fun x lo hi H Q => ∃ a xs, x = .ref a ∧ SqL K H a xs ∧ ∀ p, H p = none → Q (.ref p) (upd H p (.lst (cutV xs lo hi)))
theorem sl_list : SlR X (rSlL X.K) := by
  intro pins s σ H x v vl vu lo hi sl Q I rx hs pl pu h
  obtain ⟨a, xs, rfl, hx, q⟩ := h
  cases rx
  obtain ⟨its, r, ht, hz⟩ := I.list hx
  have hlen := r.length
  refine ⟨"list", _, slot_list_getitem.lookup, ht.isList.typeIs, ?_⟩
  refine wpAny_getItem_list_slice ht.isList hs pl pu .none (by simp) ?_ (by rw [List.size_toArray] <;> omega)
  rw [slicePick_cut, ← hlen]
  refine ⟨.ref s.heap.objs.size, _, I.laid (t' := s.toks) (o := .lst (cutV xs lo hi)) (fun b ob q => Heap.get?_push_of_some _ q) (Nat.le_refl _) ?_, rfl, q _ (I.hok.fresh (Nat.le_refl _))⟩
  exact ⟨Nat.le_trans (cutV_length xs lo hi) hz, _, 0, (r.drop (HT.sIx xs.length 0 lo)).take (HT.sIx xs.length xs.length hi - HT.sIx xs.length 0 lo), Heap.get?_push_size _ rfl⟩
def flatV : V → Bool
  | .non => true
  | .bl _ => true
  | .int _ => true
  | .str _ => true
  | _ => false
def eqV : V → V → Bool
  | .non, .non => true
  | .bl a, .bl b => a == b
  | .bl a, .int b => (if a then 1 else 0) == b
  | .int a, .bl b => a == (if b then 1 else 0)
  | .int a, .int b => a == b
  | .str a, .str b => a == b
  | _, _ => false
theorem eqAt_V {A : Around} {s : Shared} {y x : V} {u v : Value} (ry : RelV y u) (rx : RelV x v) (fy : flatV y = true) (fx : flatV x = true) : SeqAt.EqAt A s u v (eqV y x) := by
  cases y with
  | non =>
    cases ry
    cases x with
    | non => cases rx; exact SeqAt.EqAt.same _
    | bl b => cases rx; exact SeqAt.EqAt.none_bool b
    | int b => obtain ⟨t, rfl⟩ := rx; exact SeqAt.EqAt.none_int b t
    | str b => obtain ⟨t, rfl⟩ := rx; exact SeqAt.EqAt.none_str b t
    | _ => exact absurd (show false = true from fx) Bool.false_ne_true
  | bl a =>
    cases ry
    cases x with
    | non => cases rx; exact SeqAt.EqAt.bool_none a
    | bl b => cases rx; exact SeqAt.EqAt.bool_bool a b
    | int b => obtain ⟨t, rfl⟩ := rx; exact SeqAt.EqAt.bool_int a b t
    | str b => obtain ⟨t, rfl⟩ := rx; exact SeqAt.EqAt.bool_str a b t
    | _ => exact absurd (show false = true from fx) Bool.false_ne_true
  | int a =>
    obtain ⟨t', rfl⟩ := ry
    cases x with
    | non => cases rx; exact SeqAt.EqAt.int_none a t'
    | bl b => cases rx; exact SeqAt.EqAt.int_bool a t' b
    | int b => obtain ⟨t, rfl⟩ := rx; exact SeqAt.EqAt.int_int a t' b t
    | str b => obtain ⟨t, rfl⟩ := rx; exact SeqAt.EqAt.int_str a t' b t
    | _ => exact absurd (show false = true from fx) Bool.false_ne_true
  | str a =>
    obtain ⟨t', rfl⟩ := ry
    cases x with
    | non => cases rx; exact SeqAt.EqAt.str_none a t'
    | bl b => cases rx; exact SeqAt.EqAt.str_bool a t' b
    | int b => obtain ⟨t, rfl⟩ := rx; exact SeqAt.EqAt.str_int a t' b t
    | str b => obtain ⟨t, rfl⟩ := rx; exact SeqAt.EqAt.str_str a t' b t
    | _ => exact absurd (show false = true from fx) Bool.false_ne_true
  | _ => exact absurd (show false = true from fy) Bool.false_ne_true
def eqU (x : V) (u : Value) : Bool := match u with
  | .none => eqV .non x
  | .bool b => eqV (.bl b) x
  | .int i _ => eqV (.int i) x
  | .str z _ => eqV (.str z) x
  | _ => false
theorem eqU_of {x y : V} {u : Value} (r : RelV y u) (f : flatV y = true) : eqU x u = eqV y x := by
  cases y with
  | non => cases r; rfl
  | bl b => cases r; rfl
  | int i => obtain ⟨t, rfl⟩ := r; rfl
  | str z => obtain ⟨t, rfl⟩ := r; rfl
  | _ => exact absurd (show false = true from f) Bool.false_ne_true
theorem any_eqU {x : V} : ∀ {xs : List V} {us : List Value}, Vals xs us → xs.all flatV = true → us.any (eqU x) = xs.any fun y => eqV y x
  | _, _, .nil, _ => rfl
  | y :: xs, u :: us, .cons r t, f => by
    rw [List.all_cons, Bool.and_eq_true] at f
    rw [List.any_cons, List.any_cons, eqU_of r f.1, any_eqU t f.2]
theorem mem_eqAt {A : Around} {s : Shared} {x : V} {v : Value} (rx : RelV x v) (fx : flatV x = true) : ∀ {xs : List V} {us : List Value}, Vals xs us → xs.all flatV = true → ∀ u ∈ us, SeqAt.EqAt A s u v (eqU x u)
  | _, _, .nil, _ => fun u hu => by cases hu
  | y :: xs, u :: us, .cons r t, f => fun u' hu => by
    rw [List.all_cons, Bool.and_eq_true] at f
    rcases List.mem_cons.mp hu with rfl | hu
    · rw [eqU_of r f.1]; exact eqAt_V r rx f.1 fx
    · exact mem_eqAt rx fx t f.2 u' hu
def inV (x : V) (xs : List V) : Bool := xs.any fun y => eqV y x
def rIn (K : PySem.W.Frag) (neg : Bool) : R2 := fun x y H Q => ∃ p xs, y = .ref p ∧ (SqL K H p xs ∨ SqT K H p xs) ∧ flatV x = true ∧ xs.all flatV = true ∧ Q (.bl (if neg then !inV x xs else inV x xs)) H
theorem op_in_seq : OpR X (compareOp .In) (rIn X.K false) := by
  intro pins s σ H x y v u Q I rx ry h
  obtain ⟨p, xs, rfl, hq, fx, fs, q⟩ := h
  cases ry
  rcases hq with hq | hq
  · obtain ⟨its, r, pl, hz⟩ := I.list hq
    refine SeqAt.in_listAt (eqU x) pl.isList (fun w hw => mem_eqAt rx fx r fs w (by simpa using hw)) ⟨.bl _, H, I, rfl, ?_⟩
    rw [show its.toArray.any (eqU x) = its.any (eqU x) by simp, any_eqU r fs]
    exact q
  · obtain ⟨its, r, pl, hz⟩ := I.tuple hq
    refine SeqAt.in_tupleAt (eqU x) pl (fun w hw => mem_eqAt rx fx r fs w (by simpa using hw)) ⟨.bl _, H, I, rfl, ?_⟩
    rw [show its.toArray.any (eqU x) = its.any (eqU x) by simp, any_eqU r fs]
    exact q
theorem op_notIn_seq : OpR X (compareOp .NotIn) (rIn X.K true) := by
  intro pins s σ H x y v u Q I rx ry h
  obtain ⟨p, xs, rfl, hq, fx, fs, q⟩ := h
  cases ry
  rcases hq with hq | hq
  · obtain ⟨its, r, pl, hz⟩ := I.list hq
    refine SeqAt.notIn_listAt (eqU x) pl.isList (fun w hw => mem_eqAt rx fx r fs w (by simpa using hw)) ⟨.bl _, H, I, rfl, ?_⟩
    rw [show its.toArray.any (eqU x) = its.any (eqU x) by simp, any_eqU r fs]
    exact q
  · obtain ⟨its, r, pl, hz⟩ := I.tuple hq
    refine SeqAt.notIn_tupleAt (eqU x) pl (fun w hw => mem_eqAt rx fx r fs w (by simpa using hw)) ⟨.bl _, H, I, rfl, ?_⟩
    rw [show its.toArray.any (eqU x) = its.any (eqU x) by simp, any_eqU r fs]
    exact q
theorem call_len_seq : CallR X (.builtin "len") (fun xs H Q => ∃ p ys, xs = [.ref p] ∧ (SqL X.K H p ys ∨ SqT X.K H p ys) ∧ Q (.int ys.length) H) := by
  intro pins s σ H xs us Q I r h
  obtain ⟨p, ys, rfl, hq, q⟩ := h
  obtain ⟨u, rfl, rx⟩ := vals1 r
  cases rx
  have hn := line63
  rcases hq with hq | hq
  · obtain ⟨its, r', pl, hz⟩ := I.list hq
    have hlen := r'.length
    exact Calls.call_len_list pl.isList (by simp only [List.size_toArray] <;> omega) ⟨.int ys.length, H, I.tok _, ⟨s.toks + 1, by rw [List.size_toArray, hlen]⟩, q⟩
  · obtain ⟨its, r', pl, hz⟩ := I.tuple hq
    have hlen := r'.length
    exact len_tuple pl (by simp only [List.size_toArray] <;> omega) ⟨.int ys.length, H, I.tok _, ⟨s.toks + 1, by rw [List.size_toArray, hlen]⟩, q⟩
theorem CallR.or {f : Value} {r r' : List V → Hp → VK → Prop} (h : CallR X f r) (h' : CallR X f r') : CallR X f (fun xs H Q => r xs H Q ∨ r' xs H Q) := by
  intro pins s σ H xs us Q I rs q
  rcases q with q | q
  · exact h pins s σ H xs us Q I rs q
  · exact h' pins s σ H xs us Q I rs q
theorem call_list_of : CallR X (.type "list") (fun xs H Q => ∃ p ys, xs = [.ref p] ∧ (SqL X.K H p ys ∨ SqT X.K H p ys) ∧ ∀ l, H l = none → Q (.ref l) (upd H l (.lst ys))) := by
  intro pins s σ H xs us Q I r h
  obtain ⟨p, ys, rfl, hq, q⟩ := h
  obtain ⟨u, rfl, rx⟩ := vals1 r
  cases rx
  have fin : ∀ (its : List Value), Vals ys its → ys.length ≤ sizeLine → ∀ (h' : Heap) (c' : Nat), (∀ b o', s.heap.get? b = some o' → h'.get? b = some o') →
      h'.get? s.heap.objs.size = some { cls := .type "list", dict := none, data := .seq its.toArray c', slots := #[] } → EP X pins σ Q (.ref s.heap.objs.size) { s with heap := h' } := fun its r' hz h' c' kp e =>
    ⟨.ref s.heap.objs.size, _, I.laid (t' := s.toks) kp (Nat.le_refl _) (show ObjOk X.prog X.w _ h' _ (.lst ys) from ⟨hz, its, c', r', e⟩), rfl, q _ (I.hok.fresh (Nat.le_refl _))⟩
  rcases hq with hq | hq
  · obtain ⟨its, r', pl, hz⟩ := I.list hq
    have hlen := r'.length
    obtain ⟨o, ho, hc, n, hd⟩ := pl.isList
    exact call_list_seq p (.inl rfl) ho hc hd (fun h' c' kp e => fin its r' hz h' c' kp e) (by simp only [List.size_toArray] <;> omega)
  · obtain ⟨its, r', pl, hz⟩ := I.tuple hq
    have hlen := r'.length
    obtain ⟨o, ho, hc, n, hd⟩ := pl
    exact call_list_seq p (.inr rfl) ho hc hd (fun h' c' kp e => fin its r' hz h' c' kp e) (by simp only [List.size_toArray] <;> omega)
theorem call_tuple_of : CallR X (.type "tuple") (fun xs H Q => ∃ p ys, xs = [.ref p] ∧ ((SqL X.K H p ys ∧ ∀ l, H l = none → Q (.ref l) (upd H l (.tup ys))) ∨ (SqT X.K H p ys ∧ Q (.ref p) H))) := by
  intro pins s σ H xs us Q I r h
  obtain ⟨p, ys, rfl, h⟩ := h
  obtain ⟨u, rfl, rx⟩ := vals1 r
  cases rx
  rcases h with ⟨hq, q⟩ | ⟨hq, q⟩
  · obtain ⟨its, r', pl, hz⟩ := I.list hq
    have hlen := r'.length
    refine call_tuple_list pl.isList (fun h' kp => ?_) (by simp only [List.size_toArray] <;> omega)
    have I1 : Inv X pins σ H { s with heap := h' } := I.kept (t' := s.toks) kp
    have I2 : Inv X pins σ (upd H h'.objs.size (.tup ys)) { s with heap := h'.push { cls := .type "tuple", data := .seq its.toArray } } :=
      I1.laid (t' := s.toks) (fun b o e => Heap.get?_push_of_some _ e) (Nat.le_refl _) (show ObjOk X.prog X.w _ _ _ (.tup ys) from ⟨hz, its, r', IsTup.new _ _⟩)
    exact ⟨.ref h'.objs.size, _, I2, rfl, q _ (I1.hok.fresh (Nat.le_refl _))⟩
  · obtain ⟨its, r', pl, hz⟩ := I.tuple hq
    exact call_tuple_same pl ⟨.ref p, H, I, rfl, q⟩
def tyV (K : PySem.W.Frag) (T : String) (x : V) (H : Hp) : Prop := match x with
  | .str _ => T = "str"
  | .int _ => T = "int"
  | .ref p => (T = "list" ∧ ∃ xs, SqL K H p xs) ∨ (T = "tuple" ∧ ∃ o, K.lookup p = some o ∧ o.cls = .type "tuple" ∧ o.dict = none) ∨
      (T = "dict" ∧ ((∃ kvs, H p = some (.dK kvs)) ∨ ∃ kvs, H p = some (.dT kvs))) ∨ (T = "set" ∧ ∃ S n, H p = some (.set S n))
  | _ => False
theorem tyV_is {pins : List (Addr × Obj)} {σ : St} {H : Hp} {s : Shared} {T : String} {x : V} {v : Value} (I : Inv X pins σ H s) (r : RelV x v) (ty : tyV X.K T x H) :
    s.TypeIs v T ∧ ∀ a, v = .ref a → ∃ ob, s.heap.get? a = some ob ∧ ob.dict = none := by
  cases x with
  | str z =>
    obtain ⟨t, rfl⟩ := r
    cases (show T = "str" from ty)
    exact ⟨typeIs_str s z t, fun _ e => nomatch e⟩
  | int i =>
    obtain ⟨t, rfl⟩ := r
    cases (show T = "int" from ty)
    exact ⟨typeIs_int s i t, fun _ e => nomatch e⟩
  | ref p =>
    cases r
    rcases ty with ⟨rfl, xs, hq⟩ | ⟨rfl, o, hk, hc, hd⟩ | ⟨rfl, hk⟩ | ⟨rfl, S, n, hk⟩
    · obtain ⟨its, _, pl, _⟩ := I.list hq
      refine ⟨pl.isList.typeIs, fun a e => ?_⟩
      cases e
      obtain ⟨o, n, e, c, hd, _⟩ := pl
      exact ⟨o, e, hd⟩
    · refine ⟨⟨o, I.kIn p o hk, hc⟩, fun a e => ?_⟩
      cases e
      exact ⟨o, I.kIn _ o hk, hd⟩
    · have z : ∃ o, s.heap.get? p = some o ∧ o.ExactDict := by
        rcases hk with ⟨kvs, hk⟩ | ⟨kvs, hk⟩
        · obtain ⟨_, _, _, _, o, _, _, e, ex, _⟩ := I.hok p _ hk
          exact ⟨o, e, ex⟩
        · obtain ⟨_, _, _, _, o, _, _, e, ex, _⟩ := I.hok p _ hk
          exact ⟨o, e, ex⟩
      obtain ⟨o, e, ex⟩ := z
      refine ⟨⟨o, e, ex.1⟩, fun a e2 => ?_⟩
      cases e2
      exact ⟨o, e, ex.2.1⟩
    · obtain ⟨o, _, _, _, e, ex, _⟩ := I.hok p _ hk
      refine ⟨⟨o, e, ex.1⟩, fun a e2 => ?_⟩
      cases e2
      exact ⟨o, e, ex.2.1⟩
  | _ => exact False.elim ty
def tBM (K : PySem.W.Frag) (T : String) (r : V → List V → Hp → VK → Prop) (to : TE) (t : TA) : TE := fun σ H Q => to σ H fun x H1 => tyV K T x H1 ∧ t σ H1 fun xs H2 => r x xs H2 Q
variable {o e : Expr} {es : List Expr} {to : TE} {t : TA} {name : Str} {apos cpos : Pos} {T id : String} {r : V → List V → Hp → VK → Prop}
theorem pe_bm (pa : PlainAttrs T) (slot : Slot T name id) (hty : typeOf (.builtin id) = pure (.type "method_descriptor")) (hm : MtR X id r) (ho : PE X o to) (ha : PA X (e :: es) t)
    (hbase : attributeBase o name X.env (eval o X.env) = eval o X.env := by rfl)
    (hfew : ((backTo cpos (starEach (e :: es) X.env)).all (fun x => !x.1) && (backToKw cpos (keywordEach [] X.env)).all (fun x => x.1.isSome)
      && decide ((e :: es).length + ([] : List Keyword).length + (if ([] : List Keyword).isEmpty then 0 else 1) < 30)) = true := by rfl)
    (hline : (apos.endLine == cpos.line) = true := by rfl) (hs : starEach (e :: es) X.env = (false, eval e X.env) :: starEach es X.env := by rfl) (hplain : (backTo cpos (starEach es X.env)).any (·.1) = false := by rfl) :
    PE X (.Call (.Attribute o name apos) (e :: es) [] cpos) (tBM X.K T r to t) := by
  intro pins s σ H Q I h
  refine wpAny_Call_method_late hbase hfew hline rfl (thn (ho pins s σ H _ I h) fun v s1 ⟨x, H1, I1, r1, ty, q1⟩ => ?_)
  obtain ⟨h1, h2⟩ := tyV_is I1 r1 ty
  refine ⟨T, id, pa, slot, hty, h1, h2, ?_⟩
  have hA := ha cpos pins s1 σ H1 _ I1 q1
  rw [hs] at hA ⊢
  refine Calls.callWith_builtin (by show (false || (backTo cpos (starEach es X.env)).any (·.1)) = false; rw [hplain] <;> rfl) (Calls.evalArgs_plain ?_)
  exact thn hA fun us s2 ⟨vs, H2, I2, r2, q2⟩ => hm pins s2 σ H2 x vs v us Q I2 r1 r2 q2
end
end L2
namespace L2
open PySem PySem.Spec PyProof.Rows
def MtM (X : Cx) (id : String) (r : V → List V → Hp → VK → Prop) : Prop :=
  ∀ (pins : List (Addr × Obj)) (s : Shared) (σ : St) (H : Hp) (x : V) (xs : List V) (v : Value) (us : List Value) (Q : VK), Inv X pins σ H s → RelV x v → Vals xs us → r x xs H Q →
    wpAny (model X.prog X.w) X.A (call (.builtin id) (v :: us)) (EP X pins σ Q) X.xe s
theorem Vals.one : ∀ {x : V} {us : List Value}, Vals [x] us → ∃ u, us = [u] ∧ RelV x u
  | _, _, .cons r .nil => ⟨_, rfl, r⟩
theorem Vals.two : ∀ {x y : V} {us : List Value}, Vals [x, y] us → ∃ u v, us = [u, v] ∧ RelV x u ∧ RelV y v
  | _, _, _, .cons r (.cons q .nil) => ⟨_, _, rfl, r, q⟩
theorem Vals.zero : ∀ {us : List Value}, Vals [] us → us = []
  | _, .nil => rfl
theorem Vals.dropLast {xs : List V} {us : List Value} (h : Vals xs us) : Vals xs.dropLast us.dropLast := by
  induction h with
  | nil => exact .nil
  | cons r t ih =>
    cases t with
    | nil => exact .nil
    | cons q t' => exact .cons r ih
section
variable {X : Cx} {pins : List (Addr × Obj)} {σ : St} {H : Hp} {s : Shared} {l b : Addr} {xs ys zs : List V}
theorem Inv.lset {its its' : List Value} {n : Nat} {f : Array Value → Array Value} {t' : Nat} (I : Inv X pins σ H s) (hH : H l = some (.lst xs))
    (e : s.heap.get? l = some { cls := .type "list", data := .seq its.toArray n }) (hf : f its.toArray = its'.toArray) (hv : Vals ys its') (hz : ys.length ≤ sizeLine) :
    Inv X pins σ (upd H l (.lst ys)) { s with heap := s.heap.update l (Obj.mapSeq f), toks := t' } := by
  have q := PySem.IsL.update e f
  rw [hf] at q
  refine I.write (x := l) (e := l) (by rw [hH]; exact trivial) (.inl rfl) (fun b' u hb hu => (Heap.get?_update_other s.heap (Obj.mapSeq f) (Ne.symm hb)).trans hu) ⟨_, q⟩ ?_
  exact ⟨hz, its', _, hv, q⟩
theorem Inv.lnew {its : List Value} {t' : Nat} (I : Inv X pins σ H s) (hv : Vals ys its) (hz : ys.length ≤ sizeLine) :
    Inv X pins σ (upd H s.heap.objs.size (.lst ys)) { s with heap := s.heap.push { cls := .type "list", data := .seq its.toArray }, toks := t' } :=
  I.laid (fun _ _ q => Heap.get?_push_of_some _ q) (Nat.le_refl _) ⟨hz, its, 0, hv, Heap.get?_push_size _ rfl⟩
theorem Inv.fresh (I : Inv X pins σ H s) : H s.heap.objs.size = none := I.hok.fresh (Nat.le_refl _)
theorem Inv.lstM (I : Inv X pins σ H s) (hH : H l = some (.lst xs)) : xs.length ≤ sizeLine ∧ ∃ (its : List Value) (n : Nat), Vals xs its ∧ xs.length = its.length ∧ s.heap.get? l = some { cls := .type "list", data := .seq its.toArray n } := by
  obtain ⟨z, its, n, r, e⟩ := I.hok l _ hH
  exact ⟨z, its, n, r, r.length, e⟩
theorem notLongL {n : Nat} (h : n ≤ sizeLine) : Builtin.List.listTooLong n = false := by
  unfold Builtin.List.listTooLong
  exact decide_eq_false (by omega)
end
section
variable {X : Cx}
def rAppend : V → List V → Hp → VK → Prop := fun x vs H Q => ∃ l xs y, x = .ref l ∧ vs = [y] ∧ H l = some (.lst xs) ∧ xs.length < sizeLine ∧ Q .non (upd H l (.lst (xs ++ [y])))
theorem mt_append : MtM X "list.append" rAppend := by
  intro pins s σ H x vs v us Q I rx rv h
  obtain ⟨l, xs, y, rfl, rfl, hH, hz, q⟩ := h
  cases rx
  obtain ⟨u, rfl, ru⟩ := rv.one
  obtain ⟨z, its, n, r, hl, e⟩ := I.lstM hH
  refine call_meets F.slot_list_append ⟨_, e, rfl⟩ F.entry_list_append (F.args_list_append_2 _ _) (PySem.list_append l its.toArray n u (by rw [List.size_toArray]; omega)) ⟨e, ?_⟩
  refine ⟨.non, _, I.lset (its' := its ++ [u]) hH e (by simp) (r.append (.cons ru .nil)) ?_, rfl, q⟩
  rw [List.length_append, List.length_singleton]
  omega
def rExtend : V → List V → Hp → VK → Prop := fun x vs H Q => ∃ l b xs zs, x = .ref l ∧ vs = [.ref b] ∧ H l = some (.lst xs) ∧ H b = some (.lst zs) ∧ xs.length + zs.length ≤ sizeLine ∧ Q .non (upd H l (.lst (xs ++ zs)))
theorem mt_extend : MtM X "list.extend" rExtend := by
  intro pins s σ H x vs v us Q I rx rv h
  obtain ⟨l, b, xs, zs, rfl, rfl, hH, hB, hz, q⟩ := h
  cases rx
  obtain ⟨u, rfl, ru⟩ := rv.one
  cases ru
  obtain ⟨z, its, n, r, hl, e⟩ := I.lstM hH
  obtain ⟨z2, its2, n2, r2, hl2, e2⟩ := I.lstM hB
  have hsz : its.toArray.size + its2.toArray.size ≤ sizeLine := by rw [List.size_toArray, List.size_toArray]; omega
  have hlong : ¬ (!its.toArray.isEmpty && Builtin.List.listTooLong (its.toArray.size + its2.toArray.size)) = true := by
    rw [notLongL hsz, Bool.and_false]
    exact Bool.false_ne_true
  refine call_meets F.slot_list_extend ⟨_, e, rfl⟩ F.entry_list_extend (F.args_list_extend_2 _ _)
    (AutoSeq1.list_extend_list_list_0 l its.toArray n b its2.toArray n2 hlong (by rw [List.size_toArray]; omega) (by omega)) ⟨e, e2, ?_⟩
  refine ⟨.non, _, I.lset (its' := its ++ its2) hH e (by simp) (r.append r2) ?_, rfl, q⟩
  rw [List.length_append]
  omega
def rCat : R2 := fun x y H Q => ∃ l b xs zs, x = .ref l ∧ y = .ref b ∧ H l = some (.lst xs) ∧ H b = some (.lst zs) ∧ xs.length + zs.length ≤ sizeLine ∧ ∀ p, H p = none → Q (.ref p) (upd H p (.lst (xs ++ zs)))
theorem op_cat : OpR X (binaryOp .Add) rCat := by
  intro pins s σ H x y v u Q I rx ry h
  obtain ⟨l, b, xs, zs, rfl, rfl, hH, hB, hz, q⟩ := h
  cases rx
  cases ry
  obtain ⟨z, its, n, r, hl, e⟩ := I.lstM hH
  obtain ⟨z2, its2, n2, r2, hl2, e2⟩ := I.lstM hB
  refine PySem.P.add_list e e2 ?_ (by rw [List.size_toArray, List.size_toArray]; omega)
  have ea : its.toArray ++ its2.toArray = (its ++ its2).toArray := by simp
  rw [ea]
  exact ⟨.ref _, _, I.lnew (t' := s.toks) (r.append r2) (by rw [List.length_append]; omega), rfl, q _ I.fresh⟩
end
section
variable {prog : Program} {w : World} {A : Around} {E : Value → Shared → Prop} {s : Shared}
end
section
variable {X : Cx}
end
end L2
namespace Att
open PySem PySem.W PySem.Calls PyProof.Rows
theorem ints_of_wellAll {P : Params} {h : Heap} : ∀ (ns : List Int) (vs : List Value), WellAll P h vs (ns.map WData.int) → IntsAre vs ns := by
  intro ns
  induction ns with
  | nil =>
    intro vs w
    rw [List.map_nil] at w
    cases w
    exact .nil
  | cons n ns ih =>
    intro vs w
    rw [List.map_cons] at w
    cases w with
    | cons a b =>
      cases a
      exact .cons _ _ (ih _ b)
theorem script_of {l : OpenLaw} {n : Nat} (hn : l.most = some n) {P : Params} {h : Heap} {args : List WData} {vals : List Value}
    (hpre : l.row.toRowW.claim.pre args = true) (hwl : WellAll P h vals args) :
    ∃ a vs ns, vals = [Value.ref a] ∧ args = [WData.list (ns.map WData.int)] ∧ h.get? a = some { cls := .type "list", data := .seq vs.toArray } ∧ IntsAre vs ns ∧ ns.length ≤ n := by
  have hsh : WShape.hasAll [] args [.list .int] = true := (pre_splitW hpre).1
  have hc : l.pre.holds [] { args := args } = true := (pre_splitW hpre).2
  obtain ⟨d, r, rfl, h1, h2⟩ := hasAllW_cons hsh
  obtain rfl := hasAllW_nil h2
  obtain ⟨xs, rfl, h3⟩ := hasW_list h1
  obtain ⟨ns, rfl⟩ := items_int h3
  have hlen : ns.length ≤ n := by
    unfold OpenLaw.pre at hc
    have h4 : (WTm.not (.lt (.lit (.int (n : Int))) (.len (.arg 0)))).holds [] { args := [.list (ns.map .int)] } = true := by
      have h4 := (holds_andW hc).1
      rw [hn] at h4
      exact h4
    have h5 := condW_of h4 (w_not (w_lt w_lit (w_len_list (w_arg rfl))))
    rw [List.length_map] at h5
    refine Nat.le_of_not_lt fun q => ?_
    have q' : (n : Int) < ((ns.length : Nat) : Int) := by omega
    first
      | (rw [decide_eq_true q'] at h5; exact absurd h5 (by decide))
      | (simp at h5; omega)
  cases hwl with
  | cons w1 w2 =>
    cases w2
    cases w1 with
    | list ho hall => exact ⟨_, _, ns, rfl, rfl, ho, ints_of_wellAll ns _ hall, hlen⟩
theorem post_true (l : OpenLaw) (args : List WData) : l.row.toRowW.claim.post args (.bool true) args = true :=
  postW_of (r := l.row.toRowW) (X := (true == true))
    (show WShape.has [] (.bool true) .bool = true by first | rfl | decide | simp [WShape.has, WShape.arms, WShape.armsAll])
    (show (WTm.eq .res (.lit (.bool true))).value [] { args := args, res := some (.bool true), after := args } = some (.bool (true == true)) from w_eq_bool (w_res rfl) w_lit) rfl
theorem attach_call {l : OpenLaw} {n : Nat} {q : Program} {loose : List Str} {XP : (Str → Option Value) → Heap → Prop} {YP : World → Heap → Prop} {d : DefRec}
    (hn : l.most = some n) (hdf : d.params.defaults = [])
    (call : ∀ (w : World) (s₀ s₁ : Shared) (mg mb : Str → Option Value) (fa : Addr) (o : Obj) (pm cd doc : Value) (a : Addr) (vs : List Value) (ns : List Int),
      Ground q loose [] XP w s₀ mg mb s₁.heap → YP w s₁.heap →
      s₁.heap.get? fa = some o → o.data = .func (docDef d.name d.params d.body d.scope pm cd doc) → s₁.heap.CodeRec cd d.name → mg d.name = some (.ref fa) →
      s₁.heap.get? a = some { cls := .type "list", data := .seq vs.toArray } → IntsAre vs ns → ns.length ≤ n → s₁.gens = #[] →
      codeAny (model l.prog w) callerA (.call (.ref fa) ⟨[.ref a], []⟩) (fun r s' => r = .ok (.ret (.bool true)) ∧ OldK s₁.heap s'.heap ∧ s'.os = s₁.os ∧ AllBare s'.gens) s₁) :
    WalkO q loose XP YP l.row.toRowW d [] (fun f vs => PySem.call f vs) := by
  intro w s₀ s₁ mg mb G Y fa o pm cd doc dV kV ho hd hcd hD hmg hg args vals as hpre hlay hrd hwl hlo
  obtain rfl : dV = .none := Dflts.none hD hdf
  obtain rfl : kV = .none := Dflts.noKw hD
  obtain ⟨a, vs, ns, rfl, rfl, hobj, hints, hlen⟩ := script_of hn hpre hwl
  refine enter_call (codeAny_mono (call w s₀ s₁ mg mb fa o pm cd doc a vs ns G Y ho (fd_plain hd) hcd hmg hobj hints hlen hg) fun r s' hq => ?_)
  obtain ⟨rfl, h2, h3, h4⟩ := hq
  exact ⟨.inl ⟨.bool true, .bool true, [], rfl, fun _ => rfl, .bool true, post_true l _, fun _ => ⟨List.Pairwise.nil, fun _ hm => (nomatch hm)⟩⟩, h2, h3, h4⟩
section
variable {prog : Program} {w : World} {A : Around} {E : Value → Shared → Prop} {s : Shared} {K : Frag}
end
end Att
namespace L2
open PySem PySem.Spec PyProof.Rows
theorem vals_ints : ∀ {vs : List Value} {ns : List Int}, IntsAre vs ns → Vals (ns.map V.int) vs
  | _, _, .nil => .nil
  | _, _, .cons n t h => .cons ⟨t, rfl⟩ (vals_ints h)
def Only (H : Hp) : Prop := ∀ b, H b = none ∨ ∃ o xs, H b = some (.frz o (.lst xs))
theorem law_call {P : Program} {w : World} {K : PySem.W.Frag} {mg mb : Str → Option Value} {CX : CXT} {k : Nat} {fa a : Addr} {fd : FuncData} {x : Str} {sp : Sp} {s₁ : Shared} {vs : List Value} {ns : List Int}
    (KX : K.In s₁.heap) (hns : s₁.heap.Ns mainGlobals mg) (hb : s₁.heap.Ns builtinsNs mb) (hbb : ∀ x : Str, x ≠ "__name__" → mb x = bootBuiltins x) (hlim : s₁.heap.NoLimit) (hg : s₁.gens = #[])
    (ha : s₁.heap.get? a = some { cls := .type "list", data := .seq vs.toArray }) (hi : IntsAre vs ns) (hl : ns.length ≤ sizeLine) (hr : Room k callerA)
    (F : ∀ base : Heap, K.In base → base.Ns mainGlobals mg → FnOk P w K mg base CX k fa fd [x] sp) (hbind : ∀ (s : Shared) (u : Value), BindsTo s fd ⟨[u], []⟩ [(x, u)])
    (hsp : ∀ H : Hp, Only H → SqL K H a (ns.map V.int) → sp [.ref a] H (fun v _ => v = .bl true) fun _ _ _ => False)
    (hCX : ∀ H e s', CX [] H s₁ (fun _ _ _ => False) e s' → False) :
    codeAny (model P w) callerA (.call (.ref fa) ⟨[.ref a], []⟩) (fun r s' => r = .ok (.ret (.bool true)) ∧ OldK s₁.heap s'.heap ∧ s'.os = s₁.os ∧ AllBare s'.gens) s₁ := by
  have rv := vals_ints hi
  have lenV := hi.length
  -- from an abstract heap in which nothing but the script may be tracked
  have core : ∀ H : Hp, Only H → SqL K H a (ns.map V.int) → HOk P w H s₁.heap → (∀ b, H b ≠ none → b = a) → (H a ≠ none → K.lookup a = none) →
      codeAny (model P w) callerA (.call (.ref fa) ⟨[.ref a], []⟩) (fun r s' => r = .ok (.ret (.bool true)) ∧ OldK s₁.heap s'.heap ∧ s'.os = s₁.os ∧ AllBare s'.gens) s₁ := by
    intro H hO hS hok hA hK
    have base_of : ∀ {b : Addr} {o : Obj}, s₁.heap.get? b = some o → H b = none → (hidT s₁.heap H).get? b = some o := fun e n => hidT_get e n
    have noA : ∀ {b : Addr} {o : Obj} {es : Array DictEntry} {ep : Nat}, s₁.heap.get? b = some o → o.data = .dict es ep → H b = none := fun {b o es ep} e d => by
      cases q : H b with
      | none => rfl
      | some u =>
        have e' : b = a := hA b (by rw [q]; simp)
        subst e'
        rw [ha] at e; cases e
        have d' : Data.seq vs.toArray _ = Data.dict es ep := d
        cases d'
    have nsK : ∀ {b : Addr} {m : Str → Option Value}, s₁.heap.Ns b m → (hidT s₁.heap H).Ns b m := fun {b m} ⟨o, es, ep, e, d, r⟩ => ⟨o, es, ep, base_of e (noA e d), d, r⟩
    have hKb : K.In (hidT s₁.heap H) := fun b o e => base_of (KX b o e) (by
      cases q : H b with
      | none => rfl
      | some u =>
        have e' : b = a := hA b (by rw [q]; simp)
        subst e'
        rw [hK (by rw [q]; simp)] at e; cases e)
    have hM : Mod K mg (hidT s₁.heap H) := ⟨hKb, nsK hns, ⟨mb, nsK hb, hbb⟩, let ⟨mc, h1, h2⟩ := hlim; ⟨mc, nsK h1, h2⟩⟩
    have e0 : Env0 P w K mg (hidT s₁.heap H) callerA [] s₁ H := ⟨rfl, hM, fun b o e => of_hidT e, Nat.le_of_eq (hidT_size _ _), trivial, fun b hb => absurd (show b ∈ ([] : List Addr) from hb) (by simp), hok, .of_eq hg⟩
    refine codeAny_mono ((F _ hKb (nsK hns)).run callerA [] s₁ H ⟨[.ref a], []⟩ [.ref a] [.ref a] _ _ hr e0 (hbind s₁ (.ref a)) (.cons rfl .nil) (hsp H hO hS)) fun r s' h => ?_
    cases r with
    | error e => exact (hCX H e s' h).elim
    | ok fl =>
      cases fl with
      | next => exact False.elim h
      | brk => exact False.elim h
      | cont => exact False.elim h
      | ret u =>
        obtain ⟨v, H', os, bare, un, hok', r', q⟩ := h
        have q' : v = .bl true := q
        subst q'
        obtain rfl : u = Value.bool true := r'
        refine ⟨rfl, OldK.of_keep fun b o e => ?_, os, bare⟩
        cases q : H b with
        | none => exact un.keep b o e q (by intro z; exact absurd (show b ∈ ([] : List Addr) from z) (by simp)) (by simp)
        | some u =>
          rcases hO b with z | ⟨ob, xs, z⟩
          · rw [q] at z; cases z
          · have z2 := un.frzs b ob _ z
            obtain ⟨e1, _⟩ := hok b _ z
            obtain ⟨e2, _⟩ := hok' b _ z2
            rw [e] at e1; cases e1
            exact e2
  cases hk : K.lookup a with
  | some o =>
    -- the script is one of the module's own objects
    have e := KX a o hk
    rw [ha] at e
    cases e
    refine core (fun _ => none) (fun _ => .inl rfl) (.inr ⟨_, vs.toArray, _, hk, rfl, rfl, rfl, by rw [List.size_toArray, lenV]; exact hl, by simpa using rv⟩) (fun b u z => by have z' : (none : Option HO) = some u := z; cases z') (fun b z => absurd rfl z) fun z => absurd rfl z
  | none =>
    refine core (fun b => if b = a then some (.frz { cls := .type "list", data := .seq vs.toArray } (.lst (ns.map V.int))) else none) (fun b => ?_) (.inl (.inr ⟨{ cls := .type "list", data := .seq vs.toArray }, if_pos rfl⟩)) (fun b u z => ?_) (fun b z => ?_) fun _ => hk
    · by_cases hb : b = a
      · exact .inr ⟨_, _, if_pos hb⟩
      · exact .inl (if_neg hb)
    · by_cases hb : b = a
      · have z' := (if_pos hb).symm.trans z
        cases z'
        subst hb
        exact ⟨ha, by rw [List.length_map]; exact hl, vs, _, rv, ha⟩
      · have z' := (if_neg hb).symm.trans z
        cases z'
    · by_cases hb : b = a
      · exact hb
      · exact absurd (if_neg hb) z
end L2
namespace L2
open PySem PySem.Spec PyProof.Rows
theorem walk_of {l : PySem.W.OpenLaw} {n k : Nat} {q : Program} {loose : List Str} {XP : (Str → Option Value) → Heap → Prop} {YP : World → Heap → Prop} {d : DefRec} {K : Params → PySem.W.Frag} {CX : World → CXT} {sp : World → Sp} {x : Str}
    (hn : l.most = some n) (hn2 : n ≤ sizeLine) (hdf : d.params.defaults = []) (hr : Room k callerA)
    (hY : ∀ (w : World) (h : Heap), YP w h → (K w.params).In h)
    (F : ∀ (w : World) (mg : Str → Option Value) (fa : Addr) (h : Heap), (K w.params).In h → h.Ns mainGlobals mg → mg d.name = some (.ref fa) →
      ∃ fd : FuncData, (∀ (s : Shared) (u : Value), BindsTo s fd ⟨[u], []⟩ [(x, u)]) ∧
        ∀ base : Heap, (K w.params).In base → base.Ns mainGlobals mg → FnOk l.prog w (K w.params) mg base (CX w) k fa fd [x] (sp w))
    (hsp : ∀ (w : World) (H : Hp) (a : Addr) (ns : List Int), ns.length ≤ n → Only H → SqL (K w.params) H a (ns.map V.int) → sp w [.ref a] H (fun v _ => v = .bl true) fun _ _ _ => False)
    (hCX : ∀ (w : World) (H : Hp) (s : Shared) (e : Value) (s' : Shared), CX w [] H s (fun _ _ _ => False) e s' → False) :
    PySem.W.WalkO q loose XP YP l.row.toRowW d [] (fun f vs => PySem.call f vs) := by
  refine Att.attach_call hn hdf fun w s₀ s₁ mg mb fa o pm cd doc a vs ns G Y ho hd hcd hmg hobj hints hlen hg => ?_
  have KX := hY w _ Y
  obtain ⟨fd, hb, hF⟩ := F w mg fa _ KX G.T.g hmg
  exact law_call KX G.T.g G.T.b G.T.builtins G.T.nolimit hg hobj hints (Nat.le_trans hlen hn2) hr hF hb (fun H hO hS => hsp w H a ns hlen hO hS) fun H e s' => hCX w H s₁ e s'
end L2
namespace L2
open PySem PySem.Spec PyProof.Rows
def inClass (s : Stmt) (j : Nat) : Stmt := match s with
  | .ClassDef _ _ _ body _ _ _ _ _ _ _ => body.getD j (.Pass ⟨0, 0, 0, 0⟩)
  | _ => .Pass ⟨0, 0, 0, 0⟩
def defArgs (s : Stmt) : Arguments := match s with
  | .FunctionDef _ a _ _ _ _ _ _ _ _ => a
  | _ => { posonlyargs := [], args := [], vararg := none, kwonlyargs := [], kw_defaults := [], kwarg := none, defaults := [] }
def defBody (s : Stmt) : List Stmt := match s with
  | .FunctionDef _ _ b _ _ _ _ _ _ _ => b
  | _ => []
def defScope (s : Stmt) : Scope := match s with
  | .FunctionDef _ _ _ _ _ _ sc _ _ _ => sc
  | _ => { kind := .function, names := [], isGenerator := false, isCoroutine := false }
abbrev CX0 : CXT := fun _ _ _ _ _ _ => False
abbrev E0 : XK := fun _ _ _ => False
theorem pass0 {X : Cx} : Passes CX0 X E0 := fun _ _ _ _ _ _ _ h => h.elim
structure Fun (K : PySem.W.Frag) (x qual : Str) (st : Stmt) (f : Addr) (fd : FuncData) : Prop where
  ex : ∃ (oc : Value) (od : Option Addr) (kV doc pm : Value) (an : Option Addr) (cdv ct : Value) (osl : Array (Option Value)),
    fd = PySem.W.fnOf x qual (defArgs st) (defBody st) (defScope st) .none kV doc pm an cdv ct ∧ K.lookup f = some ⟨oc, od, .func fd, osl⟩ ∧ PySem.W.codeIn K cdv qual = true
  kp : PySem.W.keepIn K (.ref f) = true
section
variable {P : Program} {w : World} {K : PySem.W.Frag} {mg : Str → Option Value} {base : Heap}
theorem Fun.ok {x qual : Str} {st : Stmt} {f : Addr} {fd : FuncData} {N ps : List Str} {k : Nat} {sp : Sp} (F : Fun K x qual st f fd) (S : FnScope N ps (defScope st)) (len : ∀ vs H Q E, sp vs H Q E → vs.length = ps.length)
    (hbody : ∀ (cdv : Value) (A : Around) (outer : List Env) (s : Shared) (H : Hp) (vs : List V) (Q : VK) (E : XK), Room k (A.deeper (envOfC qual (defScope st) s.heap.objs.size f cdv)) → sp vs H Q E →
      ∃ t, PSs (cxOf CX0 P w K mg base N qual (defScope st) f cdv A outer s H E).nox (defBody st) t ∧ t { nx := fun _ H' => Q .non H', rt := Q } (start N vs) H) : FnOk P w K mg base CX0 (k + 1) f fd ps sp := by
  obtain ⟨oc, od, kV, doc, pm, an, cdv, ct, osl, rfl, lk, hcd⟩ := F.ex
  refine fn_of lk hcd S len fun A outer s H vs Q E hr hsp => ?_
  obtain ⟨t, h, q⟩ := hbody cdv A outer s H vs Q E hr hsp
  exact ⟨t, h.nox, q⟩
theorem Fun.binds {x qual : Str} {st : Stmt} {f : Addr} {fd : FuncData} {ps : List Str} (F : Fun K x qual st f fd)
    (h : ∀ (kV doc pm : Value) (an : Option Addr) (cdv ct : Value) (us : List Value), us.length = ps.length → bindArgs (PySem.W.fnOf x qual (defArgs st) (defBody st) (defScope st) .none kV doc pm an cdv ct) ⟨us, []⟩ = pure (ps.zip us)) : Binds K fd ps [] := by
  obtain ⟨oc, od, kV, doc, pm, an, cdv, ct, osl, rfl, lk, hcd⟩ := F.ex
  exact .all (h kV doc pm an cdv ct)
theorem fun_mk {x qual : Str} {st : Stmt} {f : Addr} {oc : Value} {od an : Option Addr} {osl : Array (Option Value)} {kV doc pm cdv ct : Value} (l : K.lookup f = some ⟨oc, od, .func (PySem.W.fnOf x qual (defArgs st) (defBody st) (defScope st) .none kV doc pm an cdv ct), osl⟩)
    (c : PySem.W.codeIn K cdv qual = true) (k : PySem.W.keepIn K (.ref f) = true) : Fun K x qual st f (PySem.W.fnOf x qual (defArgs st) (defBody st) (defScope st) .none kV doc pm an cdv ct) := ⟨⟨oc, od, kV, doc, pm, an, cdv, ct, osl, rfl, l, c⟩, k⟩
end
theorem hu_of {A : Around} {k : Nat} (hr : Room k A) : A.units + 1 < cLine := Nat.lt_of_le_of_lt (Nat.add_le_add_left (by decide : 1 ≤ 64) _) hr.units
section
variable {X : Cx}
theorem pv (i : Nat) {x : Str} {pos : Pos} (hN : X.N[i]? = some x := by rfl) (hv : Vis X.env.scope x := by first | exact Or.inl rfl | exact Or.inr (Or.inl rfl) | exact Or.inr (Or.inr rfl)) (hd : (x == ("__debug__" : Str)) = false := by decide)
    (hcd : (x == ("__classdict__" : Str)) = false := by decide) : PE X (.Name x pos) (tVar i) := pe_var hN hv hd hcd
end
theorem iteF {A B : Prop} (h : B) : if false = true then A else B := by
  rw [if_neg Bool.false_ne_true]
  exact h
theorem iteT {A B : Prop} (h : A) : if true = true then A else B := by
  rw [if_pos rfl]
  exact h
theorem ite2 {c A B : Prop} [Decidable c] (h1 : c → A) (h2 : ¬ c → B) : if c then A else B := by
  by_cases h : c
  · rw [if_pos h]
    exact h1 h
  · rw [if_neg h]
    exact h2 h
theorem iteNS {c A B : Prop} [Decidable c] (hc : c) (h : B) : if (!decide c) = true then A else B := by
  rw [decide_eq_true hc]
  exact iteF h
def Same (H H' : Hp) : Prop := ∀ b o, H b = some o → H' b = some o
theorem Same.refl (H : Hp) : Same H H := fun _ _ h => h
theorem Same.trans {H H1 H2 : Hp} (a : Same H H1) (b : Same H1 H2) : Same H H2 := fun c o h => b c o (a c o h)
theorem Same.free {H H' : Hp} (e : Same H H') {l : Addr} (h : H' l = Option.none) : H l = Option.none := by
  cases q : H l with
  | none => rfl
  | some o =>
    rw [e l o q] at h
    cases h
theorem Same.seq {K : PySem.W.Frag} {H H' : Hp} {a : Addr} {xs : List V} (e : Same H H') (h : SqL K H a xs) : SqL K H' a xs := by
  rcases h with (h | ⟨o, h⟩) | h
  · exact .inl (.inl (e _ _ h))
  · exact .inl (.inr ⟨o, e _ _ h⟩)
  · exact .inr h
end L2
set_option Elab.async false
set_option linter.all false
set_option maxRecDepth 100000
namespace L2
open PySem PySem.Spec PyProof.Rows
theorem relabel_some {env : Env} : ∀ {names : List (Str × NameKind)} {x : Str} {k : NameKind}, names.lookup x = some k →
    ∃ k', (names.map fun (n, k) => if (k == NameKind.free && env.scope.kind == .function && env.kindOf n == some .cell) then (n, NameKind.cell) else (n, k)).lookup x = some k' ∧ (k' = k ∨ (k = .free ∧ k' = .cell))
  | [], _, _, h => by simp at h
  | (n, k0) :: r, x, k, h => by
    have ih := @relabel_some env r x k
    show ∃ k', List.lookup x ((if (k0 == NameKind.free && env.scope.kind == .function && env.kindOf n == some .cell) = true then (n, NameKind.cell) else (n, k0)) :: _) = some k' ∧ _
    cases hx : x == n with
    | true =>
      simp only [List.lookup_cons, hx] at h
      cases h
      by_cases hc : (k0 == NameKind.free && env.scope.kind == .function && env.kindOf n == some .cell) = true
      · rw [if_pos hc]
        refine ⟨.cell, by simp only [List.lookup_cons, hx], .inr ⟨?_, rfl⟩⟩
        have q : (k0 == NameKind.free) = true := by
          rw [Bool.and_eq_true, Bool.and_eq_true] at hc
          exact hc.1.1
        cases k0 <;> first | rfl | exact absurd q (by decide)
      · rw [if_neg hc]
        exact ⟨k0, by simp only [List.lookup_cons, hx], .inl rfl⟩
    | false =>
      simp only [List.lookup_cons, hx] at h
      obtain ⟨k', e, q⟩ := ih h
      by_cases hc : (k0 == NameKind.free && env.scope.kind == .function && env.kindOf n == some .cell) = true
      · rw [if_pos hc]; exact ⟨k', by simp only [List.lookup_cons, hx]; exact e, q⟩
      · rw [if_neg hc]; exact ⟨k', by simp only [List.lookup_cons, hx]; exact e, q⟩
theorem relabel_none {env : Env} : ∀ {names : List (Str × NameKind)} {x : Str}, names.lookup x = none →
    (names.map fun (n, k) => if (k == NameKind.free && env.scope.kind == .function && env.kindOf n == some .cell) then (n, NameKind.cell) else (n, k)).lookup x = none
  | [], _, _ => rfl
  | (n, k0) :: r, x, h => by
    have ih := @relabel_none env r x
    show List.lookup x ((if (k0 == NameKind.free && env.scope.kind == .function && env.kindOf n == some .cell) = true then (n, NameKind.cell) else (n, k0)) :: _) = none
    cases hx : x == n with
    | true => simp only [List.lookup_cons, hx] at h; cases h
    | false =>
      simp only [List.lookup_cons, hx] at h
      by_cases hc : (k0 == NameKind.free && env.scope.kind == .function && env.kindOf n == some .cell) = true
      · rw [if_pos hc]; simp only [List.lookup_cons, hx]; exact ih h
      · rw [if_neg hc]; simp only [List.lookup_cons, hx]; exact ih h
theorem closure_go {env : Env} : ∀ (names : List (Str × NameKind)) (cs : List (Str × Addr)), (∀ y ∈ names, y.2 = NameKind.free → ∃ c, env.cells.lookup y.1 = some c) →
    (∀ y c, cs.lookup y = some c → env.cells.lookup y = some c) →
    ∃ cl, (forIn names cs fun x r => (match x with
      | (name, kind) => if (kind == NameKind.free) = true then (do let a ← cellOf env name; pure (ForInStep.yield ((name, a) :: r))) else pure (ForInStep.yield r)) : Sem (List (Str × Addr))) = pure cl ∧
      (∀ y c, cl.lookup y = some c → env.cells.lookup y = some c) ∧ (∀ y, ((∃ c, cs.lookup y = some c) ∨ (y, NameKind.free) ∈ names) → ∃ c, cl.lookup y = some c)
  | [], cs, _, h => ⟨cs, by simp, h, fun y q => q.elim id fun z => absurd z (by simp)⟩
  | (n, k) :: r, cs, hf, h => by
    by_cases hk : (k == NameKind.free) = true
    · have hk' : k = NameKind.free := by cases k <;> first | rfl | exact absurd hk (by decide)
      obtain ⟨c, hc⟩ := hf (n, k) List.mem_cons_self hk'
      have h' : ∀ y c', ((n, c) :: cs).lookup y = some c' → env.cells.lookup y = some c' := fun y c' e => by
        cases hy : y == n with
        | true =>
          simp only [List.lookup_cons, hy] at e
          cases e
          have : y = n := by simpa using hy
          rw [this]; exact hc
        | false =>
          simp only [List.lookup_cons, hy] at e
          exact h y c' e
      obtain ⟨cl, e, q1, q2⟩ := closure_go r ((n, c) :: cs) (fun y hy => hf y (List.mem_cons_of_mem _ hy)) h'
      refine ⟨cl, ?_, q1, fun y q => q2 y ?_⟩
      · rw [List.forIn_cons]
        have ec : cellOf env n = pure c := by unfold cellOf; rw [hc]
        simp only [hk, if_true, ec, pure_bind]
        exact e
      · rcases q with ⟨c', q⟩ | q
        · left
          cases hy : y == n with
          | true => exact ⟨c, by simp only [List.lookup_cons, hy]⟩
          | false => exact ⟨c', by simp only [List.lookup_cons, hy]; exact q⟩
        · rcases List.mem_cons.mp q with z | z
          · cases z
            left
            exact ⟨c, by simp [List.lookup_cons]⟩
          · exact .inr z
    · obtain ⟨cl, e, q1, q2⟩ := closure_go r cs (fun y hy => hf y (List.mem_cons_of_mem _ hy)) h
      refine ⟨cl, ?_, q1, fun y q => q2 y ?_⟩
      · rw [List.forIn_cons]
        simp only [hk, if_false, pure_bind]
        exact e
      · rcases q with q | q
        · exact .inl q
        · rcases List.mem_cons.mp q with z | z
          · cases z
            exact absurd rfl hk
          · exact .inr z
theorem closure_of {scope : Scope} {env : Env} (h : ∀ y ∈ scope.names, y.2 = NameKind.free → ∃ c, env.cells.lookup y.1 = some c) :
    ∃ cl, closureFor scope env = pure cl ∧ (∀ y c, cl.lookup y = some c → env.cells.lookup y = some c) ∧ (∀ y, (y, NameKind.free) ∈ scope.names → ∃ c, cl.lookup y = some c) := by
  obtain ⟨cl, e, q1, q2⟩ := closure_go (env := env) scope.names [] h (fun y c e => by simp at e)
  refine ⟨cl, ?_, q1, fun y hy => q2 y (.inr hy)⟩
  unfold closureFor
  dsimp only
  rw [show (forIn scope.names ([] : List (Str × Addr)) fun x r => (match x with
      | (name, kind) => if (kind == NameKind.free) = true then (do let a ← cellOf env name; pure (ForInStep.yield ((name, a) :: r))) else pure (ForInStep.yield r)) : Sem (List (Str × Addr))) = pure cl from e]
  rfl
end L2
set_option Elab.async false
set_option linter.all false
set_option maxRecDepth 100000
namespace L2
open PySem PySem.Spec PyProof.Rows
section
variable {prog : Program} {w : World} {A : Around} {R : Result → Shared → Prop} {s : Shared}
theorem compLoop_gen {elt target iter : Expr} {ifs : List Expr} {scope : Scope} {pos : Pos} {it acc : Value} {env : Env} (Iv : Nat → Shared → Prop)
    (turn : ∀ n s, Iv n s → wpAny (model prog w) A (pyNext it) (fun r s₁ => match r with
      | none => R (.ok .next) s₁
      | some v => wpAny (model prog w) A (letOwnedTupleGo target it v) (fun _ s₁' => wpAny (model prog w) A (assign target env v) (fun _ s₂ =>
          wpAny (model prog w) A (forIn ifs true fun c r => if r = true then do let ok ← isTrue c env (eval c env); pure (ForInStep.yield ok) else pure (ForInStep.yield r)) (fun ok s₃ =>
            if ok = true then wpAny (model prog w) A (eval elt env) (fun x s₄ =>
              wpAny (model prog w) A (call (.builtin "list.append") [acc, x]) (fun _ s₅ => ∃ m, m < n ∧ Iv m s₅) (fun _ _ => False) s₄) (fun _ _ => False) s₃
            else ∃ m, m < n ∧ Iv m s₃) (fun _ _ => False) s₂) (fun _ _ => False) s₁') (fun _ _ => False) s₁) (fun _ _ => False) s)
    (n : Nat) (h : Iv n s) :
    codeAny (model prog w) A (.compLoop (.ListComp elt [⟨target, iter, ifs, 0⟩] scope pos) 0 it acc env) R s := by
  refine codeAny_loop rfl Iv (fun n s hI => ?_) n h
  show wpAny _ A ((compTurn (.ListComp elt [⟨target, iter, ifs, 0⟩] scope pos) 0 it acc env).onRaise (fun x => do noteFrame x env; theTreesLotGoes x)) _ _ s
  refine wpAny_noted ?_
  rw [compTurn_list]
  refine wpAny_bind (wpAny_standAt (wpAny_bind (wpAny_mono (turn n s hI) (fun r s₁ h₁ => ?_) fun _ _ z => z.elim)))
  cases r with
  | none => exact wpAny_pure h₁
  | some v =>
    refine wpAny_bind (wpAny_mono h₁ (fun _ s₁' h₁' => ?_) fun _ _ z => z.elim)
    refine wpAny_bind (wpAny_mono h₁' (fun _ s₂ h₂ => wpAny_bind (wpAny_mono h₂ (fun ok s₃ h₃ => ?_) fun _ _ z => z.elim)) fun _ _ z => z.elim)
    cases ok with
    | false => exact wpAny_pure ⟨rfl, h₃⟩
    | true =>
      exact wpAny_bind (wpAny_bind (wpAny_mono h₃ (fun x s₄ h₄ => wpAny_bind (wpAny_mono h₄ (fun _ s₅ h₅ => wpAny_pure (wpAny_pure ⟨rfl, h₅⟩)) fun _ _ z => z.elim)) fun _ _ z => z.elim))
end
def inSt (M : List (Option Nat)) (σ : St) : St := M.map fun o => o.bind fun j => (σ[j]?).join
theorem inSt_length (M : List (Option Nat)) (σ : St) : (inSt M σ).length = M.length := by unfold inSt; rw [List.length_map]
theorem inSt_get {M : List (Option Nat)} {σ : St} {i : Nat} {v : V} (h : (inSt M σ)[i]? = some (some v)) : ∃ j, M[i]? = some (some j) ∧ σ[j]? = some (some v) := by
  unfold inSt at h
  rw [List.getElem?_map] at h
  cases e : M[i]? with
  | none => rw [e] at h; cases h
  | some o =>
    rw [e] at h
    cases o with
    | none => cases h
    | some j =>
      refine ⟨j, rfl, ?_⟩
      have h' : (σ[j]?).join = some v := Option.some.inj h
      cases q : σ[j]? with
      | none => rw [q] at h'; cases h'
      | some o2 => rw [q] at h'; cases o2 with
        | none => cases h'
        | some v2 => cases h'; rfl
def cxLc (X : Cx) (N' : List Str) (scope : Scope) (cl : List (Str × Addr)) (C : Addr) (s : Shared) (H : Hp) (fp : List Addr) : Cx :=
  { X with N := N', s₀ := s, H₀ := H, env := compEnvC scope cl C X.env, outer := X.stack, stack := X.stack, ex := fp, fn := fun _ => false, pn := [], xe := fun _ _ => False }
structure LcSc (N N' : List Str) (M : List (Option Nat)) (sc osc : Scope) : Prop where
  kind : sc.kind = .function
  len : N'.length = M.length
  cell : ∀ y ∈ sc.names, y.2 ≠ NameKind.cell
  own : ∀ y ∈ sc.names, y.2 = NameKind.local → sc.names.lookup y.1 = some NameKind.local
  fre : ∀ y ∈ sc.names, y.2 = NameKind.free → osc.names.lookup y.1 = some NameKind.cell ∨ osc.names.lookup y.1 = some NameKind.free
  at_ : ∀ (i j : Nat), M[i]? = some (some j) → ∃ y, N'[i]? = some y ∧ N[j]? = some y ∧ sc.names.lookup y = some NameKind.free
def Frm (M : List (Option Nat)) (g : TG) : Prop := ∀ v σ H Q, g v σ H Q → g v σ H fun σ' H' => Q σ' H' ∧ σ'.length = σ.length ∧ ∀ (i j : Nat), M[i]? = some (some j) → σ'[i]? = σ[i]?
theorem frm_name {M : List (Option Nat)} {i : Nat} (h : M[i]? = some none) : Frm M (gName i) := fun v σ H Q q => by
  refine ⟨q, List.length_set .., fun k j e => ?_⟩
  have : i ≠ k := by rintro rfl; rw [h] at e; cases e
  exact List.getElem?_set_ne this
def PTs (X : Cx) (ifs : List Expr) (t : TT) : Prop :=
  ∀ (pins : List (Addr × Obj)) (s : Shared) (σ : St) (H : Hp) (Q : Bool → Hp → Prop), Inv X pins σ H s → t σ H Q →
    wpAny (model X.prog X.w) X.A (forIn ifs true fun c r => if r = true then do let ok ← isTrue c X.env (eval c X.env); pure (ForInStep.yield ok) else pure (ForInStep.yield r)) (TP X pins σ Q) X.xe s
def tYes : TT := fun _ H Q => Q true H
theorem pts_nil {X : Cx} : PTs X [] tYes := fun pins s σ H Q I h => wpAny_tests_nil ⟨H, I, h⟩
theorem pts_one {X : Cx} {c : Expr} {t : TT} (h : PT X c t) : PTs X [c] t := fun pins s σ H Q I q => wpAny_tests_one (h pins s σ H Q I q)
def tLc (wi : TI) (M : List (Option Nat)) (g : TG) (tc : TT) (te : TE) (σ : St) (H : Hp) (F : List V → Hp → Prop) : Prop := wi σ H fun J H1 =>
  ∃ W : Nat → Nat → List V → Hp → Prop, (∃ m, W 0 m [] H1) ∧ ∀ i m ys H, W i m ys H → ys.length ≤ sizeLine ∧
    ((J.stop i H ∧ F ys H) ∨ (J.go i H ∧ ys.length < sizeLine ∧ ∃ N : List V → Hp → Prop, (∀ ys' H', N ys' H' → ∃ m', m' < m ∧ W (i + 1) m' ys' H') ∧ ∀ x H', J.yld i H x H' → g x (inSt M σ) H' fun σ2 H2 => tc σ2 H2 fun b H3 =>
      if b = true then te σ2 H3 fun v H4 => N (ys ++ [v]) H4 else N ys H3))
theorem lc_block {X : Cx} {N' : List Str} {M : List (Option Nat)} {scope : Scope} {cl : List (Str × Addr)} {tg elt iter : Expr} {ifs : List Expr} {pos : Pos} {g : TG} {tc : TT} {te : TE} {pins : List (Addr × Obj)} {σ : St} {H2 : Hp} {s2 : Shared}
    {it : Addr} {fp : List Addr} {tn : Nat → Heap → Prop} {J : It} {F : List V → Hp → Prop} {RR : Value → Addr → Result → Shared → Prop} {E : Value → Shared → Prop}
    (S : LcSc X.N N' M scope X.env.scope) (hc : X.calm = true) (q1 : ∀ y c, cl.lookup y = some c → X.env.cells.lookup y = some c) (q2 : ∀ y, (y, NameKind.free) ∈ scope.names → ∃ c, cl.lookup y = some c)
    (hg : ∀ C s H fp, PG (cxLc X N' scope cl C s H fp) tg g) (hf : Frm M g) (ht : ∀ C s H fp, PTs (cxLc X N' scope cl C s H fp) ifs tc) (he : ∀ C s H fp, PE (cxLc X N' scope cl C s H fp) elt te)
    (I2 : Inv X pins σ H2 s2) (T : Turn X.prog X.w X.K tg J fp it tn) (st2 : tn 0 s2.heap) (f2 : ∀ b ∈ fp, FpOk X pins H2 b)
    (hw : ∃ W : Nat → Nat → List V → Hp → Prop, (∃ m, W 0 m [] H2) ∧ ∀ i m ys H, W i m ys H → ys.length ≤ sizeLine ∧
      ((J.stop i H ∧ F ys H) ∨ (J.go i H ∧ ys.length < sizeLine ∧ ∃ N : List V → Hp → Prop, (∀ ys' H', N ys' H' → ∃ m', m' < m ∧ W (i + 1) m' ys' H') ∧ ∀ x H', J.yld i H x H' → g x (inSt M σ) H' fun σ2 H2 => tc σ2 H2 fun b H3 =>
        if b = true then te σ2 H3 fun v H4 => N (ys ++ [v]) H4 else N ys H3)))
    (hend : ∀ (D C : Addr) (s' : Shared) (H' : Hp) (ys : List V), Inv X pins σ (upd H' D (.lst ys)) s' → H' D = none → s2.heap.objs.size ≤ D → s2.heap.objs.size < C → (∃ m, s'.heap.Ns C m) → (upd H' D (.lst ys)) C = none → F ys H' → RR (.ref D) C (.ok .next) s') :
    wpAny (model X.prog X.w) X.A (newList []) (fun acc s₃ => wpAny (model X.prog X.w) X.A (newFunctionEnv scope X.env.globals cl [] X.env.qual none .none (some X.env)) (fun cenv s₄ =>
      codeAny (model X.prog X.w) X.A (.compStart (.ListComp elt [⟨tg, iter, ifs, 0⟩] scope pos) 0 (.ref it) acc { cenv with scope := relabel scope X.env }) (RR acc cenv.locals) s₄) E s₃) E s2 := by
  obtain ⟨W, ⟨m0, w0⟩, turn⟩ := hw
  refine wpAny_newObj_type (wpAny_newFunctionEnv S.cell (by intro y hy; simp at hy) (fun h₁ hns₁ hsb₁ => ?_) S.kind)
  dsimp only at hns₁ hsb₁ ⊢
  generalize hG : s2.heap.push { cls := .type "list", dict := none, data := .seq ([] : List Value).toArray } = G at hns₁ hsb₁ ⊢
  generalize hD : s2.heap.objs.size = D at *
  have hC : G.objs.size = D + 1 := by rw [← hG, Heap.size_push, hD]
  generalize hCC : G.objs.size = C at *
  have DC : D < C := by rw [hC]; exact Nat.lt_succ_self _
  have lo : ∀ b o, s2.heap.get? b = some o → b < D := fun b o e => hD ▸ Heap.lt_size e
  have old : ∀ b o, s2.heap.get? b = some o → h₁.get? b = some o := fun b o e => by
    have hb := lo b o e
    exact hsb₁.extBut b o (Nat.ne_of_lt (Nat.lt_trans hb DC)) (Heap.get?_push_of_some _ (hG ▸ Heap.get?_push_of_some _ e))
  have hacc : h₁.get? D = some { cls := .type "list", data := .seq ([] : List Value).toArray } :=
    hsb₁.extBut _ _ (Nat.ne_of_lt DC) (Heap.get?_push_of_some _ (by rw [← hG, ← hD]; exact Heap.get?_push_size _ rfl))
  have fpl : ∀ b ∈ fp, b < D := fun b hb => by
    obtain ⟨o, e, _⟩ := T.obj _ _ st2 b hb
    exact lo b o e
  have cel : ∀ y c, cl.lookup y = some c → c < D := fun y c e => by
    obtain ⟨v, z⟩ := I2.cell y c (q1 y c e)
    exact hD ▸ z.lt
  generalize hX' : cxLc X N' scope cl C s2 H2 fp = X'
  have envE : X'.env = compEnvC scope cl C X.env := by rw [← hX']; rfl
  have locE : X'.env.locals = C := by rw [envE]; rfl
  have fsE : X'.fs = frs X.stack := by rw [← hX']; rfl
  have fsl : ∀ b ∈ frs X.stack, b < D := fun b hb => by
    rcases List.mem_cons.mp (I2.stkSub b hb) with z | z
    · rw [z]; exact hD ▸ I2.lt
    · exact Nat.lt_of_not_le fun q => I2.nofs (hD ▸ q) z
  have relS : ∀ x k, scope.names.lookup x = some k → ∃ k', X'.env.kindOf x = some k' ∧ (k' = k ∨ (k = .free ∧ k' = .cell)) := fun x k e => by
    obtain ⟨k', e', q⟩ := relabel_some (env := X.env) e
    exact ⟨k', by rw [envE]; exact e', q⟩
  have relN : ∀ x, scope.names.lookup x = none → X'.env.kindOf x = none := fun x e => by
    rw [envE]; exact relabel_none (env := X.env) e
  have cellsE : X'.env.cells = cl := by rw [envE]; rfl
  have ok' : X'.Ok := by
    refine ⟨?mod, ?kind, ?glob, ?blt, ?above, ?inj, ?has, ?cab, ?hd, ?frames, ?stk, ?exf, ?bs, ?bsz, ?noex, ?exfs, ?funs, ?frf⟩
    case mod => rw [← hX']; exact I2.ok.mod
    case kind => rw [envE]; exact S.kind
    case glob => rw [envE]; exact I2.ok.glob
    case blt => rw [envE]; exact I2.ok.blt
    case above => rw [locE, ← hX']; show s2.heap.objs.size ≤ C; rw [hD]; exact Nat.le_of_lt DC
    case inj => intro x y c e1 e2; rw [cellsE] at e1 e2; exact I2.ok.inj x y c (q1 x c e1) (q1 y c e2)
    case has =>
      intro x hx
      rw [cellsE]
      cases e : scope.names.lookup x with
      | none => rw [relN x e] at hx; rcases hx with z | z <;> cases z
      | some k =>
        obtain ⟨k', e', q⟩ := relS x k e
        rw [e'] at hx
        have kf : k = .free := by
          rcases q with q | q
          · rcases hx with z | z
            · cases z; exact absurd q.symm (S.cell _ (PySem.mem_of_lookup e))
            · cases z; exact q.symm
          · exact q.1
        subst kf
        exact q2 x (PySem.mem_of_lookup e)
    case cab => intro x c h; rw [← hX'] at h; exact absurd h (by show ¬ (false = true); decide)
    case hd => rw [← hX']; exact I2.ok.hd
    case frames => rw [← hX']; exact I2.ok.frames
    case stk => rw [← hX']; exact .inl rfl
    case exf =>
      intro b hb
      have hb' : b ∈ fp := by rw [← hX'] at hb; exact hb
      refine ⟨by rw [locE]; exact Nat.ne_of_lt (Nat.lt_trans (fpl b hb') DC), fun x c e => ?_⟩
      rw [cellsE] at e
      exact (f2 b hb').2.2.2.2.1 x c (q1 x c e)
    case bs => rw [← hX']; exact I2.bs
    case bsz => rw [← hX']; exact Nat.le_trans I2.ok.bsz I2.sz
    case noex =>
      intro b o e hb
      have hb' : b ∈ fp := by rw [← hX'] at hb; exact hb
      have e' : X.base.get? b = some o := by rw [← hX'] at e; exact e
      rcases (f2 b hb').2.2.2.1 with z | z
      · exact I2.ok.noex b o e' z
      · exact absurd (Nat.lt_of_lt_of_le (Heap.lt_size e') (Nat.le_trans I2.ok.bsz z)) (Nat.lt_irrefl _)
    case exfs =>
      intro b hb
      have hb' : b ∈ fp := by rw [← hX'] at hb; exact hb
      rw [fsE]
      intro z
      rcases List.mem_cons.mp (I2.stkSub b z) with q | q
      · exact (f2 b hb').2.1 q
      · exact (f2 b hb').2.2.1 q
    case funs => rw [← hX']; exact I2.stack
    case frf => rw [fsE, ← hX']; exact I2.stkFree
  have c0 : H2 C = none := I2.hok.fresh (by rw [hD]; exact Nat.le_of_lt DC)
  have d0 : H2 D = none := I2.hok.fresh (by rw [hD]; exact Nat.le_refl _)
  have I3 : Inv X' [] (inSt M σ) H2 { s2 with heap := h₁, toks := s2.toks + ([] : List (Str × Value)).length } := by
    refine ⟨ok', ?os, ?bare, ?base, ?loc, ?cell, ?free, ?freeC, ?pin, ?hok, ?len⟩
    case os => rw [← hX']; rfl
    case bare => exact I2.bare
    case base => rw [fsE, ← hX']; exact Un.kept old
    case loc =>
      refine ⟨_, by rw [locE]; exact hns₁, fun i x v e1 e2 _ => ?_⟩
      obtain ⟨j, eM, eσ⟩ := inSt_get e2
      obtain ⟨y, n1, n2, n3⟩ := S.at_ i j eM
      have e1' : N'[i]? = some x := by rw [← hX'] at e1; exact e1
      rw [n1] at e1'; cases e1'
      have hyf : (x, NameKind.free) ∈ scope.names := PySem.mem_of_lookup n3
      have kd := S.fre _ hyf rfl
      obtain ⟨m, hn, hl⟩ := id I2.loc
      obtain ⟨u, ru, lk⟩ := hl j x v n2 eσ (kd.elim (fun z => .inr (.inl z)) fun z => .inr (.inr z))
      refine ⟨u, ru, ?_⟩
      rcases lk with ⟨k, _⟩ | ⟨k, c, ec, z⟩
      · have k' : X.env.scope.names.lookup x = some NameKind.local := k
        rcases kd with q | q <;> (rw [k'] at q; cases q)
      · obtain ⟨c', ec'⟩ := q2 x hyf
        have hcc := q1 x c' ec'
        rw [ec] at hcc; cases hcc
        obtain ⟨k', e', q⟩ := relS x _ n3
        refine .inr ⟨?_, c, by rw [cellsE]; exact ec', ?_⟩
        · rw [e']; rcases q with q | q
          · right; rw [q]
          · left; rw [q.2]
        · obtain ⟨o, ho, hd'⟩ := z
          exact ⟨o, old _ _ ho, hd'⟩
    case cell =>
      intro x c e
      rw [cellsE] at e
      obtain ⟨v, o, ho, hd'⟩ := I2.cell x c (q1 x c e)
      exact ⟨v, o, old _ _ ho, hd'⟩
    case free => rw [locE]; exact c0
    case freeC => intro x c e; rw [cellsE] at e; exact I2.freeC x c (q1 x c e)
    case pin => intro p hp; rw [← hX'] at hp; exact absurd (show p ∈ ([] : List (Addr × Obj)) from hp) (by simp)
    case hok => rw [← hX']; exact I2.hok.kept old
    case len => rw [inSt_length, ← hX']; exact S.len.symm
  have xE : ∀ (e : Value) (s' : Shared), ¬ X'.xe e s' := fun e s' z => by rw [← hX'] at z; exact z
  have progE : X'.prog = X.prog := by rw [← hX']; rfl
  have wE : X'.w = X.w := by rw [← hX']; rfl
  have KE' : X'.K = X.K := by rw [← hX']; rfl
  have AE : X'.A = X.A := by rw [← hX']; rfl
  have cE : X'.calm = true := by rw [← hX']; exact hc
  have exE : X'.ex = fp := by rw [← hX']; rfl
  have s0E : X'.s₀ = s2 := by rw [← hX']; rfl
  have pnE : X'.pn = [] := by rw [← hX']; rfl
  have hgX : PG X' tg g := by rw [← hX']; exact hg C s2 H2 fp
  have htX : PTs X' ifs tc := by rw [← hX']; exact ht C s2 H2 fp
  have heX : PE X' elt te := by rw [← hX']; exact he C s2 H2 fp
  have Dfp : D ∉ fp := fun z => Nat.lt_irrefl _ (fpl D z)
  have Dcl : ∀ x c, X'.env.cells.lookup x = some c → c ≠ D := fun x c e => by rw [cellsE] at e; exact Nat.ne_of_lt (cel x c e)
  have Dloc : D ≠ X'.env.locals := by rw [locE]; exact Nat.ne_of_lt DC
  have Dfs : D ∉ X'.fs := by rw [fsE]; exact fun z => Nat.lt_irrefl _ (fsl D z)
  have D0 : D ∈ X'.ex ∨ X'.s₀.heap.objs.size ≤ D := .inr (by rw [s0E, hD]; exact Nat.le_refl _)
  have stat : ∀ {pl : List (Addr × Obj)} {H' : Hp}, (∀ p ∈ pl, p.1 = D) → (∀ b ∈ fp, H' b = none) → ∀ b ∈ fp, FpOk X' pl H' b := fun {pl H'} hpl hn b hb => by
    refine ⟨hn b hb, by rw [locE]; exact Nat.ne_of_lt (Nat.lt_trans (fpl b hb) DC), ?_, .inl (by rw [exE]; exact hb), fun x c e => ?_, fun p hp => ?_⟩
    · exact ok'.exfs b (by rw [exE]; exact hb)
    · rw [cellsE] at e; exact (f2 b hb).2.2.2.2.1 x c (q1 x c e)
    · rw [pnE, List.nil_append] at hp
      rw [hpl p hp]; exact (Nat.ne_of_lt (fpl b hb)).symm
  have loop : codeAny (model X.prog X.w) X.A (.compLoop (.ListComp elt [⟨tg, iter, ifs, 0⟩] scope pos) 0 (.ref it) (.ref D) X'.env) (RR (.ref D) C) { s2 with heap := h₁, toks := s2.toks + ([] : List (Str × Value)).length } := by
    refine compLoop_gen (fun n s' => ∃ i ys H', Inv X' [] (inSt M σ) H' s' ∧ tn i s'.heap ∧ (∀ b ∈ fp, H' b = none) ∧ (∃ (its : List Value) (k : Nat), Vals ys its ∧ s'.heap.get? D = some { cls := .type "list", data := .seq its.toArray k }) ∧ H' D = none ∧ W i n ys H') ?_ m0
      ⟨0, [], H2, I3, T.keep _ _ _ st2 fun b hb o e => old b o e, fun b hb => (f2 b hb).1, ⟨[], 0, .nil, hacc⟩, d0, w0⟩
    rintro n s3 ⟨i, ys, H3, J3, st3, fr3, ⟨its, k, rv, hDs⟩, dn, w3⟩
    obtain ⟨hsz, hcase⟩ := turn i n ys H3 w3
    -- the list's record is pinned
    have J3' : Inv X' [(D, { cls := .type "list", data := .seq its.toArray k })] (inSt M σ) H3 s3 := J3.pins_of fun p hp => by
      have e : p = (D, { cls := .type "list", data := .seq its.toArray k }) := by simpa using hp
      subst e
      exact ⟨hDs, dn, Dloc, Dfs, fun v z => by cases z⟩
    have hpl : ∀ p ∈ [((D, { cls := .type "list", data := .seq its.toArray k }) : Addr × Obj)], p.1 = D := fun p hp => by
      have e : p = (D, { cls := .type "list", data := .seq its.toArray k }) := by simpa using hp
      rw [e]
    rcases hcase with ⟨stop, qF⟩ | ⟨go, hlt, N, hN, step⟩
    · have q := T.done X' progE wE KE' cE i _ s3 _ H3 (fun _ _ => False) J3' (stat hpl fr3) st3 stop
      rw [AE] at q
      refine thn q fun r s4 ⟨hr, J4⟩ => ?_
      subst hr
      have hD4 : s4.heap.get? D = some { cls := .type "list", data := .seq its.toArray k } := (J4.pin _ (List.mem_append_right _ (List.mem_singleton.mpr rfl))).1
      obtain ⟨mC, hnC, _⟩ := id J4.loc
      rw [locE] at hnC
      have b4 := J4.base
      rw [fsE, exE, s0E, show X'.H₀ = H2 by rw [← hX']; rfl] at b4
      refine hend D C s4 H3 ys ?_ dn (Nat.le_refl _) DC ⟨mC, hnC⟩ (by rw [upd_ne (Nat.ne_of_gt DC)]; have := J4.free; rw [locE] at this; exact this) qF
      have hok4 := J4.hok
      rw [progE, wE] at hok4
      refine I2.call' (ch := fp) (H' := upd H3 D (.lst ys)) (by rw [J4.os, s0E]) ⟨b4.keep, b4.slot, fun b o e nn hb => ?_, b4.there, fun b xs e => ?_, fun b o u e => ?_, fun b ps e => ?_⟩ ?_ J4.bare fun b hb => ?_
      · rw [upd_ne (Nat.ne_of_lt (lo b o e))]; exact b4.free b o e nn hb
      · rw [upd_ne (ne_of_none (b4.tups b xs e) dn)]; exact b4.tups b xs e
      · rw [upd_ne (ne_of_none (b4.frzs b o u e) dn)]; exact b4.frzs b o u e
      · obtain ⟨more, e'⟩ := b4.tbls b ps e
        exact ⟨more, by rw [upd_ne (ne_of_none e' dn)]; exact e'⟩
      · intro b u e
        by_cases hb : b = D
        · subst hb
          rw [upd_same] at e; cases e
          exact ⟨hsz, its, k, rv, hD4⟩
        · rw [upd_ne hb] at e
          exact (hok4 b u e).stay (fun c v _ q => q) (fun c q => by rw [upd_ne (ne_of_none q dn)]; exact q) fun c xs q => by rw [upd_ne (ne_of_none q dn)]; exact q
      · obtain ⟨f0, f1, f3, f4, f5, f6⟩ := f2 b hb
        exact ⟨f4, f1, f5, f6⟩
    · have q := T.item X' progE wE KE' cE i _ s3 _ H3 (fun _ _ => False) J3' (stat hpl fr3) st3 go
      rw [AE] at q
      refine thn q fun r s4 ⟨u, hr, h4⟩ => ?_
      subst hr
      dsimp only
      refine thn h4 fun _ s5 ⟨x, H5, J5, r5, y5, st5, fr5⟩ => ?_
      have J5' := J5.pinned (stat hpl fr5) (T.obj _ _ st5)
      have qg := hgX _ s5 (inSt M σ) H5 x u _ J5' r5 (hf _ _ _ _ (step x H5 y5))
      rw [progE, wE, AE] at qg
      refine wpAny_mono qg (fun _ s6 h6 => ?_) fun e s' z => xE e s' z
      obtain ⟨σ6, H6, J6, q6, l6, k6⟩ := h6
      have qt := htX _ s6 σ6 H6 _ J6 q6
      rw [progE, wE, AE] at qt
      refine wpAny_mono qt (fun b s7 h7 => ?_) fun e s' z => xE e s' z
      obtain ⟨H7, J7, q7⟩ := h7
      have fin : ∀ {ys' : List V} {σ8 : St} {H8 : Hp} {s8 : Shared}, σ8 = σ6 → Inv X' ([(D, { cls := .type "list", data := .seq its.toArray k })] ++ pinsAt fp s5.heap) σ8 H8 s8 →
          s8.heap.get? D = some { cls := .type "list", data := .seq its.toArray k } ∧ H8 D = none ∧ tn (i + 1) s8.heap ∧ (∀ b ∈ fp, H8 b = none) ∧ Inv X' [] (inSt M σ) H8 s8 := fun {ys' σ8 H8 s8} e8 J8 => by
        subst e8
        obtain ⟨p1, p2, _⟩ := J8.pin _ (List.mem_append_right _ (List.mem_append_left _ (List.mem_singleton.mpr rfl)))
        refine ⟨p1, p2, T.keep _ _ _ st5 fun b hb o e => (J8.pin (b, o) (List.mem_append_right _ (List.mem_append_right _ (mem_pinsAt hb e)))).1, fun b hb => ?_, ?_⟩
        · obtain ⟨o, e, d⟩ := T.obj _ _ st5 b hb
          exact (J8.pin (b, o) (List.mem_append_right _ (List.mem_append_right _ (mem_pinsAt hb e)))).2.1
        · have J9 : Inv X' [] σ8 H8 s8 := J8.pins_of fun p hp => absurd hp (by simp)
          refine J9.weak (l6.symm) fun a v e => ?_
          obtain ⟨j, eM, _⟩ := inSt_get e
          rw [k6 a j eM]; exact e
      cases b with
      | false =>
        rw [if_neg (by decide)] at q7
        rw [if_neg (by decide)]
        obtain ⟨m', hm, w7⟩ := hN _ _ q7
        obtain ⟨a1, a2, a3, a4, a5⟩ := fin (ys' := ys) rfl J7
        exact ⟨m', hm, i + 1, ys, H7, a5, a3, a4, ⟨its, k, rv, a1⟩, a2, w7⟩
      | true =>
        rw [if_pos rfl] at q7
        rw [if_pos rfl]
        have qe := heX _ s7 σ6 H7 _ J7 q7
        rw [progE, wE, AE] at qe
        refine wpAny_mono qe (fun v8 s8 h8 => ?_) fun e s' z => xE e s' z
        obtain ⟨y8, H8, J8, r8, n8⟩ := h8
        obtain ⟨m', hm, w8⟩ := hN _ _ n8
        obtain ⟨a1, a2, a3, a4, a5⟩ := fin (ys' := ys) rfl J8
        refine wpAny_list_append_plain (items := its.toArray) ⟨k, a1⟩ (fun h9 hl9 hs9 => ?_) (by have := rv.length; rw [List.size_toArray, ← this]; exact hsz)
        have J9 : Inv X' [] (inSt M σ) H8 { s8 with heap := h9 } := a5.turned (t' := s8.toks) (fun b o hb e => (hs9.2 b hb).trans e) a2 Dloc D0 Dcl fun p hp => by rw [pnE] at hp; exact absurd hp (by simp)
        obtain ⟨k9, e9⟩ := hl9
        refine ⟨m', hm, i + 1, ys ++ [y8], H8, J9, T.keep _ _ _ a3 fun b hb o e => (hs9.2 b (fun z => Dfp (z ▸ hb))).trans e, a4, ⟨its ++ [v8], k9, rv.append (.cons r8 .nil), ?_⟩, a2, w8⟩
        rw [show (its ++ [v8]).toArray = its.toArray.push v8 by simp]
        exact e9
  have loop' : codeAny (model X.prog X.w) X.A (.compLoop (.ListComp elt [⟨tg, iter, ifs, 0⟩] scope pos) 0 (.ref it) (.ref D) (compEnvC scope cl C X.env)) (RR (.ref D) C) { s2 with heap := h₁, toks := s2.toks + ([] : List (Str × Value)).length } := envE ▸ loop
  exact codeAny_compStart_list loop' (T.self _ 0 _ _ _ (T.keep _ _ _ st2 fun b hb o e => old b o e) loop')
end L2
set_option Elab.async false
set_option linter.all false
set_option maxRecDepth 100000
namespace L2
open PySem PySem.Spec PyProof.Rows
section
variable {X : Cx} {N' : List Str} {M : List (Option Nat)} {scope : Scope} {tg elt iter : Expr} {ifs : List Expr} {pos : Pos} {g : TG} {tc : TT} {te : TE} {wi : TI}
theorem lc_clos {pins : List (Addr × Obj)} {σ : St} {H : Hp} {s : Shared} (S : LcSc X.N N' M scope X.env.scope) (I : Inv X pins σ H s) :
    ∃ cl, closureFor scope X.env = pure cl ∧ (∀ y c, cl.lookup y = some c → X.env.cells.lookup y = some c) ∧ (∀ y, (y, NameKind.free) ∈ scope.names → ∃ c, cl.lookup y = some c) :=
  closure_of fun y hy hk => I.ok.has y.1 (S.fre y hy hk)
theorem Inv.gone {pins : List (Addr × Obj)} {σ : St} {H : Hp} {s s' : Shared} {C : Addr} {h' : Heap} (I : Inv X pins σ H s) (hs : Heap.SameBut C s.heap h') (hn : H C = none) (hC : C ≠ X.env.locals) (h1 : X.s₀.heap.objs.size ≤ C)
    (h2 : ∀ x c, X.env.cells.lookup x = some c → c ≠ C) (h3 : ∀ p ∈ X.pn ++ pins, p.1 ≠ C) : Inv X pins σ H { s with heap := h' } :=
  I.turned (t' := s.toks) (fun b o hb e => (hs.2 b hb).trans e) hn hC (.inr h1) h2 h3
theorem Inv.young {pins : List (Addr × Obj)} {σ : St} {H : Hp} {s : Shared} {C : Addr} (I : Inv X pins σ H s) (h : s.heap.objs.size ≤ C) :
    C ≠ X.env.locals ∧ X.s₀.heap.objs.size ≤ C ∧ (∀ x c, X.env.cells.lookup x = some c → c ≠ C) ∧ ∀ p ∈ X.pn ++ pins, p.1 ≠ C := by
  refine ⟨(Nat.ne_of_lt (Nat.lt_of_lt_of_le I.lt h)).symm, Nat.le_trans I.sz h, fun x c e => ?_, fun p hp => ?_⟩
  · obtain ⟨v, z⟩ := I.cell x c e
    exact Nat.ne_of_lt (Nat.lt_of_lt_of_le z.lt h)
  · exact Nat.ne_of_lt (Nat.lt_of_lt_of_le (Heap.lt_size (I.pin p hp).1) h)
theorem pe_lc (S : LcSc X.N N' M scope X.env.scope) (hc : X.calm = true) (hi : PI X tg iter wi) (hg : ∀ cl C s H fp, PG (cxLc X N' scope cl C s H fp) tg g) (hf : Frm M g)
    (ht : ∀ cl C s H fp, PTs (cxLc X N' scope cl C s H fp) ifs tc) (he : ∀ cl C s H fp, PE (cxLc X N' scope cl C s H fp) elt te)
    (hs : ∀ x, foldedSetIterable iter X.env x = pure x := by intro _; rfl) :
    PE X (.ListComp elt [⟨tg, iter, ifs, 0⟩] scope pos) (fun σ H Q => tLc wi M g tc te σ H fun ys H' => ∀ p, H' p = none → Q (.ref p) (upd H' p (.lst ys))) := by
  intro pins s σ H Q I h
  obtain ⟨cl, hclos, q1, q2⟩ := lc_clos S I
  rw [eval_ListComp]
  refine wpAny_comprehension_free (use := none) rfl hs hclos S.kind S.own (thn (hi pins s σ H _ I h) fun v s1 h1 => thn h1 fun itv s2 h2 => ?_)
  obtain ⟨it, fp, tn, J, H2, e, I2, T, st2, f2, hw⟩ := h2
  subst e
  refine lc_block (RR := fun acc C => compPost (model X.prog X.w) X.A X.xe none (EP X pins σ Q) acc C) S hc q1 q2 (hg cl) hf (ht cl) (he cl) I2 T st2 f2 hw ?_
  intro D C s' H' ys I' dn hD hC ⟨m, hn⟩ hCn q
  obtain ⟨y1, y2, y3, y4⟩ := I2.young (Nat.le_of_lt hC)
  exact ⟨m, hn, fun h' hs' => ⟨.ref D, _, I'.gone (s' := s') hs' hCn y1 y2 y3 y4, rfl, q D dn⟩⟩
theorem ps_lc {i : Nat} {x : Str} {pos' spos : Pos} (hN : X.N.Nodup) (hi : X.N[i]? = some x) (hx : X.env.scope.names.lookup x = some NameKind.local)
    (S : LcSc X.N N' M scope X.env.scope) (hc : X.calm = true) (hit : PI X tg iter wi) (hg : ∀ cl C s H fp, PG (cxLc X N' scope cl C s H fp) tg g) (hf : Frm M g)
    (ht : ∀ cl C s H fp, PTs (cxLc X N' scope cl C s H fp) ifs tc) (he : ∀ cl C s H fp, PE (cxLc X N' scope cl C s H fp) elt te)
    (hsw : swapsWith (.ListComp elt [⟨tg, iter, ifs, 0⟩] scope pos) (some (.Name x pos')) spos.line X.env = pure true := by rfl)
    (hs : ∀ x, foldedSetIterable iter X.env x = pure x := by intro _; rfl) :
    PS X (.Assign [.Name x pos'] (.ListComp elt [⟨tg, iter, ifs, 0⟩] scope pos) spos) (fun D σ H => tLc wi M g tc te σ H fun ys H' => ∀ p, H' p = none → D.nx (σ.set i (some (.ref p))) (upd H' p (.lst ys))) := by
  intro pins s σ H Dn I h
  obtain ⟨cl, hclos, q1, q2⟩ := lc_clos S I
  rw [exec_Assign_Name_used _ _ _ _ hsw]
  refine wpAny_bind (wpAny_standAt (wpAny_bind ?_))
  show wpAny _ X.A (do let _ ← comprehension (.ListComp elt [⟨tg, iter, ifs, 0⟩] scope pos) scope X.env _ (newList []) false (eval iter X.env) (some (assign (.Name x pos') X.env))) _ _ s
  refine wpAny_bind (wpAny_mono (wpAny_comprehension_free (use := some (assign (.Name x pos') X.env)) (Q := fun _ s' => SP X pins Dn .next s') rfl hs hclos S.kind S.own
    (thn (hit pins s σ H _ I h) fun v s1 h1 => thn h1 fun itv s2 h2 => ?_)) (fun _ s' hq => wpAny_pure (wpAny_pure hq)) fun _ _ e => e)
  obtain ⟨it, fp, tn, J, H2, e, I2, T, st2, f2, hw⟩ := h2
  subst e
  refine lc_block (RR := fun acc C => compPost (model X.prog X.w) X.A X.xe (some (assign (.Name x pos') X.env)) (fun _ s' => SP X pins Dn .next s') acc C) S hc q1 q2 (hg cl) hf (ht cl) (he cl) I2 T st2 f2 hw ?_
  intro D C s' H' ys I' dn hD hC ⟨m, hn⟩ hCn q
  obtain ⟨y1, y2, y3, y4⟩ := I2.young (Nat.le_of_lt hC)
  show wpAny _ X.A (assign (.Name x pos') X.env (.ref D)) _ _ s'
  refine wpAny_assign_Name (store_ok2 I' hN hi (.inl hx) (v := .ref D) rfl (fun s'' I'' ⟨a, hsb, ha⟩ => ?_) (.inr hx))
  have hCa : C ≠ a := by
    rcases ha with z | z
    · rw [z]; exact y1
    · exact (y3 x a z).symm
  exact ⟨m, hn.sameBut hsb hCa, fun h' hs' => ⟨_, _, I''.gone (s' := s'') hs' hCn y1 y2 y3 y4, q D dn⟩⟩
end
end L2
set_option Elab.async false
set_option linter.all false
set_option maxRecDepth 100000
namespace L2
open PySem PySem.Spec PyProof.Rows
theorem Same.seqT {K : PySem.W.Frag} {H H' : Hp} {a : Addr} {xs : List V} (e : Same H H') (h : SqT K H a xs) : SqT K H' a xs := by
  rcases h with (h | ⟨o, h⟩) | h
  · exact .inl (.inl (e _ _ h))
  · exact .inl (.inr ⟨o, e _ _ h⟩)
  · exact .inr h
theorem Same.new {H : Hp} {p : Addr} {o : HO} (h : H p = none) : Same H (upd H p o) := fun b u e => by rw [upd_ne (ne_of_none e h)]; exact e
theorem Same.new2 {H H1 : Hp} {p : Addr} {o : HO} (e : Same H H1) (h : H1 p = none) : Same H (upd H1 p o) := e.trans (Same.new h)
theorem Same.put {H H1 : Hp} {p : Addr} {o : HO} (e : Same H H1) (h : H p = none) : Same H (upd H1 p o) := fun b u q => by rw [upd_ne (ne_of_none q h)]; exact e b u q
section
variable {X : Cx}
theorem op_mulW : OpR X (binaryOp .Mult) (rI IntMulOk fun i j => .int (i * j)) := opI fun _ _ _ _ _ _ _ hc q => mul_int q hc
def CDivW (i j : Int) : Prop := 0 < j ∧ j.natAbs.log2 < 9000
theorem op_fdivW : OpR X (binaryOp .FloorDiv) (rI CDivW fun i j => .int (i / j)) := opI fun i j _ _ _ _ _ hc q => by
  have e : i.fdiv j = i / j := Int.fdiv_eq_ediv_of_nonneg i (Int.le_of_lt hc.1)
  exact floordiv_int (Int.ne_of_gt hc.1) (by rw [e]; exact q) (.inl (PyProof.noPylong_of_log2 hc.2))
theorem mulOk_r {a b : Int} (h : -(2 ^ 64) < b ∧ b < 2 ^ 64) : IntMulOk a b := CMul.ok (.inr h)
theorem old_keptT {s : Shared} {l : Addr} {h' : Heap} (hk : ∀ b o, b ∉ [s.heap.objs.size] → (s.heap.push { cls := .type "tuple_iterator", data := .fields #[.ref l, .int 0 0] }).get? b = some o → h'.get? b = some o) :
    ∀ b o, s.heap.get? b = some o → h'.get? b = some o := fun b o e => hk b o (fun hm => absurd (Heap.lt_size e) (by rw [List.mem_singleton.mp hm]; exact Nat.lt_irrefl _)) (Heap.get?_push_of_some _ e)
theorem seq_walk {pins : List (Addr × Obj)} {σ : St} {H : Hp} {s : Shared} {a : Addr} {xs : List V} {A : Around} {E : Value → Shared → Prop} {Q : Value → Shared → Prop} (I : Inv X pins σ H s) (hh : A.handled = none) (hq : SqL X.K H a xs ∨ SqT X.K H a xs)
    (h : ∀ (its : List Value) (I' : Addr) (fp wr : List Addr) (St' : Nat → Heap → Prop) (s2 : Shared), Vals xs its → Walks X.prog X.w A I' fp wr its.toArray.size (fun i v => its.toArray[i]? = some v) St' → St' 0 s2.heap → (∀ b ∈ fp, b < s2.heap.objs.size) →
      s2.toks = s.toks → s2.os = s.os → s2.gens = s.gens → s2.drawn = s.drawn → (∀ h' tk, (∀ b o, b ∉ wr → s2.heap.get? b = some o → h'.get? b = some o) → Inv X pins σ H { s2 with heap := h', toks := tk }) → Q (.ref I') s2) :
    wpAny (model X.prog X.w) A (pyIter (.ref a)) Q E s := by
  rcases hq with hq | hq
  · obtain ⟨its, rv, p, hz⟩ := I.list hq
    obtain ⟨o, ho, _⟩ := id p.isList
    have hlt := Heap.lt_size ho
    refine wpAny_pyIter_list p.isList (h its s.heap.objs.size [s.heap.objs.size, a] [s.heap.objs.size] _ _ rv (Walks.list hh _ a (Nat.ne_of_lt hlt) its.toArray) ⟨⟨_, Heap.get?_push_size _ rfl, rfl, rfl⟩, p.isList.push _⟩ (fun b hb => ?_) rfl rfl rfl rfl fun h' tk hk => ?_)
    · show b < (s.heap.push _).objs.size
      rw [Heap.size_push]
      rcases List.mem_cons.mp hb with rfl | hb
      · exact Nat.lt_succ_self _
      · rw [List.mem_singleton.mp hb]; exact Nat.lt_succ_of_lt hlt
    · exact I.kept (t' := tk) (old_kept hk)
  · obtain ⟨its, rv, p, hz⟩ := I.tuple hq
    obtain ⟨o, ho, _⟩ := id p
    have hlt := Heap.lt_size ho
    have p' : s.heap.IsTuple a its.toArray := p
    refine wpAny_pyIter_tuple p' (h its s.heap.objs.size [s.heap.objs.size, a] [s.heap.objs.size] _ _ rv (Walks.tuple hh _ a (Nat.ne_of_lt hlt) its.toArray) ⟨⟨_, Heap.get?_push_size _ rfl, rfl, rfl⟩, p'.push _⟩ (fun b hb => ?_) rfl rfl rfl rfl fun h' tk hk => ?_)
    · show b < (s.heap.push _).objs.size
      rw [Heap.size_push]
      rcases List.mem_cons.mp hb with rfl | hb
      · exact Nat.lt_succ_self _
      · rw [List.mem_singleton.mp hb]; exact Nat.lt_succ_of_lt hlt
    · exact I.kept (t' := tk) (old_keptT hk)
theorem vals_int_at {ns : List Int} {its : List Value} (r : Vals (ns.map V.int) its) {i : Nat} {v : Value} (h : its.toArray[i]? = some v) : ∃ t, v = .int (ns.getD i 0) t ∧ i < ns.length := by
  have h' : its[i]? = some v := by simpa using h
  have hl := r.length
  rw [List.length_map] at hl
  have hi : i < ns.length := by rw [hl]; exact (List.getElem?_eq_some_iff.mp h').1
  obtain ⟨u, hu, ru⟩ := r.get (i := i) (x := V.int (ns[i])) (by rw [List.getElem?_map, List.getElem?_eq_getElem hi]; rfl)
  rw [hu] at h'; cases h'
  obtain ⟨t, rfl⟩ := ru
  exact ⟨t, by rw [List.getD_eq_getElem?_getD, List.getElem?_eq_getElem hi]; rfl, hi⟩
def IsMax (ns : List Int) (m : Int) : Prop := m ∈ ns ∧ ∀ a ∈ ns, a ≤ m
theorem getD_mem' {ns : List Int} {i : Nat} (h : i < ns.length) : ns.getD i 0 ∈ ns := by
  rw [List.getD_eq_getElem?_getD, List.getElem?_eq_getElem h]; exact List.getElem_mem h
theorem mem_getD' {ns : List Int} {a : Int} (h : a ∈ ns) : ∃ i, i < ns.length ∧ ns.getD i 0 = a := by
  obtain ⟨i, hi, e⟩ := List.mem_iff_getElem.mp h
  exact ⟨i, hi, by rw [List.getD_eq_getElem?_getD, List.getElem?_eq_getElem hi]; exact e⟩
theorem call_maxL (hc : X.calm = true) : CallR X (.builtin "max") (fun xs H Q => ∃ (a : Addr) (ns : List Int), xs = [.ref a] ∧ (SqL X.K H a (ns.map V.int) ∨ SqT X.K H a (ns.map V.int)) ∧ ns ≠ [] ∧ ∀ m, IsMax ns m → Q (.int m) H) := by
  intro pins s σ H xs us Q I r h
  obtain ⟨a, ns, rfl, hq, hne, q⟩ := h
  obtain ⟨u, rfl, ru⟩ := vals1 r
  cases ru
  refine call_max_walk (seq_walk I (A := X.A.in1) (I.ok.hd hc) hq fun its I' fp wr St' s2 rv W st hfp _ _ _ _ hI => ?_)
  have hlen : its.toArray.size = ns.length := by rw [List.size_toArray, ← rv.length, List.length_map]
  have hpos : 0 < ns.length := List.length_pos_iff.mpr hne
  refine ⟨_, _, _, _, _, _, _, rfl, W, st, hfp, by rw [hlen]; exact hpos, CmpOf.ints_gt (fun i => ns.getD i 0) (fun i v hv => (vals_int_at rv hv).imp fun t e => e.1), fun v h' tk hP hk => ?_⟩
  obtain ⟨t, rfl, hi⟩ := vals_int_at rv hP
  obtain ⟨h1, h2⟩ := argBest_gt (fun i => ns.getD i 0) (its.toArray.size - 1)
  refine ⟨.int _, H, hI h' tk hk, ⟨t, rfl⟩, q _ ⟨getD_mem' hi, fun b hb => ?_⟩⟩
  obtain ⟨j, hj, rfl⟩ := mem_getD' hb
  exact h2 j (by omega)
theorem call_sumL (hc : X.calm = true) : CallR X (.builtin "sum") (fun xs H Q => ∃ (a : Addr) (ns : List Int), xs = [.ref a] ∧ (SqL X.K H a (ns.map V.int) ∨ SqT X.K H a (ns.map V.int)) ∧ Q (.int ns.sum) H) := by
  intro pins s σ H xs us Q I r h
  obtain ⟨a, ns, rfl, hq, q⟩ := h
  obtain ⟨u, rfl, ru⟩ := vals1 r
  cases ru
  refine call_sum_walkG (seq_walk I (A := X.A.in1) (I.ok.hd hc) hq fun its I' fp wr St' s2 rv W st hfp _ _ _ _ hI => ?_)
  refine ⟨_, _, _, _, _, _, fun i => ns.getD i 0, rfl, W, st, hfp, (fun i v hv => (vals_int_at rv hv).imp fun t e => e.1), fun h' tk t' hk => ?_⟩
  have hlen : its.toArray.size = ns.length := by rw [List.size_toArray, ← rv.length, List.length_map]
  refine ⟨.int _, H, hI h' tk hk, ⟨t', rfl⟩, ?_⟩
  have e : preSum (fun i => ns.getD i 0) its.toArray.size = ns.sum := by
    rw [hlen]
    have gen : ∀ n, n ≤ ns.length → preSum (fun i => ns.getD i 0) n = (ns.take n).sum := by
      intro n
      induction n with
      | zero => intro _; rfl
      | succ n ih =>
        intro hn
        have e1 : preSum (fun i => ns.getD i 0) (n + 1) = preSum (fun i => ns.getD i 0) n + ns.getD n 0 := rfl
        have hn' : n < ns.length := hn
        have e2 : ns.take (n + 1) = ns.take n ++ [ns[n]] := by simp
        rw [e1, ih (by omega), e2, List.getD_eq_getElem?_getD, List.getElem?_eq_getElem hn', List.sum_append]
        simp
    rw [gen _ (Nat.le_refl _), List.take_length]
  rw [e]; exact q
theorem vals_bl_at {bs : List Bool} {its : List Value} (r : Vals (bs.map V.bl) its) {i : Nat} {v : Value} (h : its.toArray[i]? = some v) : v = .bool (bs.getD i true) ∧ i < bs.length := by
  have h' : its[i]? = some v := by simpa using h
  have hl := r.length
  rw [List.length_map] at hl
  have hi : i < bs.length := by rw [hl]; exact (List.getElem?_eq_some_iff.mp h').1
  obtain ⟨u, hu, ru⟩ := r.get (i := i) (x := V.bl (bs[i])) (by rw [List.getElem?_map, List.getElem?_eq_getElem hi]; rfl)
  rw [hu] at h'; cases h'
  cases (show v = Value.bool (bs[i]) from ru)
  exact ⟨by rw [List.getD_eq_getElem?_getD, List.getElem?_eq_getElem hi]; rfl, hi⟩
theorem range_all (bs : List Bool) (d : Bool) : (List.range bs.length).all (fun i => bs.getD i d) = bs.all id := by
  rw [Bool.eq_iff_iff, List.all_eq_true, List.all_eq_true]
  constructor
  · intro h b hb
    obtain ⟨i, hi, e⟩ := List.mem_iff_getElem.mp hb
    have := h i (List.mem_range.mpr hi)
    rw [List.getD_eq_getElem?_getD, List.getElem?_eq_getElem hi] at this
    rw [← e]; exact this
  · intro h i hi
    have hi := List.mem_range.mp hi
    rw [List.getD_eq_getElem?_getD, List.getElem?_eq_getElem hi]
    exact h _ (List.getElem_mem hi)
theorem call_allL (hc : X.calm = true) : CallR X (.builtin "all") (fun xs H Q => ∃ (a : Addr) (bs : List Bool), xs = [.ref a] ∧ (SqL X.K H a (bs.map V.bl) ∨ SqT X.K H a (bs.map V.bl)) ∧ Q (.bl (bs.all id)) H) := by
  intro pins s σ H xs us Q I r h
  obtain ⟨a, bs, rfl, hq, q⟩ := h
  obtain ⟨u, rfl, ru⟩ := vals1 r
  cases ru
  refine call_all_walk (seq_walk I (A := X.A.in1) (I.ok.hd hc) hq fun its I' fp wr St' s2 rv W st hfp _ _ _ _ hI => ?_)
  refine ⟨_, _, _, _, _, _, fun i => bs.getD i true, rfl, W, st, (fun i v s Q E hv hQ => by rw [(vals_bl_at rv hv).1]; exact wpAny_truthy_bool hQ), fun h' tk hk => ?_⟩
  have hlen : its.toArray.size = bs.length := by rw [List.size_toArray, ← rv.length, List.length_map]
  rw [hlen, range_all]
  exact ⟨.bl _, H, hI h' tk hk, rfl, q⟩
theorem call_isi : CallR X (.builtin "isinstance") (fun xs H Q => ∃ x n t b, xs = [x, .ty n] ∧ TyOf X.K H x t ∧ PySem.W.kitOne X.K t (.type n) = some b ∧ Q (.bl b) H) := by
  intro pins s σ H xs us Q I r h
  obtain ⟨x, n, t, b, rfl, ty, e, q⟩ := h
  obtain ⟨u, w', rfl, rx, ru⟩ := vals2 r
  cases (show w' = Value.type n from ru)
  exact isinst_ok I rx ty e fun tk => ⟨.bl b, H, I.tok tk, rfl, q⟩
end
end L2
set_option Elab.async false
set_option linter.all false
set_option maxRecDepth 100000
namespace L2
open PySem PySem.Spec PyProof.Rows
section
variable {prog : Program} {w : World} {A : Around} {E : Value → Shared → Prop} {s : Shared}
theorem isExact_tup {t : Addr} {items : Array Value} {Q : Bool → Shared → Prop} (ht : IsTup s.heap t items) (h : Q true s) : wpAny (model prog w) A (Builtin.Tuple.tupleIsExact (.ref t)) Q E s := by
  unfold Builtin.Tuple.tupleIsExact
  exact wpAny_bind (wpAny_typeOf ht.typeIs (wpAny_pure h))
theorem getItem_tuple_all {t sl : Addr} {items : Array Value} {vl vu : Value} {lo hi : Option Int} {Q : Value → Shared → Prop} (ht : IsTup s.heap t items) (hs : s.heap.IsSliceOf sl vl vu .none) (pl : IsPart vl lo) (pu : IsPart vu hi)
    (hw : HT.sIx items.size 0 lo = 0 ∧ HT.sIx items.size items.size hi = items.size) (h : Q (.ref t) s) : wpAny (model prog w) A (getItem (.ref t) (.ref sl)) Q E s := by
  obtain ⟨os, hos, hcs, hds⟩ := id hs
  have hTs : s.TypeIs (.ref sl) "slice" := ⟨os, hos, hcs⟩
  unfold getItem
  try with_reducible refine wpAny_holding ?_
  first | refine wpAny_bind (wpAny_pure ?_) | skip
  refine wpAny_bind (wpAny_sequenceKey ht.typeIs (by decide) ?_)
  refine wpAny_bind (wpAny_callSpecial?_slot (name := Str.ofString "__getitem__") ht.typeIs PyProof.Rows.slot_tuple_getitem
    (wpAny_call_entry PyProof.Rows.slot_tuple_getitem ht.typeIs entry_tuple_getitem ?_ (args_tuple_getitem _ _)))
  show wpAny _ _ (Builtin.Tuple.tupleItemsOf (.ref t) >>= _) _ _ s
  refine wpAny_bind (tupleItemsOf_ ht ?_)
  refine wpAny_bind (wpAny_typeOf hTs ?_)
  rw [if_pos (by decide)]
  refine wpAny_bind (HT.sliceApplied_gen hs pl pu ?_)
  have hyes : ((((HT.sIx items.size 0 lo : Nat) : Int) == 0 && (1 : Int) == 1 && (HT.sIx items.size items.size hi - HT.sIx items.size 0 lo) == items.size) = true) := by
    rw [hw.1, hw.2]; simp
  show wpAny _ _ (if (((HT.sIx items.size 0 lo : Nat) : Int) == 0 && (1 : Int) == 1 && (HT.sIx items.size items.size hi - HT.sIx items.size 0 lo) == items.size) = true then _ else _) _ _ s
  rw [if_pos hyes]
  refine wpAny_bind (isExact_tup ht ?_)
  rw [if_pos rfl]
  exact wpAny_bind (wpAny_rule (wpAny_bind (wpAny_pure (wpAny_pure ⟨_, rfl, wpAny_pure h⟩))))
end
section
variable {X : Cx}
theorem sl_tupA : SlR X (fun x lo hi H Q => ∃ a xs, x = .ref a ∧ SqT X.K H a xs ∧ ∀ p H', Same H H' → SqT X.K H' p (cutV xs lo hi) → Q (.ref p) H') := by
  intro pins s σ H x v vl vu lo hi sl Q I rx hs pl pu h
  obtain ⟨a, xs, rfl, hx, q⟩ := h
  by_cases hw : HT.sIx xs.length 0 lo = 0 ∧ HT.sIx xs.length xs.length hi = xs.length
  · cases rx
    obtain ⟨its, r, ht, hz⟩ := I.tuple hx
    have hlen : its.toArray.size = xs.length := by rw [List.size_toArray]; exact r.length.symm
    refine ⟨"tuple", _, PyProof.Rows.slot_tuple_getitem.lookup, ht.typeIs, ?_⟩
    refine getItem_tuple_all ht hs pl pu (by rw [hlen]; exact hw) ⟨.ref a, H, I, rfl, q a H (Same.refl H) ?_⟩
    have e : cutV xs lo hi = xs := by unfold cutV; rw [hw.1, hw.2]; simp
    rw [e]; exact hx
  · exact sl_tup pins s σ H _ v vl vu lo hi sl Q I rx hs pl pu ⟨a, xs, rfl, hx, hw, fun p hp => q p _ (Same.new hp) (SqT.of upd_same)⟩
theorem op_catA : OpR X (binaryOp .Add) (fun x y H Q => ∃ a b xs ys, x = .ref a ∧ y = .ref b ∧ SqT X.K H a xs ∧ SqT X.K H b ys ∧ xs.length + ys.length ≤ sizeLine ∧ ∀ p H', Same H H' → SqT X.K H' p (xs ++ ys) → Q (.ref p) H') := by
  intro pins s σ H x y v u Q I rx ry h
  obtain ⟨a, b, xs, ys, rfl, rfl, ha, hb, hz, q⟩ := h
  by_cases hx : xs = []
  · cases rx
    cases ry
    obtain ⟨its, r1, p1, _⟩ := I.tuple ha
    obtain ⟨its2, r2, p2, _⟩ := I.tuple hb
    have hv : its = [] := r1.nil_iff.mpr hx
    obtain ⟨⟨cls, dd, data, sl⟩, ho, hc, n, hd⟩ := id p1
    obtain ⟨⟨cls2, dd2, data2, sl2⟩, ho2, hc2, n2, hd2⟩ := id p2
    simp only at hc hd hc2 hd2
    subst hc hd hc2 hd2
    refine concat_meets ⟨_, ho, rfl⟩ ⟨_, ho2, rfl⟩ noFill_tuple_add seq_tuple_add PySem.F.slot_tuple_add PySem.F.entry_tuple_add (PySem.F.args_tuple_add_2 _ _)
      (tuple_addW0 a b its.toArray its2.toArray n n2 dd dd2 sl sl2 (by simp [hv])) ⟨ho, ho2, ?_⟩
    exact ⟨.ref b, H, I, rfl, q b H (Same.refl H) (by rw [hx, List.nil_append]; exact hb)⟩
  · refine op_catT pins s σ H _ _ v u Q I rx ry ⟨a, b, xs, ys, rfl, rfl, ha, hb, hx, hz, fun e => q a H (Same.refl H) (by rw [e, List.append_nil]; exact ha), fun _ p hp => q p _ (Same.new hp) (SqT.of upd_same)⟩
end
section
variable {X : Cx}
end
end L2
set_option Elab.async false
set_option linter.all false
set_option maxRecDepth 100000
namespace L2
open PySem PySem.Spec PyProof.Rows
def lcChk (N N' : List Str) (M : List (Option Nat)) (sc osc : Scope) : Bool :=
  (sc.kind == .function) && (N'.length == M.length) && (sc.names.all fun y => y.2 != NameKind.cell) && (sc.names.all fun y => y.2 != NameKind.local || sc.names.lookup y.1 == some NameKind.local) &&
  (sc.names.all fun y => y.2 != NameKind.free || (osc.names.lookup y.1 == some NameKind.cell || osc.names.lookup y.1 == some NameKind.free)) &&
  ((N'.zip M).all fun p => match p.2 with | none => true | some j => N[j]? == some p.1 && sc.names.lookup p.1 == some NameKind.free)
theorem nk_eq {a b : NameKind} (h : (a == b) = true) : a = b := by
  cases a <;> cases b <;> first | rfl | exact absurd h (by decide)
theorem nko_eq {a : Option NameKind} {b : NameKind} (h : (a == some b) = true) : a = some b := by
  cases a with
  | none => exact absurd h (by cases b <;> decide)
  | some x => rw [nk_eq (show (x == b) = true from h)]
theorem nk_ne {a b : NameKind} (h : (a != b) = true) : a ≠ b := by
  cases a <;> cases b <;> first | (intro z; cases z; done) | exact absurd h (by decide)
theorem lcSc_of {N N' : List Str} {M : List (Option Nat)} {sc osc : Scope} (h : lcChk N N' M sc osc = true) : LcSc N N' M sc osc := by
  unfold lcChk at h
  simp only [Bool.and_eq_true] at h
  obtain ⟨⟨⟨⟨⟨h1, h2⟩, h3⟩, h4⟩, h5⟩, h6⟩ := h
  have hl : N'.length = M.length := by simpa using h2
  refine ⟨?_, hl, fun y hy => nk_ne (List.all_eq_true.mp h3 y hy), fun y hy hk => ?_, fun y hy hk => ?_, fun i j e => ?_⟩
  · revert h1; cases sc.kind <;> intro h1 <;> first | rfl | exact absurd h1 (by decide)
  · have q := List.all_eq_true.mp h4 y hy
    rw [Bool.or_eq_true] at q
    rcases q with q | q
    · exact absurd hk (nk_ne q)
    · exact nko_eq q
  · have q := List.all_eq_true.mp h5 y hy
    rw [Bool.or_eq_true, Bool.or_eq_true] at q
    rcases q with q | q | q
    · exact absurd hk (nk_ne q)
    · exact .inl (nko_eq q)
    · exact .inr (nko_eq q)
  · have hi : i < M.length := (List.getElem?_eq_some_iff.mp e).1
    have hi' : i < N'.length := by rw [hl]; exact hi
    have em : (N'[i], some j) ∈ N'.zip M := by
      refine List.mem_iff_getElem?.mpr ⟨i, ?_⟩
      rw [List.getElem?_zip_eq_some]
      exact ⟨List.getElem?_eq_getElem hi', e⟩
    have q := List.all_eq_true.mp h6 _ em
    simp only [Bool.and_eq_true] at q
    exact ⟨N'[i], List.getElem?_eq_getElem hi', by simpa using q.1, nko_eq q.2⟩
section
variable {K : PySem.W.Frag} {a : Addr} {xs : List V} {M : List (Option Nat)} {σ : St} {g : TG} {tc : TT} {te : TE} {F : List V → Hp → Prop} {H : Hp}
abbrev LcGoal (J : It) (M : List (Option Nat)) (σ : St) (g : TG) (tc : TT) (te : TE) (F : List V → Hp → Prop) (H1 : Hp) : Prop :=
  ∃ W : Nat → Nat → List V → Hp → Prop, (∃ m, W 0 m [] H1) ∧ ∀ i m ys H, W i m ys H → ys.length ≤ sizeLine ∧
    ((J.stop i H ∧ F ys H) ∨ (J.go i H ∧ ys.length < sizeLine ∧ ∃ N : List V → Hp → Prop, (∀ ys' H', N ys' H' → ∃ m', m' < m ∧ W (i + 1) m' ys' H') ∧ ∀ x H', J.yld i H x H' → g x (inSt M σ) H' fun σ2 H2 => tc σ2 H2 fun b H3 =>
      if b = true then te σ2 H3 fun v H4 => N (ys ++ [v]) H4 else N ys H3))
theorem lc_list (Pv : Nat → List V → Hp → Prop) (hz : xs.length ≤ sizeLine) (h0 : Pv 0 [] H) (hl : ∀ i ys H, i ≤ xs.length → Pv i ys H → SqL K H a xs ∧ ys.length ≤ i)
    (hs : ∀ i x ys H, xs[i]? = some x → Pv i ys H → g x (inSt M σ) H fun σ2 H2 => tc σ2 H2 fun b H3 => if b = true then te σ2 H3 fun v H4 => Pv (i + 1) (ys ++ [v]) H4 else Pv (i + 1) ys H3)
    (hd : ∀ ys H, Pv xs.length ys H → F ys H) : LcGoal (Itl K a) M σ g tc te F H := by
  refine ⟨fun i m ys H => m = xs.length - i ∧ i ≤ xs.length ∧ Pv i ys H, ⟨xs.length, by simp, Nat.zero_le _, h0⟩, ?_⟩
  rintro i m ys H ⟨rfl, hi, p⟩
  obtain ⟨q, hy⟩ := hl i ys H hi p
  refine ⟨by omega, ?_⟩
  by_cases hlt : i < xs.length
  · refine .inr ⟨⟨xs, xs[i], q, by simp [hlt]⟩, by omega, Pv (i + 1), fun ys' H' p' => ⟨xs.length - (i + 1), by omega, rfl, hlt, p'⟩, fun x H' y => ?_⟩
    obtain ⟨e, y⟩ := y
    subst e
    exact hs i x ys _ (y xs q) p
  · have e : i = xs.length := by omega
    subst e
    exact .inl ⟨⟨xs, q, Nat.le_refl _⟩, hd ys H p⟩
theorem lc_tup (Pv : Nat → List V → Hp → Prop) (hz : xs.length ≤ sizeLine) (h0 : Pv 0 [] H) (hl : ∀ i ys H, i ≤ xs.length → Pv i ys H → SqT K H a xs ∧ ys.length ≤ i)
    (hs : ∀ i x ys H, xs[i]? = some x → Pv i ys H → g x (inSt M σ) H fun σ2 H2 => tc σ2 H2 fun b H3 => if b = true then te σ2 H3 fun v H4 => Pv (i + 1) (ys ++ [v]) H4 else Pv (i + 1) ys H3)
    (hd : ∀ ys H, Pv xs.length ys H → F ys H) : LcGoal (Itt K a) M σ g tc te F H := by
  refine ⟨fun i m ys H => m = xs.length - i ∧ i ≤ xs.length ∧ Pv i ys H, ⟨xs.length, by simp, Nat.zero_le _, h0⟩, ?_⟩
  rintro i m ys H ⟨rfl, hi, p⟩
  obtain ⟨q, hy⟩ := hl i ys H hi p
  refine ⟨by omega, ?_⟩
  by_cases hlt : i < xs.length
  · refine .inr ⟨⟨xs, xs[i], q, by simp [hlt]⟩, by omega, Pv (i + 1), fun ys' H' p' => ⟨xs.length - (i + 1), by omega, rfl, hlt, p'⟩, fun x H' y => ?_⟩
    obtain ⟨e, y⟩ := y
    subst e
    exact hs i x ys _ (y xs q) p
  · have e : i = xs.length := by omega
    subst e
    exact .inl ⟨⟨xs, q, Nat.le_refl _⟩, hd ys H p⟩
theorem lc_range {lo : Int} {n : Nat} (Pv : Nat → List V → Hp → Prop) (hz : n ≤ sizeLine) (h0 : Pv 0 [] H) (hl : ∀ i ys H, i ≤ n → Pv i ys H → ys.length ≤ i)
    (hs : ∀ i ys H, i < n → Pv i ys H → g (.int (lo + i)) (inSt M σ) H fun σ2 H2 => tc σ2 H2 fun b H3 => if b = true then te σ2 H3 fun v H4 => Pv (i + 1) (ys ++ [v]) H4 else Pv (i + 1) ys H3)
    (hd : ∀ ys H, Pv n ys H → F ys H) : LcGoal (Itr lo n) M σ g tc te F H := by
  refine ⟨fun i m ys H => m = n - i ∧ i ≤ n ∧ Pv i ys H, ⟨n, by simp, Nat.zero_le _, h0⟩, ?_⟩
  rintro i m ys H ⟨rfl, hi, p⟩
  have hy := hl i ys H hi p
  refine ⟨by omega, ?_⟩
  by_cases hlt : i < n
  · refine .inr ⟨hlt, by omega, Pv (i + 1), fun ys' H' p' => ⟨n - (i + 1), by omega, rfl, hlt, p'⟩, fun x H' y => ?_⟩
    obtain ⟨e, y⟩ := y
    subst e y
    exact hs i ys _ hlt p
  · have e : i = n := by omega
    subst e
    exact .inl ⟨Nat.le_refl _, hd ys H p⟩
theorem map_snoc {α : Type} (f : Nat → α) (i : Nat) : (List.range i).map f ++ [f i] = (List.range (i + 1)).map f := by rw [List.range_succ, List.map_append]; rfl
end
structure Cal (P : Program) (w : World) (K : PySem.W.Frag) (mg : Str → Option Value) (base : Heap) (k : Nat) (x : Str) (dvs : List V) (sp : Sp) : Prop where
  ex : ∃ f fd ps ds, FnOk P w K mg base CX0 k f fd ps sp ∧ mg x = some (.ref f) ∧ PySem.W.keepIn K (.ref f) = true ∧ Binds K fd ps ds ∧ Vals dvs ds
theorem pe_cal {X : Cx} {k : Nat} {x : Str} {dvs : List V} {sp : Sp} {e : Expr} {es : List Expr} {t : TA} {p pos : Pos} (c : Cal X.prog X.w X.K X.mg X.base k x dvs sp) (hr : Room k X.A) (hg : Gl X x) (ha : PA X (e :: es) t) (hd : (x == ("__debug__" : Str)) = false := by decide)
    (he : starEach (e :: es) X.env = (false, eval e X.env) :: starEach es X.env := by rfl) (hpl : (backTo pos (starEach es X.env)).any (·.1) = false := by rfl) :
    PE X (.Call (.Name x p) (e :: es) [] pos) (tCall sp dvs E0 t) := by
  obtain ⟨f, fd, ps, ds, F, hm, hk, hb, hv⟩ := c.ex
  exact pe_call F hr hg hm hk hb hv pass0 ha hd he hpl
theorem Cal.up {P : Program} {w : World} {K : PySem.W.Frag} {mg : Str → Option Value} {base : Heap} {j k : Nat} {x : Str} {dvs : List V} {sp : Sp} (c : Cal P w K mg base j x dvs sp) (h : j ≤ k) : Cal P w K mg base k x dvs sp := by
  obtain ⟨f, fd, ps, ds, F, r⟩ := c.ex
  exact ⟨f, fd, ps, ds, F.mono h, r⟩
end L2
set_option Elab.async false
set_option linter.all false
set_option maxRecDepth 100000
namespace L2
open PySem
abbrev Drawn' : List Int → List Int → Prop := Paired fun l r => 0 ≤ r ∧ r < l
def LimOk (l : Int) : Prop := 0 < l ∧ l.natAbs.log2 < 9000
def spDraw (K : PySem.W.Frag) : Sp := fun vs H Q _ => ∃ (c : Int) (a : Addr) (ls : List Int), vs = [.int c, .ref a] ∧ SqL K H a (ls.map V.int) ∧ (∀ l ∈ ls, LimOk l) ∧ ls.length ≤ 1000 ∧
  ∀ (p : Addr) (rs : List Int) (H' : Hp), H p = none → Same H H' → H' p = some (.lst (rs.map V.int)) → Drawn' ls rs → Q (.ref p) H'
def spCell (K : PySem.W.Frag) : Sp := fun vs H Q _ => ∃ (a : Addr) (ns : List Int) (k : Int), vs = [.ref a, .int k] ∧ SqL K H a (ns.map V.int) ∧ 0 ≤ k ∧ k ≤ 1000 ∧ ns.length ≤ 1000 ∧ ∀ z, Q (.int z) H
def spMany (K : PySem.W.Frag) : Sp := fun vs H Q _ => ∃ (a : Addr) (ns : List Int) (f : Int), vs = [.ref a, .int f] ∧ SqL K H a (ns.map V.int) ∧ ∀ z, f ≤ z → (z ≤ 63 ∨ z = f) → Q (.int z) H
def wayGo : Int → List Int → Bool
  | _, [] => true
  | f, w :: r => decide (0 ≤ w) && decide (w ≤ f) && wayGo (if w = f then f + 1 else f) r
def isWay (ns : List Int) : Bool := decide (1 ≤ ns.length) && decide (ns.length ≤ 9) && wayGo 0 ns
def spWay (K : PySem.W.Frag) : Sp := fun vs H Q _ => ∃ (c n : Int), vs = [.int c, .int n] ∧ 1 ≤ n ∧ n ≤ 9 ∧
  ∀ (p : Addr) (ws : List Int) (H' : Hp), H p = none → Same H H' → H' p = some (.tup (ws.map V.int)) → ws.length = n.toNat → isWay ws = true → Q (.ref p) H'
theorem getI {ns : List Int} {i : Nat} {y : V} (h : (ns.map V.int)[i]? = some y) : ∃ z, y = V.int z ∧ ns[i]? = some z ∧ i < ns.length := by
  rw [List.getElem?_map] at h
  cases e : ns[i]? with
  | none => rw [e] at h; cases h
  | some z => rw [e] at h; exact ⟨z, (Option.some.inj h).symm, rfl, (List.getElem?_eq_some_iff.mp e).1⟩
theorem mapV {ns : List Int} {z : Int} : ns.map V.int ++ [V.int z] = (ns ++ [z]).map V.int := by rw [List.map_append]; rfl
theorem nn63 : (sizeLine : Nat) = 16777216 := by decide
theorem le_line {n : Nat} (h : n ≤ 16777216) : n ≤ sizeLine := by rw [nn63]; exact h
theorem lt_line {n : Nat} (h : n < 16777216) : n < sizeLine := by rw [nn63]; exact h
theorem ltm (l : List Int) : (l.map V.int).length = l.length := List.length_map ..
theorem drawn_snoc {ls rs : List Int} {l r : Int} (h : Drawn' ls rs) (h1 : 0 ≤ r) (h2 : r < l) : Drawn' (ls ++ [l]) (rs ++ [r]) := Paired.snoc h ⟨h1, h2⟩
theorem take_snoc {α : Type} {l : List α} {i : Nat} {x : α} (h : l[i]? = some x) : l.take (i + 1) = l.take i ++ [x] := by
  rw [List.take_add_one, h]; rfl
theorem modB (z : Int) {l : Int} (h : 0 < l) : 0 ≤ z % l ∧ z % l < l := ⟨Int.emod_nonneg _ (Int.ne_of_gt h), Int.emod_lt_of_pos _ h⟩
theorem p0 {n : Nat} : (0 : Int) < ((n + 1 : Nat) : Int) := Int.natCast_pos.mpr (Nat.succ_pos n)
theorem ite_P {c : Prop} [Decidable c] {ta tb : TE} {σ : St} {H : Hp} {Q : VK} (P : Int → Prop) (h : ∀ r, P r → Q (.int r) H) (ha : ∀ Q' : VK, (∀ r, P r → Q' (.int r) H) → ta σ H Q') (hb : ∀ Q' : VK, (∀ r, P r → Q' (.int r) H) → tb σ H Q') : if c then ta σ H Q else tb σ H Q := by
  split
  · exact ha _ h
  · exact hb _ h
end L2
set_option Elab.async false
set_option linter.all false
set_option maxRecDepth 100000
namespace L2
open PySem PySem.Spec PyProof.Rows
structure FunD (K : PySem.W.Frag) (x qual : Str) (st : Stmt) (f : Addr) (fd : FuncData) (ds : List Value) : Prop where
  ex : ∃ (oc : Value) (od : Option Addr) (T : Addr) (oT : Obj) (nT : Nat) (kV doc pm : Value) (an : Option Addr) (cdv ct : Value) (osl : Array (Option Value)),
    fd = PySem.W.fnOf x qual (defArgs st) (defBody st) (defScope st) (.ref T) kV doc pm an cdv ct ∧ K.lookup f = some ⟨oc, od, .func fd, osl⟩ ∧ PySem.W.codeIn K cdv qual = true ∧ K.lookup T = some oT ∧ oT.data = .seq ds.toArray nT
  kp : PySem.W.keepIn K (.ref f) = true
section
variable {P : Program} {w : World} {K : PySem.W.Frag} {mg : Str → Option Value} {base : Heap}
theorem FunD.ok {x qual : Str} {st : Stmt} {f : Addr} {fd : FuncData} {ds : List Value} {N ps : List Str} {k : Nat} {sp : Sp} (F : FunD K x qual st f fd ds) (S : FnScope N ps (defScope st)) (len : ∀ vs H Q E, sp vs H Q E → vs.length = ps.length)
    (hbody : ∀ (cdv : Value) (A : Around) (outer : List Env) (s : Shared) (H : Hp) (vs : List V) (Q : VK) (E : XK), Room k (A.deeper (envOfC qual (defScope st) s.heap.objs.size f cdv)) → sp vs H Q E →
      ∃ t, PSs (cxOf CX0 P w K mg base N qual (defScope st) f cdv A outer s H E).nox (defBody st) t ∧ t { nx := fun _ H' => Q .non H', rt := Q } (start N vs) H) : FnOk P w K mg base CX0 (k + 1) f fd ps sp := by
  obtain ⟨oc, od, T, oT, nT, kV, doc, pm, an, cdv, ct, osl, rfl, lk, hcd, _, _⟩ := F.ex
  refine fn_of lk hcd S len fun A outer s H vs Q E hr hsp => ?_
  obtain ⟨t, h, q⟩ := hbody cdv A outer s H vs Q E hr hsp
  exact ⟨t, h.nox, q⟩
theorem FunD.binds {x qual : Str} {st : Stmt} {f : Addr} {fd : FuncData} {ds es : List Value} {ps : List Str} (F : FunD K x qual st f fd ds)
    (h : ∀ (T : Addr) (kV doc pm : Value) (an : Option Addr) (cdv ct : Value) (us : List Value), (us ++ es).length = ps.length → ∃ kk, bindArgs (PySem.W.fnOf x qual (defArgs st) (defBody st) (defScope st) (.ref T) kV doc pm an cdv ct) ⟨us, []⟩ = seqItems? (.ref T) >>= kk ∧ kk (some ds.toArray) = pure (ps.zip (us ++ es))) : Binds K fd ps es := by
  obtain ⟨oc, od, T, oT, nT, kV, doc, pm, an, cdv, ct, osl, rfl, lk, hcd, lT, dT⟩ := F.ex
  intro s us KX hl
  obtain ⟨kk, e1, e2⟩ := h T kV doc pm an cdv ct us hl
  exact BindsTo.of_defaults rfl (KX _ _ lT) dT e1 e2
theorem Fun.cal {x : Str} {qual : Str} {st : Stmt} {f : Addr} {fd : FuncData} {ps : List Str} {k : Nat} {sp : Sp} (F : Fun K x qual st f fd) (G : FnOk P w K mg base CX0 k f fd ps sp) (hm : mg x = some (.ref f))
    (h : ∀ (kV doc pm : Value) (an : Option Addr) (cdv ct : Value) (us : List Value), us.length = ps.length → bindArgs (PySem.W.fnOf x qual (defArgs st) (defBody st) (defScope st) .none kV doc pm an cdv ct) ⟨us, []⟩ = pure (ps.zip us)) : Cal P w K mg base k x [] sp :=
  ⟨f, fd, ps, [], G, hm, F.kp, F.binds h, .nil⟩
end
end L2
set_option Elab.async false
set_option linter.all false
namespace L2
open PySem
theorem IsMax.uniq {l : List Int} {m n : Int} (h : IsMax l m) (h' : IsMax l n) : m = n := Int.le_antisymm (h'.2 m h.1) (h.2 n h'.1)
def maxL : List Int → Int
  | [] => 0
  | a :: r => r.foldl max a
theorem foldl_max : ∀ (r : List Int) (a : Int), IsMax (a :: r) (r.foldl max a)
  | [], a => ⟨List.mem_cons_self, fun b hb => by rw [List.mem_singleton.mp hb]; exact Int.le_refl _⟩
  | b :: r, a => by
    obtain ⟨h1, h2⟩ := foldl_max r (max a b)
    refine ⟨?_, fun c hc => ?_⟩
    · show r.foldl max (max a b) ∈ a :: b :: r
      rcases List.mem_cons.mp h1 with e | e
      · rw [e]
        by_cases q : a ≤ b
        · rw [Int.max_eq_right q]; exact List.mem_cons_of_mem _ List.mem_cons_self
        · rw [Int.max_eq_left (by omega)]; exact List.mem_cons_self
      · exact List.mem_cons_of_mem _ (List.mem_cons_of_mem _ e)
    · show c ≤ r.foldl max (max a b)
      have q := h2 (max a b) List.mem_cons_self
      rcases List.mem_cons.mp hc with e | e
      · rw [e]; have := Int.le_max_left a b; omega
      · rcases List.mem_cons.mp e with e | e
        · rw [e]; have := Int.le_max_right a b; omega
        · exact h2 c (List.mem_cons_of_mem _ e)
theorem maxL_is {l : List Int} (h : l ≠ []) : IsMax l (maxL l) := by
  cases l with
  | nil => exact absurd rfl h
  | cons a r => exact foldl_max r a
theorem IsMax.eq {l : List Int} {m : Int} (h : IsMax l m) : m = maxL l := h.uniq (maxL_is (by rintro rfl; exact absurd h.1 (by simp)))
def fresh (f : Int) (xs : List Int) : Int := xs.foldl (fun f w => if w = f then f + 1 else f) f
theorem fresh_snoc (f : Int) (xs : List Int) (z : Int) : fresh f (xs ++ [z]) = if z = fresh f xs then fresh f xs + 1 else fresh f xs := by
  unfold fresh; rw [List.foldl_append]; rfl
theorem wayGo_snoc : ∀ (xs : List Int) (f z : Int), wayGo f (xs ++ [z]) = (wayGo f xs && (decide (0 ≤ z) && decide (z ≤ fresh f xs)))
  | [], f, z => by
    show (decide (0 ≤ z) && decide (z ≤ f) && true) = (true && _)
    rw [Bool.and_true, Bool.true_and]; rfl
  | w :: r, f, z => by
    show (decide (0 ≤ w) && decide (w ≤ f) && wayGo (if w = f then f + 1 else f) (r ++ [z])) = ((decide (0 ≤ w) && decide (w ≤ f) && wayGo (if w = f then f + 1 else f) r) && _)
    rw [wayGo_snoc r, Bool.and_assoc, Bool.and_assoc, Bool.and_assoc]; rfl
theorem snoc_ind {α : Type} {P : List α → Prop} (h0 : P []) (h1 : ∀ xs z, P xs → P (xs ++ [z])) (l : List α) : P l := by
  have : ∀ n (l : List α), l.length = n → P l := by
    intro n
    induction n with
    | zero => intro l e; rw [List.length_eq_zero_iff.mp e]; exact h0
    | succ n ih =>
      intro l e
      have hl : l ≠ [] := by rintro rfl; simp at e
      rw [← List.dropLast_concat_getLast hl]
      exact h1 _ _ (ih _ (by rw [List.length_dropLast, e]; rfl))
  exact this _ l rfl
theorem fresh_max (xs : List Int) : wayGo 0 xs = true → IsMax (-1 :: xs) (fresh 0 xs - 1) := by
  refine snoc_ind (P := fun xs => wayGo 0 xs = true → IsMax (-1 :: xs) (fresh 0 xs - 1)) ?_ ?_ xs
  · intro _
    exact ⟨by simp [fresh], fun a ha => by simp at ha; simp [fresh, ha]⟩
  · intro xs z ih h
    rw [wayGo_snoc, Bool.and_eq_true, Bool.and_eq_true] at h
    obtain ⟨h1, h2, h3⟩ := h
    have h2 := of_decide_eq_true h2
    have h3 := of_decide_eq_true h3
    obtain ⟨i1, i2⟩ := ih h1
    rw [fresh_snoc]
    by_cases e : z = fresh 0 xs
    · rw [if_pos e]
      refine ⟨by rw [e]; simp, fun a ha => ?_⟩
      rcases List.mem_cons.mp ha with q | q
      · omega
      · rcases List.mem_append.mp q with q | q
        · have := i2 a (List.mem_cons_of_mem _ q); omega
        · rw [List.mem_singleton.mp q]; omega
    · rw [if_neg e]
      refine ⟨?_, fun a ha => ?_⟩
      · rcases List.mem_cons.mp i1 with q | q
        · rw [q]; exact List.mem_cons_self
        · exact List.mem_cons_of_mem _ (List.mem_append_left _ q)
      · rcases List.mem_cons.mp ha with q | q
        · rw [q]; exact i2 _ List.mem_cons_self
        · rcases List.mem_append.mp q with q | q
          · exact i2 a (List.mem_cons_of_mem _ q)
          · rw [List.mem_singleton.mp q]; omega
theorem fresh_pos {xs : List Int} (h : wayGo 0 xs = true) (hne : xs ≠ []) : 1 ≤ fresh 0 xs ∧ IsMax xs (fresh 0 xs - 1) := by
  obtain ⟨i1, i2⟩ := fresh_max xs h
  cases xs with
  | nil => exact absurd rfl hne
  | cons w r =>
    have hw : 0 ≤ w := by
      have h' : (decide (0 ≤ w) && decide (w ≤ 0) && wayGo (if w = 0 then 0 + 1 else 0) r) = true := h
      rw [Bool.and_eq_true, Bool.and_eq_true] at h'
      exact of_decide_eq_true h'.1.1
    have := i2 w (by simp)
    refine ⟨by omega, ?_, fun a ha => i2 a (List.mem_cons_of_mem _ ha)⟩
    rcases List.mem_cons.mp i1 with q | q
    · omega
    · exact q
def rowAll (ns : List Int) : Bool := (List.range (ns.length - 1)).all fun i => decide (0 ≤ ns.getD (i + 1) 0) && decide (ns.getD (i + 1) 0 ≤ maxL (ns.take (i + 1)) + 1)
def rowOk (ns : List Int) : Bool := decide (1 ≤ ns.length) && decide (ns.length ≤ 9) && decide (ns.getD 0 1 = 0) && rowAll ns
theorem rowAll_snoc {xs : List Int} (h : xs ≠ []) (z : Int) : rowAll (xs ++ [z]) = (rowAll xs && (decide (0 ≤ z) && decide (z ≤ maxL xs + 1))) := by
  unfold rowAll
  have hp : 0 < xs.length := List.length_pos_iff.mpr h
  have e1 : (xs ++ [z]).length - 1 = (xs.length - 1) + 1 := by rw [List.length_append]; simp; omega
  rw [e1, List.range_succ, List.all_append]
  congr 1
  · rw [Bool.eq_iff_iff, List.all_eq_true, List.all_eq_true]
    constructor
    · intro q i hi
      have q := q i hi
      have hi := List.mem_range.mp hi
      rw [List.getD_eq_getElem?_getD, List.getElem?_append_left (by omega), ← List.getD_eq_getElem?_getD, List.take_append_of_le_length (by omega)] at q
      exact q
    · intro q i hi
      have q := q i hi
      have hi := List.mem_range.mp hi
      rw [List.getD_eq_getElem?_getD, List.getElem?_append_left (by omega), ← List.getD_eq_getElem?_getD, List.take_append_of_le_length (by omega)]
      exact q
  · have e2 : xs.length - 1 + 1 = xs.length := by omega
    simp only [List.all_cons, List.all_nil, Bool.and_true]
    rw [e2, List.getD_eq_getElem?_getD, List.getElem?_append_right (Nat.le_refl _), Nat.sub_self, List.take_append_of_le_length (Nat.le_refl _), List.take_length]
    rfl
theorem way_row (xs : List Int) : xs ≠ [] → wayGo 0 xs = (decide (xs.getD 0 1 = 0) && rowAll xs) := by
  refine snoc_ind (P := fun xs => xs ≠ [] → wayGo 0 xs = (decide (xs.getD 0 1 = 0) && rowAll xs)) (fun h => absurd rfl h) ?_ xs
  intro xs z ih _
  by_cases hx : xs = []
  · subst hx
    show (decide (0 ≤ z) && decide (z ≤ 0) && true) = (decide (z = 0) && true)
    rw [Bool.and_true, Bool.and_true, Bool.eq_iff_iff, Bool.and_eq_true, decide_eq_true_iff, decide_eq_true_iff, decide_eq_true_iff]
    omega
  · have e0 : (xs ++ [z]).getD 0 1 = xs.getD 0 1 := by
      rw [List.getD_eq_getElem?_getD, List.getElem?_append_left (List.length_pos_iff.mpr hx), ← List.getD_eq_getElem?_getD]
    rw [wayGo_snoc, rowAll_snoc hx, e0, ih hx, ← Bool.and_assoc (decide (xs.getD 0 1 = 0))]
    cases e : (decide (xs.getD 0 1 = 0) && rowAll xs) with
    | false => simp
    | true =>
      rw [Bool.true_and, Bool.true_and]
      have q := (fresh_pos (by rw [ih hx]; exact e) hx).2.eq
      rw [show fresh 0 xs = maxL xs + 1 by omega]
theorem way_rowOk (ns : List Int) : isWay ns = rowOk ns := by
  unfold isWay rowOk
  by_cases h : ns = []
  · subst h; rfl
  · rw [way_row ns h, ← Bool.and_assoc]
end L2
set_option Elab.async false
set_option linter.all false
namespace L2
open PySem
theorem cut_take (xs : List V) (k : Nat) : cutV xs none (some (k : Int)) = xs.take k := by
  unfold cutV
  rw [HT.sIx_none, HT.sIx_nat, List.drop_zero, Nat.sub_zero]
  by_cases h : k ≤ xs.length
  · rw [Nat.min_eq_left h]
  · rw [Nat.min_eq_right (by omega), List.take_of_length_le (Nat.le_refl _), List.take_of_length_le (by omega)]
theorem cut_drop (xs : List V) (k : Nat) : cutV xs (some (k : Int)) none = xs.drop k := by
  unfold cutV
  rw [HT.sIx_none, HT.sIx_nat]
  by_cases h : k ≤ xs.length
  · rw [Nat.min_eq_left h, List.take_of_length_le (by rw [List.length_drop]; exact Nat.le_refl _)]
  · rw [Nat.min_eq_right (by omega), List.drop_of_length_le (Nat.le_refl _), List.drop_of_length_le (by omega)]
    simp
theorem cut_take_int (ns : List Int) (k : Nat) : cutV (ns.map V.int) none (some (k : Int)) = (ns.take k).map V.int := by rw [cut_take, List.map_take]
theorem cut_drop_int (ns : List Int) (k : Nat) : cutV (ns.map V.int) (some (k : Int)) none = (ns.drop k).map V.int := by rw [cut_drop, List.map_drop]
theorem atI_int {ns : List Int} {i : Int} {z : Int} (h0 : 0 ≤ i) (h : ns[i.toNat]? = some z) : atI (ns.map V.int) i = some (V.int z) := by
  have := atI_nat (xs := ns.map V.int) (j := i.toNat) (v := V.int z) (by rw [List.getElem?_map, h]; rfl)
  rw [Int.toNat_of_nonneg h0] at this
  exact this
theorem atI_lt {ns : List Int} {i : Int} (h0 : 0 ≤ i) (h1 : i < ns.length) : atI (ns.map V.int) i = some (V.int (ns.getD i.toNat 0)) := by
  refine atI_int h0 ?_
  have : i.toNat < ns.length := by omega
  rw [List.getElem?_eq_getElem this, List.getD_eq_getElem?_getD, List.getElem?_eq_getElem this]; rfl
theorem mapV2 (f : Nat → Int) (n : Nat) : ((List.range n).map fun j => V.int (f j)) = ((List.range n).map f).map V.int := by rw [List.map_map]; rfl
theorem mapB2 (f : Nat → Bool) (n : Nat) : ((List.range n).map fun j => V.bl (f j)) = ((List.range n).map f).map V.bl := by rw [List.map_map]; rfl
theorem Drawn'.uncons {l : Int} {ls rs : List Int} (h : Drawn' (l :: ls) rs) : ∃ r rs', rs = r :: rs' ∧ 0 ≤ r ∧ r < l ∧ Drawn' ls rs' := by
  cases h with
  | cons h t => exact ⟨_, _, rfl, h.1, h.2, t⟩
theorem limOk_small {l : Int} (h0 : 0 < l) (h1 : l < 1000000) : LimOk l := by
  refine ⟨h0, ?_⟩
  by_cases h : l.natAbs = 0
  · omega
  · exact Nat.lt_of_lt_of_le (Nat.log2_lt h |>.mpr (show l.natAbs < 2 ^ 20 by omega)) (by decide)
end L2
set_option Elab.async false
set_option linter.all false
namespace L2
open PySem PySem.Spec PyProof.Rows
section
variable {X : Cx} {K : PySem.W.Frag}
theorem kix_list (h : X.K = K := by rfl) : IxR X (rIxL K) := by subst h; exact ix_list
theorem kix_tup (h : X.K = K := by rfl) : IxR X (rIxT K) := by subst h; exact ix_tup
theorem ksl_list (h : X.K = K := by rfl) : SlR X (rSlL K) := by subst h; exact sl_list
theorem ksl_tup (h : X.K = K := by rfl) : SlR X (fun x lo hi H Q => ∃ a xs, x = .ref a ∧ SqT K H a xs ∧ ∀ p H', Same H H' → SqT K H' p (cutV xs lo hi) → Q (.ref p) H') := by subst h; exact sl_tupA
theorem kop_cat (h : X.K = K := by rfl) : OpR X (binaryOp .Add) (fun x y H Q => ∃ a b xs ys, x = .ref a ∧ y = .ref b ∧ SqT K H a xs ∧ SqT K H b ys ∧ xs.length + ys.length ≤ sizeLine ∧ ∀ p H', Same H H' → SqT K H' p (xs ++ ys) → Q (.ref p) H') := by subst h; exact op_catA
theorem kop_in (h : X.K = K := by rfl) : OpR X (compareOp .In) (rIn K false) := by subst h; exact op_in_seq
theorem kop_notIn (h : X.K = K := by rfl) : OpR X (compareOp .NotIn) (rIn K true) := by subst h; exact op_notIn_seq
theorem kc_len (h : X.K = K := by rfl) : CallR X (.builtin "len") (fun xs H Q => ∃ p ys, xs = [.ref p] ∧ (SqL K H p ys ∨ SqT K H p ys) ∧ Q (.int ys.length) H) := by subst h; exact call_len_seq
theorem kc_max (hc : X.calm = true := by rfl) (h : X.K = K := by rfl) : CallR X (.builtin "max") (fun xs H Q => ∃ (a : Addr) (ns : List Int), xs = [.ref a] ∧ (SqL K H a (ns.map V.int) ∨ SqT K H a (ns.map V.int)) ∧ ns ≠ [] ∧ ∀ m, IsMax ns m → Q (.int m) H) := by subst h; exact call_maxL hc
theorem kc_sum (hc : X.calm = true := by rfl) (h : X.K = K := by rfl) : CallR X (.builtin "sum") (fun xs H Q => ∃ (a : Addr) (ns : List Int), xs = [.ref a] ∧ (SqL K H a (ns.map V.int) ∨ SqT K H a (ns.map V.int)) ∧ Q (.int ns.sum) H) := by subst h; exact call_sumL hc
theorem kc_all (hc : X.calm = true := by rfl) (h : X.K = K := by rfl) : CallR X (.builtin "all") (fun xs H Q => ∃ (a : Addr) (bs : List Bool), xs = [.ref a] ∧ (SqL K H a (bs.map V.bl) ∨ SqT K H a (bs.map V.bl)) ∧ Q (.bl (bs.all id)) H) := by subst h; exact call_allL hc
theorem kc_isi (h : X.K = K := by rfl) : CallR X (.builtin "isinstance") (fun xs H Q => ∃ x n t b, xs = [x, .ty n] ∧ TyOf K H x t ∧ PySem.W.kitOne K t (.type n) = some b ∧ Q (.bl b) H) := by subst h; exact call_isi
theorem kc_tuple (h : X.K = K := by rfl) : CallR X (.type "tuple") (fun xs H Q => ∃ p ys, xs = [.ref p] ∧ ((SqL K H p ys ∧ ∀ l, H l = none → Q (.ref l) (upd H l (.tup ys))) ∨ (SqT K H p ys ∧ Q (.ref p) H))) := by subst h; exact call_tuple_of
theorem kc_list (h : X.K = K := by rfl) : CallR X (.type "list") (fun xs H Q => ∃ p ys, xs = [.ref p] ∧ (SqL K H p ys ∨ SqT K H p ys) ∧ ∀ l, H l = none → Q (.ref l) (upd H l (.lst ys))) := by subst h; exact call_list_of
theorem kc_max2 (hc : X.calm = true := by rfl) : CallR X (.builtin "max") (fun xs H Q => ∃ i j, xs = [.int i, .int j] ∧ Q (.int (if j > i then j else i)) H) := call_max2 hc
theorem kc_min2 (hc : X.calm = true := by rfl) : CallR X (.builtin "min") (fun xs H Q => ∃ i j, xs = [.int i, .int j] ∧ Q (.int (if j < i then j else i)) H) := call_min2 hc
theorem kpi_list {tg l : Expr} {tl : TE} (hl : PE X l tl) (h : X.K = K := by rfl) : PI X tg l (iList K tl) := by subst h; exact pi_list hl
theorem kpi_tup {tg l : Expr} {tl : TE} (hl : PE X l tl) (h : X.K = K := by rfl) : PI X tg l (iTup K tl) := by subst h; exact pi_tup hl
end
theorem lcN {i : Nat} {x : V} {te : TE} {σ : St} {H : Hp} {N : V → Hp → Prop} {N' : Hp → Prop} (h : te (σ.set i (some x)) H N) : gName i x σ H fun σ2 H2 => tYes σ2 H2 fun b H3 => if b = true then te σ2 H3 N else N' H3 := by
  show if true = true then te (σ.set i (some x)) H N else N' H
  rw [if_pos rfl]; exact h
end L2
set_option Elab.async false
set_option linter.all false
set_option maxRecDepth 100000
namespace L2
open PySem PySem.Spec PyProof.Rows
def CXE (P : Program) (w : World) : CXT := fun outer H s E e s' => ∃ (ea : Addr) (cls : Value) (H' : Hp) (B : Heap), e = .ref ea ∧ s'.os = s.os ∧ AllBare s'.gens ∧ Un (frs outer) [] H H' s.heap s'.heap ∧ HOk P w H' s'.heap ∧
  (∃ a0, Heap.FlyingW B outer ea cls a0 s'.heap) ∧ (∀ b o u, s'.heap.get? b = some o → H' b = some u → B.get? b = some o) ∧ (∀ b o, s.heap.get? b = some o → H b = none → b ∉ frs outer → B.get? b = some o) ∧
  (∀ b o, s.heap.get? b = some o → b ∉ frs outer → ∃ o', B.get? b = some o') ∧ E cls none H'
theorem ObjOk.get {P : Program} {w : World} {H : Hp} {h : Heap} {a : Addr} {o : HO} (x : ObjOk P w H h a o) : ∃ ob, h.get? a = some ob := by
  cases o with
  | lst xs => obtain ⟨_, _, _, _, e⟩ := x; exact ⟨_, e⟩
  | tup xs => obtain ⟨_, _, _, ob, e, _⟩ := x; exact ⟨ob, e⟩
  | dK kvs => obtain ⟨_, _, _, _, ob, _, _, e, _⟩ := x; exact ⟨ob, e⟩
  | dT kvs => obtain ⟨_, _, _, _, ob, _, _, e, _⟩ := x; exact ⟨ob, e⟩
  | set S n => obtain ⟨ob, _, _, _, e, _⟩ := x; exact ⟨ob, e⟩
  | ins C dx fs => obtain ⟨_, _, _, e, _⟩ := x; exact ⟨_, e⟩
  | own y => exact x
  | xd fs => obtain ⟨_, ⟨ob, _, _, e, _⟩, _⟩ := x; exact ⟨ob, e⟩
  | rng lo hi => obtain ⟨_, _, _, e⟩ := x; exact ⟨_, e⟩
  | frz ob u => obtain ⟨e, _⟩ := x; exact ⟨_, e⟩
  | tbl ps => exact ⟨_, x⟩
  | met f y => exact ⟨_, x⟩
  | ext φ => obtain ⟨_, e, _⟩ := x; exact e
section
variable {X : Cx} {pins : List (Addr × Obj)} {σ : St} {H : Hp} {s : Shared}
theorem cxe_mk {B h' : Heap} {ea : Addr} {cls a0 : Value} {E : XK} (I : Inv X pins σ H s) (hex : X.ex = []) (fl : Heap.FlyingW B X.outer ea cls a0 h')
    (fr : ∀ b ∈ frs X.outer, ∀ o, s.heap.get? b = some o → (∀ vs, o.data ≠ .fields vs) → ∃ sl, h'.get? b = some { o with slots := sl })
    (c1 : ∀ b o u, s.heap.get? b = some o → H b = some u → B.get? b = some o) (c2 : ∀ b o, X.s₀.heap.get? b = some o → X.H₀ b = none → b ∉ X.fs → B.get? b = some o)
    (c3 : ∀ b o, X.s₀.heap.get? b = some o → b ∉ X.fs → ∃ o', B.get? b = some o') (hE : E cls none H) : CXE X.prog X.w X.outer X.H₀ X.s₀ E (.ref ea) { s with heap := h' } := by
  have nex : ∀ b : Addr, b ∉ X.ex := fun b => by rw [hex]; simp
  have hfr : ∀ b ∈ X.fs, ∃ o, s.heap.get? b = some o ∧ ∀ vs, o.data ≠ .fields vs := fun b hb => (I.funs.mem hb).2
  have tr : ∀ b o u, s.heap.get? b = some o → H b = some u → h'.get? b = some o := fun b o u e q => fl.1 b o (c1 b o u e q)
  refine ⟨ea, cls, H, B, rfl, I.os, I.bare, ⟨fun b o e n hb _ => fl.1 b o (c2 b o e n hb), fun b o e n hb _ => ?_, fun b o e n _ => I.base.free b o e n (nex b), fun b o e _ => ?_, I.base.tups, I.base.frzs, I.base.tbls⟩, fun b u e => ?_, ⟨a0, fl⟩, fun b o u e q => ?_, c2, c3, hE⟩
  · obtain ⟨sl, e1⟩ := I.base.slot b o e n hb (nex b)
    obtain ⟨o1, e2, hd⟩ := hfr b hb
    obtain ⟨sl2, e3⟩ := fr b hb _ e2 hd
    rw [e1] at e2; cases e2
    exact ⟨sl2, e3⟩
  · by_cases hb : b ∈ X.fs
    · obtain ⟨o1, e2, hd⟩ := hfr b hb
      obtain ⟨sl2, e3⟩ := fr b hb _ e2 hd
      exact ⟨_, e3⟩
    · obtain ⟨o', e'⟩ := c3 b o e hb
      exact ⟨o', fl.1 b o' e'⟩
  · refine (I.hok b u e).stay (fun c v hc q => ?_) (fun _ q => q) fun _ _ q => q
    rcases hc with z | z
    · subst z; exact tr c v u q e
    · exact tr c v _ q z
  · obtain ⟨o1, e0⟩ := (I.hok b u q).get
    have q1 := tr b o1 u e0 q
    rw [e] at q1; cases q1
    exact c1 b o u e0 q
structure Fn0 (X : Cx) (E : XK) : Prop where
  xe : X.xe = fun e s' => wpAny (model X.prog X.w) X.A (leaving X.env e) (fun _ s'' => CXE X.prog X.w X.outer X.H₀ X.s₀ E e s'') (fun e' s'' => CXE X.prog X.w X.outer X.H₀ X.s₀ E e' s'') s'
  stk : X.stack = X.env :: X.outer
  frm : X.env.frame = some X.env.locals
  ex : X.ex = []
theorem Fn0.nstk (F : Fn0 X E) (I : Inv X pins σ H s) {b : Addr} {o : Obj} (e : X.s₀.heap.get? b = some o) (hb : b ∉ X.fs) : b ∉ frs X.stack := fun z => by
  rcases List.mem_cons.mp (I.stkSub b z) with q | q
  · exact absurd (Nat.lt_of_lt_of_le (Heap.lt_size e) I.ok.above) (by rw [q]; exact Nat.lt_irrefl _)
  · exact hb q
theorem pass_fn {E : XK} (F : Fn0 X E) : Passes (CXE X.prog X.w) X E := by
  intro pins σ H s e s' I h
  obtain ⟨ea, cls, H', B, rfl, os, bare, un, hok, ⟨a0, fl⟩, c1, c2, c3, hE⟩ := h
  have J : Inv X pins σ H' s' := I.call' os un hok bare fun b z => absurd z (by simp)
  rw [F.xe]
  rw [F.stk] at fl
  refine wpAny_leaves_onW (by rw [I.ok.frames, F.stk]) F.frm fl fun h'' fl'' ups => ?_
  have nex : ∀ b : Addr, b ∉ X.ex := fun b => by rw [F.ex]; simp
  refine cxe_mk J F.ex fl'' (fun b hb o e hd => ups b o e hd) c1 (fun b o e n hb => ?_) (fun b o e hb => ?_) hE
  · exact c2 b o (I.base.keep b o e n hb (nex b)) (I.base.free b o e n (nex b)) (F.nstk I e hb)
  · obtain ⟨o', e'⟩ := I.base.there b o e (nex b)
    exact c3 b o' e' (F.nstk I e hb)
abbrev bmV : List Value := [.type "ValueError", .type "Exception", .type "BaseException", .type "object"]
theorem excObj {K : PySem.W.Frag} {h : Heap} {C : Addr} (X : K.In h) (q : PySem.W.excIn K C bmV "ValueError.__new__" = true) :
    ∃ bm N nm q bs hdct sn sub ab col dd k0 k1 k2 k3 k5 mN, h.get? C = some (excClassObj nm q C N bs bm hdct sn sub ab col dd k0 k1 k2 k3 k5 "ValueError.__new__") ∧ h.Ns N mN ∧ mN "__init__" = none ∧ OwnTail h bmV bm := by
  unfold PySem.W.excIn at q
  split at q
  · rename_i dd cd sl ho
    split at q
    · rename_i C' bm k0 k1 k2 k3 n k5 hm hs
      simp only [Bool.and_eq_true, beq_iff_eq, Bool.not_eq_true'] at q
      obtain ⟨⟨⟨⟨⟨rfl, rfl⟩, hdel⟩, ht⟩, hok⟩, hni⟩ := q
      obtain ⟨nm, bs, mro, ns, qn, hd, sn, sub, ab, col, del⟩ := cd
      dsimp only at hm hdel hok hni
      subst hm hdel
      obtain ⟨l⟩ := sl
      simp only at hs
      subst hs
      exact ⟨bm, ns, nm, qn, bs, hd, sn, sub, ab, col, dd, k0, k1, k2, k3, k5, _, X _ _ ho, .of_isNs (PySem.W.isNs_of_in X hok), PySem.W.nsMap_none_of_in X hok hni, PySem.W.tail_of_in X ht⟩
    · cases q
  · cases q
theorem ps_raise {E : XK} {x : Str} {C : Addr} {e₀ : Expr} {rest : List Expr} {t : TA} {np cpos pos : Pos} (F : Fn0 X E) (hc : X.calm = true) (hg : Gl X x) (hm : X.mg x = some (.ref C)) (hq : PySem.W.excIn X.K C bmV "ValueError.__new__" = true) (ha : PA X (e₀ :: rest) t)
    (he : starEach (e₀ :: rest) X.env = (false, eval e₀ X.env) :: starEach rest X.env := by rfl) (hplain : (backTo cpos (starEach rest X.env)).any (·.1) = false := by rfl) (hd : (x == ("__debug__" : Str)) = false := by decide) :
    PS X (.Raise (some (.Call (.Name x np) (e₀ :: rest) [] cpos)) none pos) (fun _ σ H => t σ H fun vs H1 => vs.length ≤ sizeLine ∧ E (.ref C) none H1) := by
  intro pins s σ H D I h
  obtain ⟨bm, N, nm, q, bs, hdct, sn, sub, ab, col, dd, k0, k1, k2, k3, k5, mN, hC, hN, hni, T⟩ := excObj I.ok.mod.kin hq
  refine wpAny_Raise_call_subT (C := C) (nm := nm) (q := q) (N := N) (bs := bs) (bm := bm) (hdct := hdct) (sn := sn) (sub := sub) (ab := ab) (col := col) (dd := dd) (k0 := k0) (k1 := k1) (k2 := k2) (k3 := k3) (k5 := k5)
    PySem.F.excBase_ValueError (mN := mN) (T.hasType (by decide +kernel)) (I.ok.hd hc) (by rw [he]; show (false || (backTo cpos (starEach rest X.env)).any (·.1)) = false; rw [hplain]; rfl) hni (ld_glob I hg hm ⟨rfl, ?_⟩ hd)
  have hA := ha cpos pins s σ H _ I h
  rw [he] at hA ⊢
  refine Calls.evalArgs_plain (wpAny_mono hA (fun us s2 h2 => ?_) fun _ _ y => y)
  obtain ⟨vs, H1, I1, r, hl, hE⟩ := h2
  refine ⟨rfl, by rw [← r.length]; exact hl, I1.bk _ _ hC, hN.keeps I1.bk, T.keeps I1.bk, fun h' e hme => ?_⟩
  rw [F.xe]
  have hin : ∀ env ∈ X.env :: X.outer, ∀ b, env.frame = some b → b ∈ frs X.stack := fun env he b hb => by
    rw [F.stk]; exact List.mem_filterMap.mpr ⟨env, he, hb⟩
  have hstk := I1.stack
  rw [F.stk] at hstk
  refine wpAny_leaves_madeW (base := PySem.W.hideAll s2.heap (frs X.stack)) (by rw [I1.ok.frames, F.stk]) F.frm (fun b o q => PySem.W.of_hideAll _ q) (PySem.W.funFrames_hide hstk hin) hme fun h'' t fl tup bt ups => ?_
  have nex : ∀ b : Addr, b ∉ X.ex := fun b => by rw [F.ex]; simp
  show CXE X.prog X.w X.outer X.H₀ X.s₀ E (.ref e) { s2 with heap := h'' }
  refine cxe_mk I1 F.ex fl (fun b hb o e hd => ups b o (hme.keeps b o e) hd) (fun b o u e q => PySem.W.hideAll_get _ e fun z => ?_) (fun b o e n hb => PySem.W.hideAll_get _ (I1.base.keep b o e n hb (nex b)) (F.nstk I1 e hb)) (fun b o e hb => ?_) hE
  · rw [I1.stkFree b z] at q; cases q
  · obtain ⟨o', e'⟩ := I1.base.there b o e (nex b)
    exact ⟨o', PySem.W.hideAll_get _ e' (F.nstk I1 e hb)⟩
theorem Inv.slots {B h' : Heap} (I : Inv X pins σ H s) (hB : B.StaysIn h') (ups : s.heap.UpToSlots h') (c1 : ∀ b o u, s.heap.get? b = some o → H b = some u → B.get? b = some o)
    (c2 : ∀ b o, X.s₀.heap.get? b = some o → X.H₀ b = none → b ∉ X.fs → b ∉ X.ex → B.get? b = some o) (c3 : ∀ b o, X.s₀.heap.get? b = some o → b ∉ X.fs → b ∉ X.ex → ∃ o', B.get? b = some o')
    (c4 : ∀ p ∈ X.pn ++ pins, B.get? p.1 = some p.2) : Inv X pins σ H { s with heap := h' } := by
  have hfr : ∀ b ∈ X.fs, ∃ o, s.heap.get? b = some o ∧ ∀ vs, o.data ≠ .fields vs := fun b hb => (I.funs.mem hb).2
  have tr : ∀ b o u, s.heap.get? b = some o → H b = some u → h'.get? b = some o := fun b o u e q => hB b o (c1 b o u e q)
  have cl : ∀ c v, s.heap.IsCell c v → h'.IsCell c v := fun c v z => by
    obtain ⟨o, ho, hd⟩ := z
    obtain ⟨sl, e⟩ := ups c o ho fun vs q => by rw [hd] at q; cases q
    exact ⟨_, e, hd⟩
  refine ⟨I.ok, I.os, I.bare, ⟨fun b o e n hb hx => hB b o (c2 b o e n hb hx), fun b o e n hb hx => ?_, I.base.free, fun b o e hx => ?_, I.base.tups, I.base.frzs, I.base.tbls⟩, ?_, fun x c e => ?_, I.free, I.freeC, fun p hp => ?_, fun b u e => ?_, I.len⟩
  · obtain ⟨sl, e1⟩ := I.base.slot b o e n hb hx
    obtain ⟨o1, e2, hd⟩ := hfr b hb
    obtain ⟨sl2, e3⟩ := ups b _ e2 hd
    rw [e1] at e2; cases e2
    exact ⟨sl2, e3⟩
  · by_cases hb : b ∈ X.fs
    · obtain ⟨o1, e2, hd⟩ := hfr b hb
      obtain ⟨sl2, e3⟩ := ups b _ e2 hd
      exact ⟨_, e3⟩
    · obtain ⟨o', e'⟩ := c3 b o e hb hx
      exact ⟨o', hB b o' e'⟩
  · obtain ⟨m, hn, hl⟩ := I.loc
    refine ⟨m, ups.ns hn, fun i x v e1 e2 e3 => ?_⟩
    obtain ⟨u, ru, lk⟩ := hl i x v e1 e2 e3
    refine ⟨u, ru, ?_⟩
    rcases lk with lk | ⟨k, c, ec, z⟩
    · exact .inl lk
    · exact .inr ⟨k, c, ec, cl c _ z⟩
  · obtain ⟨v, z⟩ := I.cell x c e
    exact ⟨v, cl c v z⟩
  · obtain ⟨_, n, ne, nf, d⟩ := I.pin p hp
    exact ⟨hB _ _ (c4 p hp), n, ne, nf, d⟩
  · refine (I.hok b u e).stay (fun c v hc q => ?_) (fun _ q => q) fun _ _ q => q
    rcases hc with z | z
    · subst z; exact tr c v u q e
    · exact tr c v _ q z
end
section
variable {P : Program} {w : World} {K : PySem.W.Frag} {mg : Str → Option Value} {base : Heap}
theorem Fun.okE {x qual : Str} {st : Stmt} {f : Addr} {fd : FuncData} {N ps : List Str} {k : Nat} {sp : Sp} (F : Fun K x qual st f fd) (S : FnScope N ps (defScope st)) (len : ∀ vs H Q E, sp vs H Q E → vs.length = ps.length)
    (hbody : ∀ (cdv : Value) (A : Around) (outer : List Env) (s : Shared) (H : Hp) (vs : List V) (Q : VK) (E : XK), Room k (A.deeper (envOfC qual (defScope st) s.heap.objs.size f cdv)) → Fn0 (cxOf (CXE P w) P w K mg base N qual (defScope st) f cdv A outer s H E) E → sp vs H Q E →
      ∃ t, PSs (cxOf (CXE P w) P w K mg base N qual (defScope st) f cdv A outer s H E) (defBody st) t ∧ t { nx := fun _ H' => Q .non H', rt := Q } (start N vs) H) : FnOk P w K mg base (CXE P w) (k + 1) f fd ps sp := by
  obtain ⟨oc, od, kV, doc, pm, an, cdv, ct, osl, rfl, lk, hcd⟩ := F.ex
  exact fn_of lk hcd S len fun A outer s H vs Q E hr hsp => hbody cdv A outer s H vs Q E hr ⟨rfl, rfl, rfl, rfl⟩ hsp
structure CalE (P : Program) (w : World) (K : PySem.W.Frag) (mg : Str → Option Value) (base : Heap) (k : Nat) (x : Str) (dvs : List V) (sp : Sp) : Prop where
  ex : ∃ f fd ps ds, FnOk P w K mg base (CXE P w) k f fd ps sp ∧ mg x = some (.ref f) ∧ PySem.W.keepIn K (.ref f) = true ∧ Binds K fd ps ds ∧ Vals dvs ds
theorem Fun.calE {x : Str} {qual : Str} {st : Stmt} {f : Addr} {fd : FuncData} {ps : List Str} {k : Nat} {sp : Sp} (F : Fun K x qual st f fd) (G : FnOk P w K mg base (CXE P w) k f fd ps sp) (hm : mg x = some (.ref f))
    (h : ∀ (kV doc pm : Value) (an : Option Addr) (cdv ct : Value) (us : List Value), us.length = ps.length → bindArgs (PySem.W.fnOf x qual (defArgs st) (defBody st) (defScope st) .none kV doc pm an cdv ct) ⟨us, []⟩ = pure (ps.zip us)) : CalE P w K mg base k x [] sp :=
  ⟨f, fd, ps, [], G, hm, F.kp, F.binds h, .nil⟩
end
theorem pe_calE {X : Cx} {k : Nat} {x : Str} {dvs : List V} {sp : Sp} {E : XK} {e : Expr} {es : List Expr} {t : TA} {p pos : Pos} (c : CalE X.prog X.w X.K X.mg X.base k x dvs sp) (hr : Room k X.A) (hg : Gl X x) (hx : Passes (CXE X.prog X.w) X E) (ha : PA X (e :: es) t) (hd : (x == ("__debug__" : Str)) = false := by decide)
    (he : starEach (e :: es) X.env = (false, eval e X.env) :: starEach es X.env := by rfl) (hpl : (backTo pos (starEach es X.env)).any (·.1) = false := by rfl) :
    PE X (.Call (.Name x p) (e :: es) [] pos) (tCall sp dvs E t) := by
  obtain ⟨f, fd, ps, ds, F, hm, hk, hb, hv⟩ := c.ex
  exact pe_call F hr hg hm hk hb hv hx ha hd he hpl
end L2
set_option Elab.async false
set_option linter.all false
set_option maxRecDepth 100000
namespace L2
open PySem PySem.Spec PyProof.Rows
section
variable {κ : Type} [DecidableEq κ]
def valV (kvs : List (κ × V)) (k : κ) : Option V := (kvs.find? fun kv => decide (kv.1 = k)).map (·.2)
def putK (kvs : List (κ × V)) (k : κ) (v : V) : List (κ × V) :=
  if (kvs.any fun kv => decide (kv.1 = k)) = true then kvs.map (fun kv => if kv.1 = k then (kv.1, v) else kv) else kvs ++ [(k, v)]
def dropK (kvs : List (κ × V)) (k : κ) : List (κ × V) := kvs.filter fun kv => decide (kv.1 ≠ k)
theorem valV_pos {p : κ × V} {r : List (κ × V)} {k : κ} (e : p.1 = k) : valV (p :: r) k = some p.2 := by simp [valV, List.find?_cons, e]
theorem valV_neg {p : κ × V} {r : List (κ × V)} {k : κ} (e : ¬ p.1 = k) : valV (p :: r) k = valV r k := by simp [valV, List.find?_cons, e]
theorem valV_any (k : κ) : ∀ kvs : List (κ × V), (kvs.any fun kv => decide (kv.1 = k)) = (valV kvs k).isSome
  | [] => rfl
  | p :: r => by
    rw [List.any_cons]
    by_cases e : p.1 = k
    · simp only [valV_pos e, decide_eq_true e, Bool.true_or, Option.isSome_some]
    · rw [valV_neg e, decide_eq_false e, Bool.false_or]; exact valV_any k r
theorem length_putK (kvs : List (κ × V)) (k : κ) (v : V) : (putK kvs k v).length ≤ kvs.length + 1 := by
  unfold putK
  split
  · rw [List.length_map]; omega
  · rw [List.length_append, List.length_cons, List.length_nil]; omega
theorem RelO.isSome_eq {o : Option V} {u : Option Value} (r : RelO o u) : o.isSome = u.isSome := by
  cases o with
  | none => cases u with
    | none => rfl
    | some _ => exact (show False from r).elim
  | some _ => cases u with
    | none => exact (show False from r).elim
    | some _ => rfl
theorem RelO.getD {o : Option V} {u : Option Value} {d : V} {d' : Value} (r : RelO o u) (rd : RelV d d') : RelV (o.getD d) (u.getD d') := by
  cases o with
  | none => cases u with
    | none => exact rd
    | some _ => exact (show False from r).elim
  | some _ => cases u with
    | none => exact (show False from r).elim
    | some _ => exact r
theorem KV.val {kvs : List (κ × V)} {vs : List (κ × Value)} (r : KV kvs vs) (k : κ) : RelO (valV kvs k) (valueAt vs k) := by
  unfold KV at r
  induction r with
  | nil => exact True.intro
  | @cons p q ps qs h t ih =>
    obtain ⟨h1, h2⟩ := h
    by_cases e : p.1 = k
    · have e' : q.1 = k := h1.symm.trans e
      have b : valueAt (q :: qs) k = some q.2 := by simp [valueAt, List.find?_cons, e']
      rw [valV_pos e, b]; exact h2
    · have e' : ¬ q.1 = k := fun z => e (h1.trans z)
      have b : valueAt (q :: qs) k = valueAt qs k := by simp [valueAt, List.find?_cons, e']
      rw [valV_neg e, b]; exact ih
theorem KV.any {kvs : List (κ × V)} {vs : List (κ × Value)} (r : KV kvs vs) (k : κ) : (kvs.any fun kv => decide (kv.1 = k)) = vs.any fun kv => decide (kv.1 = k) := by
  unfold KV at r
  induction r with
  | nil => rfl
  | cons h t ih => rw [List.any_cons, List.any_cons, ih, h.1]
theorem KV.repl {kvs : List (κ × V)} {vs : List (κ × Value)} (r : KV kvs vs) (k : κ) {y : V} {u : Value} (ry : RelV y u) :
    KV (kvs.map fun kv => if kv.1 = k then (kv.1, y) else kv) (vs.map fun kv => if kv.1 = k then (kv.1, u) else kv) := by
  unfold KV at r ⊢
  induction r with
  | nil => exact .nil
  | @cons p q ps qs h t ih =>
    rw [List.map_cons, List.map_cons]
    refine .cons ?_ ih
    obtain ⟨h1, h2⟩ := h
    by_cases e : p.1 = k
    · rw [if_pos e, if_pos (h1.symm.trans e)]; exact ⟨h1, ry⟩
    · rw [if_neg e, if_neg (fun z => e (h1.trans z))]; exact ⟨h1, h2⟩
theorem KV.put {kvs : List (κ × V)} {vs : List (κ × Value)} (r : KV kvs vs) (k : κ) {y : V} {u : Value} (ry : RelV y u) : KV (putK kvs k y) (stored vs k u) := by
  unfold putK stored
  rw [r.any k]
  by_cases e : (vs.any fun kv => decide (kv.1 = k)) = true
  · rw [if_pos e, if_pos e]; exact r.repl k ry
  · rw [if_neg e, if_neg e]; exact Paired.snoc r ⟨rfl, ry⟩
theorem KV.drop {kvs : List (κ × V)} {vs : List (κ × Value)} (r : KV kvs vs) (k : κ) : KV (dropK kvs k) (without vs k) := by
  unfold KV at r ⊢
  unfold dropK without
  induction r with
  | nil => exact .nil
  | @cons p q ps qs h t ih =>
    obtain ⟨h1, h2⟩ := h
    rw [List.filter_cons, List.filter_cons]
    by_cases e : p.1 = k
    · have a : ¬ decide (p.1 ≠ k) = true := by simp [e]
      have b : ¬ decide (q.1 ≠ k) = true := by simp [h1.symm.trans e]
      rw [if_neg a, if_neg b]; exact ih
    · have e' : ¬ q.1 = k := fun z => e (h1.trans z)
      have a : decide (p.1 ≠ k) = true := by simp [e]
      have b : decide (q.1 ≠ k) = true := by simp [e']
      rw [if_pos a, if_pos b]; exact .cons ⟨h1, h2⟩ ih
theorem KV.keys {kvs : List (κ × V)} {vs : List (κ × Value)} (r : KV kvs vs) : kvs.map (·.1) = vs.map (·.1) := by
  unfold KV at r
  induction r with
  | nil => rfl
  | cons h t ih => rw [List.map_cons, List.map_cons, ih, h.1]
theorem KV.length {kvs : List (κ × V)} {vs : List (κ × Value)} (r : KV kvs vs) : kvs.length = vs.length := Paired.length r
end
theorem kV_is {P : Program} {w : World} {k : Key} {u : Value} (r : RelV (kV k) u) : (mixKind P w).is k u = true := by
  cases k with
  | inl i => obtain ⟨t, e⟩ := (show ∃ t, u = Value.int i t from r); subst e; exact mixKind_int P w i t
  | inr x => obtain ⟨t, e⟩ := (show ∃ t, u = Value.str x t from r); subst e; exact mixKind_str P w x t
theorem items_are {P : Program} {w : World} : ∀ {ks : List Key} {us : List Value}, Vals (ks.map kV) us → ItemsAre (mixKind P w) ks us
  | [], _, r => by rw [List.map_nil] at r; cases r; exact .nil
  | k :: ks, _, r => by
    rw [List.map_cons] at r
    cases r with
    | cons h t => exact .cons (kV_is h) (items_are t)
abbrev KT (H : Hp) : List (List Key × V) → List (List Key × Addr × Value) → Prop := Paired fun p q => p.1 = q.1 ∧ H q.2.1 = some (.tup (p.1.map kV)) ∧ RelV p.2 q.2.2
theorem KT.val {H : Hp} {kvs : List (List Key × V)} {xs : List (List Key × Addr × Value)} (r : KT H kvs xs) (k : List Key) : RelO (valV kvs k) ((atKey xs k).map (·.2)) := by
  induction r with
  | nil => exact True.intro
  | @cons p q ps qs h t ih =>
    obtain ⟨h1, _, h2⟩ := h
    by_cases e : p.1 = k
    · have e' : q.1 = k := h1.symm.trans e
      have b : atKey (q :: qs) k = some q.2 := by simp [atKey, List.find?_cons, e']
      rw [valV_pos e, b]; exact h2
    · have e' : ¬ q.1 = k := fun z => e (h1.trans z)
      have b : atKey (q :: qs) k = atKey qs k := by simp [atKey, List.find?_cons, e']
      rw [valV_neg e, b]; exact ih
theorem KT.repl {H : Hp} {kvs : List (List Key × V)} {xs : List (List Key × Addr × Value)} (r : KT H kvs xs) (k : List Key) {y : V} {u : Value} (ry : RelV y u) :
    KT H (kvs.map fun kv => if kv.1 = k then (kv.1, y) else kv) (xs.map (putAt k u)) := by
  induction r with
  | nil => exact .nil
  | @cons p q ps qs h t ih =>
    rw [List.map_cons, List.map_cons]
    refine .cons ?_ ih
    obtain ⟨h1, h2, h3⟩ := h
    unfold putAt
    by_cases e : p.1 = k
    · rw [if_pos e, if_pos (h1.symm.trans e)]; exact ⟨h1, h2, ry⟩
    · rw [if_neg e, if_neg (fun z => e (h1.trans z))]; exact ⟨h1, h2, h3⟩
theorem KT.put {H : Hp} {kvs : List (List Key × V)} {xs : List (List Key × Addr × Value)} (r : KT H kvs xs) (k : List Key) {b : Addr} {y : V} {u : Value} (hb : H b = some (.tup (k.map kV))) (ry : RelV y u) :
    KT H (putK kvs k y) (storedH xs k b u) := by
  have e : (kvs.any fun kv => decide (kv.1 = k)) = (atKey xs k).isSome := by
    rw [valV_any, (r.val k).isSome_eq, Option.isSome_map]
  unfold putK storedH
  rw [e]
  by_cases q : (atKey xs k).isSome = true
  · rw [if_pos q, if_pos q]; exact r.repl k ry
  · rw [if_neg q, if_neg q]; exact Paired.snoc r ⟨rfl, hb, ry⟩
theorem KT.keeps {H H' : Hp} {kvs : List (List Key × V)} {xs : List (List Key × Addr × Value)} (r : KT H kvs xs) (ht : ∀ b ys, H b = some (.tup ys) → H' b = some (.tup ys)) : KT H' kvs xs :=
  Paired.mapP r fun _ _ z => ⟨z.1, ht _ _ z.2.1, z.2.2⟩
section
variable {P : Program} {w : World} {H : Hp} {h : Heap} {a : Addr}
theorem rd_of {u : HO} (ok : HOk P w H h) (e : Rd H a u) : ObjOk P w H h a u := e.ok ok
theorem dk_rd {kvs : List (Key × V)} (ok : HOk P w H h) (e : Rd H a (.dK kvs)) : kvs.length ≤ sizeLine ∧ (a == sysModules) = false ∧ ∃ vs, KV kvs vs ∧ h.DictOf (mixKind P w) a vs :=
  show ObjOk P w H h a (.dK kvs) from rd_of ok e
theorem dk_of {kvs : List (Key × V)} (ok : HOk P w H h) (e : H a = some (.dK kvs)) : kvs.length ≤ sizeLine ∧ (a == sysModules) = false ∧ ∃ vs, KV kvs vs ∧ h.DictOf (mixKind P w) a vs := dk_rd ok (.inl e)
theorem key_of {ks : List Key} (ok : HOk P w H h) (e : H a = some (.tup (ks.map kV))) : (tupleKind (mixKind P w)).is h ks a := by
  obtain ⟨_, its, r, o, h1, h2, n, h3⟩ := (show ObjOk P w H h a (.tup (ks.map kV)) from ok a _ e)
  exact ⟨o, its.toArray, n, h1, h2, h3, by simpa using items_are r⟩
theorem dt_rd {kvs : List (List Key × V)} (ok : HOk P w H h) (e : Rd H a (.dT kvs)) : kvs.length ≤ sizeLine ∧ (a == sysModules) = false ∧
    ∃ xs, KT H kvs xs ∧ h.DictOfH (tupleKind (mixKind P w)) a xs := by
  obtain ⟨z, y, xs, r, o, es, ep, h1, h2, h3, h4, h5⟩ := (show ObjOk P w H h a (.dT kvs) from rd_of ok e)
  refine ⟨z, y, xs, r, o, es, ep, h1, h2, h3, h4, fun x hx => ?_, h5⟩
  have all : ∀ {l : List (List Key × V)} {m : List (List Key × Addr × Value)}, KT H l m → ∀ x ∈ m, (tupleKind (mixKind P w)).is h x.1 x.2.1 := by
    intro l m q
    induction q with
    | nil => intro x hx; exact nomatch hx
    | @cons p q ps qs hq t ih =>
      intro x hx
      rcases List.mem_cons.mp hx with e | hx
      · subst e
        exact key_of ok (by rw [← hq.1]; exact hq.2.1)
      · exact ih x hx
  exact all r x hx
theorem dt_of {kvs : List (List Key × V)} (ok : HOk P w H h) (e : H a = some (.dT kvs)) : kvs.length ≤ sizeLine ∧ (a == sysModules) = false ∧
    ∃ xs, KT H kvs xs ∧ h.DictOfH (tupleKind (mixKind P w)) a xs := dt_rd ok (.inl e)
end
def DGet (H : Hp) (a : Addr) (y : V) (r : Option V) : Prop :=
  (∃ kvs k, Rd H a (.dK kvs) ∧ y = kV k ∧ r = valV kvs k) ∨ ∃ kvs k b, Rd H a (.dT kvs) ∧ y = .ref b ∧ H b = some (.tup (k.map kV)) ∧ r = valV kvs k
def DPut (H : Hp) (a : Addr) (y v : V) (H' : Hp) : Prop :=
  (∃ kvs k, H a = some (.dK kvs) ∧ y = kV k ∧ kvs.length < sizeLine ∧ H' = upd H a (.dK (putK kvs k v))) ∨
  ∃ kvs k b, H a = some (.dT kvs) ∧ y = .ref b ∧ H b = some (.tup (k.map kV)) ∧ kvs.length < sizeLine ∧ H' = upd H a (.dT (putK kvs k v))
theorem DGet.k {H : Hp} {a : Addr} {kvs : List (Key × V)} {k : Key} (e : H a = some (.dK kvs)) : DGet H a (kV k) (valV kvs k) := .inl ⟨kvs, k, .inl e, rfl, rfl⟩
theorem DGet.t {H : Hp} {a b : Addr} {kvs : List (List Key × V)} {k : List Key} (e : H a = some (.dT kvs)) (eb : H b = some (.tup (k.map kV))) : DGet H a (.ref b) (valV kvs k) := .inr ⟨kvs, k, b, .inl e, rfl, eb, rfl⟩
theorem DPut.k {H : Hp} {a : Addr} {kvs : List (Key × V)} {k : Key} {v : V} (e : H a = some (.dK kvs)) (hl : kvs.length < sizeLine) : DPut H a (kV k) v (upd H a (.dK (putK kvs k v))) := .inl ⟨kvs, k, e, rfl, hl, rfl⟩
theorem DPut.t {H : Hp} {a b : Addr} {kvs : List (List Key × V)} {k : List Key} {v : V} (e : H a = some (.dT kvs)) (eb : H b = some (.tup (k.map kV))) (hl : kvs.length < sizeLine) :
    DPut H a (.ref b) v (upd H a (.dT (putK kvs k v))) := .inr ⟨kvs, k, b, e, rfl, eb, hl, rfl⟩
section
variable {X : Cx} {pins : List (Addr × Obj)} {σ : St} {H : Hp} {s : Shared} {a : Addr} {y v : V} {u r : Value} {o : Option V} {A : Around} {E : Value → Shared → Prop}
theorem Inv.big (I : Inv X pins σ H s) : sysModules < s.heap.objs.size := by
  have h : mainGlobals < s.heap.objs.size := (I.mod.glob.keeps I.bk).lt
  exact Nat.lt_trans (by decide) h
theorem d_write {h' : Heap} {t' : Nat} {ob : HO} (I : Inv X pins σ H s) (mu : Mut (H a)) (hs : Heap.SameBut a s.heap h') (he : ∃ q, h'.get? a = some q) (new : ObjOk X.prog X.w (upd H a ob) h' a ob) :
    Inv X pins σ (upd H a ob) { s with heap := h', toks := t' } :=
  I.write (x := a) (e := a) mu (.inl rfl) (fun b q hb z => (hs.2 b hb).trans z) he new
theorem dk_new {P : Program} {w : World} {H' : Hp} {h' : Heap} {kvs : List (Key × V)} {vs : List (Key × Value)} (z : kvs.length ≤ sizeLine) (hd : (a == sysModules) = false) (rel : KV kvs vs) (dd : h'.DictOf (mixKind P w) a vs) :
    ObjOk P w H' h' a (.dK kvs) := ⟨z, hd, vs, rel, dd⟩
theorem d_setItem {H' : Hp} {Q : Unit → Shared → Prop} (hu : A.units + 1 < cLine) (I : Inv X pins σ H s) (g : DPut H a y v H') (ry : RelV y u) (rv : RelV v r) (h : ∀ s', Inv X pins σ H' s' → Q () s') :
    wpAny (model X.prog X.w) A (setItem (.ref a) u r) Q E s := by
  rcases g with ⟨kvs, k, e, ey, l, eH⟩ | ⟨kvs, k, b, e, ey, eb, l, eH⟩
  · subst ey eH
    obtain ⟨z, hd, vs, rel, dd⟩ := dk_of I.hok e
    have hz : vs.length ≤ sizeLine := by rw [← rel.length]; exact z
    have hl : (putK kvs k v).length ≤ sizeLine := by have := length_putK kvs k v; omega
    refine wpAny_setItem_pairs (hsz := hz) (kV_is ry) dd fun h' dd' hs => h _ ?_
    have he : ∃ q, h'.get? a = some q := let ⟨q, _, _, hq, _⟩ := dd'; ⟨q, hq⟩
    exact d_write I (by rw [e]; exact True.intro) hs he (dk_new hl hd (rel.put k rv) dd')
  · subst ey eH
    cases (show u = Value.ref b from ry)
    obtain ⟨z, hd, xs, rel, dd⟩ := dt_of I.hok e
    have hz : xs.length ≤ sizeLine := by rw [← Paired.length rel]; exact z
    have hl : (putK kvs k v).length ≤ sizeLine := by have := length_putK kvs k v; omega
    refine wpAny_setItem_heap (hsz := hz) (tupleKind_room_in1 hu) (key_of I.hok eb) dd fun h' dd' hs => h _ ?_
    obtain ⟨q, es, ep, hq, h2, h3, h4, _, h5⟩ := dd'
    refine d_write I (by rw [e]; exact True.intro) hs ⟨q, hq⟩ ⟨hl, hd, _, (rel.put k eb rv).keeps fun c ys ec => ?_, q, es, ep, hq, h2, h3, h4, h5⟩
    rw [upd_ne (ne_of ec e (fun z => nomatch z))]
    exact ec
end
section
variable {X : Cx} {pins : List (Addr × Obj)} {σ : St} {H : Hp} {s : Shared} {a : Addr} {kvs : List (Key × V)} {k : Key} {u : Value} {A : Around} {E : Value → Shared → Prop}
end
def sDPut (td ty tv : TE) : TS := fun D σ H => tv σ H fun v H1 => td σ H1 fun x H2 => ty σ H2 fun y H3 => ∃ a H4, x = .ref a ∧ DPut H3 a y v H4 ∧ D.nx σ H4
section
variable {X : Cx} {o i e value : Expr} {pos pos' tpos : Pos} {td ty tv : TE}
theorem ps_dput (hu : X.A.units + 1 < cLine) (ho : PE X o td) (hi : PE X i ty) (hv : PE X value tv) (hs : swapsWith value (some (.Subscript o i pos')) pos.line X.env = pure false) :
    PS X (.Assign [.Subscript o i pos'] value pos) (sDPut td ty tv) := by
  intro pins s σ H D I h
  refine wpAny_Assign_Subscript (thn (hv pins s σ H _ I h) fun r s1 ⟨v, H1, I1, rv, q1⟩ => thn (ho pins s1 σ H1 _ I1 q1) fun u s2 ⟨x, H2, I2, rx, q2⟩ => thn (hi pins s2 σ H2 _ I2 q2) fun iv s3 ⟨y, H3, I3, ry, a, H4, ex, g, q3⟩ => ?_) hs
  subst ex
  obtain rfl : u = Value.ref a := rx
  exact d_setItem hu I3 g ry rv fun s4 I4 => ⟨σ, H4, I4, q3⟩
end
theorem dt_empty {P : Program} {w : World} {H : Hp} (h : Heap) (hb : sysModules < h.objs.size) : ObjOk P w H (h.push { cls := .type "dict", data := .dict #[] }) h.objs.size (.dT []) :=
  ⟨Nat.zero_le _, beq_eq_false_iff_ne.mpr (Ne.symm (Nat.ne_of_lt hb)), [], .nil, _, #[], 0, Heap.get?_push_size _ rfl, ⟨rfl, rfl, rfl⟩, rfl, rfl, List.nodup_nil⟩
def tDNewT : TE := fun _ H Q => ∀ p, H p = none → Q (.ref p) (upd H p (.dT []))
section
variable {X : Cx} {pos : Pos}
theorem pe_dnewT : PE X (.Dict [] [] pos) tDNewT := fun pins s σ H Q I h =>
  wpAny_Dict_empty ⟨.ref s.heap.objs.size, _, I.laid (a := s.heap.objs.size) (o := .dT []) (t' := s.toks) (fun _ _ q => Heap.get?_push_of_some _ q) (Nat.le_refl _) (dt_empty s.heap I.big), rfl, h _ (I.hok.fresh (Nat.le_refl _))⟩
end
section
variable {X : Cx} {pins : List (Addr × Obj)} {σ : St} {H : Hp} {s : Shared} {a : Addr} {y d : V} {u r : Value} {o : Option V} {A : Around} {E : Value → Shared → Prop}
end
section
variable {X : Cx} {o e f : Expr} {apos cpos : Pos} {td ty tx : TE}
end
section
variable {X : Cx} {pins : List (Addr × Obj)} {σ : St} {H : Hp} {s : Shared} {a : Addr} {kvs : List (Key × V)} {A : Around} {E : Value → Shared → Prop}
end
section
variable {X : Cx} {pins : List (Addr × Obj)} {σ : St} {H : Hp} {s : Shared} {a : Addr} {y : V} {u : Value} {A : Around} {E : Value → Shared → Prop}
end
end L2
namespace L2
open PySem PySem.Spec PyProof.Rows
section
variable {X : Cx}
end
section
variable {κ : Type} [DecidableEq κ]
end
end L2
set_option Elab.async false
set_option linter.all false
set_option maxRecDepth 100000
namespace L2
open PySem PySem.Spec PyProof.Rows
section
variable {X : Cx} {K : PySem.W.Frag}
theorem idx_before : ∀ (ns : List Int) (z : Int) (m : Nat), m < ns.idxOf z → ns.getD m 0 ≠ z
  | [], _, _, h => by simp at h
  | a :: r, z, m, h => by
    rw [List.idxOf_cons] at h
    by_cases e : a = z
    · subst e; simp at h
    · have e' : (a == z) = false := beq_eq_false_iff_ne.mpr e
      rw [e'] at h
      cases m with
      | zero => exact e
      | succ m => exact idx_before r z m (by simp at h; omega)
def rIndex : V → List V → Hp → VK → Prop := fun x vs H Q => ∃ (l : Addr) (ns : List Int) (z : Int), x = .ref l ∧ vs = [.int z] ∧ H l = some (.lst (ns.map V.int)) ∧ z ∈ ns ∧ ns.length ≤ 1000 ∧ Q (.int (ns.idxOf z)) H
theorem mt_index : MtR X "list.index" rIndex := by
  intro pins s σ H x vs v us Q I rx rv h
  obtain ⟨l, ns, z, rfl, rfl, hH, hz, hl, q⟩ := h
  cases rx
  obtain ⟨u, rfl, ru⟩ := rv.one
  obtain ⟨hzz, its, n, r, hlen, e⟩ := I.lstM hH
  have hj : ns.idxOf z < ns.length := List.idxOf_lt_length_of_mem hz
  have l1 : its.toArray.size = ns.length := by rw [List.size_toArray, ← r.length, ltm]
  have at_ : ∀ m (hm : m < its.toArray.size), ∃ t, its.toArray[m] = .int (ns.getD m 0) t := fun m hm => (vals_int_at r (i := m) (v := its.toArray[m]) (by simp)).imp fun t e => e.1
  refine call_meets F.slot_list_index ⟨_, e, rfl⟩ F.entry_list_index (F.args_list_index_2 _ _) (SeqAt.list_indexAt l its.toArray n none #[] u (fun y => match y with | .int i _ => i == z | _ => false) (ns.idxOf z) (by omega) (by omega) ?_ ?_) ⟨e, ?_, ?_⟩
  · obtain ⟨t, q1⟩ := at_ (ns.idxOf z) (by omega)
    rw [q1]
    show (ns.getD (ns.idxOf z) 0 == z) = true
    rw [List.getD_eq_getElem?_getD, List.getElem?_eq_getElem hj]
    simp
  · intro m hm hmj
    obtain ⟨t, q1⟩ := at_ m hm
    rw [q1]
    show (ns.getD m 0 == z) = false
    exact beq_eq_false_iff_ne.mpr (idx_before ns z m hmj)
  · intro y hy
    obtain ⟨m, hm, rfl⟩ := Array.mem_iff_getElem.mp hy
    obtain ⟨t, q1⟩ := at_ m hm
    rw [q1]
    obtain ⟨t2, rfl⟩ := ru
    exact eqAt_V (y := .int _) (x := .int _) ⟨_, rfl⟩ ⟨_, rfl⟩ rfl rfl
  · exact ⟨.int _, H, I.tok _, ⟨_, rfl⟩, q⟩
end
end L2
set_option Elab.async false
set_option linter.all false
namespace L2
open PySem
def seenP (s : List Int) (z : Int) : List Int := if z ∈ s then s else s ++ [z]
def seen (ns : List Int) : List Int := ns.foldl seenP []
def numRow (ns : List Int) : List Int := ns.map fun z => ((seen ns).idxOf z : Int)
theorem seen_snoc (xs : List Int) (z : Int) : seen (xs ++ [z]) = seenP (seen xs) z := by unfold seen; rw [List.foldl_append]; rfl
theorem mem_seenP {s : List Int} {z y : Int} : y ∈ seenP s z ↔ y ∈ s ∨ y = z := by
  unfold seenP; split
  · constructor
    · exact .inl
    · rintro (h | rfl)
      · exact h
      · assumption
  · simp
theorem mem_seen (xs : List Int) : ∀ z, z ∈ seen xs ↔ z ∈ xs := by
  refine snoc_ind (P := fun xs => ∀ z, z ∈ seen xs ↔ z ∈ xs) (fun z => by simp [seen]) (fun xs y ih z => ?_) xs
  rw [seen_snoc, mem_seenP, ih z]; simp
theorem seenP_idx {s : List Int} {z y : Int} (h : y ∈ s) : (seenP s z).idxOf y = s.idxOf y := by
  unfold seenP; split
  · rfl
  · rw [List.idxOf_append, if_pos h]
theorem seenP_new {s : List Int} {z : Int} (h : z ∉ s) : (seenP s z).idxOf z = s.length := by
  unfold seenP; rw [if_neg h, List.idxOf_append, if_neg h]; simp
theorem numRow_snoc (xs : List Int) (z : Int) : numRow (xs ++ [z]) = numRow xs ++ [((seenP (seen xs) z).idxOf z : Int)] := by
  unfold numRow
  rw [seen_snoc, List.map_append]
  congr 1
  refine List.map_congr_left fun y hy => ?_
  rw [seenP_idx ((mem_seen xs y).mpr hy)]
theorem numRow_length (xs : List Int) : (numRow xs).length = xs.length := by unfold numRow; rw [List.length_map]
theorem seen_length (xs : List Int) : (seen xs).length ≤ xs.length := by
  refine snoc_ind (P := fun xs => (seen xs).length ≤ xs.length) (by simp [seen]) (fun xs z ih => ?_) xs
  rw [seen_snoc]; unfold seenP; split
  · simp; omega
  · simp; omega
theorem numRow_way (xs : List Int) : wayGo 0 (numRow xs) = true ∧ fresh 0 (numRow xs) = (seen xs).length := by
  refine snoc_ind (P := fun xs => wayGo 0 (numRow xs) = true ∧ fresh 0 (numRow xs) = (seen xs).length) ⟨rfl, rfl⟩ (fun xs z ih => ?_) xs
  obtain ⟨h1, h2⟩ := ih
  rw [numRow_snoc, wayGo_snoc, fresh_snoc, h1, h2, seen_snoc]
  by_cases h : z ∈ seen xs
  · have e : (seenP (seen xs) z).idxOf z = (seen xs).idxOf z := seenP_idx h
    have hl : (seen xs).idxOf z < (seen xs).length := List.idxOf_lt_length_of_mem h
    rw [e]
    refine ⟨?_, ?_⟩
    · rw [decide_eq_true (by omega), decide_eq_true (by omega)]; rfl
    · rw [if_neg (by omega)]; unfold seenP; rw [if_pos h]
  · rw [seenP_new h]
    refine ⟨?_, ?_⟩
    · rw [decide_eq_true (by omega), decide_eq_true (by omega)]; rfl
    · rw [if_pos rfl]; unfold seenP; rw [if_neg h, List.length_append]; simp
theorem numRow_isWay {xs : List Int} (h1 : 1 ≤ xs.length) (h9 : xs.length ≤ 9) : isWay (numRow xs) = true := by
  unfold isWay
  rw [numRow_length, (numRow_way xs).1, decide_eq_true h1, decide_eq_true h9]; rfl
end L2
set_option Elab.async false
set_option linter.all false
set_option maxRecDepth 100000
namespace L2
open PySem
theorem SqT.put {K : PySem.W.Frag} {H : Hp} {a l : Addr} {xs ys : List V} {o : HO} (h : SqT K H a xs) (hl : H l = some (.lst ys)) : SqT K (upd H l o) a xs := by
  rcases h with (h | ⟨u, h⟩) | h
  · exact .inl (.inl (by rw [upd_ne (fun e => by rw [e, hl] at h; cases h)]; exact h))
  · exact .inl (.inr ⟨u, by rw [upd_ne (fun e => by rw [e, hl] at h; cases h)]; exact h⟩)
  · exact .inr h
end L2
set_option Elab.async false
set_option linter.all false
namespace L2
open PySem PySem.Spec PyProof.Rows
section
variable {X : Cx} {K : PySem.W.Frag}
end
end L2
set_option Elab.async false
set_option linter.all false
namespace L2
open PySem PySem.Spec PyProof.Rows
def turnL (ws zs : List Int) : List Int := zs.map fun z => ws.getD z.toNat 0
end L2
set_option Elab.async false
set_option linter.all false
set_option maxRecDepth 100000
namespace PySem
open Sem (wp)
open AutoSeq1 (wpAny_loadPart')
section
variable {prog : Program} {w : World} {A : Around} {E : Value → Shared → Prop} {s : Shared}
theorem wpAny_nextOf_tuple_item {it l : Addr} {i : Nat} {items} {x : Value} {Q : Value → Shared → Prop} (hit : s.heap.IsTupleIter it l i)
    (hl : s.heap.IsTuple l items) (hx : items[i]? = some x)
    (hQ : ∀ h', h'.IsTupleIter it l (i + 1) → Heap.SameBut it s.heap h' → Q x { s with heap := h' }) :
    wpAny (model prog w) A (Builtin.SmallTypes.nextOf (.ref it)) Q E s := by
  obtain ⟨o, ho, hc, hd⟩ := id hit
  obtain ⟨ol, hol, _, nl, hdl⟩ := hl
  unfold Builtin.SmallTypes.nextOf
  refine wpAny_bind (wpAny_callSpecial?_slot (name := Str.ofString "__next__") hit.typeIs F.slot_tuple_iterator_next
    (wpAny_call_entry F.slot_tuple_iterator_next hit.typeIs F.entry_tuple_iterator_next ?_ (F.args_tuple_iterator_next_1 _)))
  show wpAny _ _ (field (.ref it) 0 >>= _) _ _ s
  refine wpAny_bind (wpAny_field ho hd (x := .ref l) rfl ?_)
  show wpAny _ _ (if (Value.ref l == Value.none) = true then _ else _) _ _ s
  rw [if_neg (show ¬ ((Value.ref l == Value.none) = true) from Bool.false_ne_true)]
  show wpAny _ _ (field (.ref it) 1 >>= _) _ _ s
  refine wpAny_bind (wpAny_field ho hd (x := .int i 0) rfl ?_)
  show wpAny _ _ (seqItems? (.ref l) >>= _) _ _ s
  refine wpAny_bind (wpAny_seqItems hol hdl ?_)
  simp only [Int.toNat_natCast, hx]
  refine wpAny_bind (wpAny_setField ho hd (by simp) (wpAny_pure ⟨x, rfl, wpAny_pure (hQ _ ?_ (Heap.SameBut.update ..))⟩))
  exact ⟨_, Heap.get?_update_self _ ho (Obj.isFreed_of_fields (Obj.data_mapFields hd _)), (Obj.cls_mapFields ..).trans hc, by
    rw [Obj.data_mapFields hd]; simp [rawInt]⟩
theorem wpAny_nextOf_tuple_end {it l : Addr} {i : Nat} {items} {Q : Value → Shared → Prop} (hh : A.handled = none)
    (hit : s.heap.IsTupleIter it l i) (hl : s.heap.IsTuple l items) (hx : items[i]? = none)
    (hE : ∀ h' e, Heap.ExtBut it s.heap h' → (∃ o, h'.get? e = some o ∧ o.cls = .type "StopIteration") → E (.ref e) { s with heap := h' }) :
    wpAny (model prog w) A (Builtin.SmallTypes.nextOf (.ref it)) Q E s := by
  obtain ⟨o, ho, hc, hd⟩ := id hit
  obtain ⟨ol, hol, _, nl, hdl⟩ := hl
  unfold Builtin.SmallTypes.nextOf
  refine wpAny_bind (wpAny_callSpecial?_slot (name := Str.ofString "__next__") hit.typeIs F.slot_tuple_iterator_next
    (wpAny_call_entry F.slot_tuple_iterator_next hit.typeIs F.entry_tuple_iterator_next ?_ (F.args_tuple_iterator_next_1 _)))
  show wpAny _ _ (field (.ref it) 0 >>= _) _ _ s
  refine wpAny_bind (wpAny_field ho hd (x := .ref l) rfl ?_)
  show wpAny _ _ (if (Value.ref l == Value.none) = true then _ else _) _ _ s
  rw [if_neg (show ¬ ((Value.ref l == Value.none) = true) from Bool.false_ne_true)]
  show wpAny _ _ (field (.ref it) 1 >>= _) _ _ s
  refine wpAny_bind (wpAny_field ho hd (x := .int i 0) rfl ?_)
  show wpAny _ _ (seqItems? (.ref l) >>= _) _ _ s
  refine wpAny_bind (wpAny_seqItems hol hdl ?_)
  simp only [Int.toNat_natCast, hx]
  refine wpAny_bind (wpAny_rule (wpAny_bind (wpAny_setField ho hd (by simp) ?_)))
  show wpAny _ _ (newExc (.type "StopIteration") [] >>= _) _ _ _
  refine wpAny_bind ?_
  simp only [newExc, newTuple]
  refine wpAny_bind (wpAny_newObj_type ?_ (by size_fits))
  refine wpAny_bind (m := firstArgMember _ _) (wpAny_of_eq (a := Value.none) (by first | rfl | (simp only [firstArgMember]; rfl)) ?_)
  refine wpAny_newObj_type ?_ (by size_fits)
  simp only [raiseNew]
  refine wpAny_bind (wpAny_handled ?_)
  first | rw [show A.in1.handled = none from hh] | rw [hh]
  refine wpAny_bind (wpAny_pure (wpAny_throw ?_))
  exact hE _ _ (((Heap.SameBut.update ..).extBut.push _).push _) ⟨_, Heap.get?_push_size _ rfl, rfl⟩
end
theorem Draws.tuple {prog : Program} {w : World} {A : Around} (hh : A.handled = none) (it l : Addr) (hne : l ≠ it) (items : Array Value) :
    Draws prog w A it [it, l] items.size (fun i v => items[i]? = some v) (fun i h => h.IsTupleIter it l i ∧ h.IsTuple l items) where
  live := fun _ _ st => let ⟨o, ho, _⟩ := st.1; ⟨o, ho⟩
  frame := fun _ _ _ st hk => ⟨st.1.at fun o e => hk it (by simp) o e, st.2.at fun o e => hk l (by simp) o e⟩
  item := fun i s Q E hi st hQ => by
    refine wpAny_nextOf_tuple_item st.1 st.2 (x := items[i]) (by simp [hi]) fun h' hit' hs' => ?_
    exact hQ _ h' s.toks (by simp [hi]) ⟨hit', st.2.extBut hs'.extBut hne⟩ hs'
  done := fun s Q E st hE => wpAny_nextOf_tuple_end hh st.1 st.2 (by simp) hE
section
variable {prog : Program} {w : World} {A : Around} {E : Value → Shared → Prop} {s : Shared}
end
end PySem
namespace L2
open PySem PySem.Spec PyProof.Rows
theorem Inv.turnL {X : Cx} {pins : List (Addr × Obj)} {σ : St} {H : Hp} {s : Shared} {h' : Heap} {t' : Nat} {wr : List Addr} (I : Inv X pins σ H s) (k : ∀ b o, b ∉ wr → s.heap.get? b = some o → h'.get? b = some o) (f : ∀ b ∈ wr, FpOk X pins H b) : Inv X pins σ H { s with heap := h', toks := t' } := by
  have nit : ∀ b u, H b = some u → b ∉ wr := fun b u e z => by rw [(f b z).1] at e; cases e
  refine I.step (g' := s.gens) (d' := s.drawn) (ch := wr) (fun b hb => ?_) (fun b o _ _ hc e _ => k b o hc e) (fun b o _ _ hc e _ => ⟨o.slots, k b o hc e⟩) (fun _ _ _ _ n => n)
    (fun b o hc e => ⟨o, k b o hc e⟩) (fun _ _ e => e) (fun _ _ _ e => e) (fun b ps e => ⟨#[], by rw [e]; simp⟩) (fun m hm => ?_) (fun b u e => ?_) I.bare
  · obtain ⟨_, a2, _, a4, a5, a6⟩ := f b hb
    exact ⟨a4, a2, a5, a6⟩
  · obtain ⟨o, es, ep, ho, r⟩ := hm
    exact ⟨o, es, ep, k _ o (fun z => (f _ z).2.1 rfl) ho, r⟩
  · refine (I.hok b u e).stay (fun c v hc q => k c v ?_ q) (fun _ q => q) fun _ _ q => q
    rcases hc with z | z
    · rw [z]; exact nit b u e
    · exact nit c _ z
theorem Inv.turnNew {X : Cx} {pins : List (Addr × Obj)} {σ : St} {H : Hp} {s : Shared} {h' : Heap} {t' : Nat} {wr : List Addr} {T : Addr} {xs : List V} {its : List Value} (I : Inv X pins σ H s) (k : ∀ b o, b ∉ wr → s.heap.get? b = some o → h'.get? b = some o) (f : ∀ b ∈ wr, FpOk X pins H b)
    (hT : s.heap.objs.size ≤ T) (hz : xs.length ≤ sizeLine) (r : Vals xs its) (ht : h'.IsTuple T its.toArray) : Inv X pins σ (upd H T (.tup xs)) { s with heap := h', toks := t' } := by
  have hn : H T = none := I.hok.fresh hT
  have nT : ∀ b o, s.heap.get? b = some o → b ≠ T := fun b o e z => absurd (Heap.lt_size e) (by rw [z]; exact Nat.not_lt.mpr hT)
  have nit : ∀ b u, H b = some u → b ∉ wr := fun b u e z => by rw [(f b z).1] at e; cases e
  refine I.step (g' := s.gens) (d' := s.drawn) (ch := wr) (fun b hb => ?_) (fun b o _ _ hc e _ => k b o hc e) (fun b o _ _ hc e _ => ⟨o.slots, k b o hc e⟩) (fun b o _ e n => by rw [upd_ne (nT b o e)]; exact n)
    (fun b o hc e => ⟨o, k b o hc e⟩) (fun b xs e => by rw [upd_ne (ne_of_none e hn)]; exact e) (fun b o u e => by rw [upd_ne (ne_of_none e hn)]; exact e) (fun b ps e => ⟨#[], by rw [upd_ne (ne_of_none e hn), e]; simp⟩) (fun m hm => ?_) (fun b u e => ?_) I.bare
  · obtain ⟨_, a2, _, a4, a5, a6⟩ := f b hb
    exact ⟨a4, a2, a5, a6⟩
  · obtain ⟨o, es, ep, ho, r⟩ := hm
    exact ⟨o, es, ep, k _ o (fun z => (f _ z).2.1 rfl) ho, r⟩
  · by_cases hb : b = T
    · subst hb
      rw [upd_same] at e
      cases e
      exact ⟨hz, its, r, ht⟩
    · rw [upd_ne hb] at e
      refine (I.hok b u e).stay (fun c v hc q => k c v ?_ q) (fun c q => by rw [upd_ne (ne_of_none q hn)]; exact q) fun c ys q => by rw [upd_ne (ne_of_none q hn)]; exact q
      rcases hc with z | z
      · rw [z]; exact nit b u e
      · exact nit c _ z
theorem for_it {J : It} {n : Nat} {g : TG} {tb : TS} {D : Ends} {σ : St} {H : Hp} (Pv : Nat → St → Hp → Prop) (h0 : Pv 0 σ H) (hgo : ∀ i σ H, i < n → Pv i σ H → J.go i H) (hst : ∀ σ H, Pv n σ H → J.stop n H)
    (hs : ∀ i x σ H H', i < n → Pv i σ H → J.yld i H x H' → g x σ H' fun σ2 H2 => tb { D with nx := Pv (i + 1), ct := Pv (i + 1), bk := D.nx } σ2 H2) (hd : ∀ σ H, Pv n σ H → D.nx σ H) :
    ∃ W : Nat → Nat → St → Hp → Prop, (∃ m, W 0 m σ H) ∧ ∀ i m σ H, W i m σ H →
      (J.stop i H ∧ D.nx σ H) ∨ (J.go i H ∧ ∃ N : St → Hp → Prop, (∀ σ' H', N σ' H' → ∃ m', m' < m ∧ W (i + 1) m' σ' H') ∧ ∀ x H', J.yld i H x H' → g x σ H' fun σ2 H2 => tb { D with nx := N, ct := N, bk := D.nx } σ2 H2) := by
  refine ⟨fun i m σ H => m = n - i ∧ i ≤ n ∧ Pv i σ H, ⟨n, by simp, Nat.zero_le _, h0⟩, ?_⟩
  rintro i m σ H ⟨rfl, hi, p⟩
  by_cases hlt : i < n
  · exact .inr ⟨hgo i σ H hlt p, Pv (i + 1), fun σ' H' p' => ⟨n - (i + 1), by omega, rfl, hlt, p'⟩, fun x H' y => hs i x σ H H' hlt p y⟩
  · have e : i = n := by omega
    subst e
    exact .inl ⟨hst σ H p, hd σ H p⟩
theorem lc_it {J : It} {n : Nat} {M : List (Option Nat)} {σ : St} {g : TG} {tc : TT} {te : TE} {F : List V → Hp → Prop} {H : Hp} (Pv : Nat → List V → Hp → Prop) (hz : n ≤ sizeLine) (h0 : Pv 0 [] H) (hgo : ∀ i ys H, i < n → Pv i ys H → J.go i H) (hst : ∀ ys H, Pv n ys H → J.stop n H) (hl : ∀ i ys H, i ≤ n → Pv i ys H → ys.length ≤ i)
    (hs : ∀ i x ys H H', i < n → Pv i ys H → J.yld i H x H' → g x (inSt M σ) H' fun σ2 H2 => tc σ2 H2 fun b H3 => if b = true then te σ2 H3 fun v H4 => Pv (i + 1) (ys ++ [v]) H4 else Pv (i + 1) ys H3)
    (hd : ∀ ys H, Pv n ys H → F ys H) : LcGoal J M σ g tc te F H := by
  refine ⟨fun i m ys H => m = n - i ∧ i ≤ n ∧ Pv i ys H, ⟨n, by simp, Nat.zero_le _, h0⟩, ?_⟩
  rintro i m ys H ⟨rfl, hi, p⟩
  have hy := hl i ys H hi p
  refine ⟨by omega, ?_⟩
  by_cases hlt : i < n
  · exact .inr ⟨hgo i ys H hlt p, by omega, Pv (i + 1), fun ys' H' p' => ⟨n - (i + 1), by omega, rfl, hlt, p'⟩, fun x H' y => hs i x ys H H' hlt p y⟩
  · have e : i = n := by omega
    subst e
    exact .inl ⟨hst ys H p, hd ys H p⟩
end L2
set_option Elab.async false
set_option linter.all false
set_option maxRecDepth 100000
namespace PySem
open Sem (wp)
open AutoSeq1 (wpAny_loadPart')
section
variable {prog : Program} {w : World} {A : Around} {E : Value → Shared → Prop} {s : Shared}
end
section
variable {prog : Program} {w : World} {A : Around} {E : Value → Shared → Prop} {s : Shared}
end
end PySem
namespace L2
open PySem PySem.Spec PyProof.Rows
end L2
set_option Elab.async false
set_option linter.all false
set_option maxRecDepth 100000
namespace PySem
open Sem (wp)
open AutoSeq1 (wpAny_loadPart')
namespace RV
theorem lookup_new : typeLookup (.type "reversed") "__new__" = pure (some (.builtin "reversed.__new__")) := by rw [typeLookup_type, builtinLookup_eq_fast]; kernel_rfl
theorem mro : mroOf (.type "reversed") = pure [.type "reversed", .type "object"] := by rw [mroOf_type]; kernel_rfl
theorem made : Bind.madeBy (.type "reversed") = pure (some "reversed.__new__") := madeBy_type mro lookup_new (by decide +kernel)
theorem sub : isSubtype (.type "reversed") (.type "reversed") = pure true := by rw [isSubtype_type]; kernel_rfl
end RV
section
variable {prog : Program} {w : World} {A : Around} {E : Value → Shared → Prop} {s : Shared}
end
end PySem
set_option Elab.async false
set_option linter.all false
set_option maxRecDepth 100000
namespace HT
open PySem PySem.Spec PyProof.Rows
section
open PySem.SeqAt
open PySem.AutoSeq1 (wpAny_loadPart')
open PySem.MeetsSeq PySem.MeetsSeq2 PySem.MeetsSeq3
end
section
variable {prog : Program} {w : World} {A : Around} {E : Value → Shared → Prop} {s : Shared}
end
end HT
namespace L2
open PySem PySem.Spec PyProof.Rows
section
variable {X : Cx} {K : PySem.W.Frag}
end
end L2
set_option Elab.async false
set_option linter.all false
set_option maxRecDepth 100000
namespace PySem
open Sem (wp)
open AutoSeq1 (wpAny_loadPart')
section
variable {prog : Program} {w : World} {A : Around} {E : Value → Shared → Prop} {s : Shared}
end
end PySem
namespace L2
open PySem PySem.Spec PyProof.Rows
section
variable {X : Cx} {K : PySem.W.Frag}
end
end L2
set_option Elab.async false
set_option linter.all false
set_option maxRecDepth 100000
namespace L2
open PySem PySem.Spec PyProof.Rows
section
variable {X : Cx} {K : PySem.W.Frag}
end
end L2
set_option Elab.async false
set_option linter.all false
namespace L2
open PySem
def En : Nat → Int → Int
  | 0, _ => 1
  | n + 1, u => u * En n u + En n (u + 1)
def nf (f w : Int) : Int := if w = f then f + 1 else f
def rank : Int → List Int → Int
  | _, [] => 0
  | f, w :: r => w * En r.length f + rank (nf f w) r
theorem way_cons {f w : Int} {r : List Int} (h : wayGo f (w :: r) = true) : 0 ≤ w ∧ w ≤ f ∧ wayGo (nf f w) r = true := by
  have h' : (decide (0 ≤ w) && decide (w ≤ f) && wayGo (nf f w) r) = true := h
  simp only [Bool.and_eq_true, decide_eq_true_eq] at h'
  exact ⟨h'.1.1, h'.1.2, h'.2⟩
theorem isWay_iff {ws : List Int} : isWay ws = true ↔ 1 ≤ ws.length ∧ ws.length ≤ 9 ∧ wayGo 0 ws = true := by
  unfold isWay
  simp only [Bool.and_eq_true, decide_eq_true_eq]
  exact ⟨fun ⟨⟨a, b⟩, c⟩ => ⟨a, b, c⟩, fun ⟨a, b, c⟩ => ⟨⟨a, b⟩, c⟩⟩
def pre : Nat → Int → List Int → Int
  | _, _, [] => 0
  | m, f, w :: r => w * En (r.length + m) f + pre m (nf f w) r
theorem rank_app : ∀ (xs ys : List Int) (f : Int), rank f (xs ++ ys) = pre ys.length f xs + rank (fresh f xs) ys
  | [], ys, f => by show rank f ys = 0 + rank f ys; omega
  | w :: r, ys, f => by
    show w * En (r ++ ys).length f + rank (nf f w) (r ++ ys) = w * En (r.length + ys.length) f + pre ys.length (nf f w) r + rank (fresh (nf f w) r) ys
    rw [rank_app r ys, List.length_append]; omega
theorem way_app : ∀ (xs ys : List Int) (f : Int), wayGo f (xs ++ ys) = (wayGo f xs && wayGo (fresh f xs) ys)
  | [], ys, f => by show wayGo f ys = (true && wayGo f ys); rw [Bool.true_and]
  | w :: r, ys, f => by
    show (decide (0 ≤ w) && decide (w ≤ f) && wayGo (nf f w) (r ++ ys)) = (decide (0 ≤ w) && decide (w ≤ f) && wayGo (nf f w) r && wayGo (fresh (nf f w) r) ys)
    rw [way_app r ys, Bool.and_assoc, Bool.and_assoc, Bool.and_assoc]
end L2
set_option Elab.async false
set_option linter.all false
set_option maxRecDepth 100000
namespace L2
open PySem PySem.Spec PyProof.Rows
section
variable {X : Cx} {K : PySem.W.Frag}
theorem kop_ltT (hu : X.A.units < cLine) (h : X.K = K := by rfl) : OpR X (compareOp .Lt) (rLtT K) := by subst h; exact op_ltT hu
theorem passE0 : Passes (CXE X.prog X.w) X E0 := by
  intro pins σ H e s' x y h
  obtain ⟨ea, cls, H', B, _, _, _, _, _, _, _, _, _, hE⟩ := h
  exact hE.elim
end
end L2
set_option Elab.async false
set_option linter.all false
namespace L2
open PySem
end L2
set_option Elab.async false
set_option linter.all false
set_option maxRecDepth 100000
namespace L2
open PySem PySem.Spec PyProof.Rows
theorem cf_lookup : ∀ (names : List (Str × NameKind)) (n : Nat) (acc : List (Str × Addr)) (y : Str) (c : Addr), (cellsFrom n names acc).lookup y = some c → ((y, NameKind.cell) ∈ names ∧ n ≤ c) ∨ acc.lookup y = some c
  | [], n, acc, y, c, h => .inr h
  | (x, k) :: r, n, acc, y, c, h => by
    unfold cellsFrom at h
    split at h
    · rename_i hk
      rcases cf_lookup r _ _ y c h with ⟨h1, h2⟩ | h1
      · exact .inl ⟨List.mem_cons_of_mem _ h1, Nat.le_trans (Nat.le_succ _) h2⟩
      · rw [List.lookup_cons] at h1
        cases hb : y == x with
        | true =>
          rw [hb] at h1
          have e : n = c := Option.some.inj h1
          have ek : k = NameKind.cell := nk_eq hk
          have ey : y = x := by simpa using hb
          subst e ek ey
          exact .inl ⟨List.mem_cons_self, Nat.le_refl _⟩
        | false => rw [hb] at h1; exact .inr h1
    · rcases cf_lookup r _ _ y c h with ⟨h1, h2⟩ | h1
      · exact .inl ⟨List.mem_cons_of_mem _ h1, h2⟩
      · exact .inr h1
theorem cf_acc : ∀ (names : List (Str × NameKind)) (n : Nat) (acc : List (Str × Addr)) (y : Str), (∃ c, acc.lookup y = some c) → ∃ c, (cellsFrom n names acc).lookup y = some c
  | [], n, acc, y, h => h
  | (x, k) :: r, n, acc, y, h => by
    unfold cellsFrom
    split
    · refine cf_acc r _ _ y ?_
      obtain ⟨c, hc⟩ := h
      rw [List.lookup_cons]
      cases y == x with
      | true => exact ⟨n, rfl⟩
      | false => exact ⟨c, hc⟩
    · exact cf_acc r _ _ y h
theorem cf_has : ∀ (names : List (Str × NameKind)) (n : Nat) (acc : List (Str × Addr)) (y : Str), (y, NameKind.cell) ∈ names → ∃ c, (cellsFrom n names acc).lookup y = some c
  | [], n, acc, y, h => by simp at h
  | (x, k) :: r, n, acc, y, h => by
    unfold cellsFrom
    rcases List.mem_cons.mp h with e | h
    · cases e
      rw [if_pos (by decide)]
      exact cf_acc r _ _ x ⟨n, by rw [List.lookup_cons]; simp⟩
    · split
      · exact cf_has r _ _ y h
      · exact cf_has r _ _ y h
theorem cf_keep : ∀ (names : List (Str × NameKind)) (n : Nat) (acc : List (Str × Addr)) (y : Str), (y, NameKind.cell) ∉ names → (cellsFrom n names acc).lookup y = acc.lookup y
  | [], n, acc, y, h => rfl
  | (x, k) :: r, n, acc, y, h => by
    unfold cellsFrom
    split
    · rename_i hk
      rw [cf_keep r _ _ y (fun z => h (List.mem_cons_of_mem _ z)), List.lookup_cons]
      cases hb : y == x with
      | true =>
        have ek : k = NameKind.cell := nk_eq hk
        have ey : y = x := by simpa using hb
        subst ek ey
        exact absurd List.mem_cons_self h
      | false => rfl
    · exact cf_keep r _ _ y (fun z => h (List.mem_cons_of_mem _ z))
theorem cf_own : ∀ (names : List (Str × NameKind)) (n : Nat) (acc : List (Str × Addr)) (y : Str) (c : Addr), (y, NameKind.cell) ∈ names → (cellsFrom n names acc).lookup y = some c → n ≤ c
  | [], n, acc, y, c, h, _ => by simp at h
  | (x, k) :: r, n, acc, y, c, h, e => by
    unfold cellsFrom at e
    by_cases hr : (y, NameKind.cell) ∈ r
    · split at e
      · exact Nat.le_trans (Nat.le_succ _) (cf_own r _ _ y c hr e)
      · exact cf_own r _ _ y c hr e
    · rcases List.mem_cons.mp h with q | q
      · cases q
        rw [if_pos (by decide), cf_keep r _ _ x hr, List.lookup_cons] at e
        simp at e
        exact Nat.le_of_eq e
      · exact absurd q hr
theorem cf_inj : ∀ (names : List (Str × NameKind)) (n : Nat) (acc : List (Str × Addr)), (∀ z d, (z, d) ∈ acc → d < n) → ∀ (x y : Str) (c : Addr), (x, c) ∈ cellsFrom n names acc → (y, c) ∈ cellsFrom n names acc → n ≤ c → x = y := by
  have gen : ∀ (names : List (Str × NameKind)) (m n : Nat) (acc : List (Str × Addr)), m ≤ n → (∀ z d, (z, d) ∈ acc → d < n) → (∀ x y c, (x, c) ∈ acc → (y, c) ∈ acc → m ≤ c → x = y) → ∀ (x y : Str) (c : Addr), (x, c) ∈ cellsFrom n names acc → (y, c) ∈ cellsFrom n names acc → m ≤ c → x = y := by
    intro names
    induction names with
    | nil => intro m n acc _ _ h x y c h1 h2 h3; exact h x y c h1 h2 h3
    | cons p r ih =>
      obtain ⟨z, k⟩ := p
      intro m n acc hm hlt hin x y c h1 h2 h3
      unfold cellsFrom at h1 h2
      split at h1
      · rename_i hk
        rw [if_pos hk] at h2
        refine ih m (n + 1) ((z, n) :: acc) (Nat.le_trans hm (Nat.le_succ _)) (fun a d hd => ?_) (fun a b d ha hb hd => ?_) x y c h1 h2 h3
        · rcases List.mem_cons.mp hd with q | q
          · cases q; exact Nat.lt_succ_self _
          · exact Nat.lt_succ_of_lt (hlt a d q)
        · rcases List.mem_cons.mp ha with q | q <;> rcases List.mem_cons.mp hb with q' | q'
          · cases q; cases q'; rfl
          · cases q; exact absurd (hlt b n q') (Nat.lt_irrefl _)
          · cases q'; exact absurd (hlt a n q) (Nat.lt_irrefl _)
          · exact hin a b d q q' hd
      · rename_i hk
        rw [if_neg hk] at h2
        exact ih m n acc hm hlt hin x y c h1 h2 h3
  intro names n acc hlt x y c h1 h2 h3
  exact gen names n n acc (Nat.le_refl _) hlt (fun x y c hx _ hc => absurd (hlt x c hx) (Nat.not_lt.mpr hc)) x y c h1 h2 h3
theorem cf_cell : ∀ (names : List (Str × NameKind)) (h : Heap) (acc : List (Str × Addr)) (lo : h.objs.size = h.objs.size), (∀ z d, (z, d) ∈ acc → h.objs.size ≤ d → h.IsCell d none) → ∀ (y : Str) (c : Addr), (y, c) ∈ cellsFrom h.objs.size names acc → h.objs.size ≤ c → (pushCells h names).IsCell c none := by
  have gen : ∀ (names : List (Str × NameKind)) (m : Nat) (h : Heap) (acc : List (Str × Addr)), m ≤ h.objs.size → (∀ z d, (z, d) ∈ acc → m ≤ d → h.IsCell d none) → ∀ (y : Str) (c : Addr), (y, c) ∈ cellsFrom h.objs.size names acc → m ≤ c → (pushCells h names).IsCell c none := by
    intro names
    induction names with
    | nil => intro m h acc _ ha y c hy hc; exact ha y c hy hc
    | cons p r ih =>
      obtain ⟨z, k⟩ := p
      intro m h acc hm ha y c hy hc
      unfold cellsFrom at hy
      unfold pushCells
      split at hy
      · rename_i hk
        rw [if_pos hk]
        have hz : (h.push { cls := .type "cell", data := .cell none }).objs.size = h.objs.size + 1 := Heap.size_push ..
        refine ih m (h.push { cls := .type "cell", data := .cell none }) ((z, h.objs.size) :: acc) (by rw [hz]; exact Nat.le_trans hm (Nat.le_succ _)) (fun a d hd hmd => ?_) y c (by rw [hz]; exact hy) hc
        rcases List.mem_cons.mp hd with q | q
        · cases q; exact ⟨_, Heap.get?_push_size _ rfl, rfl⟩
        · exact (ha a d q hmd).keeps fun b o e => Heap.get?_push_of_some _ e
      · rename_i hk
        rw [if_neg hk]
        exact ih m h acc hm ha y c hy hc
  intro names h acc _ ha y c hy hc
  exact gen names h.objs.size h acc (Nat.le_refl _) ha y c hy hc
theorem newEnv_cells {M : Model} {A : Around} {E : Value → Shared → Prop} {s : Shared} {scope : Scope} {globals : Addr} {closure : List (Str × Addr)} {qual : Str} {func : Option Addr} {code : Value} {outer : Env} {builtins : Addr} {Q : Env → Shared → Prop}
    (hQ : Q (newEnv scope s.heap.objs.size globals (cellsFrom (s.heap.objs.size + 1) scope.names closure) qual func code (some outer) builtins) { s with heap := pushCells (s.heap.push { cls := .type "dict", data := .dict #[] }) scope.names }) :
    wpAny M A (newFunctionEnv scope globals closure [] qual func code (some outer) builtins) Q E s := by
  simp only [newFunctionEnv, Option.isSome_some, if_true]
  refine wpAny_bind (wpAny_alloc ?_)
  refine wpAny_bind (wpAny_layCells _ (fun name kind cells => by cases hkc : kind == NameKind.cell <;> simp [hkc]) _ _ _ _ ?_)
  rw [show ({ s with heap := s.heap.push { cls := .type "dict", data := .dict #[] } } : Shared).heap.objs.size = s.heap.objs.size + 1 from Heap.size_push ..]
  rw [List.forIn_nil]
  refine wpAny_bind (wpAny_pure ?_)
  exact wpAny_pure hQ
def cxLcC (X : Cx) (N' : List Str) (scope : Scope) (cl : List (Str × Addr)) (C : Addr) (s : Shared) (H : Hp) (fp : List Addr) : Cx :=
  { X with N := N', s₀ := s, H₀ := H, env := compEnvC scope cl C X.env, outer := X.stack, stack := X.stack, ex := fp, fn := fun x => scope.names.lookup x == some NameKind.cell, pn := [], xe := fun _ _ => False }
structure LcScC (N N' : List Str) (M : List (Option Nat)) (sc osc : Scope) : Prop where
  kind : sc.kind = .function
  len : N'.length = M.length
  uni : ∀ y ∈ sc.names, y.2 = NameKind.cell → sc.names.lookup y.1 = some NameKind.cell
  own : ∀ y ∈ sc.names, y.2 = NameKind.local → sc.names.lookup y.1 = some NameKind.local
  fre : ∀ y ∈ sc.names, y.2 = NameKind.free → osc.names.lookup y.1 = some NameKind.cell ∨ osc.names.lookup y.1 = some NameKind.free
  at_ : ∀ (i j : Nat), M[i]? = some (some j) → ∃ y, N'[i]? = some y ∧ N[j]? = some y ∧ sc.names.lookup y = some NameKind.free
theorem nko_eq0 {a : Option NameKind} {b : NameKind} (h : (a == some b) = true) : a = some b := nko_eq h
theorem lc_blockC {X : Cx} {N' : List Str} {M : List (Option Nat)} {scope : Scope} {cl : List (Str × Addr)} {tg elt iter : Expr} {ifs : List Expr} {pos : Pos} {g : TG} {tc : TT} {te : TE} {pins : List (Addr × Obj)} {σ : St} {H2 : Hp} {s2 : Shared}
    {it : Addr} {fp : List Addr} {tn : Nat → Heap → Prop} {J : It} {F : List V → Hp → Prop} {RR : Value → Addr → Result → Shared → Prop} {E : Value → Shared → Prop}
    (S : LcScC X.N N' M scope X.env.scope) (hc : X.calm = true) (q0 : ∀ y c, (y, c) ∈ cl → X.env.cells.lookup y = some c) (q1 : ∀ y c, cl.lookup y = some c → X.env.cells.lookup y = some c) (q2 : ∀ y, (y, NameKind.free) ∈ scope.names → ∃ c, cl.lookup y = some c)
    (hg : ∀ cl C s H fp, PG (cxLcC X N' scope cl C s H fp) tg g) (hf : Frm M g) (ht : ∀ cl C s H fp, PTs (cxLcC X N' scope cl C s H fp) ifs tc) (he : ∀ cl C s H fp, PE (cxLcC X N' scope cl C s H fp) elt te)
    (I2 : Inv X pins σ H2 s2) (T : Turn X.prog X.w X.K tg J fp it tn) (st2 : tn 0 s2.heap) (f2 : ∀ b ∈ fp, FpOk X pins H2 b)
    (hw : ∃ W : Nat → Nat → List V → Hp → Prop, (∃ m, W 0 m [] H2) ∧ ∀ i m ys H, W i m ys H → ys.length ≤ sizeLine ∧
      ((J.stop i H ∧ F ys H) ∨ (J.go i H ∧ ys.length < sizeLine ∧ ∃ N : List V → Hp → Prop, (∀ ys' H', N ys' H' → ∃ m', m' < m ∧ W (i + 1) m' ys' H') ∧ ∀ x H', J.yld i H x H' → g x (inSt M σ) H' fun σ2 H2 => tc σ2 H2 fun b H3 =>
        if b = true then te σ2 H3 fun v H4 => N (ys ++ [v]) H4 else N ys H3)))
    (hend : ∀ (D C : Addr) (s' : Shared) (H' : Hp) (ys : List V), Inv X pins σ (upd H' D (.lst ys)) s' → H' D = none → s2.heap.objs.size ≤ D → s2.heap.objs.size < C → (∃ m, s'.heap.Ns C m) → (upd H' D (.lst ys)) C = none → F ys H' → RR (.ref D) C (.ok .next) s') :
    wpAny (model X.prog X.w) X.A (newList []) (fun acc s₃ => wpAny (model X.prog X.w) X.A (newFunctionEnv scope X.env.globals cl [] X.env.qual none .none (some X.env)) (fun cenv s₄ =>
      codeAny (model X.prog X.w) X.A (.compStart (.ListComp elt [⟨tg, iter, ifs, 0⟩] scope pos) 0 (.ref it) acc { cenv with scope := relabel scope X.env }) (RR acc cenv.locals) s₄) E s₃) E s2 := by
  obtain ⟨W, ⟨m0, w0⟩, turn⟩ := hw
  refine wpAny_newObj_type (newEnv_cells ?_)
  dsimp only
  generalize hG : s2.heap.push { cls := .type "list", dict := none, data := .seq ([] : List Value).toArray } = G
  generalize hD : s2.heap.objs.size = D at *
  have cel0 : ∀ y c, (y, c) ∈ cl → c < D := fun y c hm => by
    obtain ⟨v, z⟩ := I2.cell y c (q0 y c hm)
    exact hD ▸ z.lt
  have hC : G.objs.size = D + 1 := by rw [← hG, Heap.size_push, hD]
  generalize hCC : G.objs.size = C at *
  have DC : D < C := by rw [hC]; exact Nat.lt_succ_self _
  have hpush : (G.push { cls := .type "dict", data := .dict #[] }).objs.size = C + 1 := by rw [Heap.size_push, hCC]
  generalize hh₁ : pushCells (G.push { cls := .type "dict", data := .dict #[] }) scope.names = h₁
  have hns₁ : h₁.Ns C (fun _ => none) := by
    rw [← hh₁, ← hCC]
    exact (Heap.Ns.new G (.type "dict")).keeps (pushCells_keeps _ _)
  have keepG : ∀ b o, G.get? b = some o → h₁.get? b = some o := fun b o e => by rw [← hh₁]; exact pushCells_keeps _ _ b o (Heap.get?_push_of_some _ e)
  have newCell : ∀ y c, (y, c) ∈ cellsFrom (C + 1) scope.names cl → C + 1 ≤ c → h₁.IsCell c none := fun y c hm hc => by
    rw [← hh₁]
    exact cf_cell scope.names _ cl (by rw [hpush]) (fun z d hz hd => by
      rw [hpush] at hd
      exact absurd (Nat.lt_trans (cel0 z d hz) DC) (Nat.not_lt.mpr (Nat.le_trans (Nat.le_succ _) hd))) y c (by rw [hpush]; exact hm) (by rw [hpush]; exact hc)
  have lo : ∀ b o, s2.heap.get? b = some o → b < D := fun b o e => hD ▸ Heap.lt_size e
  have old : ∀ b o, s2.heap.get? b = some o → h₁.get? b = some o := fun b o e => by
    exact keepG b o (hG ▸ Heap.get?_push_of_some _ e)
  have hacc : h₁.get? D = some { cls := .type "list", data := .seq ([] : List Value).toArray } :=
    keepG _ _ (by rw [← hG, ← hD]; exact Heap.get?_push_size _ rfl)
  have fpl : ∀ b ∈ fp, b < D := fun b hb => by
    obtain ⟨o, e, _⟩ := T.obj _ _ st2 b hb
    exact lo b o e
  have cel : ∀ y c, cl.lookup y = some c → c < D := fun y c e => by
    obtain ⟨v, z⟩ := I2.cell y c (q1 y c e)
    exact hD ▸ z.lt
  generalize hcl' : cellsFrom (C + 1) scope.names cl = cl' at newCell ⊢
  have cl1 : ∀ y c, cl'.lookup y = some c → ((y, NameKind.cell) ∈ scope.names ∧ C + 1 ≤ c) ∨ cl.lookup y = some c := fun y c e => by rw [← hcl'] at e; exact cf_lookup _ _ _ _ _ e
  have cl2 : ∀ y, (y, NameKind.cell) ∈ scope.names → ∃ c, cl'.lookup y = some c := fun y hy => by rw [← hcl']; exact cf_has _ _ _ _ hy
  have cl3 : ∀ y, (y, NameKind.cell) ∉ scope.names → cl'.lookup y = cl.lookup y := fun y hy => by rw [← hcl']; exact cf_keep _ _ _ _ hy
  have cl4 : ∀ x y c, cl'.lookup x = some c → cl'.lookup y = some c → C + 1 ≤ c → x = y := fun x y c e1 e2 hc => by
    rw [← hcl'] at e1 e2
    exact cf_inj _ _ _ (fun z d hz => Nat.lt_succ_of_lt (Nat.lt_trans (cel0 z d hz) DC)) _ _ _ (PySem.mem_of_lookup e1) (PySem.mem_of_lookup e2) hc
  have cl5 : ∀ y c, cl'.lookup y = some c → c ≠ D ∧ c ≠ C ∧ (C + 1 ≤ c ∨ c < D) := fun y c e => by
    rcases cl1 y c e with ⟨_, h⟩ | h
    · exact ⟨by intro z; subst z; exact absurd DC (Nat.not_lt.mpr (Nat.le_trans (Nat.le_succ _) h)), by intro z; subst z; exact absurd h (Nat.not_succ_le_self _), .inl h⟩
    · have := cel y c h
      exact ⟨Nat.ne_of_lt this, Nat.ne_of_lt (Nat.lt_trans this DC), .inr this⟩
  generalize hX' : cxLcC X N' scope cl' C s2 H2 fp = X'
  have envE : X'.env = compEnvC scope cl' C X.env := by rw [← hX']; rfl
  have locE : X'.env.locals = C := by rw [envE]; rfl
  have fsE : X'.fs = frs X.stack := by rw [← hX']; rfl
  have fsl : ∀ b ∈ frs X.stack, b < D := fun b hb => by
    rcases List.mem_cons.mp (I2.stkSub b hb) with z | z
    · rw [z]; exact hD ▸ I2.lt
    · exact Nat.lt_of_not_le fun q => I2.nofs (hD ▸ q) z
  have relS : ∀ x k, scope.names.lookup x = some k → ∃ k', X'.env.kindOf x = some k' ∧ (k' = k ∨ (k = .free ∧ k' = .cell)) := fun x k e => by
    obtain ⟨k', e', q⟩ := relabel_some (env := X.env) e
    exact ⟨k', by rw [envE]; exact e', q⟩
  have relN : ∀ x, scope.names.lookup x = none → X'.env.kindOf x = none := fun x e => by
    rw [envE]; exact relabel_none (env := X.env) e
  have cellsE : X'.env.cells = cl' := by rw [envE]; rfl
  have s0E0 : X'.s₀ = s2 := by rw [← hX']; rfl
  have ok' : X'.Ok := by
    refine ⟨?mod, ?kind, ?glob, ?blt, ?above, ?inj, ?has, ?cab, ?hd, ?frames, ?stk, ?exf, ?bs, ?bsz, ?noex, ?exfs, ?funs, ?frf⟩
    case mod => rw [← hX']; exact I2.ok.mod
    case kind => rw [envE]; exact S.kind
    case glob => rw [envE]; exact I2.ok.glob
    case blt => rw [envE]; exact I2.ok.blt
    case above => rw [locE, ← hX']; show s2.heap.objs.size ≤ C; rw [hD]; exact Nat.le_of_lt DC
    case inj =>
      intro x y c e1 e2
      rw [cellsE] at e1 e2
      rcases (cl5 x c e1).2.2 with h | h
      · exact cl4 x y c e1 e2 h
      · have f : ∀ z, cl'.lookup z = some c → cl.lookup z = some c := fun z ez => by
          rcases cl1 z c ez with ⟨_, h'⟩ | h'
          · exact absurd (Nat.lt_of_lt_of_le (Nat.lt_trans h DC) (Nat.le_trans (Nat.le_succ _) h')) (Nat.lt_irrefl _)
          · exact h'
        exact I2.ok.inj x y c (q1 x c (f x e1)) (q1 y c (f y e2))
    case has =>
      intro x hx
      rw [cellsE]
      cases e : scope.names.lookup x with
      | none => rw [relN x e] at hx; rcases hx with z | z <;> cases z
      | some k =>
        obtain ⟨k', e', q⟩ := relS x k e
        rw [e'] at hx
        by_cases hcx : (x, NameKind.cell) ∈ scope.names
        · exact cl2 x hcx
        rw [cl3 x hcx]
        have kf : k = .free := by
          rcases q with q | q
          · rcases hx with z | z
            · cases z; exact absurd (PySem.mem_of_lookup (q ▸ e)) hcx
            · cases z; exact q.symm
          · exact q.1
        subst kf
        exact q2 x (PySem.mem_of_lookup e)
    case cab =>
      intro x c h e
      rw [← hX'] at h
      rw [cellsE] at e
      have hx : scope.names.lookup x = some NameKind.cell := nko_eq0 h
      rw [s0E0, hD]
      rcases cl1 x c e with ⟨_, h'⟩ | h'
      · exact Nat.le_trans (Nat.le_of_lt DC) (Nat.le_trans (Nat.le_succ _) h')
      · obtain ⟨c2, e2⟩ := cl2 x (PySem.mem_of_lookup hx)
        rw [e] at e2; cases e2
        rw [← hcl'] at e
        exact absurd (cf_own _ _ _ _ _ (PySem.mem_of_lookup hx) e) (Nat.not_le.mpr (Nat.lt_succ_of_lt (Nat.lt_trans (cel x c h') DC)))
    case hd => rw [← hX']; exact I2.ok.hd
    case frames => rw [← hX']; exact I2.ok.frames
    case stk => rw [← hX']; exact .inl rfl
    case exf =>
      intro b hb
      have hb' : b ∈ fp := by rw [← hX'] at hb; exact hb
      refine ⟨by rw [locE]; exact Nat.ne_of_lt (Nat.lt_trans (fpl b hb') DC), fun x c e => ?_⟩
      rw [cellsE] at e
      rcases cl1 x c e with ⟨_, h'⟩ | h'
      · intro z; subst z; exact absurd (fpl _ hb') (Nat.not_lt.mpr (Nat.le_trans (Nat.le_of_lt DC) (Nat.le_trans (Nat.le_succ _) h')))
      · exact (f2 b hb').2.2.2.2.1 x c (q1 x c h')
    case bs => rw [← hX']; exact I2.bs
    case bsz => rw [← hX']; exact Nat.le_trans I2.ok.bsz I2.sz
    case noex =>
      intro b o e hb
      have hb' : b ∈ fp := by rw [← hX'] at hb; exact hb
      have e' : X.base.get? b = some o := by rw [← hX'] at e; exact e
      rcases (f2 b hb').2.2.2.1 with z | z
      · exact I2.ok.noex b o e' z
      · exact absurd (Nat.lt_of_lt_of_le (Heap.lt_size e') (Nat.le_trans I2.ok.bsz z)) (Nat.lt_irrefl _)
    case exfs =>
      intro b hb
      have hb' : b ∈ fp := by rw [← hX'] at hb; exact hb
      rw [fsE]
      intro z
      rcases List.mem_cons.mp (I2.stkSub b z) with q | q
      · exact (f2 b hb').2.1 q
      · exact (f2 b hb').2.2.1 q
    case funs => rw [← hX']; exact I2.stack
    case frf => rw [fsE, ← hX']; exact I2.stkFree
  have c0 : H2 C = none := I2.hok.fresh (by rw [hD]; exact Nat.le_of_lt DC)
  have d0 : H2 D = none := I2.hok.fresh (by rw [hD]; exact Nat.le_refl _)
  have I3 : Inv X' [] (inSt M σ) H2 { s2 with heap := h₁, toks := s2.toks } := by
    refine ⟨ok', ?os, ?bare, ?base, ?loc, ?cell, ?free, ?freeC, ?pin, ?hok, ?len⟩
    case os => rw [← hX']; rfl
    case bare => exact I2.bare
    case base => rw [fsE, ← hX']; exact Un.kept old
    case loc =>
      refine ⟨_, by rw [locE]; exact hns₁, fun i x v e1 e2 _ => ?_⟩
      obtain ⟨j, eM, eσ⟩ := inSt_get e2
      obtain ⟨y, n1, n2, n3⟩ := S.at_ i j eM
      have e1' : N'[i]? = some x := by rw [← hX'] at e1; exact e1
      rw [n1] at e1'; cases e1'
      have hyf : (x, NameKind.free) ∈ scope.names := PySem.mem_of_lookup n3
      have kd := S.fre _ hyf rfl
      obtain ⟨m, hn, hl⟩ := id I2.loc
      obtain ⟨u, ru, lk⟩ := hl j x v n2 eσ (kd.elim (fun z => .inr (.inl z)) fun z => .inr (.inr z))
      refine ⟨u, ru, ?_⟩
      rcases lk with ⟨k, _⟩ | ⟨k, c, ec, z⟩
      · have k' : X.env.scope.names.lookup x = some NameKind.local := k
        rcases kd with q | q <;> (rw [k'] at q; cases q)
      · obtain ⟨c', ec'⟩ := q2 x hyf
        have hcc := q1 x c' ec'
        rw [ec] at hcc; cases hcc
        obtain ⟨k', e', q⟩ := relS x _ n3
        refine .inr ⟨?_, c, by rw [cellsE, cl3 x (fun z => by have := S.uni _ z rfl; rw [n3] at this; cases this)]; exact ec', ?_⟩
        · rw [e']; rcases q with q | q
          · right; rw [q]
          · left; rw [q.2]
        · obtain ⟨o, ho, hd'⟩ := z
          exact ⟨o, old _ _ ho, hd'⟩
    case cell =>
      intro x c e
      rw [cellsE] at e
      rcases cl1 x c e with ⟨_, h'⟩ | h'
      · exact ⟨none, newCell x c (PySem.mem_of_lookup e) h'⟩
      · obtain ⟨v, o, ho, hd'⟩ := I2.cell x c (q1 x c h')
        exact ⟨v, o, old _ _ ho, hd'⟩
    case free => rw [locE]; exact c0
    case freeC =>
      intro x c e
      rw [cellsE] at e
      rcases cl1 x c e with ⟨_, h'⟩ | h'
      · exact I2.hok.fresh (by rw [hD]; exact Nat.le_trans (Nat.le_of_lt DC) (Nat.le_trans (Nat.le_succ _) h'))
      · exact I2.freeC x c (q1 x c h')
    case pin => intro p hp; rw [← hX'] at hp; exact absurd (show p ∈ ([] : List (Addr × Obj)) from hp) (by simp)
    case hok => rw [← hX']; exact I2.hok.kept old
    case len => rw [inSt_length, ← hX']; exact S.len.symm
  have xE : ∀ (e : Value) (s' : Shared), ¬ X'.xe e s' := fun e s' z => by rw [← hX'] at z; exact z
  have progE : X'.prog = X.prog := by rw [← hX']; rfl
  have wE : X'.w = X.w := by rw [← hX']; rfl
  have KE' : X'.K = X.K := by rw [← hX']; rfl
  have AE : X'.A = X.A := by rw [← hX']; rfl
  have cE : X'.calm = true := by rw [← hX']; exact hc
  have exE : X'.ex = fp := by rw [← hX']; rfl
  have s0E : X'.s₀ = s2 := by rw [← hX']; rfl
  have pnE : X'.pn = [] := by rw [← hX']; rfl
  have hgX : PG X' tg g := by rw [← hX']; exact hg cl' C s2 H2 fp
  have htX : PTs X' ifs tc := by rw [← hX']; exact ht cl' C s2 H2 fp
  have heX : PE X' elt te := by rw [← hX']; exact he cl' C s2 H2 fp
  have Dfp : D ∉ fp := fun z => Nat.lt_irrefl _ (fpl D z)
  have Dcl : ∀ x c, X'.env.cells.lookup x = some c → c ≠ D := fun x c e => by rw [cellsE] at e; exact (cl5 x c e).1
  have Dloc : D ≠ X'.env.locals := by rw [locE]; exact Nat.ne_of_lt DC
  have Dfs : D ∉ X'.fs := by rw [fsE]; exact fun z => Nat.lt_irrefl _ (fsl D z)
  have D0 : D ∈ X'.ex ∨ X'.s₀.heap.objs.size ≤ D := .inr (by rw [s0E, hD]; exact Nat.le_refl _)
  have stat : ∀ {pl : List (Addr × Obj)} {H' : Hp}, (∀ p ∈ pl, p.1 = D) → (∀ b ∈ fp, H' b = none) → ∀ b ∈ fp, FpOk X' pl H' b := fun {pl H'} hpl hn b hb => by
    refine ⟨hn b hb, by rw [locE]; exact Nat.ne_of_lt (Nat.lt_trans (fpl b hb) DC), ?_, .inl (by rw [exE]; exact hb), fun x c e => ?_, fun p hp => ?_⟩
    · exact ok'.exfs b (by rw [exE]; exact hb)
    · rw [cellsE] at e
      rcases cl1 x c e with ⟨_, h'⟩ | h'
      · intro z; subst z; exact absurd (fpl _ hb) (Nat.not_lt.mpr (Nat.le_trans (Nat.le_of_lt DC) (Nat.le_trans (Nat.le_succ _) h')))
      · exact (f2 b hb).2.2.2.2.1 x c (q1 x c h')
    · rw [pnE, List.nil_append] at hp
      rw [hpl p hp]; exact (Nat.ne_of_lt (fpl b hb)).symm
  have loop : codeAny (model X.prog X.w) X.A (.compLoop (.ListComp elt [⟨tg, iter, ifs, 0⟩] scope pos) 0 (.ref it) (.ref D) X'.env) (RR (.ref D) C) { s2 with heap := h₁, toks := s2.toks } := by
    refine compLoop_gen (fun n s' => ∃ i ys H', Inv X' [] (inSt M σ) H' s' ∧ tn i s'.heap ∧ (∀ b ∈ fp, H' b = none) ∧ (∃ (its : List Value) (k : Nat), Vals ys its ∧ s'.heap.get? D = some { cls := .type "list", data := .seq its.toArray k }) ∧ H' D = none ∧ W i n ys H') ?_ m0
      ⟨0, [], H2, I3, T.keep _ _ _ st2 fun b hb o e => old b o e, fun b hb => (f2 b hb).1, ⟨[], 0, .nil, hacc⟩, d0, w0⟩
    rintro n s3 ⟨i, ys, H3, J3, st3, fr3, ⟨its, k, rv, hDs⟩, dn, w3⟩
    obtain ⟨hsz, hcase⟩ := turn i n ys H3 w3
    -- the list's record is pinned
    have J3' : Inv X' [(D, { cls := .type "list", data := .seq its.toArray k })] (inSt M σ) H3 s3 := J3.pins_of fun p hp => by
      have e : p = (D, { cls := .type "list", data := .seq its.toArray k }) := by simpa using hp
      subst e
      exact ⟨hDs, dn, Dloc, Dfs, fun v z => by cases z⟩
    have hpl : ∀ p ∈ [((D, { cls := .type "list", data := .seq its.toArray k }) : Addr × Obj)], p.1 = D := fun p hp => by
      have e : p = (D, { cls := .type "list", data := .seq its.toArray k }) := by simpa using hp
      rw [e]
    rcases hcase with ⟨stop, qF⟩ | ⟨go, hlt, N, hN, step⟩
    · have q := T.done X' progE wE KE' cE i _ s3 _ H3 (fun _ _ => False) J3' (stat hpl fr3) st3 stop
      rw [AE] at q
      refine thn q fun r s4 ⟨hr, J4⟩ => ?_
      subst hr
      have hD4 : s4.heap.get? D = some { cls := .type "list", data := .seq its.toArray k } := (J4.pin _ (List.mem_append_right _ (List.mem_singleton.mpr rfl))).1
      obtain ⟨mC, hnC, _⟩ := id J4.loc
      rw [locE] at hnC
      have b4 := J4.base
      rw [fsE, exE, s0E, show X'.H₀ = H2 by rw [← hX']; rfl] at b4
      refine hend D C s4 H3 ys ?_ dn (Nat.le_refl _) DC ⟨mC, hnC⟩ (by rw [upd_ne (Nat.ne_of_gt DC)]; have := J4.free; rw [locE] at this; exact this) qF
      have hok4 := J4.hok
      rw [progE, wE] at hok4
      refine I2.call' (ch := fp) (H' := upd H3 D (.lst ys)) (by rw [J4.os, s0E]) ⟨b4.keep, b4.slot, fun b o e nn hb => ?_, b4.there, fun b xs e => ?_, fun b o u e => ?_, fun b ps e => ?_⟩ ?_ J4.bare fun b hb => ?_
      · rw [upd_ne (Nat.ne_of_lt (lo b o e))]; exact b4.free b o e nn hb
      · rw [upd_ne (ne_of_none (b4.tups b xs e) dn)]; exact b4.tups b xs e
      · rw [upd_ne (ne_of_none (b4.frzs b o u e) dn)]; exact b4.frzs b o u e
      · obtain ⟨more, e'⟩ := b4.tbls b ps e
        exact ⟨more, by rw [upd_ne (ne_of_none e' dn)]; exact e'⟩
      · intro b u e
        by_cases hb : b = D
        · subst hb
          rw [upd_same] at e; cases e
          exact ⟨hsz, its, k, rv, hD4⟩
        · rw [upd_ne hb] at e
          exact (hok4 b u e).stay (fun c v _ q => q) (fun c q => by rw [upd_ne (ne_of_none q dn)]; exact q) fun c xs q => by rw [upd_ne (ne_of_none q dn)]; exact q
      · obtain ⟨f0, f1, f3, f4, f5, f6⟩ := f2 b hb
        exact ⟨f4, f1, f5, f6⟩
    · have q := T.item X' progE wE KE' cE i _ s3 _ H3 (fun _ _ => False) J3' (stat hpl fr3) st3 go
      rw [AE] at q
      refine thn q fun r s4 ⟨u, hr, h4⟩ => ?_
      subst hr
      dsimp only
      refine thn h4 fun _ s5 ⟨x, H5, J5, r5, y5, st5, fr5⟩ => ?_
      have J5' := J5.pinned (stat hpl fr5) (T.obj _ _ st5)
      have qg := hgX _ s5 (inSt M σ) H5 x u _ J5' r5 (hf _ _ _ _ (step x H5 y5))
      rw [progE, wE, AE] at qg
      refine wpAny_mono qg (fun _ s6 h6 => ?_) fun e s' z => xE e s' z
      obtain ⟨σ6, H6, J6, q6, l6, k6⟩ := h6
      have qt := htX _ s6 σ6 H6 _ J6 q6
      rw [progE, wE, AE] at qt
      refine wpAny_mono qt (fun b s7 h7 => ?_) fun e s' z => xE e s' z
      obtain ⟨H7, J7, q7⟩ := h7
      have fin : ∀ {ys' : List V} {σ8 : St} {H8 : Hp} {s8 : Shared}, σ8 = σ6 → Inv X' ([(D, { cls := .type "list", data := .seq its.toArray k })] ++ pinsAt fp s5.heap) σ8 H8 s8 →
          s8.heap.get? D = some { cls := .type "list", data := .seq its.toArray k } ∧ H8 D = none ∧ tn (i + 1) s8.heap ∧ (∀ b ∈ fp, H8 b = none) ∧ Inv X' [] (inSt M σ) H8 s8 := fun {ys' σ8 H8 s8} e8 J8 => by
        subst e8
        obtain ⟨p1, p2, _⟩ := J8.pin _ (List.mem_append_right _ (List.mem_append_left _ (List.mem_singleton.mpr rfl)))
        refine ⟨p1, p2, T.keep _ _ _ st5 fun b hb o e => (J8.pin (b, o) (List.mem_append_right _ (List.mem_append_right _ (mem_pinsAt hb e)))).1, fun b hb => ?_, ?_⟩
        · obtain ⟨o, e, d⟩ := T.obj _ _ st5 b hb
          exact (J8.pin (b, o) (List.mem_append_right _ (List.mem_append_right _ (mem_pinsAt hb e)))).2.1
        · have J9 : Inv X' [] σ8 H8 s8 := J8.pins_of fun p hp => absurd hp (by simp)
          refine J9.weak (l6.symm) fun a v e => ?_
          obtain ⟨j, eM, _⟩ := inSt_get e
          rw [k6 a j eM]; exact e
      cases b with
      | false =>
        rw [if_neg (by decide)] at q7
        rw [if_neg (by decide)]
        obtain ⟨m', hm, w7⟩ := hN _ _ q7
        obtain ⟨a1, a2, a3, a4, a5⟩ := fin (ys' := ys) rfl J7
        exact ⟨m', hm, i + 1, ys, H7, a5, a3, a4, ⟨its, k, rv, a1⟩, a2, w7⟩
      | true =>
        rw [if_pos rfl] at q7
        rw [if_pos rfl]
        have qe := heX _ s7 σ6 H7 _ J7 q7
        rw [progE, wE, AE] at qe
        refine wpAny_mono qe (fun v8 s8 h8 => ?_) fun e s' z => xE e s' z
        obtain ⟨y8, H8, J8, r8, n8⟩ := h8
        obtain ⟨m', hm, w8⟩ := hN _ _ n8
        obtain ⟨a1, a2, a3, a4, a5⟩ := fin (ys' := ys) rfl J8
        refine wpAny_list_append_plain (items := its.toArray) ⟨k, a1⟩ (fun h9 hl9 hs9 => ?_) (by have := rv.length; rw [List.size_toArray, ← this]; exact hsz)
        have J9 : Inv X' [] (inSt M σ) H8 { s8 with heap := h9 } := a5.turned (t' := s8.toks) (fun b o hb e => (hs9.2 b hb).trans e) a2 Dloc D0 Dcl fun p hp => by rw [pnE] at hp; exact absurd hp (by simp)
        obtain ⟨k9, e9⟩ := hl9
        refine ⟨m', hm, i + 1, ys ++ [y8], H8, J9, T.keep _ _ _ a3 fun b hb o e => (hs9.2 b (fun z => Dfp (z ▸ hb))).trans e, a4, ⟨its ++ [v8], k9, rv.append (.cons r8 .nil), ?_⟩, a2, w8⟩
        rw [show (its ++ [v8]).toArray = its.toArray.push v8 by simp]
        exact e9
  have loop' : codeAny (model X.prog X.w) X.A (.compLoop (.ListComp elt [⟨tg, iter, ifs, 0⟩] scope pos) 0 (.ref it) (.ref D) (compEnvC scope cl' C X.env)) (RR (.ref D) C) { s2 with heap := h₁, toks := s2.toks } := envE ▸ loop
  exact codeAny_compStart_list loop' (T.self _ 0 _ _ _ (T.keep _ _ _ st2 fun b hb o e => old b o e) loop')
end L2
set_option Elab.async false
set_option linter.all false
set_option maxRecDepth 100000
namespace L2
open PySem PySem.Spec PyProof.Rows
theorem closure_mem {env : Env} : ∀ (names : List (Str × NameKind)) (cs : List (Str × Addr)), (∀ y ∈ names, y.2 = NameKind.free → ∃ c, env.cells.lookup y.1 = some c) → (∀ y c, (y, c) ∈ cs → env.cells.lookup y = some c) →
    ∀ cl, (forIn names cs fun x r => (match x with
      | (name, kind) => if (kind == NameKind.free) = true then (do let a ← cellOf env name; pure (ForInStep.yield ((name, a) :: r))) else pure (ForInStep.yield r)) : Sem (List (Str × Addr))) = pure cl → ∃ cl2, (forIn names cs fun x r => (match x with
      | (name, kind) => if (kind == NameKind.free) = true then (do let a ← cellOf env name; pure (ForInStep.yield ((name, a) :: r))) else pure (ForInStep.yield r)) : Sem (List (Str × Addr))) = pure cl2 ∧ ∀ y c, (y, c) ∈ cl2 → env.cells.lookup y = some c
  | [], cs, _, h, cl, _ => ⟨cs, by rw [List.forIn_nil], h⟩
  | (n, k) :: r, cs, hf, h, cl, e => by
    rw [List.forIn_cons] at e ⊢
    by_cases hk : (k == NameKind.free) = true
    · obtain ⟨c, hc⟩ := hf (n, k) List.mem_cons_self (nk_eq hk)
      have ec : cellOf env n = pure c := by unfold cellOf; rw [hc]
      simp only [hk, if_true, ec, pure_bind] at e ⊢
      refine closure_mem r ((n, c) :: cs) (fun y hy => hf y (List.mem_cons_of_mem _ hy)) (fun y c' hm => ?_) cl e
      rcases List.mem_cons.mp hm with q | q
      · cases q; exact hc
      · exact h y c' q
    · simp only [hk, if_false, pure_bind] at e ⊢
      exact closure_mem r cs (fun y hy => hf y (List.mem_cons_of_mem _ hy)) h cl e
theorem pure_inj_sem {α : Type} {a b : α} (h : (pure a : Sem α) = pure b) : a = b := by
  injection h
section
variable {X : Cx} {N' : List Str} {M : List (Option Nat)} {scope : Scope} {tg elt iter : Expr} {ifs : List Expr} {pos : Pos} {g : TG} {tc : TT} {te : TE} {wi : TI}
theorem lc_closC {pins : List (Addr × Obj)} {σ : St} {H : Hp} {s : Shared} (S : LcScC X.N N' M scope X.env.scope) (I : Inv X pins σ H s) :
    ∃ cl, closureFor scope X.env = pure cl ∧ (∀ y c, (y, c) ∈ cl → X.env.cells.lookup y = some c) ∧ (∀ y c, cl.lookup y = some c → X.env.cells.lookup y = some c) ∧ (∀ y, (y, NameKind.free) ∈ scope.names → ∃ c, cl.lookup y = some c) := by
  have hh : ∀ y ∈ scope.names, y.2 = NameKind.free → ∃ c, X.env.cells.lookup y.1 = some c := fun y hy hk => I.ok.has y.1 (S.fre y hy hk)
  obtain ⟨cl, e, q1, q2⟩ := closure_go (env := X.env) scope.names [] hh (fun y c e => by simp at e)
  obtain ⟨cl2, e2, q0⟩ := closure_mem (env := X.env) scope.names [] hh (fun y c h => by simp at h) cl e
  have ecl : cl = cl2 := pure_inj_sem (e.symm.trans e2)
  subst ecl
  refine ⟨cl, ?_, q0, q1, fun y hy => q2 y (.inr hy)⟩
  unfold closureFor
  dsimp only
  rw [show (forIn scope.names ([] : List (Str × Addr)) fun x r => (match x with
      | (name, kind) => if (kind == NameKind.free) = true then (do let a ← cellOf X.env name; pure (ForInStep.yield ((name, a) :: r))) else pure (ForInStep.yield r)) : Sem (List (Str × Addr))) = pure cl from e]
  rfl
theorem pe_lcC (S : LcScC X.N N' M scope X.env.scope) (hc : X.calm = true) (hi : PI X tg iter wi) (hg : ∀ cl C s H fp, PG (cxLcC X N' scope cl C s H fp) tg g) (hf : Frm M g)
    (ht : ∀ cl C s H fp, PTs (cxLcC X N' scope cl C s H fp) ifs tc) (he : ∀ cl C s H fp, PE (cxLcC X N' scope cl C s H fp) elt te)
    (hs : ∀ x, foldedSetIterable iter X.env x = pure x := by intro _; rfl) :
    PE X (.ListComp elt [⟨tg, iter, ifs, 0⟩] scope pos) (fun σ H Q => tLc wi M g tc te σ H fun ys H' => ∀ p, H' p = none → Q (.ref p) (upd H' p (.lst ys))) := by
  intro pins s σ H Q I h
  obtain ⟨cl, hclos, q0, q1, q2⟩ := lc_closC S I
  rw [eval_ListComp]
  refine wpAny_comprehension_free (use := none) rfl hs hclos S.kind S.own (thn (hi pins s σ H _ I h) fun v s1 h1 => thn h1 fun itv s2 h2 => ?_)
  obtain ⟨it, fp, tn, J, H2, e, I2, T, st2, f2, hw⟩ := h2
  subst e
  refine lc_blockC (RR := fun acc C => compPost (model X.prog X.w) X.A X.xe none (EP X pins σ Q) acc C) S hc q0 q1 q2 hg hf ht he I2 T st2 f2 hw ?_
  intro D C s' H' ys I' dn hD hC ⟨m, hn⟩ hCn q
  obtain ⟨y1, y2, y3, y4⟩ := I2.young (Nat.le_of_lt hC)
  exact ⟨m, hn, fun h' hs' => ⟨.ref D, _, I'.gone (s' := s') hs' hCn y1 y2 y3 y4, rfl, q D dn⟩⟩
end
def lcChkC (N N' : List Str) (M : List (Option Nat)) (sc osc : Scope) : Bool :=
  (sc.kind == .function) && (N'.length == M.length) && (sc.names.all fun y => y.2 != NameKind.cell || sc.names.lookup y.1 == some NameKind.cell) && (sc.names.all fun y => y.2 != NameKind.local || sc.names.lookup y.1 == some NameKind.local) &&
  (sc.names.all fun y => y.2 != NameKind.free || (osc.names.lookup y.1 == some NameKind.cell || osc.names.lookup y.1 == some NameKind.free)) &&
  ((N'.zip M).all fun p => match p.2 with | none => true | some j => N[j]? == some p.1 && sc.names.lookup p.1 == some NameKind.free)
theorem lcScC_of {N N' : List Str} {M : List (Option Nat)} {sc osc : Scope} (h : lcChkC N N' M sc osc = true) : LcScC N N' M sc osc := by
  unfold lcChkC at h
  simp only [Bool.and_eq_true] at h
  obtain ⟨⟨⟨⟨⟨h1, h2⟩, h3⟩, h4⟩, h5⟩, h6⟩ := h
  have hl : N'.length = M.length := by simpa using h2
  have one : ∀ {k : NameKind} (hh : (sc.names.all fun y => y.2 != k || sc.names.lookup y.1 == some k) = true), ∀ y ∈ sc.names, y.2 = k → sc.names.lookup y.1 = some k := fun {k} hh y hy hk => by
    have q := List.all_eq_true.mp hh y hy
    rw [Bool.or_eq_true] at q
    rcases q with q | q
    · exact absurd hk (nk_ne q)
    · exact nko_eq q
  refine ⟨?_, hl, one h3, one h4, fun y hy hk => ?_, fun i j e => ?_⟩
  · revert h1; cases sc.kind <;> intro h1 <;> first | rfl | exact absurd h1 (by decide)
  · have q := List.all_eq_true.mp h5 y hy
    rw [Bool.or_eq_true, Bool.or_eq_true] at q
    rcases q with q | q | q
    · exact absurd hk (nk_ne q)
    · exact .inl (nko_eq q)
    · exact .inr (nko_eq q)
  · have hi : i < M.length := (List.getElem?_eq_some_iff.mp e).1
    have hi' : i < N'.length := by rw [hl]; exact hi
    have em : (N'[i], some j) ∈ N'.zip M := by
      refine List.mem_iff_getElem?.mpr ⟨i, ?_⟩
      rw [List.getElem?_zip_eq_some]
      exact ⟨List.getElem?_eq_getElem hi', e⟩
    have q := List.all_eq_true.mp h6 _ em
    simp only [Bool.and_eq_true] at q
    exact ⟨N'[i], List.getElem?_eq_getElem hi', by simpa using q.1, nko_eq q.2⟩
def tLcV (wi : TI) (M : List (Option Nat)) (g : TG) (tc : TT) (te : TE) : TE := fun σ H Q => tLc wi M g tc te σ H fun ys H' => ∀ p, H' p = none → Q (.ref p) (upd H' p (.lst ys))
theorem pe_lcV {X : Cx} {N' : List Str} {M : List (Option Nat)} {scope : Scope} {tg elt iter : Expr} {ifs : List Expr} {pos : Pos} {g : TG} {tc : TT} {te : TE} {wi : TI} (S : LcSc X.N N' M scope X.env.scope) (hc : X.calm = true) (hi : PI X tg iter wi) (hg : ∀ cl C s H fp, PG (cxLc X N' scope cl C s H fp) tg g) (hf : Frm M g)
    (ht : ∀ cl C s H fp, PTs (cxLc X N' scope cl C s H fp) ifs tc) (he : ∀ cl C s H fp, PE (cxLc X N' scope cl C s H fp) elt te)
    (hs : ∀ x, foldedSetIterable iter X.env x = pure x := by intro _; rfl) : PE X (.ListComp elt [⟨tg, iter, ifs, 0⟩] scope pos) (tLcV wi M g tc te) := pe_lc S hc hi hg hf ht he hs
theorem pe_lcCV {X : Cx} {N' : List Str} {M : List (Option Nat)} {scope : Scope} {tg elt iter : Expr} {ifs : List Expr} {pos : Pos} {g : TG} {tc : TT} {te : TE} {wi : TI} (S : LcScC X.N N' M scope X.env.scope) (hc : X.calm = true) (hi : PI X tg iter wi) (hg : ∀ cl C s H fp, PG (cxLcC X N' scope cl C s H fp) tg g) (hf : Frm M g)
    (ht : ∀ cl C s H fp, PTs (cxLcC X N' scope cl C s H fp) ifs tc) (he : ∀ cl C s H fp, PE (cxLcC X N' scope cl C s H fp) elt te)
    (hs : ∀ x, foldedSetIterable iter X.env x = pure x := by intro _; rfl) : PE X (.ListComp elt [⟨tg, iter, ifs, 0⟩] scope pos) (tLcV wi M g tc te) := pe_lcC S hc hi hg hf ht he hs
end L2
set_option Elab.async false
set_option linter.all false
namespace L2
open PySem
theorem getD_lt {α : Type} {l : List α} {i : Nat} (h : i < l.length) (d : α) : l.getD i d = l[i] := by rw [List.getD_eq_getElem?_getD, List.getElem?_eq_getElem h]; rfl
theorem getD_app1 {α : Type} {l m : List α} {i : Nat} (h : i < l.length) (d : α) : (l ++ m).getD i d = l.getD i d := by
  rw [List.getD_eq_getElem?_getD, List.getElem?_append_left h, List.getD_eq_getElem?_getD]
theorem getD_app2 {α : Type} (l : List α) (x : α) (d : α) : (l ++ [x]).getD l.length d = x := by
  rw [List.getD_eq_getElem?_getD, List.getElem?_append_right (Nat.le_refl _), Nat.sub_self]; rfl
theorem mem_getD {l : List Int} {z : Int} : z ∈ l ↔ ∃ i, i < l.length ∧ l.getD i 0 = z := by
  constructor
  · intro h
    obtain ⟨i, hi, e⟩ := List.getElem_of_mem h
    exact ⟨i, hi, by rw [getD_lt hi]; exact e⟩
  · rintro ⟨i, hi, e⟩
    rw [getD_lt hi] at e
    exact e ▸ List.getElem_mem hi
theorem numRow_at {xs : List Int} {i : Nat} (h : i < xs.length) : (numRow xs).getD i 0 = ((seen xs).idxOf (xs.getD i 0) : Int) := by
  unfold numRow
  rw [List.getD_eq_getElem?_getD, List.getElem?_map, getD_lt h, List.getElem?_eq_getElem h]; rfl
theorem numRow_pat {xs : List Int} {i j : Nat} (hi : i < xs.length) (hj : j < xs.length) : (numRow xs).getD i 0 = (numRow xs).getD j 0 ↔ xs.getD i 0 = xs.getD j 0 := by
  rw [numRow_at hi, numRow_at hj]
  have mi : xs.getD i 0 ∈ seen xs := (mem_seen xs _).mpr (mem_getD.mpr ⟨i, hi, rfl⟩)
  have mj : xs.getD j 0 ∈ seen xs := (mem_seen xs _).mpr (mem_getD.mpr ⟨j, hj, rfl⟩)
  refine ⟨fun e => ?_, fun e => by rw [e]⟩
  have e : (seen xs).idxOf (xs.getD i 0) = (seen xs).idxOf (xs.getD j 0) := Int.ofNat.inj e
  have a := List.getElem_idxOf (List.idxOf_lt_length_of_mem mi)
  have b := List.getElem_idxOf (List.idxOf_lt_length_of_mem mj)
  rw [← a, ← b]
  congr 1
theorem pat_numRow : ∀ (n : Nat) (xs ys : List Int), xs.length = n → ys.length = n → (∀ i j, i < n → j < n → (xs.getD i 0 = xs.getD j 0 ↔ ys.getD i 0 = ys.getD j 0)) → numRow xs = numRow ys
  | 0, xs, ys, hx, hy, _ => by rw [List.length_eq_zero_iff.mp hx, List.length_eq_zero_iff.mp hy]
  | n + 1, xs, ys, hx, hy, h => by
    have nx : xs ≠ [] := by intro e; rw [e] at hx; simp at hx
    have ny : ys ≠ [] := by intro e; rw [e] at hy; simp at hy
    have ex := (List.dropLast_concat_getLast nx).symm
    have ey := (List.dropLast_concat_getLast ny).symm
    generalize xs.dropLast = x' at ex
    generalize ys.dropLast = y' at ey
    generalize xs.getLast nx = x at ex
    generalize ys.getLast ny = y at ey
    subst ex ey
    have lx : x'.length = n := by simpa using hx
    have ly : y'.length = n := by simpa using hy
    have ih := pat_numRow n x' y' lx ly (fun i j hi hj => by
      have := h i j (by omega) (by omega)
      rw [getD_app1 (by omega), getD_app1 (by omega), getD_app1 (by omega), getD_app1 (by omega)] at this
      exact this)
    have last : ∀ i, i < n → (x'.getD i 0 = x ↔ y'.getD i 0 = y) := fun i hi => by
      have := h i n (by omega) (by omega)
      rw [getD_app1 (l := x') (i := i) (by omega), getD_app1 (l := y') (i := i) (by omega)] at this
      have e1 : (x' ++ [x]).getD n 0 = x := by rw [← lx]; exact getD_app2 x' x 0
      have e2 : (y' ++ [y]).getD n 0 = y := by rw [← ly]; exact getD_app2 y' y 0
      rw [e1, e2] at this
      exact this
    rw [numRow_snoc, numRow_snoc, ih]
    congr 3
    by_cases hm : x ∈ x'
    · obtain ⟨i, hi, e⟩ := mem_getD.mp hm
      have e2 := (last i (by omega)).mp e
      have hm2 : y ∈ y' := mem_getD.mpr ⟨i, by omega, e2⟩
      rw [seenP_idx ((mem_seen x' x).mpr hm), seenP_idx ((mem_seen y' y).mpr hm2)]
      have a := numRow_at (xs := x') (i := i) hi
      have b := numRow_at (xs := y') (i := i) (by omega)
      rw [ih, b, e, e2] at a
      exact (Int.ofNat.inj a).symm
    · have hm2 : y ∉ y' := fun z => by
        obtain ⟨i, hi, e⟩ := mem_getD.mp z
        exact hm (mem_getD.mpr ⟨i, by omega, (last i (by omega)).mpr e⟩)
      rw [seenP_new (fun z => hm ((mem_seen x' x).mp z)), seenP_new (fun z => hm2 ((mem_seen y' y).mp z))]
      have a := (numRow_way x').2
      have b := (numRow_way y').2
      rw [ih, b] at a
      exact (Int.ofNat.inj a).symm
def Within (n : Nat) (xs ys : List Int) : Prop := ∀ i j, i < n → j < n → xs.getD i 0 = xs.getD j 0 → ys.getD i 0 = ys.getD j 0
theorem way_memJ (ws : List Int) : wayGo 0 ws = true → ∀ z, z ∈ ws ↔ 0 ≤ z ∧ z < fresh 0 ws := by
  refine snoc_ind (P := fun ws => wayGo 0 ws = true → ∀ z, z ∈ ws ↔ 0 ≤ z ∧ z < fresh 0 ws) (fun _ z => by simp [fresh] <;> omega) (fun ws y ih h z => ?_) ws
  rw [wayGo_snoc, Bool.and_eq_true, Bool.and_eq_true] at h
  obtain ⟨h1, h2, h3⟩ := h
  have h2 := of_decide_eq_true h2
  have h3 := of_decide_eq_true h3
  have ih := ih h1 z
  have f0 : 0 ≤ fresh 0 ws := by have := (fresh_max ws h1).2 (-1) List.mem_cons_self; omega
  rw [List.mem_append, List.mem_singleton, ih, fresh_snoc]
  split <;> omega
theorem fresh_le (ws : List Int) : fresh 0 ws ≤ ws.length := by
  refine snoc_ind (P := fun ws => fresh 0 ws ≤ (ws.length : Int)) (by show (0 : Int) ≤ _; simp) (fun xs z ih => ?_) ws
  rw [fresh_snoc, List.length_append]
  show _ ≤ ((xs.length + 1 : Nat) : Int)
  split <;> omega
theorem way_small {ws : List Int} (hw : isWay ws = true) {i : Nat} (h : i < ws.length) : 0 ≤ ws.getD i 0 ∧ ws.getD i 0 < 9 ∧ ws.getD i 0 < fresh 0 ws := by
  obtain ⟨w1, w9, w0⟩ := isWay_iff.mp hw
  have hf := (way_memJ ws w0 (ws.getD i 0)).mp (mem_getD.mpr ⟨i, h, rfl⟩)
  have := fresh_le ws
  exact ⟨hf.1, by omega, hf.2⟩
def relab (L : List Int) (old new : Int) : List Int := L.map fun l => if l = old then new else l
theorem relab_length (L : List Int) (o n : Int) : (relab L o n).length = L.length := by unfold relab; simp
theorem relab_at {L : List Int} {o n : Int} {i : Nat} (h : i < L.length) : (relab L o n).getD i 0 = if L.getD i 0 = o then n else L.getD i 0 := by
  unfold relab
  rw [List.getD_eq_getElem?_getD, List.getElem?_map, getD_lt h, List.getElem?_eq_getElem h]; rfl
def mg (L : List Int) (p : Nat × Nat) : List Int := relab L (L.getD p.2 0) (L.getD p.1 0)
def lotN (ws : List Int) (k : Int) (i : Nat) : List Nat := (List.range i).filter fun j => decide (ws.getD j 0 = k)
def lotL (ws : List Int) (k : Int) (i : Nat) : List Int := (lotN ws k i).map fun (j : Nat) => (j : Int)
theorem lotN_succ (ws : List Int) (k : Int) (i : Nat) : lotN ws k (i + 1) = if ws.getD i 0 = k then lotN ws k i ++ [i] else lotN ws k i := by
  unfold lotN
  rw [List.range_succ, List.filter_append]
  by_cases h : ws.getD i 0 = k
  · rw [if_pos h]; rw [List.getD_eq_getElem?_getD] at h; simp [h]
  · rw [if_neg h]; rw [List.getD_eq_getElem?_getD] at h; simp [h]
theorem lotL_succ (ws : List Int) (k : Int) (i : Nat) : lotL ws k (i + 1) = if ws.getD i 0 = k then lotL ws k i ++ [(i : Int)] else lotL ws k i := by
  unfold lotL
  rw [lotN_succ]
  split <;> simp
theorem mem_lotN {ws : List Int} {k : Int} {i j : Nat} : j ∈ lotN ws k i ↔ j < i ∧ ws.getD j 0 = k := by
  unfold lotN; simp
theorem lotN_length_le (ws : List Int) (k : Int) (i : Nat) : (lotN ws k i).length ≤ i := by
  unfold lotN
  have := List.length_filter_le (fun j => decide (ws.getD j 0 = k)) (List.range i)
  simpa using this
theorem lotL_length (ws : List Int) (k : Int) (i : Nat) : (lotL ws k i).length = (lotN ws k i).length := by unfold lotL; simp
theorem lotN_ne {ws : List Int} (hw : isWay ws = true) {k : Nat} (hk : k < (fresh 0 ws).toNat) : lotN ws (k : Int) ws.length ≠ [] := fun e => by
  obtain ⟨w1, w9, w0⟩ := isWay_iff.mp hw
  have : (k : Int) ∈ ws := (way_memJ ws w0 k).mpr ⟨by omega, by omega⟩
  obtain ⟨i, hi, ei⟩ := mem_getD.mp this
  have hm : i ∈ lotN ws (k : Int) ws.length := mem_lotN.mpr ⟨hi, ei⟩
  rw [e] at hm
  simp at hm
end L2
set_option Elab.async false
set_option linter.all false
namespace L2
open PySem
theorem getRef {qs : List Addr} {j : Nat} {y : V} (h : (qs.map V.ref)[j]? = some y) : ∃ q, y = V.ref q ∧ qs[j]? = some q ∧ j < qs.length := by
  rw [List.getElem?_map] at h
  cases e : qs[j]? with
  | none => rw [e] at h; cases h
  | some q => rw [e] at h; exact ⟨q, (Option.some.inj h).symm, rfl, (List.getElem?_eq_some_iff.mp e).1⟩
theorem atI_ref {qs : List Addr} {j : Nat} {q : Addr} (h : qs[j]? = some q) : atI (qs.map V.ref) (j : Int) = some (V.ref q) := atI_nat (by rw [List.getElem?_map, h]; rfl)
end L2
namespace L2
open PySem
end L2
namespace L2
open PySem PySem.Spec PyProof.Rows
section
variable {X : Cx} {K : PySem.W.Frag} {pos : Pos}
theorem kpg_tup {es : List Expr} {k : Nat} {t : TGs} {n : Nat} (hc : X.calm = true) (h : PGs X es t)
    (hn : (assignEach es X.env).length = n := by rfl) (hst : (assignEach es X.env).findIdx? (·.1) = none := by rfl) (hK : X.K = K := by rfl) : PG X (.Tuple es k pos) (gTup K n t) := by
  subst hK; exact pg_tup hc h hn hst
theorem frm_two {M : List (Option Nat)} {n : Nat} (h0 : M[0]? = some none := by rfl) (h1 : M[1]? = some none := by rfl) : Frm M (gTup K n (gCons (gName 0) (gCons (gName 1) gNil))) := fun v σ H Q q => by
  obtain ⟨a, xs, e, hq, hl, v1, r, e1, v2, r2, e2, e3, q⟩ := q
  refine ⟨a, xs, e, hq, hl, v1, r, e1, v2, r2, e2, e3, q, by rw [List.length_set, List.length_set], fun k j ek => ?_⟩
  have n0 : 0 ≠ k := by rintro rfl; rw [h0] at ek; cases ek
  have n1 : 1 ≠ k := by rintro rfl; rw [h1] at ek; cases ek
  rw [List.getElem?_set_ne n1, List.getElem?_set_ne n0]
end
end L2
namespace L2
open PySem
end L2
set_option Elab.async false
set_option linter.all false
set_option maxRecDepth 100000
namespace L2
open PySem PySem.Spec PyProof.Rows
def turnG (e : Expr) (dep : Nat) (tg iter : Expr) (ifs : List Expr) (it acc : Value) (env : Env) (EM : Sem Unit) : Sem Fin := do
      standAt iter.pos
      match ← pyNext it with
      | none => pure (.done .next)
      | some v =>
        letOwnedTupleGo tg it v
        assign tg env v
        let mut ok := true
        for c in ifs do
          if ok then ok ← isTrue c env (eval c env)
        if ok then EM
        again (.compLoop e dep it acc env)
def emElt (elt : Expr) (acc : Value) (env : Env) : Sem Unit := (do let _ ← call (.builtin "list.append") [acc, ← eval elt env])
def emIn (e iter2 : Expr) (acc : Value) (env : Env) : Sem Unit := (do
        let x ← eval iter2 env
        standAt iter2.pos
        let x ← foldedSetIterable iter2 env x
        let _ ← runOwn (.compStart e 1 (← holding [x] (pyIter x)) acc env) env)
theorem turn_last (elt : Expr) (g0 : Comprehension) (tg iter : Expr) (ifs : List Expr) (scope : Scope) (pos : Pos) (it acc : Value) (env : Env) :
    compTurn (.ListComp elt [g0, ⟨tg, iter, ifs, 0⟩] scope pos) 1 it acc env = turnG (.ListComp elt [g0, ⟨tg, iter, ifs, 0⟩] scope pos) 1 tg iter ifs it acc env (emElt elt acc env) := by rfl
def turnF (e : Expr) (tg iter iter2 : Expr) (ifs : List Expr) (it acc : Value) (env : Env) : Sem Fin := do
      standAt iter.pos
      match ← pyNext it with
      | none => pure (.done .next)
      | some v =>
        letOwnedTupleGo tg it v
        assign tg env v
        let mut ok := true
        for c in ifs do
          if ok then ok ← isTrue c env (eval c env)
        if ok then
          let x ← eval iter2 env
          standAt iter2.pos
          let x ← foldedSetIterable iter2 env x
          let _ ← runOwn (.compStart e 1 (← holding [x] (pyIter x)) acc env) env
        again (.compLoop e 0 it acc env)
theorem turn_first0 (elt : Expr) (tg iter tg2 iter2 : Expr) (ifs ifs2 : List Expr) (scope : Scope) (pos : Pos) (it acc : Value) (env : Env) :
    compTurn (.ListComp elt [⟨tg, iter, ifs, 0⟩, ⟨tg2, iter2, ifs2, 0⟩] scope pos) 0 it acc env = turnF (.ListComp elt [⟨tg, iter, ifs, 0⟩, ⟨tg2, iter2, ifs2, 0⟩] scope pos) tg iter iter2 ifs it acc env := by rfl
theorem turnF_eq (e : Expr) (tg iter iter2 : Expr) (ifs : List Expr) (it acc : Value) (env : Env) : turnF e tg iter iter2 ifs it acc env = turnG e 0 tg iter ifs it acc env (emIn e iter2 acc env) := by
  unfold turnF turnG emIn
  simp only [bind_assoc, pure_bind]
section
variable {prog : Program} {w : World} {A : Around} {R : Result → Shared → Prop} {s : Shared}
theorem compLoop_em {e tg iter : Expr} {ifs : List Expr} {dep : Nat} {it acc : Value} {env : Env} {EM : Sem Unit} (hq : (Code.compLoop e dep it acc env).quiet = true) (hfr : (Code.compLoop e dep it acc env).isFrame = false)
    (heq : compTurn e dep it acc env = turnG e dep tg iter ifs it acc env EM) (hu : A.under (.compLoop e dep it acc env) = A) (Iv : Nat → Shared → Prop)
    (turn : ∀ n s, Iv n s → wpAny (model prog w) A (pyNext it) (fun r s₁ => match r with
      | none => R (.ok .next) s₁
      | some v => wpAny (model prog w) A (letOwnedTupleGo tg it v) (fun _ s₁' => wpAny (model prog w) A (assign tg env v) (fun _ s₂ =>
          wpAny (model prog w) A (forIn ifs true fun c r => if r = true then do let ok ← isTrue c env (eval c env); pure (ForInStep.yield ok) else pure (ForInStep.yield r)) (fun ok s₃ =>
            if ok = true then wpAny (model prog w) A EM (fun _ s₅ => ∃ m, m < n ∧ Iv m s₅) (fun _ _ => False) s₃
            else ∃ m, m < n ∧ Iv m s₃) (fun _ _ => False) s₂) (fun _ _ => False) s₁') (fun _ _ => False) s₁) (fun _ _ => False) s)
    (n : Nat) (h : Iv n s) :
    codeAny (model prog w) A (.compLoop e dep it acc env) R s := by
  refine codeAny_loop hq Iv (fun n s hI => ?_) n h
  rw [hu]
  have hden : (model prog w).den (.compLoop e dep it acc env) = (compTurn e dep it acc env).onRaise (fun x => do noteFrame x env; theTreesLotGoes x) := by
    show (if (Code.compLoop e dep it acc env).isFrame then _ else _) = _
    rw [hfr]; rfl
  rw [hden]
  refine wpAny_noted ?_
  rw [heq]
  unfold turnG
  refine wpAny_bind (wpAny_standAt (wpAny_bind (wpAny_mono (turn n s hI) (fun r s₁ h₁ => ?_) fun _ _ z => z.elim)))
  cases r with
  | none => exact wpAny_pure h₁
  | some v =>
    refine wpAny_bind (wpAny_mono h₁ (fun _ s₁' h₁' => ?_) fun _ _ z => z.elim)
    refine wpAny_bind (wpAny_mono h₁' (fun _ s₂ h₂ => wpAny_bind (wpAny_mono h₂ (fun ok s₃ h₃ => ?_) fun _ _ z => z.elim)) fun _ _ z => z.elim)
    cases ok with
    | false => exact wpAny_pure ⟨rfl, h₃⟩
    | true =>
      exact wpAny_bind (wpAny_mono h₃ (fun _ s₅ h₅ => wpAny_pure ⟨rfl, h₅⟩) fun _ _ z => z.elim)
theorem codeAny_compStart_two {elt target iter ifs g0 scope pos it acc env}
    (h0 : codeAny (model prog w) A (.compLoop (.ListComp elt [g0, ⟨target, iter, ifs, 0⟩] scope pos) 1 it acc env) R s)
    (h : wpAny (model prog w) A (pyIter it) (fun it' s' => codeAny (model prog w) A (.compLoop (.ListComp elt [g0, ⟨target, iter, ifs, 0⟩] scope pos) 1 it' acc env) R s')
      (notedBy (model prog w) A env fun x s' => R (.error x) s') s) :
    codeAny (model prog w) A (.compStart (.ListComp elt [g0, ⟨target, iter, ifs, 0⟩] scope pos) 1 it acc env) R s := by
  refine codeAny_of_tree ?_
  show wpAny _ _ ((compStart (.ListComp elt [g0, ⟨target, iter, ifs, 0⟩] scope pos) 1 it acc env).onRaise (fun x => do noteFrame x env; standAt theWindowsPlace)) _ _ s
  refine wpAny_notedAt ?_
  unfold compStart
  show wpAny _ _ (ask >>= _) _ _ s
  refine wpAny_bind (wpAny_askSetting (wpAny_ite ?_))
  split
  · first
      | exact wpAny_bind (wpAny_pure (wpAny_pure (And.intro rfl h0)))
      | exact wpAny_pure (And.intro rfl h0)
  · first
      | exact wpAny_bind (wpAny_rule (wpAny_bind (wpAny_standAt (wpAny_bind (wpAny_mono h (fun it' s' h' => wpAny_pure (And.intro rfl h')) fun _ _ x => x)))))
      | (refine wpAny_bind (wpAny_rule ?_); show wpAny _ _ (standAt iter.pos >>= _) _ _ s; exact wpAny_bind (wpAny_standAt (wpAny_bind (wpAny_mono h (fun it' s' h' => wpAny_pure (And.intro rfl h')) fun _ _ x => x))))
end
def Own (ks : List Nat) (g : TG) : Prop := ∀ v σ H Q, g v σ H Q → g v σ H fun σ' H' => Q σ' H' ∧ σ'.length = σ.length ∧ ∀ i, i ∉ ks → σ'[i]? = σ[i]?
theorem own_name {i : Nat} : Own [i] (gName i) := fun v σ H Q q => by
  refine ⟨q, List.length_set .., fun k hk => ?_⟩
  exact List.getElem?_set_ne fun e => hk (by rw [e]; exact List.mem_singleton.mpr rfl)
def Acc (h : Heap) (D : Addr) (ys : List V) : Prop := ∃ (its : List Value) (k : Nat), Vals ys its ∧ h.get? D = some { cls := .type "list", data := .seq its.toArray k }
abbrev TM := St → Hp → List V → (List V → Hp → Prop) → Prop
def PEm (X : Cx) (D : Addr) (EM : Sem Unit) (Z : St → Prop) (tm : TM) : Prop :=
  ∀ (pins : List (Addr × Obj)) (s : Shared) (σ : St) (H : Hp) (ys : List V) (Q : List V → Hp → Prop), Inv X pins σ H s → FpOk X pins H D → Acc s.heap D ys → ys.length ≤ sizeLine → Z σ → tm σ H ys Q →
    wpAny (model X.prog X.w) X.A EM (fun _ s' => ∃ H' ys', Inv X pins σ H' s' ∧ H' D = none ∧ Acc s'.heap D ys' ∧ Q ys' H') X.xe s
def tmElt (te : TE) : TM := fun σ H ys Q => ys.length < sizeLine ∧ te σ H fun v H' => Q (ys ++ [v]) H'
section
variable {X : Cx}
theorem Acc.pin {pins : List (Addr × Obj)} {σ : St} {H : Hp} {s : Shared} {D : Addr} {its : List Value} {k : Nat} (I : Inv X pins σ H s) (f : FpOk X pins H D) (e : s.heap.get? D = some { cls := .type "list", data := .seq its.toArray k }) : Inv X (pins ++ [(D, { cls := .type "list", data := .seq its.toArray k })]) σ H s :=
  I.pins_of fun p hp => (List.mem_append.mp hp).elim (fun z => I.pin p (List.mem_append_right _ z)) fun z => by
    have e' : p = (D, { cls := .type "list", data := .seq its.toArray k }) := by simpa using z
    subst e'
    exact ⟨e, f.1, f.2.1, f.2.2.1, fun v z => by cases z⟩
theorem pem_elt {D : Addr} {elt : Expr} {te : TE} {Z : St → Prop} (he : PE X elt te) : PEm X D (emElt elt (.ref D) X.env) Z (tmElt te) := by
  intro pins s σ H ys Q I f ⟨its, k, rv, hD⟩ hsz _ ⟨hlt, q⟩
  have I' := Acc.pin I f hD
  unfold emElt
  refine wpAny_bind (thn (he _ s σ H _ I' q) fun v8 s8 ⟨y8, H8, J8, r8, n8⟩ => ?_)
  obtain ⟨p1, p2, _⟩ := J8.pin _ (List.mem_append_right _ (List.mem_append_right _ (List.mem_singleton.mpr rfl)))
  have J9 : Inv X pins σ H8 s8 := J8.unpinned
  refine wpAny_bind (wpAny_list_append_plain (items := its.toArray) ⟨k, p1⟩ (fun h9 hl9 hs9 => wpAny_pure ?_) (by have := rv.length; rw [List.size_toArray, ← this]; exact hsz))
  have Jt : Inv X pins σ H8 { s8 with heap := h9 } := J9.turned (t' := s8.toks) (fun b o hb e => (hs9.2 b hb).trans e) p2 f.2.1 f.2.2.2.1 f.2.2.2.2.1 f.2.2.2.2.2
  obtain ⟨k9, e9⟩ := hl9
  refine ⟨H8, ys ++ [y8], Jt, p2, ⟨its ++ [v8], k9, rv.append (.cons r8 .nil), ?_⟩, n8⟩
  rw [show (its ++ [v8]).toArray = its.toArray.push v8 by simp]
  exact e9
def LcW (J : It) (g : TG) (tc : TT) (tm : TM) (σ0 : St) (ys0 : List V) (H0 : Hp) (F : List V → Hp → Prop) : Prop :=
  ∃ W : Nat → Nat → List V → Hp → Prop, (∃ m, W 0 m ys0 H0) ∧ ∀ i m ys H, W i m ys H → ys.length ≤ sizeLine ∧
    ((J.stop i H ∧ F ys H) ∨ (J.go i H ∧ ∃ N : List V → Hp → Prop, (∀ ys' H', N ys' H' → ∃ m', m' < m ∧ W (i + 1) m' ys' H') ∧ ∀ x H', J.yld i H x H' → g x σ0 H' fun σ2 H2 => tc σ2 H2 fun b H3 =>
      if b = true then tm σ2 H3 ys N else N ys H3))
theorem lc_loop {e tg iter : Expr} {ifs : List Expr} {dep : Nat} {EM : Sem Unit} {ks : List Nat} {Z : St → Prop} {g : TG} {tc : TT} {tm : TM} {pins : List (Addr × Obj)} {σ0 : St} {H2 : Hp} {s2 : Shared} {it D : Addr} {fp : List Addr} {tn : Nat → Heap → Prop} {J : It} {F : List V → Hp → Prop} {R : Result → Shared → Prop} {ys0 : List V}
    (hq : (Code.compLoop e dep (.ref it) (.ref D) X.env).quiet = true) (hfr : (Code.compLoop e dep (.ref it) (.ref D) X.env).isFrame = false) (heq : compTurn e dep (.ref it) (.ref D) X.env = turnG e dep tg iter ifs (.ref it) (.ref D) X.env EM) (hu : X.A.under (.compLoop e dep (.ref it) (.ref D) X.env) = X.A)
    (hc : X.calm = true) (xE : ∀ v s', ¬ X.xe v s') (hg : PG X tg g) (ho : Own ks g) (hks : ∀ i v, σ0[i]? = some (some v) → i ∉ ks) (hZ : ∀ σ' : St, (∀ i, i ∉ ks → σ'[i]? = σ0[i]?) → Z σ') (ht : PTs X ifs tc) (hem : PEm X D EM Z tm)
    (I2 : Inv X pins σ0 H2 s2) (T : Turn X.prog X.w X.K tg J fp it tn) (st2 : tn 0 s2.heap) (f2 : ∀ b ∈ fp, FpOk X pins H2 b) (fD : FpOk X pins H2 D) (aD : Acc s2.heap D ys0) (Dfp : D ∉ fp)
    (hw : LcW J g tc tm σ0 ys0 H2 F) (hend : ∀ (s' : Shared) (H' : Hp) (ys : List V), Inv X pins σ0 H' s' → H' D = none → Acc s'.heap D ys → ys.length ≤ sizeLine → (∀ b ∈ fp, H' b = none) → F ys H' → R (.ok .next) s') :
    codeAny (model X.prog X.w) X.A (.compLoop e dep (.ref it) (.ref D) X.env) R s2 := by
  obtain ⟨W, ⟨m0, w0⟩, turn⟩ := hw
  have stat : ∀ {pl : List (Addr × Obj)} {H' : Hp}, (∀ p ∈ pl, p.1 = D) → (∀ b ∈ fp, H' b = none) → ∀ b ∈ fp, FpOk X (pins ++ pl) H' b := fun {pl H'} hpl hn b hb => by
    obtain ⟨_, a1, a2, a3, a4, a5⟩ := f2 b hb
    refine ⟨hn b hb, a1, a2, a3, a4, fun p hp => ?_⟩
    rw [← List.append_assoc] at hp
    rcases List.mem_append.mp hp with z | z
    · exact a5 p z
    · rw [hpl p z]; exact fun z => Dfp (z ▸ hb)
  refine compLoop_em hq hfr heq hu (fun n s' => ∃ i ys H', Inv X pins σ0 H' s' ∧ tn i s'.heap ∧ (∀ b ∈ fp, H' b = none) ∧ Acc s'.heap D ys ∧ H' D = none ∧ W i n ys H') ?_ m0
    ⟨0, ys0, H2, I2, st2, fun b hb => (f2 b hb).1, aD, fD.1, w0⟩
  rintro n s3 ⟨i, ys, H3, J3, st3, fr3, ⟨its, k, rv, hDs⟩, dn, w3⟩
  obtain ⟨hsz, hcase⟩ := turn i n ys H3 w3
  have fD3 : FpOk X pins H3 D := ⟨dn, fD.2⟩
  have J3' := Acc.pin J3 fD3 hDs
  have hpl : ∀ p ∈ [((D, { cls := .type "list", data := .seq its.toArray k }) : Addr × Obj)], p.1 = D := fun p hp => by
    have e : p = (D, { cls := .type "list", data := .seq its.toArray k }) := by simpa using hp
    rw [e]
  rcases hcase with ⟨stop, qF⟩ | ⟨go, N, hN, step⟩
  · have q := T.done X rfl rfl rfl hc i _ s3 _ H3 (fun _ _ => False) J3' (stat hpl fr3) st3 stop
    refine thn q fun r s4 ⟨hr, J4⟩ => ?_
    subst hr
    have hD4 : s4.heap.get? D = some { cls := .type "list", data := .seq its.toArray k } := (J4.pin _ (List.mem_append_right _ (List.mem_append_right _ (List.mem_singleton.mpr rfl)))).1
    exact hend s4 H3 ys J4.unpinned dn ⟨its, k, rv, hD4⟩ hsz fr3 qF
  · have q := T.item X rfl rfl rfl hc i _ s3 _ H3 (fun _ _ => False) J3' (stat hpl fr3) st3 go
    refine thn q fun r s4 ⟨u, hr, h4⟩ => ?_
    subst hr
    dsimp only
    refine thn h4 fun _ s5 ⟨x, H5, J5, r5, y5, st5, fr5⟩ => ?_
    have J5' := J5.pinned (stat hpl fr5) (T.obj _ _ st5)
    refine wpAny_mono (hg _ s5 σ0 H5 x u _ J5' r5 (ho _ _ _ _ (step x H5 y5))) (fun _ s6 h6 => ?_) fun e s' z => xE e s' z
    obtain ⟨σ6, H6, J6, q6, l6, k6⟩ := h6
    refine wpAny_mono (ht _ s6 σ6 H6 _ J6 q6) (fun b s7 h7 => ?_) fun e s' z => xE e s' z
    obtain ⟨H7, J7, q7⟩ := h7
    have fin : ∀ {pl : List (Addr × Obj)} {H8 : Hp} {s8 : Shared}, Inv X (pl ++ pinsAt fp s5.heap) σ6 H8 s8 → (∀ p ∈ pins, p ∈ pl) → tn (i + 1) s8.heap ∧ (∀ b ∈ fp, H8 b = none) ∧ Inv X pins σ0 H8 s8 := fun {pl H8 s8} J8 hp => by
      refine ⟨T.keep _ _ _ st5 fun b hb o e => (J8.pin (b, o) (List.mem_append_right _ (List.mem_append_right _ (mem_pinsAt hb e)))).1, fun b hb => ?_, ?_⟩
      · obtain ⟨o, e, d⟩ := T.obj _ _ st5 b hb
        exact (J8.pin (b, o) (List.mem_append_right _ (List.mem_append_right _ (mem_pinsAt hb e)))).2.1
      · have J9 : Inv X pins σ6 H8 s8 := J8.pins_of fun p hp' => J8.pin p (List.mem_append_right _ (List.mem_append_left _ (hp p hp')))
        refine J9.weak (l6.symm) fun a v e => ?_
        rw [k6 a (hks a v e)]; exact e
    obtain ⟨p1, p2, _⟩ := J7.pin _ (List.mem_append_right _ (List.mem_append_left _ (List.mem_append_right _ (List.mem_singleton.mpr rfl))))
    cases b with
    | false =>
      rw [if_neg (by decide)] at q7
      rw [if_neg (by decide)]
      obtain ⟨m', hm, w7⟩ := hN _ _ q7
      obtain ⟨a3, a4, a5⟩ := fin J7 (fun p hp => List.mem_append_left _ hp)
      exact ⟨m', hm, i + 1, ys, H7, a5, a3, a4, ⟨its, k, rv, p1⟩, p2, w7⟩
    | true =>
      rw [if_pos rfl] at q7
      rw [if_pos rfl]
      have J7' : Inv X (pins ++ pinsAt fp s5.heap) σ6 H7 s7 := J7.pins_of fun p hp => by
        refine J7.pin p (List.mem_append_right _ ?_)
        rcases List.mem_append.mp hp with z | z
        · exact List.mem_append_left _ (List.mem_append_left _ z)
        · exact List.mem_append_right _ z
      have fD7 : FpOk X (pins ++ pinsAt fp s5.heap) H7 D := by
        obtain ⟨_, a1, a2, a3, a4, a5⟩ := fD
        refine ⟨p2, a1, a2, a3, a4, fun p hp => ?_⟩
        rw [← List.append_assoc] at hp
        rcases List.mem_append.mp hp with z | z
        · exact a5 p z
        · exact fun e => Dfp (e ▸ (of_pinsAt z).1)
      refine wpAny_mono (hem _ s7 σ6 H7 ys _ J7' fD7 ⟨its, k, rv, p1⟩ hsz (hZ σ6 k6) q7) (fun _ s8 h8 => ?_) fun e s' z => xE e s' z
      obtain ⟨H8, ys', J8, d8, a8, n8⟩ := h8
      obtain ⟨m', hm, w8⟩ := hN _ _ n8
      obtain ⟨a3, a4, a5⟩ := fin J8 (fun p hp => hp)
      exact ⟨m', hm, i + 1, ys', H8, a5, a3, a4, a8, d8, w8⟩
def tmIn (wi : TI) (g : TG) (tc : TT) (te : TE) : TM := fun σ H ys Q => wi σ H fun J H1 => LcW J g tc (tmElt te) σ ys H1 Q
theorem pem_in {D : Addr} {elt tg iter : Expr} {g0 : Comprehension} {ifs : List Expr} {scope : Scope} {pos : Pos} {ks : List Nat} {wi : TI} {g : TG} {tc : TT} {te : TE} (hc : X.calm = true) (xE : ∀ v s', ¬ X.xe v s') (hi : PI X tg iter wi) (hg : PG X tg g) (ho : Own ks g) (ht : PTs X ifs tc) (he : PE X elt te)
    (hu : ∀ (it : Value), X.A.under (.compLoop (.ListComp elt [g0, ⟨tg, iter, ifs, 0⟩] scope pos) 1 it (.ref D) X.env) = X.A) (hs : ∀ x, foldedSetIterable iter X.env x = pure x := by intro _; rfl) :
    PEm X D (emIn (.ListComp elt [g0, ⟨tg, iter, ifs, 0⟩] scope pos) iter (.ref D) X.env) (fun σ => ∀ i v, σ[i]? = some (some v) → i ∉ ks) (tmIn wi g tc te) := by
  intro pins s σ H ys Q I f ⟨its, k, rv, hD⟩ hsz hz q
  have I' := Acc.pin I f hD
  unfold emIn
  refine wpAny_bind (thn (hi _ s σ H _ I' q) fun v s1 h1 => wpAny_bind (wpAny_standAt (wpAny_bind (wpAny_of_eq (hs v) (wpAny_bind (wpAny_holding (thn h1 fun itv s2 h2 => wpAny_bind (wpAny_runOwn ?_))))))))
  obtain ⟨it, fp, tn, J, H2, e, I2, T, st2, f2, hw⟩ := h2
  subst e
  obtain ⟨p1, p2, _⟩ := I2.pin _ (List.mem_append_right _ (List.mem_append_right _ (List.mem_singleton.mpr rfl)))
  have fD : FpOk X pins H2 D := ⟨p2, f.2⟩
  have f2' : ∀ b ∈ fp, FpOk X pins H2 b := fun b hb => by
    obtain ⟨a0, a1, a2, a3, a4, a5⟩ := f2 b hb
    exact ⟨a0, a1, a2, a3, a4, fun p hp => a5 p (by rw [← List.append_assoc]; exact List.mem_append_left _ hp)⟩
  have Dfp : D ∉ fp := fun z => (f2 D z).2.2.2.2.2 (D, { cls := .type "list", data := .seq its.toArray k }) (List.mem_append_right _ (List.mem_append_right _ (List.mem_singleton.mpr rfl))) rfl
  have loop : codeAny (model X.prog X.w) X.A (.compLoop (.ListComp elt [g0, ⟨tg, iter, ifs, 0⟩] scope pos) 1 (.ref it) (.ref D) X.env) (fun r s' => match r with | .ok f => wpAny (model X.prog X.w) X.A (pure PUnit.unit : Sem PUnit) (fun _ s' => ∃ H' ys', Inv X pins σ H' s' ∧ H' D = none ∧ Acc s'.heap D ys' ∧ Q ys' H') X.xe s' | .error e => cameBackBy (model X.prog X.w) X.A X.env X.xe e s') s2 :=
    lc_loop (F := Q) (ks := ks) (Z := fun _ => True) rfl rfl (turn_last ..) (hu _) hc xE hg ho hz (fun _ _ => trivial) ht (pem_elt he) I2.unpinned T st2 f2' fD ⟨its, k, rv, p1⟩ Dfp hw fun s' H' ys' J' d' a' _ _ q' => wpAny_pure ⟨H', ys', J', d', a', q'⟩
  exact codeAny_compStart_two loop (T.self _ 0 _ _ _ st2 loop)
end
end L2
set_option Elab.async false
set_option linter.all false
set_option maxRecDepth 100000
namespace L2
open PySem PySem.Spec PyProof.Rows
theorem lc_block2 {X : Cx} {N' : List Str} {M : List (Option Nat)} {scope : Scope} {cl : List (Str × Addr)} {tg elt iter tg2 iter2 : Expr} {ifs ifs2 : List Expr} {ks ks2 : List Nat} {wi2 : TI} {g2 : TG} {tc2 : TT} {pos : Pos} {g : TG} {tc : TT} {te : TE} {pins : List (Addr × Obj)} {σ : St} {H2 : Hp} {s2 : Shared}
    {it : Addr} {fp : List Addr} {tn : Nat → Heap → Prop} {J : It} {F : List V → Hp → Prop} {RR : Value → Addr → Result → Shared → Prop} {E : Value → Shared → Prop}
    (S : LcSc X.N N' M scope X.env.scope) (hc : X.calm = true) (q1 : ∀ y c, cl.lookup y = some c → X.env.cells.lookup y = some c) (q2 : ∀ y, (y, NameKind.free) ∈ scope.names → ∃ c, cl.lookup y = some c)
    (hg : ∀ C s H fp, PG (cxLc X N' scope cl C s H fp) tg g) (ho : Own ks g) (ht : ∀ C s H fp, PTs (cxLc X N' scope cl C s H fp) ifs tc) (hks : ∀ i ∈ ks, M[i]? = some none) (hks2 : ∀ i ∈ ks2, M[i]? = some none ∧ i ∉ ks)
    (hi2 : ∀ C s H fp, PI (cxLc X N' scope cl C s H fp) tg2 iter2 wi2) (hg2 : ∀ C s H fp, PG (cxLc X N' scope cl C s H fp) tg2 g2) (ho2 : Own ks2 g2) (ht2 : ∀ C s H fp, PTs (cxLc X N' scope cl C s H fp) ifs2 tc2) (he : ∀ C s H fp, PE (cxLc X N' scope cl C s H fp) elt te) (hs2 : ∀ env x, foldedSetIterable iter2 env x = pure x)
    (I2 : Inv X pins σ H2 s2) (T : Turn X.prog X.w X.K tg J fp it tn) (st2 : tn 0 s2.heap) (f2 : ∀ b ∈ fp, FpOk X pins H2 b)
    (hw : LcW J g tc (tmIn wi2 g2 tc2 te) (inSt M σ) [] H2 F)
    (hend : ∀ (D C : Addr) (s' : Shared) (H' : Hp) (ys : List V), Inv X pins σ (upd H' D (.lst ys)) s' → H' D = none → s2.heap.objs.size ≤ D → s2.heap.objs.size < C → (∃ m, s'.heap.Ns C m) → (upd H' D (.lst ys)) C = none → F ys H' → RR (.ref D) C (.ok .next) s') :
    wpAny (model X.prog X.w) X.A (newList []) (fun acc s₃ => wpAny (model X.prog X.w) X.A (newFunctionEnv scope X.env.globals cl [] X.env.qual none .none (some X.env)) (fun cenv s₄ =>
      codeAny (model X.prog X.w) X.A (.compStart (.ListComp elt [⟨tg, iter, ifs, 0⟩, ⟨tg2, iter2, ifs2, 0⟩] scope pos) 0 (.ref it) acc { cenv with scope := relabel scope X.env }) (RR acc cenv.locals) s₄) E s₃) E s2 := by
  refine wpAny_newObj_type (wpAny_newFunctionEnv S.cell (by intro y hy; simp at hy) (fun h₁ hns₁ hsb₁ => ?_) S.kind)
  dsimp only at hns₁ hsb₁ ⊢
  generalize hG : s2.heap.push { cls := .type "list", dict := none, data := .seq ([] : List Value).toArray } = G at hns₁ hsb₁ ⊢
  generalize hD : s2.heap.objs.size = D at *
  have hC : G.objs.size = D + 1 := by rw [← hG, Heap.size_push, hD]
  generalize hCC : G.objs.size = C at *
  have DC : D < C := by rw [hC]; exact Nat.lt_succ_self _
  have lo : ∀ b o, s2.heap.get? b = some o → b < D := fun b o e => hD ▸ Heap.lt_size e
  have old : ∀ b o, s2.heap.get? b = some o → h₁.get? b = some o := fun b o e => by
    have hb := lo b o e
    exact hsb₁.extBut b o (Nat.ne_of_lt (Nat.lt_trans hb DC)) (Heap.get?_push_of_some _ (hG ▸ Heap.get?_push_of_some _ e))
  have hacc : h₁.get? D = some { cls := .type "list", data := .seq ([] : List Value).toArray } :=
    hsb₁.extBut _ _ (Nat.ne_of_lt DC) (Heap.get?_push_of_some _ (by rw [← hG, ← hD]; exact Heap.get?_push_size _ rfl))
  have fpl : ∀ b ∈ fp, b < D := fun b hb => by
    obtain ⟨o, e, _⟩ := T.obj _ _ st2 b hb
    exact lo b o e
  have cel : ∀ y c, cl.lookup y = some c → c < D := fun y c e => by
    obtain ⟨v, z⟩ := I2.cell y c (q1 y c e)
    exact hD ▸ z.lt
  generalize hX' : cxLc X N' scope cl C s2 H2 fp = X'
  have envE : X'.env = compEnvC scope cl C X.env := by rw [← hX']; rfl
  have locE : X'.env.locals = C := by rw [envE]; rfl
  have fsE : X'.fs = frs X.stack := by rw [← hX']; rfl
  have fsl : ∀ b ∈ frs X.stack, b < D := fun b hb => by
    rcases List.mem_cons.mp (I2.stkSub b hb) with z | z
    · rw [z]; exact hD ▸ I2.lt
    · exact Nat.lt_of_not_le fun q => I2.nofs (hD ▸ q) z
  have relS : ∀ x k, scope.names.lookup x = some k → ∃ k', X'.env.kindOf x = some k' ∧ (k' = k ∨ (k = .free ∧ k' = .cell)) := fun x k e => by
    obtain ⟨k', e', q⟩ := relabel_some (env := X.env) e
    exact ⟨k', by rw [envE]; exact e', q⟩
  have relN : ∀ x, scope.names.lookup x = none → X'.env.kindOf x = none := fun x e => by
    rw [envE]; exact relabel_none (env := X.env) e
  have cellsE : X'.env.cells = cl := by rw [envE]; rfl
  have ok' : X'.Ok := by
    refine ⟨?mod, ?kind, ?glob, ?blt, ?above, ?inj, ?has, ?cab, ?hd, ?frames, ?stk, ?exf, ?bs, ?bsz, ?noex, ?exfs, ?funs, ?frf⟩
    case mod => rw [← hX']; exact I2.ok.mod
    case kind => rw [envE]; exact S.kind
    case glob => rw [envE]; exact I2.ok.glob
    case blt => rw [envE]; exact I2.ok.blt
    case above => rw [locE, ← hX']; show s2.heap.objs.size ≤ C; rw [hD]; exact Nat.le_of_lt DC
    case inj => intro x y c e1 e2; rw [cellsE] at e1 e2; exact I2.ok.inj x y c (q1 x c e1) (q1 y c e2)
    case has =>
      intro x hx
      rw [cellsE]
      cases e : scope.names.lookup x with
      | none => rw [relN x e] at hx; rcases hx with z | z <;> cases z
      | some k =>
        obtain ⟨k', e', q⟩ := relS x k e
        rw [e'] at hx
        have kf : k = .free := by
          rcases q with q | q
          · rcases hx with z | z
            · cases z; exact absurd q.symm (S.cell _ (PySem.mem_of_lookup e))
            · cases z; exact q.symm
          · exact q.1
        subst kf
        exact q2 x (PySem.mem_of_lookup e)
    case cab => intro x c h; rw [← hX'] at h; exact absurd h (by show ¬ (false = true); decide)
    case hd => rw [← hX']; exact I2.ok.hd
    case frames => rw [← hX']; exact I2.ok.frames
    case stk => rw [← hX']; exact .inl rfl
    case exf =>
      intro b hb
      have hb' : b ∈ fp := by rw [← hX'] at hb; exact hb
      refine ⟨by rw [locE]; exact Nat.ne_of_lt (Nat.lt_trans (fpl b hb') DC), fun x c e => ?_⟩
      rw [cellsE] at e
      exact (f2 b hb').2.2.2.2.1 x c (q1 x c e)
    case bs => rw [← hX']; exact I2.bs
    case bsz => rw [← hX']; exact Nat.le_trans I2.ok.bsz I2.sz
    case noex =>
      intro b o e hb
      have hb' : b ∈ fp := by rw [← hX'] at hb; exact hb
      have e' : X.base.get? b = some o := by rw [← hX'] at e; exact e
      rcases (f2 b hb').2.2.2.1 with z | z
      · exact I2.ok.noex b o e' z
      · exact absurd (Nat.lt_of_lt_of_le (Heap.lt_size e') (Nat.le_trans I2.ok.bsz z)) (Nat.lt_irrefl _)
    case exfs =>
      intro b hb
      have hb' : b ∈ fp := by rw [← hX'] at hb; exact hb
      rw [fsE]
      intro z
      rcases List.mem_cons.mp (I2.stkSub b z) with q | q
      · exact (f2 b hb').2.1 q
      · exact (f2 b hb').2.2.1 q
    case funs => rw [← hX']; exact I2.stack
    case frf => rw [fsE, ← hX']; exact I2.stkFree
  have c0 : H2 C = none := I2.hok.fresh (by rw [hD]; exact Nat.le_of_lt DC)
  have d0 : H2 D = none := I2.hok.fresh (by rw [hD]; exact Nat.le_refl _)
  have I3 : Inv X' [] (inSt M σ) H2 { s2 with heap := h₁, toks := s2.toks + ([] : List (Str × Value)).length } := by
    refine ⟨ok', ?os, ?bare, ?base, ?loc, ?cell, ?free, ?freeC, ?pin, ?hok, ?len⟩
    case os => rw [← hX']; rfl
    case bare => exact I2.bare
    case base => rw [fsE, ← hX']; exact Un.kept old
    case loc =>
      refine ⟨_, by rw [locE]; exact hns₁, fun i x v e1 e2 _ => ?_⟩
      obtain ⟨j, eM, eσ⟩ := inSt_get e2
      obtain ⟨y, n1, n2, n3⟩ := S.at_ i j eM
      have e1' : N'[i]? = some x := by rw [← hX'] at e1; exact e1
      rw [n1] at e1'; cases e1'
      have hyf : (x, NameKind.free) ∈ scope.names := PySem.mem_of_lookup n3
      have kd := S.fre _ hyf rfl
      obtain ⟨m, hn, hl⟩ := id I2.loc
      obtain ⟨u, ru, lk⟩ := hl j x v n2 eσ (kd.elim (fun z => .inr (.inl z)) fun z => .inr (.inr z))
      refine ⟨u, ru, ?_⟩
      rcases lk with ⟨k, _⟩ | ⟨k, c, ec, z⟩
      · have k' : X.env.scope.names.lookup x = some NameKind.local := k
        rcases kd with q | q <;> (rw [k'] at q; cases q)
      · obtain ⟨c', ec'⟩ := q2 x hyf
        have hcc := q1 x c' ec'
        rw [ec] at hcc; cases hcc
        obtain ⟨k', e', q⟩ := relS x _ n3
        refine .inr ⟨?_, c, by rw [cellsE]; exact ec', ?_⟩
        · rw [e']; rcases q with q | q
          · right; rw [q]
          · left; rw [q.2]
        · obtain ⟨o, ho, hd'⟩ := z
          exact ⟨o, old _ _ ho, hd'⟩
    case cell =>
      intro x c e
      rw [cellsE] at e
      obtain ⟨v, o, ho, hd'⟩ := I2.cell x c (q1 x c e)
      exact ⟨v, o, old _ _ ho, hd'⟩
    case free => rw [locE]; exact c0
    case freeC => intro x c e; rw [cellsE] at e; exact I2.freeC x c (q1 x c e)
    case pin => intro p hp; rw [← hX'] at hp; exact absurd (show p ∈ ([] : List (Addr × Obj)) from hp) (by simp)
    case hok => rw [← hX']; exact I2.hok.kept old
    case len => rw [inSt_length, ← hX']; exact S.len.symm
  have xE : ∀ (e : Value) (s' : Shared), ¬ X'.xe e s' := fun e s' z => by rw [← hX'] at z; exact z
  have progE : X'.prog = X.prog := by rw [← hX']; rfl
  have wE : X'.w = X.w := by rw [← hX']; rfl
  have KE' : X'.K = X.K := by rw [← hX']; rfl
  have AE : X'.A = X.A := by rw [← hX']; rfl
  have cE : X'.calm = true := by rw [← hX']; exact hc
  have exE : X'.ex = fp := by rw [← hX']; rfl
  have s0E : X'.s₀ = s2 := by rw [← hX']; rfl
  have pnE : X'.pn = [] := by rw [← hX']; rfl
  have hgX : PG X' tg g := by rw [← hX']; exact hg C s2 H2 fp
  have htX : PTs X' ifs tc := by rw [← hX']; exact ht C s2 H2 fp
  have heX : PE X' elt te := by rw [← hX']; exact he C s2 H2 fp
  have Dfp : D ∉ fp := fun z => Nat.lt_irrefl _ (fpl D z)
  have Dcl : ∀ x c, X'.env.cells.lookup x = some c → c ≠ D := fun x c e => by rw [cellsE] at e; exact Nat.ne_of_lt (cel x c e)
  have Dloc : D ≠ X'.env.locals := by rw [locE]; exact Nat.ne_of_lt DC
  have Dfs : D ∉ X'.fs := by rw [fsE]; exact fun z => Nat.lt_irrefl _ (fsl D z)
  have D0 : D ∈ X'.ex ∨ X'.s₀.heap.objs.size ≤ D := .inr (by rw [s0E, hD]; exact Nat.le_refl _)
  have stat : ∀ {pl : List (Addr × Obj)} {H' : Hp}, (∀ p ∈ pl, p.1 = D) → (∀ b ∈ fp, H' b = none) → ∀ b ∈ fp, FpOk X' pl H' b := fun {pl H'} hpl hn b hb => by
    refine ⟨hn b hb, by rw [locE]; exact Nat.ne_of_lt (Nat.lt_trans (fpl b hb) DC), ?_, .inl (by rw [exE]; exact hb), fun x c e => ?_, fun p hp => ?_⟩
    · exact ok'.exfs b (by rw [exE]; exact hb)
    · rw [cellsE] at e; exact (f2 b hb).2.2.2.2.1 x c (q1 x c e)
    · rw [pnE, List.nil_append] at hp
      rw [hpl p hp]; exact (Nat.ne_of_lt (fpl b hb)).symm
  have hiX2 : PI X' tg2 iter2 wi2 := by rw [← hX']; exact hi2 C s2 H2 fp
  have hgX2 : PG X' tg2 g2 := by rw [← hX']; exact hg2 C s2 H2 fp
  have htX2 : PTs X' ifs2 tc2 := by rw [← hX']; exact ht2 C s2 H2 fp
  have loop : codeAny (model X.prog X.w) X.A (.compLoop (.ListComp elt [⟨tg, iter, ifs, 0⟩, ⟨tg2, iter2, ifs2, 0⟩] scope pos) 0 (.ref it) (.ref D) X'.env) (RR (.ref D) C) { s2 with heap := h₁, toks := s2.toks + ([] : List (Str × Value)).length } := by
    have T' : Turn X'.prog X'.w X'.K tg J fp it tn := by rw [progE, wE, KE']; exact T
    have em := pem_in (X := X') (D := D) (elt := elt) (g0 := ⟨tg, iter, ifs, 0⟩) (scope := scope) (pos := pos) (ks := ks2) cE xE hiX2 hgX2 ho2 htX2 heX (fun _ => rfl) (hs2 _)
    have inN : ∀ i, M[i]? = some none → (inSt M σ)[i]? = some none := fun i e => by unfold inSt; rw [List.getElem?_map, e]; rfl
    have base : codeAny (model X'.prog X'.w) X'.A (.compLoop (.ListComp elt [⟨tg, iter, ifs, 0⟩, ⟨tg2, iter2, ifs2, 0⟩] scope pos) 0 (.ref it) (.ref D) X'.env) (RR (.ref D) C) _ := lc_loop (F := F) (ks := ks) rfl rfl ((turn_first0 ..).trans (turnF_eq ..)) rfl cE xE hgX ho
      (fun i v e hk => by rw [inN i (hks i hk)] at e; cases e) (fun σ' hσ i v e hk => by rw [hσ i (hks2 i hk).2, inN i (hks2 i hk).1] at e; cases e) htX em I3 T' (T.keep _ _ _ st2 fun b hb o e => old b o e) (stat (pl := []) (fun p hp => absurd hp (by simp)) fun b hb => (f2 b hb).1)
      ⟨d0, Dloc, Dfs, D0, Dcl, fun p hp => by rw [pnE] at hp; exact absurd hp (by simp)⟩ ⟨[], 0, .nil, hacc⟩ Dfp hw (fun s4 H3 ys J4 dn ⟨its, k, rv, hD4⟩ hsz fr4 qF => by
      obtain ⟨mC, hnC, _⟩ := id J4.loc
      rw [locE] at hnC
      have b4 := J4.base
      rw [fsE, exE, s0E, show X'.H₀ = H2 by rw [← hX']; rfl] at b4
      refine hend D C s4 H3 ys ?_ dn (Nat.le_refl _) DC ⟨mC, hnC⟩ (by rw [upd_ne (Nat.ne_of_gt DC)]; have := J4.free; rw [locE] at this; exact this) qF
      have hok4 := J4.hok
      rw [progE, wE] at hok4
      refine I2.call' (ch := fp) (H' := upd H3 D (.lst ys)) (by rw [J4.os, s0E]) ⟨b4.keep, b4.slot, fun b o e nn hb => ?_, b4.there, fun b xs e => ?_, fun b o u e => ?_, fun b ps e => ?_⟩ ?_ J4.bare fun b hb => ?_
      · rw [upd_ne (Nat.ne_of_lt (lo b o e))]; exact b4.free b o e nn hb
      · rw [upd_ne (ne_of_none (b4.tups b xs e) dn)]; exact b4.tups b xs e
      · rw [upd_ne (ne_of_none (b4.frzs b o u e) dn)]; exact b4.frzs b o u e
      · obtain ⟨more, e'⟩ := b4.tbls b ps e
        exact ⟨more, by rw [upd_ne (ne_of_none e' dn)]; exact e'⟩
      · intro b u e
        by_cases hb : b = D
        · subst hb
          rw [upd_same] at e; cases e
          exact ⟨hsz, its, k, rv, hD4⟩
        · rw [upd_ne hb] at e
          exact (hok4 b u e).stay (fun c v _ q => q) (fun c q => by rw [upd_ne (ne_of_none q dn)]; exact q) fun c xs q => by rw [upd_ne (ne_of_none q dn)]; exact q
      · obtain ⟨f0, f1, f3, f4, f5, f6⟩ := f2 b hb
        exact ⟨f4, f1, f5, f6⟩)
    rw [progE, wE, AE] at base
    exact base
  have loop' : codeAny (model X.prog X.w) X.A (.compLoop (.ListComp elt [⟨tg, iter, ifs, 0⟩, ⟨tg2, iter2, ifs2, 0⟩] scope pos) 0 (.ref it) (.ref D) (compEnvC scope cl C X.env)) (RR (.ref D) C) { s2 with heap := h₁, toks := s2.toks + ([] : List (Str × Value)).length } := envE ▸ loop
  exact codeAny_compStart_list loop' (T.self _ 0 _ _ _ (T.keep _ _ _ st2 fun b hb o e => old b o e) loop')
def tLc2 (wi : TI) (M : List (Option Nat)) (g : TG) (tc : TT) (wi2 : TI) (g2 : TG) (tc2 : TT) (te : TE) (σ : St) (H : Hp) (F : List V → Hp → Prop) : Prop := wi σ H fun J H1 => LcW J g tc (tmIn wi2 g2 tc2 te) (inSt M σ) [] H1 F
section
variable {X : Cx} {N' : List Str} {M : List (Option Nat)} {scope : Scope} {tg elt iter tg2 iter2 : Expr} {ifs ifs2 : List Expr} {ks ks2 : List Nat} {pos : Pos} {g g2 : TG} {tc tc2 : TT} {te : TE} {wi wi2 : TI}
theorem pe_lc2 (S : LcSc X.N N' M scope X.env.scope) (hc : X.calm = true) (hi : PI X tg iter wi) (hg : ∀ cl C s H fp, PG (cxLc X N' scope cl C s H fp) tg g) (ho : Own ks g)
    (ht : ∀ cl C s H fp, PTs (cxLc X N' scope cl C s H fp) ifs tc) (hks : ∀ i ∈ ks, M[i]? = some none) (hks2 : ∀ i ∈ ks2, M[i]? = some none ∧ i ∉ ks) (hi2 : ∀ cl C s H fp, PI (cxLc X N' scope cl C s H fp) tg2 iter2 wi2) (hg2 : ∀ cl C s H fp, PG (cxLc X N' scope cl C s H fp) tg2 g2) (ho2 : Own ks2 g2) (ht2 : ∀ cl C s H fp, PTs (cxLc X N' scope cl C s H fp) ifs2 tc2) (he : ∀ cl C s H fp, PE (cxLc X N' scope cl C s H fp) elt te)
    (hs : ∀ x, foldedSetIterable iter X.env x = pure x := by intro _; rfl) (hs2 : ∀ env x, foldedSetIterable iter2 env x = pure x := by intro _ _; rfl) :
    PE X (.ListComp elt [⟨tg, iter, ifs, 0⟩, ⟨tg2, iter2, ifs2, 0⟩] scope pos) (fun σ H Q => tLc2 wi M g tc wi2 g2 tc2 te σ H fun ys H' => ∀ p, H' p = none → Q (.ref p) (upd H' p (.lst ys))) := by
  intro pins s σ H Q I h
  obtain ⟨cl, hclos, q1, q2⟩ := lc_clos S I
  rw [eval_ListComp]
  refine wpAny_comprehension_free (use := none) rfl hs hclos S.kind S.own (thn (hi pins s σ H _ I h) fun v s1 h1 => thn h1 fun itv s2 h2 => ?_)
  obtain ⟨it, fp, tn, J, H2, e, I2, T, st2, f2, hw⟩ := h2
  subst e
  refine lc_block2 (RR := fun acc C => compPost (model X.prog X.w) X.A X.xe none (EP X pins σ Q) acc C) S hc q1 q2 (hg cl) ho (ht cl) hks hks2 (hi2 cl) (hg2 cl) ho2 (ht2 cl) (he cl) hs2 I2 T st2 f2 hw ?_
  intro D C s' H' ys I' dn hD hC ⟨m, hn⟩ hCn q
  obtain ⟨y1, y2, y3, y4⟩ := I2.young (Nat.le_of_lt hC)
  exact ⟨m, hn, fun h' hs' => ⟨.ref D, _, I'.gone (s' := s') hs' hCn y1 y2 y3 y4, rfl, q D dn⟩⟩
end
end L2
set_option Elab.async false
set_option linter.all false
set_option maxRecDepth 100000
namespace L2
open PySem PySem.W PyProof.Rows
def kRun {α : Type} (lt : Nat → Nat → Bool) : KasT α → α
  | .ret a => a
  | .ask i j k => kRun lt (k (lt i j))
theorem kRun_bind {α β : Type} (lt : Nat → Nat → Bool) (f : α → KasT β) : ∀ t : KasT α, kRun lt (t.bind f) = kRun lt (f (kRun lt t))
  | .ret a => rfl
  | .ask i j k => kRun_bind lt f (k (lt i j))
section
variable {r : Nat → Int}
def ltR (r : Nat → Int) (i j : Nat) : Bool := decide (r i < r j)
def ky (r : Nat → Int) (p : Array Nat) (k : Nat) : Int := r (p.getD k 0)
def UpTo (r : Nat → Int) (p : Array Nat) (k : Nat) : Prop := ∀ i j, i ≤ j → j < k → ky r p i ≤ ky r p j
def DnTo (r : Nat → Int) (p : Array Nat) (k : Nat) : Prop := ∀ i j, i ≤ j → j < k → ky r p j ≤ ky r p i
theorem gd {p : Array Nat} {k : Nat} : p.getD k 0 = (p[k]?).getD 0 := by rw [Array.getD_eq_getD_getElem?]
theorem ky_of {p q : Array Nat} {k j : Nat} (h : q[k]? = p[j]?) : ky r q k = ky r p j := by unfold ky; rw [gd, gd, h]
theorem ky_mirror {p : Array Nat} {i j : Nat} (hj : j ≤ p.size) (k : Nat) : ky r (kas_rev p i j) k = if i ≤ k ∧ k < j then ky r p (i + j - 1 - k) else ky r p k := by
  have e : (kas_rev p i j)[k]? = _ := getElem?_mirror_all (i := i) hj k
  by_cases h1 : i ≤ k ∧ k < j
  · rw [if_pos h1] at e ⊢; exact ky_of e
  · rw [if_neg h1] at e ⊢; exact ky_of e
theorem ky_bubble {p : Array Nat} {src d : Nat} (hs : src < p.size) (hd : d ≤ src) (k : Nat) : ky r (bubble p src d) k = if k = src - d then ky r p src else if src - d < k ∧ k ≤ src then ky r p (k - 1) else ky r p k := by
  have e := getElem?_bubble hs d hd k
  by_cases h1 : k = src - d
  · rw [if_pos h1] at e ⊢; exact ky_of e
  · rw [if_neg h1] at e ⊢
    by_cases h2 : src - d < k ∧ k ≤ src
    · rw [if_pos h2] at e ⊢; exact ky_of e
    · rw [if_neg h2] at e ⊢; exact ky_of e
theorem rev_size {p : Array Nat} {i j : Nat} : (kas_rev p i j).size = p.size := mirror_size _ _ _ _
theorem asc_spec {p : Array Nat} : ∀ (f n : Nat), 1 ≤ n → UpTo r p n → n ≤ kRun (ltR r) (kas_asc p f n) ∧ kRun (ltR r) (kas_asc p f n) ≤ n + f ∧ UpTo r p (kRun (ltR r) (kas_asc p f n)) ∧ (kRun (ltR r) (kas_asc p f n) = n + f ∨ ky r p (kRun (ltR r) (kas_asc p f n)) < ky r p (kRun (ltR r) (kas_asc p f n) - 1))
  | 0, n, h1, hu => ⟨Nat.le_refl _, Nat.le_refl _, hu, .inl rfl⟩
  | f + 1, n, h1, hu => by
    have e : kRun (ltR r) (kas_asc p (f + 1) n) = kRun (ltR r) (if ltR r (p.getD n 0) (p.getD (n - 1) 0) = true then .ret n else kas_asc p f (n + 1)) := rfl
    rw [e]
    by_cases c : ltR r (p.getD n 0) (p.getD (n - 1) 0) = true
    · rw [if_pos c]
      exact ⟨Nat.le_refl _, by show n ≤ n + (f + 1); omega, hu, .inr (of_decide_eq_true c)⟩
    · rw [if_neg c]
      have c' : ky r p (n - 1) ≤ ky r p n := Int.not_lt.mp fun z => c (decide_eq_true z)
      have hu' : UpTo r p (n + 1) := fun i j hij hj => by
        by_cases e : j = n
        · subst e
          by_cases e2 : i = j
          · subst e2; exact Int.le_refl _
          · exact Int.le_trans (hu i (j - 1) (by omega) (by omega)) c'
        · exact hu i j hij (by omega)
      obtain ⟨a, b, c1, d⟩ := asc_spec f (n + 1) (by omega) hu'
      refine ⟨by omega, by omega, c1, ?_⟩
      rcases d with d | d
      · exact .inl (by omega)
      · exact .inr d
theorem ky_rev_eq {p : Array Nat} {i j : Nat} (hj : j ≤ p.size) (he : ∀ k, i ≤ k → k < j → ky r p k = ky r p (j - 1)) (k : Nat) : ky r (kas_rev p i j) k = ky r p k := by
  rw [ky_mirror hj]
  split
  · rw [he _ (by omega) (by omega), he k (by omega) (by omega)]
  · rfl
theorem DnTo.congr {p q : Array Nat} {n : Nat} (h : DnTo r p n) (e : ∀ k, ky r q k = ky r p k) : DnTo r q n := fun i j a b => by rw [e, e]; exact h i j a b
theorem desc_spec : ∀ (f : Nat) (p : Array Nat) (n q : Nat), 1 ≤ n → n + f ≤ p.size → q + 1 ≤ n → DnTo r p n → (∀ k, n - (q + 1) ≤ k → k < n → ky r p k = ky r p (n - 1)) →
    let o := kRun (ltR r) (kas_desc f p n q)
    o.1.Perm p ∧ n ≤ o.2.1 ∧ o.2.1 ≤ n + f ∧ DnTo r o.1 o.2.1 ∧ o.2.2 + 1 ≤ o.2.1 ∧ (∀ k, o.2.1 - (o.2.2 + 1) ≤ k → k < o.2.1 → ky r o.1 k = ky r o.1 (o.2.1 - 1))
  | 0, p, n, q, h1, hn, hq, hd, he => ⟨Array.Perm.refl _, Nat.le_refl _, Nat.le_refl _, hd, hq, he⟩
  | f + 1, p, n, q, h1, hn, hq, hd, he => by
    have e : kRun (ltR r) (kas_desc (f + 1) p n q) = kRun (ltR r) (if ltR r (p.getD n 0) (p.getD (n - 1) 0) = true then (if q > 0 then kas_desc f (kas_rev p (n - (q + 1)) n) (n + 1) 0 else kas_desc f p (n + 1) 0)
      else .ask (p.getD (n - 1) 0) (p.getD n 0) fun d => if d = true then .ret (p, n, q) else kas_desc f p (n + 1) (q + 1)) := rfl
    intro o
    have eo : o = kRun (ltR r) (kas_desc (f + 1) p n q) := rfl
    rw [e] at eo
    by_cases c : ltR r (p.getD n 0) (p.getD (n - 1) 0) = true
    · rw [if_pos c] at eo
      have c' : ky r p n < ky r p (n - 1) := of_decide_eq_true c
      have dn : DnTo r p (n + 1) := fun i j hij hj => by
        by_cases e : j = n
        · subst e
          by_cases e2 : i = j
          · subst e2; exact Int.le_refl _
          · exact Int.le_trans (Int.le_of_lt c') (hd i (j - 1) (by omega) (by omega))
        · exact hd i j hij (by omega)
      by_cases hq0 : q > 0
      · rw [if_pos hq0] at eo
        have ek := ky_rev_eq (r := r) (p := p) (i := n - (q + 1)) (j := n) (by omega) he
        have := desc_spec f (kas_rev p (n - (q + 1)) n) (n + 1) 0 (by omega) (by rw [rev_size]; omega) (by omega) (dn.congr ek) (fun k a b => by rw [show k = n + 1 - 1 by omega])
        rw [eo]
        obtain ⟨a1, a2, a3, a4, a5, a6⟩ := this
        exact ⟨a1.trans (mirror_perm _ _ _ _), by omega, by omega, a4, a5, a6⟩
      · rw [if_neg hq0] at eo
        have := desc_spec f p (n + 1) 0 (by omega) (by omega) (by omega) dn (fun k a b => by rw [show k = n + 1 - 1 by omega])
        rw [eo]
        obtain ⟨a1, a2, a3, a4, a5, a6⟩ := this
        exact ⟨a1, by omega, by omega, a4, a5, a6⟩
    · rw [if_neg c] at eo
      have c' : ky r p (n - 1) ≤ ky r p n := Int.not_lt.mp fun z => c (decide_eq_true z)
      have e2 : kRun (ltR r) (.ask (p.getD (n - 1) 0) (p.getD n 0) fun d => if d = true then .ret (p, n, q) else kas_desc f p (n + 1) (q + 1)) = kRun (ltR r) (if ltR r (p.getD (n - 1) 0) (p.getD n 0) = true then .ret (p, n, q) else kas_desc f p (n + 1) (q + 1)) := rfl
      rw [e2] at eo
      by_cases d : ltR r (p.getD (n - 1) 0) (p.getD n 0) = true
      · rw [if_pos d] at eo
        rw [eo]
        exact ⟨Array.Perm.refl _, Nat.le_refl _, by show n ≤ n + (f + 1); omega, hd, hq, he⟩
      · rw [if_neg d] at eo
        have d' : ky r p n ≤ ky r p (n - 1) := Int.not_lt.mp fun z => d (decide_eq_true z)
        have ee : ky r p n = ky r p (n - 1) := Int.le_antisymm d' c'
        have dn : DnTo r p (n + 1) := fun i j hij hj => by
          by_cases e : j = n
          · subst e
            by_cases e2 : i = j
            · subst e2; exact Int.le_refl _
            · rw [ee]; exact hd i (j - 1) (by omega) (by omega)
          · exact hd i j hij (by omega)
        have := desc_spec f p (n + 1) (q + 1) (by omega) (by omega) (by omega) dn (fun k a b => by
          show ky r p k = ky r p n
          by_cases e : k = n
          · rw [e]
          · rw [he k (by omega) (by omega), ee])
        rw [eo]
        obtain ⟨a1, a2, a3, a4, a5, a6⟩ := this
        exact ⟨a1, by omega, by omega, a4, a5, a6⟩
theorem tail3_spec {p : Array Nat} {n nrem : Nat} (h1 : 1 ≤ n) (hn : n ≤ nrem) (hz : nrem ≤ p.size) (hd : DnTo r p n) :
    let o := kRun (ltR r) (kas_tail3 n nrem p)
    o.2.Perm p ∧ 1 ≤ o.1 ∧ o.1 ≤ nrem ∧ UpTo r o.2 o.1 := by
  intro o
  have eo : o = (kRun (ltR r) (kas_asc (kas_rev p 0 n) (nrem - n) n), kas_rev p 0 n) := by
    show kRun (ltR r) (kas_tail3 n nrem p) = _
    unfold kas_tail3
    rw [kRun_bind]; rfl
  have up : UpTo r (kas_rev p 0 n) n := fun i j hij hj => by
    rw [ky_mirror (by omega), ky_mirror (by omega), if_pos ⟨Nat.zero_le _, by omega⟩, if_pos ⟨Nat.zero_le _, hj⟩]
    exact hd _ _ (by omega) (by omega)
  obtain ⟨a, b, c, _⟩ := asc_spec (nrem - n) n h1 up
  rw [eo]
  exact ⟨mirror_perm _ _ _ _, by show 1 ≤ kRun _ _; omega, by show kRun _ _ ≤ nrem; omega, c⟩
theorem descPart_spec {p : Array Nat} {n nrem : Nat} (hn : n + 1 ≤ nrem) (hz : nrem ≤ p.size) (hd : DnTo r p (n + 1)) :
    let o := kRun (ltR r) (kas_descPart n nrem p)
    o.2.Perm p ∧ 1 ≤ o.1 ∧ o.1 ≤ nrem ∧ UpTo r o.2 o.1 := by
  intro o
  obtain ⟨a1, a2, a3, a4, a5, a6⟩ := desc_spec (r := r) (nrem - (n + 1)) p (n + 1) 0 (by omega) (by omega) (by omega) hd (fun k a b => by rw [show k = n + 1 - 1 by omega])
  have eo : o = kRun (ltR r) (let rr := kRun (ltR r) (kas_desc (nrem - (n + 1)) p (n + 1) 0); if rr.2.2 > 0 then kas_tail3 rr.2.1 nrem (kas_rev rr.1 (rr.2.1 - (rr.2.2 + 1)) rr.2.1) else kas_tail3 rr.2.1 nrem rr.1) := by
    show kRun (ltR r) (kas_descPart n nrem p) = _
    unfold kas_descPart
    rw [kRun_bind]
  dsimp only at eo
  generalize kRun (ltR r) (kas_desc (nrem - (n + 1)) p (n + 1) 0) = rr at eo a1 a2 a3 a4 a5 a6
  have hsz : rr.1.size = p.size := a1.size_eq
  by_cases hq : rr.2.2 > 0
  · rw [if_pos hq] at eo
    have ek := ky_rev_eq (r := r) (p := rr.1) (i := rr.2.1 - (rr.2.2 + 1)) (j := rr.2.1) (by omega) a6
    have := tail3_spec (r := r) (p := kas_rev rr.1 (rr.2.1 - (rr.2.2 + 1)) rr.2.1) (n := rr.2.1) (nrem := nrem) (by omega) (by omega) (by rw [rev_size]; omega) (a4.congr ek)
    rw [eo]
    exact ⟨(this.1.trans (mirror_perm _ _ _ _)).trans a1, this.2⟩
  · rw [if_neg hq] at eo
    have := tail3_spec (r := r) (p := rr.1) (n := rr.2.1) (nrem := nrem) (by omega) (by omega) (by omega) a4
    rw [eo]
    exact ⟨this.1.trans a1, this.2⟩
theorem count_spec {p : Array Nat} {nrem : Nat} (h1 : 1 ≤ nrem) (hz : nrem ≤ p.size) :
    let o := kRun (ltR r) (kas_count nrem p)
    o.2.Perm p ∧ 1 ≤ o.1 ∧ o.1 ≤ nrem ∧ UpTo r o.2 o.1 := by
  intro o
  have u1 : UpTo r p 1 := fun i j hij hj => by
    have : i = j := by omega
    rw [this]; exact Int.le_refl _
  obtain ⟨b1, b2, b3, b4⟩ := asc_spec (r := r) (p := p) (nrem - 1) 1 (Nat.le_refl _) u1
  have eo : o = kRun (ltR r) (let n := kRun (ltR r) (kas_asc p (nrem - 1) 1); if (n == nrem) = true then .ret (n, p) else if n > 1 then .ask (p.getD 0 0) (p.getD (n - 1) 0) fun c => if c = true then .ret (n, p) else kas_descPart n nrem (kas_rev p 0 n)
    else kas_descPart n nrem p) := by
    show kRun (ltR r) (kas_count nrem p) = _
    unfold kas_count
    rw [kRun_bind]
  dsimp only at eo
  generalize kRun (ltR r) (kas_asc p (nrem - 1) 1) = n at eo b1 b2 b3 b4
  by_cases e : (n == nrem) = true
  · rw [if_pos e] at eo
    rw [eo]
    exact ⟨Array.Perm.refl _, b1, by show n ≤ nrem; omega, b3⟩
  · rw [if_neg e] at eo
    have hne : n ≠ nrem := by simpa using e
    have hlt : ky r p n < ky r p (n - 1) := b4.resolve_left (by omega)
    have step : ∀ q : Array Nat, (∀ k, ky r q k = ky r p k) → (∀ k, k < n → ky r p k = ky r p (n - 1)) → DnTo r q (n + 1) := fun q hq he i j hij hj => by
      rw [hq, hq]
      by_cases e : j = n
      · subst e
        by_cases e2 : i = j
        · subst e2; exact Int.le_refl _
        · rw [he i (by omega)]; exact Int.le_of_lt hlt
      · rw [he i (by omega), he j (by omega)]; exact Int.le_refl _
    by_cases h2 : n > 1
    · rw [if_pos h2] at eo
      have e2 : kRun (ltR r) (.ask (p.getD 0 0) (p.getD (n - 1) 0) fun c => if c = true then .ret (n, p) else kas_descPart n nrem (kas_rev p 0 n)) = kRun (ltR r) (if ltR r (p.getD 0 0) (p.getD (n - 1) 0) = true then .ret (n, p) else kas_descPart n nrem (kas_rev p 0 n)) := rfl
      rw [e2] at eo
      by_cases c : ltR r (p.getD 0 0) (p.getD (n - 1) 0) = true
      · rw [if_pos c] at eo
        rw [eo]
        exact ⟨Array.Perm.refl _, b1, by show n ≤ nrem; omega, b3⟩
      · rw [if_neg c] at eo
        have c' : ky r p (n - 1) ≤ ky r p 0 := Int.not_lt.mp fun z => c (decide_eq_true z)
        have he : ∀ k, k < n → ky r p k = ky r p (n - 1) := fun k hk => Int.le_antisymm (b3 k (n - 1) (by omega) (by omega)) (Int.le_trans c' (b3 0 k (Nat.zero_le _) hk))
        have ek := ky_rev_eq (r := r) (p := p) (i := 0) (j := n) (by omega) (fun k _ hk => he k hk)
        have := descPart_spec (r := r) (p := kas_rev p 0 n) (n := n) (nrem := nrem) (by omega) (by rw [rev_size]; exact hz) (step _ ek he)
        rw [eo]
        exact ⟨this.1.trans (mirror_perm _ _ _ _), this.2⟩
    · rw [if_neg h2] at eo
      have := descPart_spec (r := r) (p := p) (n := n) (nrem := nrem) (by omega) hz (step p (fun _ => rfl) fun k hk => by rw [show k = n - 1 by omega])
      rw [eo]
      exact this
theorem place_spec {p : Array Nat} {k : Nat} (hu : UpTo r p k) : ∀ (f l rr : Nat), l ≤ rr → rr ≤ k → rr - l ≤ f → (∀ i, i < l → ky r p i ≤ ky r p k) → (∀ i, rr ≤ i → i < k → ky r p k < ky r p i) →
    let o := kRun (ltR r) (kas_place p k f l rr)
    o ≤ k ∧ (∀ i, i < o → ky r p i ≤ ky r p k) ∧ (∀ i, o ≤ i → i < k → ky r p k < ky r p i)
  | 0, l, rr, hl, hr, hf, h1, h2 => ⟨by show l ≤ k; omega, h1, fun i a b => h2 i (by have : l ≤ i := a; omega) b⟩
  | f + 1, l, rr, hl, hr, hf, h1, h2 => by
    intro o
    have eo : o = kRun (ltR r) (if l ≥ rr then .ret l else .ask (p.getD k 0) (p.getD ((l + rr) / 2) 0) fun c => if c = true then kas_place p k f l ((l + rr) / 2) else kas_place p k f ((l + rr) / 2 + 1) rr) := rfl
    by_cases e : l ≥ rr
    · rw [if_pos e] at eo
      have eo : o = l := eo
      rw [eo]
      exact ⟨by omega, h1, fun i a b => h2 i (by omega) b⟩
    · rw [if_neg e] at eo
      have e2 : o = kRun (ltR r) (if ltR r (p.getD k 0) (p.getD ((l + rr) / 2) 0) = true then kas_place p k f l ((l + rr) / 2) else kas_place p k f ((l + rr) / 2 + 1) rr) := eo
      by_cases c : ltR r (p.getD k 0) (p.getD ((l + rr) / 2) 0) = true
      · rw [if_pos c] at e2
        have c' : ky r p k < ky r p ((l + rr) / 2) := of_decide_eq_true c
        rw [e2]
        refine place_spec hu f l ((l + rr) / 2) (by omega) (by omega) (by omega) h1 fun i a b => ?_
        exact Int.lt_of_lt_of_le c' (hu _ _ a b)
      · rw [if_neg c] at e2
        have c' : ky r p ((l + rr) / 2) ≤ ky r p k := Int.not_lt.mp fun z => c (decide_eq_true z)
        rw [e2]
        refine place_spec hu f ((l + rr) / 2 + 1) rr (by omega) (by omega) (by omega) (fun i a => ?_) h2
        exact Int.le_trans (hu _ _ (by omega) (by omega)) c'
theorem bin_spec : ∀ (f : Nat) (p : Array Nat) (k : Nat), k + f ≤ p.size → UpTo r p k →
    let o := kRun (ltR r) (kas_bin f p k)
    o.Perm p ∧ UpTo r o (k + f)
  | 0, p, k, hz, hu => ⟨Array.Perm.refl _, hu⟩
  | f + 1, p, k, hz, hu => by
    intro o
    have eo : o = kRun (ltR r) (kas_bin f (bubble p k (k - kRun (ltR r) (kas_place p k k 0 k))) (k + 1)) := by
      show kRun (ltR r) ((kas_place p k k 0 k).bind fun l => kas_bin f (bubble p k (k - l)) (k + 1)) = _
      rw [kRun_bind]
    obtain ⟨l0, l1, l2⟩ := place_spec (r := r) (p := p) (k := k) hu k 0 k (Nat.zero_le _) (Nat.le_refl _) (by omega) (fun i a => absurd a (by omega)) (fun i a b => absurd a (by omega))
    generalize kRun (ltR r) (kas_place p k k 0 k) = l at eo l0 l1 l2
    have kb := ky_bubble (r := r) (p := p) (src := k) (d := k - l) (by omega) (by omega)
    rw [show k - (k - l) = l by omega] at kb
    have up : UpTo r (bubble p k (k - l)) (k + 1) := fun i j hij hj => by
      rw [kb, kb]
      by_cases ei : i = l
      · rw [if_pos ei]
        by_cases ej : j = l
        · rw [if_pos ej]; exact Int.le_refl _
        · rw [if_neg ej, if_pos ⟨by omega, by omega⟩]
          exact Int.le_of_lt (l2 _ (by omega) (by omega))
      · rw [if_neg ei]
        by_cases hi : l < i ∧ i ≤ k
        · rw [if_pos hi, if_neg (by omega), if_pos ⟨by omega, by omega⟩]
          exact hu _ _ (by omega) (by omega)
        · rw [if_neg hi]
          have hil : i < l := by omega
          by_cases ej : j = l
          · rw [if_pos ej]; exact l1 i hil
          · rw [if_neg ej]
            by_cases hj2 : l < j ∧ j ≤ k
            · rw [if_pos hj2]; exact hu _ _ (by omega) (by omega)
            · rw [if_neg hj2]; exact hu _ _ hij (by omega)
    obtain ⟨q1, q2⟩ := bin_spec f (bubble p k (k - l)) (k + 1) (by rw [bubble_size]; omega) up
    rw [eo]
    exact ⟨q1.trans (bubble_perm _ _ _), by rw [show k + (f + 1) = k + 1 + f by omega]; exact q2⟩
theorem sort_spec {n : Nat} (h1 : 1 ≤ n) :
    let o := kRun (ltR r) (kas_sort n)
    o.Perm (List.toArray (List.range n)) ∧ UpTo r o n := by
  intro o
  obtain ⟨a1, a2, a3, a4⟩ := count_spec (r := r) (p := List.toArray (List.range n)) (nrem := n) h1 (by simp)
  have eo : o = kRun (ltR r) (let rr := kRun (ltR r) (kas_count n (List.toArray (List.range n))); if rr.1 < n then kas_bin (n - max rr.1 1) rr.2 (max rr.1 1) else .ret rr.2) := by
    show kRun (ltR r) (kas_sort n) = _
    unfold kas_sort
    rw [kRun_bind]
  dsimp only at eo
  generalize kRun (ltR r) (kas_count n (List.toArray (List.range n))) = rr at eo a1 a2 a3 a4
  have hsz : rr.2.size = n := by rw [a1.size_eq]; simp
  by_cases h : rr.1 < n
  · rw [if_pos h] at eo
    have em : max rr.1 1 = rr.1 := by omega
    rw [em] at eo
    have := bin_spec (r := r) (n - rr.1) rr.2 rr.1 (by omega) a4
    rw [eo]
    exact ⟨this.1.trans a1, by have := this.2; rw [show rr.1 + (n - rr.1) = n by omega] at this; exact this⟩
  · rw [if_neg h] at eo
    rw [eo]
    exact ⟨a1, by have : rr.1 = n := by omega
                  rw [this] at a4; exact a4⟩
end
end L2
set_option Elab.async false
set_option linter.all false
set_option maxRecDepth 100000
namespace L2
open PySem PySem.Spec PyProof.Rows
end L2
set_option Elab.async false
set_option linter.all false
namespace L2
open PySem
def pairsN (n : Nat) : List (Nat × Nat) := (List.range n).flatMap fun k => (List.range k).map fun j => (j, k)
theorem pairsN_succ (n : Nat) : pairsN (n + 1) = pairsN n ++ (List.range n).map fun j => (j, n) := by
  unfold pairsN; rw [List.range_succ, List.flatMap_append]; simp
theorem mem_pairsN {n : Nat} {q : Nat × Nat} : q ∈ pairsN n ↔ q.1 < q.2 ∧ q.2 < n := by
  unfold pairsN
  simp only [List.mem_flatMap, List.mem_range, List.mem_map]
  constructor
  · rintro ⟨k, hk, j, hj, rfl⟩; exact ⟨hj, hk⟩
  · rintro ⟨h1, h2⟩; exact ⟨q.2, h2, q.1, h1, rfl⟩
theorem pairsN_ok {n : Nat} (q : Nat × Nat) (h : q ∈ pairsN n) : q.1 < n ∧ q.2 < n := by
  have := mem_pairsN.mp h; omega
theorem pairsN_le : ∀ n : Nat, (pairsN n).length ≤ n * n
  | 0 => by simp [pairsN]
  | n + 1 => by
    have := pairsN_le n
    rw [pairsN_succ, List.length_append, List.length_map, List.length_range]
    have e : (n + 1) * (n + 1) = n * n + 2 * n + 1 := by rw [Nat.add_mul, Nat.mul_add]; omega
    omega
end L2
set_option Elab.async false
set_option linter.all false
namespace L2
open PySem
end L2
namespace L2
open PySem
end L2
set_option Elab.async false
set_option linter.all false
namespace L2
open PySem
def hdL (ws : List Int) (k : Nat) : Int := (((lotN ws (k : Int) ws.length).headD 0 : Nat) : Int)
def tlL (ws : List Int) (k : Nat) : Int := (((lotN ws (k : Int) ws.length).getLastD 0 : Nat) : Int)
theorem hdL_ok {ws : List Int} (hw : isWay ws = true) {k : Nat} (hk : k < (fresh 0 ws).toNat) : 0 ≤ hdL ws k ∧ hdL ws k < ws.length ∧ ws.getD (hdL ws k).toNat 0 = (k : Int) := by
  have hne := lotN_ne hw hk
  unfold hdL
  cases e : lotN ws (k : Int) ws.length with
  | nil => exact absurd e hne
  | cons h t =>
    have := mem_lotN.mp (show h ∈ lotN ws (k : Int) ws.length by rw [e]; exact List.mem_cons_self)
    exact ⟨by show (0 : Int) ≤ (h : Int); omega, by show (h : Int) < _; omega, by show ws.getD ((h : Int)).toNat 0 = _; rw [Int.toNat_natCast]; exact this.2⟩
theorem gl {l : List Nat} (h : l ≠ []) : l.getLastD 0 = l.getLast h := by
  cases l with
  | nil => exact absurd rfl h
  | cons a t => rfl
def lieS (a0 a1 b0 b1 : Int) : Str := if a0 = b0 ∧ a1 = b1 then "same" else if a1 < b0 ∨ b1 < a0 then "apart" else if b0 < a0 ∧ a1 < b1 then "inside" else if a0 < b0 ∧ b1 < a1 then "around" else "crossing"
end L2
set_option Elab.async false
set_option linter.all false
set_option maxRecDepth 100000
namespace L2
open PySem PySem.Spec PyProof.Rows
section
variable {X : Cx} {K : PySem.W.Frag}
end
end L2
set_option Elab.async false
set_option linter.all false
namespace L2
open PySem
end L2
namespace L2
theorem ixN_pos {n : Nat} {i : Int} (h0 : 0 ≤ i) (h1 : i < n) : ixN n i = some i.toNat := by unfold ixN; rw [if_pos h0, if_pos h1]
end L2
set_option Elab.async false
set_option linter.all false
set_option maxRecDepth 100000
namespace L2
open PySem PySem.Spec PyProof.Rows
section
variable {X : Cx} {K : PySem.W.Frag}
abbrev TsAt (K : PySem.W.Frag) (H : Hp) (ps : List Addr) (xss : List (List Int)) : Prop := Paired (fun a (xs : List Int) => SqT K H a (xs.map V.int)) ps xss
theorem ts_get {H : Hp} : ∀ {l1 : List Addr} {l2 : List (List Int)} {j : Nat} {a : Addr}, TsAt K H l1 l2 → l1[j]? = some a → ∃ b, SqT K H a (b.map V.int) ∧ l2[j]? = some b := by
  intro l1 l2 j a h e
  induction h generalizing j with
  | nil => simp at e
  | cons r t ih =>
    cases j with
    | zero => simp at e; subst e; exact ⟨_, r, rfl⟩
    | succ j => obtain ⟨b, q, e2⟩ := ih (by simpa using e); exact ⟨b, q, by simpa using e2⟩
end
end L2
set_option Elab.async false
set_option linter.all false
set_option maxRecDepth 100000
namespace L2
open PySem
end L2
set_option Elab.async false
set_option linter.all false
set_option maxRecDepth 100000
namespace L2
open PySem PySem.Spec PyProof.Rows
section
variable {X : Cx} {K : PySem.W.Frag}
end
end L2
set_option Elab.async false
set_option linter.all false
set_option maxRecDepth 100000
namespace L2
open PySem
end L2
set_option Elab.async false
set_option linter.all false
set_option maxRecDepth 100000
namespace L2
open PySem PySem.Spec PyProof.Rows
section
variable {X : Cx}
def PlT (H : Hp) (a : Addr) (xs : List V) : Prop := ∃ ob : Obj, ob.dict = none ∧ H a = some (.frz ob (.tup xs))
theorem PlT.sq {K : PySem.W.Frag} {H : Hp} {a : Addr} {xs : List V} (h : PlT H a xs) : SqT K H a xs := by
  obtain ⟨ob, _, h⟩ := h
  exact .inl (.inr ⟨ob, h⟩)
theorem PlT.same {H H' : Hp} {a : Addr} {xs : List V} (h : PlT H a xs) (s : Same H H') : PlT H' a xs := by
  obtain ⟨ob, h1, h⟩ := h
  exact ⟨ob, h1, s a _ h⟩
end
abbrev TuAt (H : Hp) (ps : List Addr) (xss : List (List Int)) : Prop := Paired (fun a (xs : List Int) => H a = some (.tup (xs.map V.int))) ps xss
theorem tu_same {H H' : Hp} {ps : List Addr} {xss : List (List Int)} (s : Same H H') (h : TuAt H ps xss) : TuAt H' ps xss := L2.Paired.mapP h fun _ _ z => s _ _ z
theorem tu_put {H : Hp} {ps : List Addr} {xss : List (List Int)} {p : Addr} {l : List V} {o : HO} (hp : H p = some (.lst l)) (h : TuAt H ps xss) : TuAt (upd H p o) ps xss := L2.Paired.mapP h fun a _ z => by
  rw [upd_ne (show a ≠ p from fun e => by rw [e, hp] at z; cases z)]; exact z
theorem tu_get {H : Hp} : ∀ {l1 : List Addr} {l2 : List (List Int)} {j : Nat} {a : Addr}, TuAt H l1 l2 → l1[j]? = some a → ∃ b, H a = some (.tup (b.map V.int)) ∧ l2[j]? = some b := by
  intro l1 l2 j a h e
  induction h generalizing j with
  | nil => simp at e
  | cons r t ih =>
    cases j with
    | zero => simp at e; subst e; exact ⟨_, r, rfl⟩
    | succ j => obtain ⟨b, q, e2⟩ := ih (by simpa using e); exact ⟨b, q, by simpa using e2⟩
end L2
set_option Elab.async false
set_option linter.all false
set_option maxRecDepth 100000
namespace L2
open PySem
def suitsB (ar cr : Nat → Nat → Bool) (C : List Int) (h : Int) : Bool :=
  (List.range C.length).all fun k => !(ar k C.length && decide (C.getD k 0 ≤ h)) && !(cr k C.length && decide (C.getD k 0 = h))
def comp (ar cr : Nat → Nat → Bool) (n g : Nat) : Nat → List Int → Option (List Int)
  | 0, _ => none
  | d + 1, C => if C.length = n then some C else
      (List.range g).findSome? fun (h : Nat) => if suitsB ar cr C ((h : Int) + 1) then comp ar cr n g d (C ++ [(h : Int) + 1]) else none
variable {ar cr : Nat → Nat → Bool} {n g : Nat}
def IsH (ar cr : Nat → Nat → Bool) (n : Nat) (F : List Int) : Prop := ∃ g, 1 ≤ g ∧ comp ar cr n g (n + 1) [] = some F ∧ ∀ g', 1 ≤ g' → g' < g → comp ar cr n g' (n + 1) [] = none
theorem IsH.uniq {F G : List Int} (a : IsH ar cr n F) (b : IsH ar cr n G) : F = G := by
  obtain ⟨g, g1, e1, l1⟩ := a
  obtain ⟨h, h1, e2, l2⟩ := b
  rcases Nat.lt_trichotomy g h with z | z | z
  · rw [l2 g g1 z] at e1; cases e1
  · subst z; rw [e1] at e2; exact Option.some.inj e2
  · rw [l1 h h1 z] at e2; cases e2
theorem hd_min {ws : List Int} {k : Int} {j : Nat} (hj : j < ws.length) (e : ws.getD j 0 = k) : (lotN ws k ws.length).headD 0 ≤ j := by
  have hm : j ∈ lotN ws k ws.length := mem_lotN.mpr ⟨hj, e⟩
  have hp : (lotN ws k ws.length).Pairwise (· < ·) := List.pairwise_lt_range.filter _
  cases e : lotN ws k ws.length with
  | nil => rw [e] at hm; simp at hm
  | cons h t =>
    rw [e] at hm hp
    rcases List.mem_cons.mp hm with z | z
    · rw [z]; exact Nat.le_refl _
    · exact Nat.le_of_lt ((List.pairwise_cons.mp hp).1 j z)
theorem hd_mono {ws : List Int} (hw : isWay ws = true) {k m : Nat} (hkm : k < m) (hm : m < (fresh 0 ws).toNat) : hdL ws k < hdL ws m := by
  obtain ⟨h0, h1, h2⟩ := hdL_ok hw hm
  obtain ⟨_, _, w0⟩ := isWay_iff.mp hw
  generalize hi : (hdL ws m).toNat = i at h2
  have hil : i < ws.length := by omega
  have e : ws = ws.take i ++ ws.drop i := (List.take_append_drop i ws).symm
  rw [e, way_app, Bool.and_eq_true] at w0
  rw [List.drop_eq_getElem_cons hil] at w0
  have hg : ws[i] = (m : Int) := by rw [← getD_lt hil 0]; exact h2
  obtain ⟨_, x2, _⟩ := way_cons w0.2
  rw [hg] at x2
  have hk : (k : Int) ∈ ws.take i := (way_memJ _ w0.1 _).mpr ⟨by omega, by omega⟩
  obtain ⟨j, hj, ej⟩ := mem_getD.mp hk
  rw [List.length_take] at hj
  have ej' : ws.getD j 0 = (k : Int) := by rw [← ej, List.getD_eq_getElem?_getD, List.getD_eq_getElem?_getD, List.getElem?_take_of_lt (by omega)]
  have := hd_min (ws := ws) (by omega) ej'
  unfold hdL at *
  omega
def arW (ws : List Int) (k j : Nat) : Bool := decide (lieS (hdL ws k) (tlL ws k) (hdL ws j) (tlL ws j) = "around")
def crW (ws : List Int) (k j : Nat) : Bool := decide (lieS (hdL ws k) (tlL ws k) (hdL ws j) (tlL ws j) = "crossing")
def SpanAt (H : Hp) (p : Addr) (ps : List Addr) (ws : List Int) : Prop := H p = some (.lst (ps.map V.ref)) ∧ ps.length = (fresh 0 ws).toNat ∧ ∀ (k : Nat) q, ps[k]? = some q → H q = some (.tup [.int (hdL ws k), .int (tlL ws k)])
theorem SpanAt.same {H H' : Hp} {p : Addr} {ps : List Addr} {ws : List Int} (h : SpanAt H p ps ws) (s : Same H H') : SpanAt H' p ps ws := ⟨s p _ h.1, h.2.1, fun k q e => s q _ (h.2.2 k q e)⟩
theorem SpanAt.at {H : Hp} {p : Addr} {ps : List Addr} {ws : List Int} (h : SpanAt H p ps ws) {k : Nat} (hk : k < (fresh 0 ws).toNat) : ∃ q, ps[k]? = some q ∧ H q = some (.tup [.int (hdL ws k), .int (tlL ws k)]) := by
  have hl := h.2.1
  have e := List.getElem?_eq_getElem (show k < ps.length by omega)
  exact ⟨_, e, h.2.2 k _ e⟩
end L2
namespace L2
open PySem PySem.Spec PyProof.Rows
section
variable {X : Cx} {K : PySem.W.Frag}
end
end L2
set_option Elab.async false
set_option linter.all false
set_option maxRecDepth 100000
namespace L2
open PySem
variable {ar cr : Nat → Nat → Bool} {n g : Nat}
theorem filt_lt {p q : Nat → Bool} : ∀ (l : List Nat), (∀ x ∈ l, q x = true → p x = true) → ∀ k ∈ l, p k = true → q k = false → (l.filter q).length + 1 ≤ (l.filter p).length
  | [], _, k, hk, _, _ => by simp at hk
  | a :: l, h, k, hk, hp, hq => by
    have le : ∀ (l : List Nat), (∀ x ∈ l, q x = true → p x = true) → (l.filter q).length ≤ (l.filter p).length := by
      intro l
      induction l with
      | nil => intro _; simp
      | cons b l ih =>
        intro h
        have := ih fun x hx => h x (List.mem_cons_of_mem _ hx)
        rw [List.filter_cons, List.filter_cons]
        by_cases hb : q b = true
        · rw [if_pos hb, if_pos (h b List.mem_cons_self hb)]; simpa using this
        · rw [if_neg hb]; split
          · rw [List.length_cons]; omega
          · exact this
    rw [List.filter_cons, List.filter_cons]
    rcases List.mem_cons.mp hk with e | hk
    · subst e
      rw [if_pos hp, hq, if_neg (by simp), List.length_cons]
      have := le l fun x hx => h x (List.mem_cons_of_mem _ hx)
      omega
    · have := filt_lt l (fun x hx => h x (List.mem_cons_of_mem _ hx)) k hk hp hq
      by_cases hb : q a = true
      · rw [if_pos hb, if_pos (h a List.mem_cons_self hb), List.length_cons, List.length_cons]; omega
      · rw [if_neg hb]; split
        · rw [List.length_cons]; omega
        · exact this
abbrev LhAt (H : Hp) (ps : List Addr) (xss : List (List Int)) : Prop := Paired (fun a (xs : List Int) => H a = some (.lst (xs.map V.int))) ps xss
theorem LhAt.same {H H' : Hp} {ps : List Addr} {xss : List (List Int)} (h : LhAt H ps xss) (s : Same H H') : LhAt H' ps xss := L2.Paired.mapP h fun a xs z => s a _ z
end L2
set_option Elab.async false
set_option linter.all false
set_option maxRecDepth 100000
namespace L2
open PySem PySem.W PyProof.Rows
def KIn {α : Type} (n : Nat) (P : α → Prop) : KasT α → Prop
  | .ret a => P a
  | .ask i j k => i < n ∧ j < n ∧ ∀ b, KIn n P (k b)
theorem KIn.bind {α β : Type} {n : Nat} {P : α → Prop} {Q : β → Prop} {f : α → KasT β} : ∀ {t : KasT α}, KIn n P t → (∀ a, P a → KIn n Q (f a)) → KIn n Q (t.bind f)
  | .ret a, h, hf => hf a h
  | .ask i j k, h, hf => ⟨h.1, h.2.1, fun b => KIn.bind (h.2.2 b) hf⟩
def AllIn (n : Nat) (p : Array Nat) : Prop := ∀ k, p.getD k 0 < n
theorem AllIn.perm {n : Nat} {p q : Array Nat} (h : AllIn n p) (e : q.Perm p) (hn : 0 < n) : AllIn n q := fun k => by
  rw [gd]
  cases hk : q[k]? with
  | none => exact hn
  | some x =>
    have hx : x ∈ q := Array.mem_of_getElem? hk
    have hx' : x ∈ p := e.mem_iff.mp hx
    obtain ⟨j, hj⟩ := Array.mem_iff_getElem?.mp hx'
    have := h j
    rw [gd, hj] at this
    exact this
variable {n : Nat}
theorem kin_asc {p : Array Nat} (h : AllIn n p) : ∀ (f m : Nat), KIn n (fun _ => True) (kas_asc p f m)
  | 0, m => trivial
  | f + 1, m => ⟨h _, h _, fun b => by
      show KIn n _ (if b = true then _ else _)
      split
      · trivial
      · exact kin_asc h f (m + 1)⟩
theorem kin_desc (hn : 0 < n) : ∀ (f : Nat) (p : Array Nat) (m q : Nat), AllIn n p → KIn n (fun o => AllIn n o.1) (kas_desc f p m q)
  | 0, p, m, q, h => h
  | f + 1, p, m, q, h => ⟨h _, h _, fun b => by
      show KIn n _ (if b = true then _ else _)
      split
      · split
        · exact kin_desc hn f _ _ _ (h.perm (mirror_perm _ _ _ _) hn)
        · exact kin_desc hn f _ _ _ h
      · refine ⟨h _, h _, fun d => ?_⟩
        show KIn n _ (if d = true then _ else _)
        split
        · exact h
        · exact kin_desc hn f _ _ _ h⟩
theorem kin_tail3 (hn : 0 < n) {p : Array Nat} {m nrem : Nat} (h : AllIn n p) : KIn n (fun o => AllIn n o.2) (kas_tail3 m nrem p) := by
  have h' : AllIn n (kas_rev p 0 m) := h.perm (mirror_perm _ _ _ _) hn
  exact (kin_asc h' _ _).bind fun a _ => h'
theorem kin_descPart (hn : 0 < n) {p : Array Nat} {m nrem : Nat} (h : AllIn n p) : KIn n (fun o => AllIn n o.2) (kas_descPart m nrem p) :=
  (kin_desc hn _ p _ _ h).bind fun a ha => by
    split
    · exact kin_tail3 hn (ha.perm (mirror_perm _ _ _ _) hn)
    · exact kin_tail3 hn ha
theorem kin_count (hn : 0 < n) {p : Array Nat} {nrem : Nat} (h : AllIn n p) : KIn n (fun o => AllIn n o.2) (kas_count nrem p) :=
  (kin_asc h _ _).bind fun a _ => by
    split
    · exact h
    · split
      · refine ⟨h _, h _, fun b => ?_⟩
        show KIn n _ (if b = true then _ else _)
        split
        · exact h
        · exact kin_descPart hn (h.perm (mirror_perm _ _ _ _) hn)
      · exact kin_descPart hn h
theorem kin_place {p : Array Nat} {k : Nat} (h : AllIn n p) : ∀ (f l r : Nat), KIn n (fun _ => True) (kas_place p k f l r)
  | 0, l, r => trivial
  | f + 1, l, r => by
    show KIn n _ (if l ≥ r then _ else _)
    split
    · trivial
    · refine ⟨h _, h _, fun b => ?_⟩
      show KIn n _ (if b = true then _ else _)
      split
      · exact kin_place h f _ _
      · exact kin_place h f _ _
theorem kin_bin (hn : 0 < n) : ∀ (f : Nat) (p : Array Nat) (k : Nat), AllIn n p → KIn n (fun _ => True) (kas_bin f p k)
  | 0, p, k, h => trivial
  | f + 1, p, k, h => (kin_place h _ _ _).bind fun l _ => kin_bin hn f _ _ (h.perm (bubble_perm _ _ _) hn)
theorem kin_sort (hn : 0 < n) : KIn n (fun _ => True) (kas_sort n) := by
  have h : AllIn n (List.toArray (List.range n)) := fun k => by
    rw [gd]
    by_cases hk : k < n
    · rw [List.getElem?_toArray, List.getElem?_range hk]; exact hk
    · rw [List.getElem?_toArray, List.getElem?_eq_none (by simpa using hk)]; exact hn
  exact (kin_count hn h).bind fun a ha => by
    split
    · exact kin_bin hn _ _ _ ha
    · trivial
theorem kWp_runIn {α : Type} {P : α → Prop} {cmp : Nat → Nat → (Bool → Shared → Prop) → Shared → Prop} {lt : Nat → Nat → Bool} {s : Shared} {Q : α → Shared → Prop} (hc : ∀ i j (C : Bool → Shared → Prop), i < n → j < n → C (lt i j) s → cmp i j C s) : ∀ t : KasT α, KIn n P t → Q (kRun lt t) s → t.kasWp cmp Q s
  | .ret a, _, h => h
  | .ask i j k, hi, h => hc i j _ hi.1 hi.2.1 (kWp_runIn hc (k (lt i j)) (hi.2.2 _) h)
theorem lexLt_irrefl : ∀ xs : List Int, HT.lexLt xs xs = false
  | [] => rfl
  | x :: xs => by rw [HT.lexLt_cons, if_pos rfl]; exact lexLt_irrefl xs
theorem lexLt_trans : ∀ xs ys zs : List Int, HT.lexLt xs ys = true → HT.lexLt ys zs = true → HT.lexLt xs zs = true
  | [], [], zs, h, _ => by rw [HT.lexLt_nil_nil] at h; cases h
  | [], y :: ys, [], _, h => by rw [HT.lexLt_cons_nil] at h; cases h
  | [], y :: ys, z :: zs, _, _ => HT.lexLt_nil_cons _ _
  | x :: xs, [], zs, h, _ => by rw [HT.lexLt_cons_nil] at h; cases h
  | x :: xs, y :: ys, [], _, h => by rw [HT.lexLt_cons_nil] at h; cases h
  | x :: xs, y :: ys, z :: zs, h1, h2 => by
    rw [HT.lexLt_cons] at h1 h2 ⊢
    by_cases e1 : x = y
    · subst e1
      rw [if_pos rfl] at h1
      by_cases e2 : x = z
      · rw [if_pos e2] at h2 ⊢; exact lexLt_trans _ _ _ h1 h2
      · rw [if_neg e2] at h2 ⊢; exact h2
    · rw [if_neg e1] at h1
      have h1 := of_decide_eq_true h1
      by_cases e2 : y = z
      · subst e2
        rw [if_neg e1]; exact decide_eq_true h1
      · rw [if_neg e2] at h2
        have h2 := of_decide_eq_true h2
        rw [if_neg (by omega)]; exact decide_eq_true (by omega)
theorem lexLt_total : ∀ xs ys : List Int, HT.lexLt xs ys = false → HT.lexLt ys xs = false → xs = ys
  | [], [], _, _ => rfl
  | [], y :: ys, h, _ => by rw [HT.lexLt_nil_cons] at h; cases h
  | x :: xs, [], _, h => by rw [HT.lexLt_nil_cons] at h; cases h
  | x :: xs, y :: ys, h1, h2 => by
    rw [HT.lexLt_cons] at h1 h2
    by_cases e : x = y
    · subst e
      rw [if_pos rfl] at h1 h2
      rw [lexLt_total _ _ h1 h2]
    · rw [if_neg e] at h1
      rw [if_neg (fun z => e z.symm)] at h2
      have h1 := of_decide_eq_false h1
      have h2 := of_decide_eq_false h2
      omega
def lexRk (xss : List (List Int)) (i : Nat) : Int := (((List.range xss.length).filter fun k => HT.lexLt (xss.getD k []) (xss.getD i [])).length : Int)
theorem lexRk_lt {xss : List (List Int)} {i j : Nat} (hi : i < xss.length) : decide (lexRk xss i < lexRk xss j) = HT.lexLt (xss.getD i []) (xss.getD j []) := by
  cases h : HT.lexLt (xss.getD i []) (xss.getD j []) with
  | true =>
    refine decide_eq_true ?_
    have := filt_lt (p := fun k => HT.lexLt (xss.getD k []) (xss.getD j [])) (q := fun k => HT.lexLt (xss.getD k []) (xss.getD i [])) (List.range xss.length) (fun x _ hx => lexLt_trans _ _ _ hx h) i (List.mem_range.mpr hi) h (lexLt_irrefl _)
    unfold lexRk
    omega
  | false =>
    refine decide_eq_false (Int.not_lt.mpr ?_)
    unfold lexRk
    refine Int.ofNat_le.mpr ?_
    have le : ∀ (l : List Nat) (p q : Nat → Bool), (∀ x ∈ l, q x = true → p x = true) → (l.filter q).length ≤ (l.filter p).length := by
      intro l p q
      induction l with
      | nil => intro _; simp
      | cons b l ih =>
        intro h
        have := ih fun x hx => h x (List.mem_cons_of_mem _ hx)
        rw [List.filter_cons, List.filter_cons]
        by_cases hb : q b = true
        · rw [if_pos hb, if_pos (h b List.mem_cons_self hb)]; simpa using this
        · rw [if_neg hb]; split
          · rw [List.length_cons]; omega
          · exact this
    refine le _ _ _ fun x _ hx => ?_
    cases h2 : HT.lexLt (xss.getD x []) (xss.getD i []) with
    | true => rfl
    | false =>
      cases h3 : HT.lexLt (xss.getD i []) (xss.getD x []) with
      | true => rw [lexLt_trans _ _ _ h3 hx] at h; cases h
      | false =>
        have e := lexLt_total _ _ h2 h3
        rw [e] at hx
        rw [hx] at h; cases h
def RowsUp (yss : List (List Int)) : Prop := yss.Pairwise fun a b => HT.lexLt b a = false
theorem rows_sorted {xss : List (List Int)} (h1 : 1 ≤ xss.length) : let o := (kRun (ltR (lexRk xss)) (kas_sort xss.length)).toList
    o.Perm (List.range xss.length) ∧ RowsUp (o.map fun i => xss.getD i []) := by
  intro o
  obtain ⟨hp, hu⟩ := sort_spec (r := lexRk xss) h1
  have hp' : o.Perm (List.range xss.length) := by
    have := hp.toList
    simpa using this
  refine ⟨hp', ?_⟩
  unfold RowsUp
  rw [List.pairwise_map, List.pairwise_iff_getElem]
  intro i j hi hj hij
  have hlen : o.length = xss.length := by rw [hp'.length_eq, List.length_range]
  have mem : ∀ k (hk : k < o.length), o[k] < xss.length := fun k hk => List.mem_range.mp (hp'.mem_iff.mp (List.getElem_mem hk))
  have ek : ∀ k (hk : k < o.length), ky (lexRk xss) (kRun (ltR (lexRk xss)) (kas_sort xss.length)) k = lexRk xss o[k] := fun k hk => by
    unfold ky
    rw [gd, ← Array.getElem?_toList, List.getElem?_eq_getElem hk]; rfl
  have := hu i j (by omega) (by omega)
  rw [ek i hi, ek j hj] at this
  rw [← lexRk_lt (mem j hj)]
  exact decide_eq_false (Int.not_lt.mpr this)
end L2
set_option Elab.async false
set_option linter.all false
set_option maxRecDepth 100000
namespace L2
open PySem PySem.Spec PyProof.Rows
section
variable {X : Cx} {K : PySem.W.Frag}
theorem Inv.layK {pins : List (Addr × Obj)} {σ : St} {H : Hp} {s : Shared} {h' : Heap} {m : Str → Option Value} {D : Addr} {ys : List V} {out : List Value} {c t' : Nat} (I : Inv X pins σ H s) (hm : s.heap.Ns X.env.locals m) (F' : Fr X.base X.env.locals h' m)
    (N' : News X.base X.env.locals h' ((D, { cls := .type "list", data := .seq out.toArray c }) :: allNews X.base s.heap X.env.locals)) (hD : ∀ q ∈ allNews X.base s.heap X.env.locals, q.1 < D) (hv : Vals ys out) (hz : ys.length ≤ sizeLine) :
    H D = none ∧ Inv X pins σ (upd H D (.lst ys)) { s with heap := h', toks := t' } := by
  obtain ⟨eD, nD, bD⟩ := N' _ List.mem_cons_self
  have keep : ∀ b o, b ≠ X.env.locals → s.heap.get? b = some o → h'.get? b = some o := fun b o hb e => by
    cases q : X.base.get? b with
    | some u =>
      have := I.bk b u q
      rw [e] at this; cases this
      exact F'.keep b _ q
    | none => exact (N' (b, o) (List.mem_cons_of_mem _ (mem_allNews hb q e))).1
  have newD : ∀ o, s.heap.get? D ≠ some o := fun o e => absurd (hD (D, o) (mem_allNews nD bD e)) (Nat.lt_irrefl _)
  have hDn : H D = none := by
    cases q : H D with
    | none => rfl
    | some u => obtain ⟨ob, e⟩ := (I.hok D u q).get; exact absurd e (newD ob)
  have hL : ∀ b u, H b = some u → b ≠ X.env.locals := fun b u e z => by rw [z, I.free] at e; cases e
  refine ⟨hDn, I.step (g' := s.gens) (d' := s.drawn) (ch := []) (fun _ z => nomatch z) (fun b o hb _ _ e _ => keep b o hb e) (fun b o hb _ _ e _ => ⟨o.slots, keep b o hb e⟩) (fun b o _ e n => ?_) (fun b o _ e => ?_) (fun b xs e => ?_) (fun b o u e => ?_) (fun b ps e => ?_) (fun m' hm' => ?_) (fun b u e => ?_) I.bare⟩
  · rw [upd_ne (fun z => newD o (by rw [← z]; exact e))]; exact n
  · by_cases hb : b = X.env.locals
    · obtain ⟨o', _, _, e', _⟩ := F'.ns
      exact ⟨o', hb ▸ e'⟩
    · exact ⟨o, keep b o hb e⟩
  · rw [upd_ne (ne_of_none e hDn)]; exact e
  · rw [upd_ne (ne_of_none e hDn)]; exact e
  · exact ⟨#[], by rw [upd_ne (ne_of_none e hDn), Array.append_empty]; exact e⟩
  · have e1 := Heap.Ns.eq_nsMap hm
    have e2 := Heap.Ns.eq_nsMap hm'
    rw [e2, ← e1]; exact F'.ns
  · by_cases hb : b = D
    · subst hb
      rw [upd_same] at e; cases e
      exact ⟨hz, out, c, hv, eD⟩
    · rw [upd_ne hb] at e
      refine (I.hok b u e).stay (fun d v hd q => ?_) (fun d q => by rw [upd_ne (ne_of_none q hDn)]; exact q) fun d xs q => by rw [upd_ne (ne_of_none q hDn)]; exact q
      rcases hd with z | z
      · exact keep d v (z ▸ hL b u e) q
      · exact keep d v (hL d _ z) q
theorem lex_ask {prog : Program} {w : World} {A : Around} {b fin : Bool} {Q : Bool → Shared → Prop} {s : Shared} : ∀ {xs ys : List Int} {us vs : List Value} (i : Nat), Vals (xs.map V.int) us → Vals (ys.map V.int) vs →
    (fin = decide (us.length < vs.length)) → Q (HT.lexLt xs ys) s → PySem.W.KatLex prog w A b fin Q (us.zip vs) i s
  | [], [], _, _, i, .nil, .nil, hf, h => by
    rw [HT.lexLt_nil_nil] at h
    show Q fin s
    rw [hf]; exact h
  | [], y :: ys, _, _, i, .nil, .cons r1 r2, hf, h => by
    rw [HT.lexLt_nil_cons] at h
    show Q fin s
    rw [hf]; simpa using h
  | x :: xs, [], _, _, i, .cons r1 r2, .nil, hf, h => by
    rw [HT.lexLt_cons_nil] at h
    show Q fin s
    rw [hf]; simpa using h
  | x :: xs, y :: ys, _, _, i, .cons (l₂ := us) ⟨t, e1⟩ r1, .cons (l₂ := vs) ⟨t2, e2⟩ r2, hf, h => by
    subst e1 e2
    rw [HT.lexLt_cons] at h
    refine PySem.W.kat_cons (eqAt_V (y := .int x) (x := .int y) ⟨t, rfl⟩ ⟨t2, rfl⟩ rfl rfl prog w _ _ ?_)
    show PySem.W.KatGo prog w A b fin Q _ _ _ i (x == y) s
    by_cases e : x = y
    · rw [if_pos e] at h
      rw [show (x == y) = true by simpa using e]
      refine PySem.W.kat_yes (lex_ask (i + 1) r1 r2 ?_ h)
      rw [hf]; simp
    · rw [if_neg e] at h
      rw [show (x == y) = false by simpa using e]
      refine PySem.W.kat_no ?_
      cases hb : (b && i == 0) with
      | true => exact oneLt_int h
      | false => exact PySem.W.kat_one _ _ (lt_int h)
theorem refs_vals (ps : List Addr) : Vals (ps.map V.ref) (ps.map Value.ref) := by
  induction ps with
  | nil => exact .nil
  | cons a ps ih => exact .cons rfl ih
theorem ts_getD {H : Hp} : ∀ {ps : List Addr} {xss : List (List Int)} {i : Nat}, TsAt K H ps xss → i < ps.length → SqT K H (ps.getD i 0) ((xss.getD i []).map V.int) := by
  intro ps xss i h hi
  obtain ⟨xs, h1, h2⟩ := ts_get h (List.getElem?_eq_getElem hi)
  rw [List.getD_eq_getElem?_getD, List.getElem?_eq_getElem hi, List.getD_eq_getElem?_getD, h2]
  exact h1
theorem ts_pick {H : Hp} {ps : List Addr} {xss : List (List Int)} (h : TsAt K H ps xss) : ∀ {o : List Nat}, (∀ i ∈ o, i < ps.length) → TsAt K H (o.map fun i => ps.getD i 0) (o.map fun i => xss.getD i [])
  | [], _ => .nil
  | i :: o, hi => .cons (ts_getD h (hi i List.mem_cons_self)) (ts_pick h fun j hj => hi j (List.mem_cons_of_mem _ hj))
theorem tu_getD {H : Hp} : ∀ {ps : List Addr} {xss : List (List Int)} {i : Nat}, TuAt H ps xss → i < ps.length → H (ps.getD i 0) = some (.tup ((xss.getD i []).map V.int)) := by
  intro ps xss i h hi
  obtain ⟨xs, h1, h2⟩ := tu_get h (List.getElem?_eq_getElem hi)
  rw [List.getD_eq_getElem?_getD, List.getElem?_eq_getElem hi, List.getD_eq_getElem?_getD, h2]
  exact h1
theorem tu_pick {H : Hp} {ps : List Addr} {xss : List (List Int)} (h : TuAt H ps xss) : ∀ {o : List Nat}, (∀ i ∈ o, i < ps.length) → TuAt H (o.map fun i => ps.getD i 0) (o.map fun i => xss.getD i [])
  | [], _ => .nil
  | i :: o, hi => .cons (tu_getD h (hi i List.mem_cons_self)) (tu_pick h fun j hj => hi j (List.mem_cons_of_mem _ hj))
theorem range_getD {α : Type} (l : List α) (d : α) : (List.range l.length).map (fun i => l.getD i d) = l := by
  refine List.ext_getElem (by simp) fun i h1 h2 => ?_
  rw [List.getElem_map, List.getElem_range, getD_lt h2]
end
end L2
set_option Elab.async false
set_option linter.all false
set_option maxRecDepth 100000
namespace PySem
open Sem (wp)
def Heap.DictE (h : Heap) (a : Addr) (kvs : List (Value × Value)) (ep : Nat) : Prop := ∃ o es, h.get? a = some o ∧ o.ExactDict ∧ o.data = .dict es ep ∧ es.toList.map (fun e => (e.key, e.val)) = kvs
theorem Heap.DictE.typeIs {s : Shared} {a : Addr} {kvs : List (Value × Value)} {ep : Nat} (x : s.heap.DictE a kvs ep) : s.TypeIs (.ref a) "dict" := let ⟨o, _, ho, hc, _⟩ := x; ⟨o, ho, hc.1⟩
theorem Heap.DictE.extBut {h h' : Heap} {a b kvs ep} (x : h.DictE a kvs ep) (hs : Heap.ExtBut b h h') (hab : a ≠ b) : h'.DictE a kvs ep := let ⟨o, es, ho, r⟩ := x; ⟨o, es, hs a o hab ho, r⟩
theorem Heap.DictE.lt_size {h : Heap} {a kvs ep} (x : h.DictE a kvs ep) : a < h.objs.size := let ⟨_, _, ho, _⟩ := x; Heap.lt_size ho
theorem Heap.DictE.push {h : Heap} {a kvs ep} (x : h.DictE a kvs ep) (o : Obj) : (h.push o).DictE a kvs ep := let ⟨o', es, ho, r⟩ := x; ⟨o', es, Heap.get?_push_of_some o ho, r⟩
theorem Heap.DictE.at' {h h' : Heap} {a kvs ep} (x : h.DictE a kvs ep) (e : ∀ o, h.get? a = some o → h'.get? a = some o) : h'.DictE a kvs ep := let ⟨o, es, ho, r⟩ := x; ⟨o, es, e _ ho, r⟩
section
variable {prog : Program} {w : World} {A : Around} {E : Value → Shared → Prop} {s : Shared}
theorem wpAny_pyIter_dictE {d : Addr} {kvs : List (Value × Value)} {ep : Nat} {Q : Value → Shared → Prop} (hd : (d == sysModules) = false) (hm : s.heap.DictE d kvs ep)
    (hQ : Q (.ref s.heap.objs.size) { s with heap := s.heap.push { cls := .type "dict_keyiterator", data := .fields #[.ref d, .int 0 0, .int kvs.length 0, .int ep 0] } }) :
    wpAny (model prog w) A (pyIter (.ref d)) Q E s := by
  obtain ⟨o, es, ho, hc, hdat, hp⟩ := id hm
  have hT : s.TypeIs (.ref d) "dict" := hm.typeIs
  refine wpAny_pyIter_slot hT F.slot_dict_iter (wpAny_call_entry F.slot_dict_iter hT F.entry_dict_iter ?_ (F.args_dict_iter_1 _))
  unfold Builtin.«dict.__iter__»
  refine wpAny_bind ?_
  unfold Builtin.Dict.dictSlotNone
  refine wpAny_bind (wpAny_notOrdered_dict hT ?_)
  show wpAny _ _ (pure (Value.ref d)) _ _ s
  refine wpAny_pure ?_
  show wpAny _ _ (Builtin.Dict.showsAll d >>= _) _ _ s
  unfold Builtin.Dict.showsAll
  rw [if_neg (by rw [hd]; exact Bool.false_ne_true)]
  refine wpAny_bind (wpAny_pure ?_)
  refine wpAny_bind (wpAny_dictEntries ho hdat ?_)
  refine wpAny_bind (wpAny_dictEpoch ho hdat ?_)
  have hsz : es.size = kvs.length := by rw [← hp]; simp
  refine wpAny_bind (wpAny_newObj_type (wpAny_pure ⟨_, rfl, "dict_keyiterator", _, ⟨_, Heap.get?_push_size _ rfl, rfl⟩, F.slot_dict_keyiterator_next.lookup, ?_⟩))
  simpa [rawInt, hsz] using hQ
theorem wpAny_pyNext_dictE_item {it d : Addr} {i ep : Nat} {kvs : List (Value × Value)} {k : Value} {v : Value} {Q : Option Value → Shared → Prop} (hit : s.heap.IsKeyIter it d i kvs.length ep)
    (hm : s.heap.DictE d kvs ep) (hx : kvs[i]? = some (k, v))
    (hQ : ∀ key h', key = k → h'.IsKeyIter it d (i + 1) kvs.length ep → Heap.SameBut it s.heap h' → Q (some key) { s with heap := h' }) :
    wpAny (model prog w) A (pyNext (.ref it)) Q E s := by
  obtain ⟨o, ho, hc, hd⟩ := id hit
  obtain ⟨od, es, hod, hcd, hdd, hp⟩ := id hm
  unfold pyNext
  refine wpAny_bind (wpAny_attempt (wpAny_callSpecial?_slot (name := Str.ofString "__next__") hit.typeIs F.slot_dict_keyiterator_next
    (wpAny_call_entry F.slot_dict_keyiterator_next hit.typeIs F.entry_dict_keyiterator_next ?_ (F.args_dict_keyiterator_next_1 _))))
  refine wpAny_bind (wpAny_pure ?_)
  refine wpAny_bind ?_
  refine wpAny_bind ?_
  first | refine wpAny_bind (wpAny_typeNameOfWhole_keyiter hit.typeIs (wpAny_pure ?_)) | refine wpAny_bind (wpAny_typeNameOf_keyiter hit.typeIs (wpAny_pure ?_))
  refine wpAny_bind (wpAny_fieldsOf ho hd ?_)
  have hown : Builtin.Dict_items.ownsTuple "dict_keyiterator" = false := by decide
  simp only [hown, Bool.false_eq_true, if_false]
  show wpAny _ _ (if (Value.ref d == Value.none) = true then _ else _) _ _ s
  rw [if_neg (show ¬ ((Value.ref d == Value.none) = true) from Bool.false_ne_true)]
  refine wpAny_bind (wpAny_pure ?_)
  refine wpAny_bind (wpAny_dictEntries hod hdd ?_)
  have hsz : es.size = kvs.length := by rw [← hp]; simp
  rw [if_neg (by rw [hsz]; simp)]
  refine wpAny_bind (wpAny_pure ?_)
  refine wpAny_bind (wpAny_dictEpoch hod hdd ?_)
  rw [if_neg (by simp)]
  refine wpAny_pure ?_
  have hlt : i < kvs.length := by
    rcases Nat.lt_or_ge i kvs.length with h | h
    · exact h
    · simp [List.getElem?_eq_none h] at hx
  have hlt' : i < es.size := by rw [hsz]; exact hlt
  have hkey : es[i].key = k := by
    have e1 : (es.toList.map fun e => (e.key, e.val))[i]? = some (es[i].key, es[i].val) := by rw [List.getElem?_map, Array.getElem?_toList, Array.getElem?_eq_getElem hlt']; rfl
    rw [hp, hx] at e1
    exact (congrArg Prod.fst (Option.some.inj e1)).symm
  simp only [show ¬ ((i : Int) < 0) from by omega, if_false, Int.toNat_natCast, Array.getElem?_eq_getElem hlt']
  refine wpAny_bind ?_
  first | refine wpAny_bind (wpAny_typeNameOfWhole_keyiter hit.typeIs (wpAny_pure ?_)) | refine wpAny_bind (wpAny_typeNameOf_keyiter hit.typeIs (wpAny_pure ?_))
  refine wpAny_bind (wpAny_isOneOf_keyiter hit.typeIs ?_)
  show wpAny _ _ (setField (.ref it) 1 (rawInt ((i : Int) + 1)) >>= _) _ _ s
  refine wpAny_bind (wpAny_setField ho hd (by simp) ?_)
  have hit' : (s.heap.update it (Obj.mapFields (·.setIfInBounds 1 (rawInt ((i : Int) + 1))))).IsKeyIter it d (i + 1) kvs.length ep :=
    ⟨_, Heap.get?_update_self _ ho (Obj.isFreed_of_fields (Obj.data_mapFields hd _)), (Obj.cls_mapFields ..).trans hc, by rw [Obj.data_mapFields hd]; simp [rawInt]⟩
  refine wpAny_bind (wpAny_holding ?_)
  refine wpAny_bind (wpAny_isOneOf_keyiter (s := { s with heap := s.heap.update it (Obj.mapFields (·.setIfInBounds 1 (rawInt ((i : Int) + 1)))) }) hit'.typeIs ?_)
  show wpAny _ _ (pure es[i].key) _ _ _
  exact wpAny_pure (wpAny_pure ⟨_, rfl, wpAny_pure (hQ _ _ hkey hit' (Heap.SameBut.update ..))⟩)
theorem wpAny_pyNext_dictE_end {it d : Addr} {i ep : Nat} {kvs : List (Value × Value)} {Q : Option Value → Shared → Prop} (hh : A.handled = none) (hit : s.heap.IsKeyIter it d i kvs.length ep)
    (hm : s.heap.DictE d kvs ep) (hx : kvs[i]? = none)
    (hQ : ∀ h', Heap.ExtBut it s.heap h' → Q none { s with heap := h' }) : wpAny (model prog w) A (pyNext (.ref it)) Q E s := by
  obtain ⟨o, ho, hc, hd⟩ := id hit
  obtain ⟨od, es, hod, hcd, hdd, hp⟩ := id hm
  unfold pyNext
  refine wpAny_bind (wpAny_attempt (wpAny_callSpecial?_slot (name := Str.ofString "__next__") hit.typeIs F.slot_dict_keyiterator_next
    (wpAny_call_entry F.slot_dict_keyiterator_next hit.typeIs F.entry_dict_keyiterator_next ?_ (F.args_dict_keyiterator_next_1 _))))
  refine wpAny_bind (wpAny_pure ?_)
  refine wpAny_bind ?_
  refine wpAny_bind ?_
  first | refine wpAny_bind (wpAny_typeNameOfWhole_keyiter hit.typeIs (wpAny_pure ?_)) | refine wpAny_bind (wpAny_typeNameOf_keyiter hit.typeIs (wpAny_pure ?_))
  refine wpAny_bind (wpAny_fieldsOf ho hd ?_)
  have hown : Builtin.Dict_items.ownsTuple "dict_keyiterator" = false := by decide
  simp only [hown, Bool.false_eq_true, if_false]
  show wpAny _ _ (if (Value.ref d == Value.none) = true then _ else _) _ _ s
  rw [if_neg (show ¬ ((Value.ref d == Value.none) = true) from Bool.false_ne_true)]
  refine wpAny_bind (wpAny_pure ?_)
  refine wpAny_bind (wpAny_dictEntries hod hdd ?_)
  have hsz : es.size = kvs.length := by rw [← hp]; simp
  rw [if_neg (by rw [hsz]; simp)]
  refine wpAny_bind (wpAny_pure ?_)
  refine wpAny_bind (wpAny_dictEpoch hod hdd ?_)
  rw [if_neg (by simp)]
  refine wpAny_pure ?_
  have hge : es.size ≤ i := by rw [hsz]; simpa using hx
  simp only [show ¬ ((i : Int) < 0) from by omega, if_false, Int.toNat_natCast, Array.getElem?_eq_none hge]
  refine wpAny_bind ?_
  first | refine wpAny_bind (wpAny_typeNameOfWhole_keyiter hit.typeIs (wpAny_pure ?_)) | refine wpAny_bind (wpAny_typeNameOf_keyiter hit.typeIs (wpAny_pure ?_))
  show wpAny _ _ (setField (.ref it) 0 .none >>= _) _ _ s
  refine wpAny_bind (wpAny_setField ho hd (by simp) ?_)
  show wpAny _ _ (newExc (.type "StopIteration") [] >>= _) _ _ _
  refine wpAny_bind ?_
  simp only [newExc, newTuple]
  refine wpAny_bind (wpAny_newObj_type ?_ (by size_fits))
  refine wpAny_bind (m := firstArgMember _ _) (wpAny_of_eq (a := Value.none) (by first | rfl | (simp only [firstArgMember]; rfl)) ?_)
  refine wpAny_newObj_type ?_ (by size_fits)
  simp only [raiseNew]
  refine wpAny_bind (wpAny_handled ?_)
  rw [show A.in1.handled = none from hh]
  refine wpAny_bind (wpAny_pure (wpAny_throw ?_))
  refine wpAny_bind (wpAny_isInstance (T := "StopIteration") (b := true) ⟨_, Heap.get?_push_size _ rfl, rfl⟩ isSubtype_stop ?_)
  exact wpAny_pure (hQ _ (((Heap.SameBut.update ..).extBut.push _).push _))
theorem Walks.dictKeysE (hh : A.handled = none) (I d : Addr) (hne : d ≠ I) (kvs : List (Value × Value)) (ep : Nat) :
    Walks prog w A I [I, d] [I] kvs.length (fun i v => ∃ k x, kvs[i]? = some (k, x) ∧ v = k) (fun i h => h.IsKeyIter I d i kvs.length ep ∧ h.DictE d kvs ep) where
  sub := fun b hb => by simp at hb; simp [hb]
  frame := fun _ _ _ st hk => ⟨st.1.at fun o e => hk I (by simp) o e, st.2.at' fun o e => hk d (by simp) o e⟩
  item := fun i s Q E hi st hQ => by
    obtain ⟨⟨k, x⟩, hx⟩ : ∃ p, kvs[i]? = some p := ⟨kvs[i], by simp [hi]⟩
    refine wpAny_pyNext_dictE_item st.1 st.2 hx fun key h' hkey hit' hs' => ?_
    exact hQ key h' s.toks ⟨k, x, hx, hkey⟩ ⟨hit', st.2.extBut hs'.extBut hne⟩ fun b o hb e => hs'.extBut b o (fun h => hb (by simp [h])) e
  done := fun s Q E st hQ => wpAny_pyNext_dictE_end hh st.1 st.2 (by simp) fun h' he' => hQ h' s.toks fun b o hb e => he' b o (fun h => hb (by simp [h])) e
  self := fun _ _ _ _ st hQ => wpAny_pyIter_keyiter st.1 hQ
end
end PySem
namespace PySem.W
open PySem PySem.Calls PyProof.Rows PyProof.V PySem.Spec
section
variable {prog : Program} {w : World} {d r : Addr} {kvs : List (Value × Value)} {ep : Nat}
theorem kdl_dictE (lo : (d == sysModules) = false) : KdlSrc prog w "dict" d d kvs.length (fun i v => ∃ k x, kvs[i]? = some (k, x) ∧ v = k) (fun h => h.DictE d kvs ep) where
  type := fun _ hm => hm.typeIs
  there := fun _ hm => ⟨hm.lt_size, hm.lt_size⟩
  keep := fun _ _ hm hk => hm.at' fun o e => hk d (.inl rfl) o e
  notList := by decide
  notTuple := by decide
  hint := fun _ _ _ _ hm hq => kdl_hint_dict hm.typeIs hq
  iter := fun _ _ hh hm => ⟨_, _, (fun _ _ hq => wpAny_pyIter_dictE lo hm hq), Walks.dictKeysE hh _ d (Nat.ne_of_lt hm.lt_size) kvs ep, ⟨⟨_, Heap.get?_push_size _ rfl, rfl, rfl⟩, hm.push _⟩⟩
end
end PySem.W
namespace L2
open PySem PySem.Spec PyProof.Rows
section
variable {X : Cx} {K : PySem.W.Frag}
theorem Inv.dictT {pins : List (Addr × Obj)} {σ : St} {H : Hp} {s : Shared} {d : Addr} {kvs : List (List Key × V)} (I : Inv X pins σ H s) (h : H d = some (.dT kvs)) :
    kvs.length ≤ sizeLine ∧ (d == sysModules) = false ∧ ∃ (ps : List Addr) (vs : List Value) (ep : Nat), Paired (fun (p : List Key × V) a => H a = some (.tup (p.1.map kV))) kvs ps ∧ s.heap.DictE d ((ps.map Value.ref).zip vs) ep ∧ Vals (kvs.map (·.2)) vs := by
  obtain ⟨z, lo, xs, r, o, es, ep, h1, h2, h3, h4, hnd⟩ := (show ObjOk X.prog X.w H s.heap d (.dT kvs) from I.hok d _ h)
  refine ⟨z, lo, xs.map (·.2.1), xs.map (·.2.2), ep, ?_, ⟨o, es, h1, h2, h3, ?_⟩, ?_⟩
  · clear h h4 z hnd
    induction r with
    | nil => exact .nil
    | cons q _ ih => exact .cons q.2.1 ih
  · rw [h4, List.map_map]
    clear h h4 z r hnd
    induction xs with
    | nil => rfl
    | cons x xs ih => rw [List.map_cons, ih]; rfl
  · clear h h4 z hnd
    induction r with
    | nil => exact .nil
    | cons q _ ih => exact .cons q.2.2 ih
theorem ask_rows {prog : Program} {w : World} {A : Around} {s : Shared} {ps : List Addr} {xss : List (List Int)} {G : Array Nat → Shared → Prop} (hxl : ps.length = xss.length) (h2 : 2 ≤ ps.length) (hne : ∀ x ∈ xss, x ≠ [])
    (tup : ∀ i, i < ps.length → ∃ o its n, s.heap.get? (ps.getD i 0) = some o ∧ o.cls = .type "tuple" ∧ o.data = .seq its n ∧ Vals ((xss.getD i []).map V.int) its.toList)
    (hG : G (kRun (ltR (lexRk xss)) (PySem.W.kas_sort xss.length)) s) :
    wpAny (model prog w) A (keyKind' (ps.map Value.ref).toArray) (fun κ s' => (PySem.W.kas_sort (ps.map Value.ref).length).kasWp (PySem.W.kas_ask prog w A κ (ps.map Value.ref)) G s') (fun _ _ => False) s := by
  have hlen : (ps.map Value.ref).length = ps.length := List.length_map ..
  have first : ∀ i, i < ps.length → ∃ o its n t, s.heap.get? (ps.getD i 0) = some o ∧ o.cls = .type "tuple" ∧ o.data = .seq its n ∧ its[0]? = some (Value.int ((xss.getD i []).headD 0) t) := fun i hi => by
    obtain ⟨o, its, n, ho, hc, hd, rv⟩ := tup i hi
    have hx : xss.getD i [] ≠ [] := hne _ (by rw [getD_lt (by omega)]; exact List.getElem_mem _)
    cases e : xss.getD i [] with
    | nil => exact absurd e hx
    | cons z zs =>
      rw [e] at rv
      obtain ⟨v0, vr, ev⟩ : ∃ v0 vr, its.toList = v0 :: vr := by
        cases e2 : its.toList with
        | nil => rw [e2] at rv; cases rv
        | cons a b => exact ⟨a, b, rfl⟩
      rw [ev] at rv
      cases rv with
      | cons r1 r2 =>
        obtain ⟨t, rfl⟩ := r1
        exact ⟨o, its, n, t, ho, hc, hd, by rw [← Array.getElem?_toList, ev]; rfl⟩
  have tups : ∀ (l : List Addr) (k : Nat), (∀ i, i < l.length → l.getD i 0 = ps.getD (k + i) 0) → k + l.length ≤ ps.length → ∃ fs : List Value, PySem.W.KatTups s.heap (l.map Value.ref) fs ∧ fs.length = l.length ∧ ∀ v ∈ fs, ∃ i t, v = Value.int i t := by
    intro l
    induction l with
    | nil => intro k _ _; exact ⟨[], PySem.W.KatTups.nil, rfl, fun v hv => by simp at hv⟩
    | cons a l ih =>
      intro k hk hl
      rw [List.length_cons] at hl
      obtain ⟨fs, f1, f2, f3⟩ := ih (k + 1) (fun i hi => by
        have := hk (i + 1) (by rw [List.length_cons]; omega)
        rw [show k + 1 + i = k + (i + 1) by omega, ← this]; rfl) (by omega)
      obtain ⟨o, its, n, t, ho, hc, hd, h0⟩ := first k (by omega)
      have ea : a = ps.getD k 0 := hk 0 (by rw [List.length_cons]; omega)
      rw [← ea] at ho
      refine ⟨_ :: fs, PySem.W.KatTups.cons ho hc hd h0 f1, by rw [List.length_cons, f2]; rfl, fun v hv => ?_⟩
      rcases List.mem_cons.mp hv with e | e
      · exact ⟨_, _, e⟩
      · exact f3 v e
  obtain ⟨fs, f1, f2, f3⟩ := tups ps 0 (fun i _ => by rw [Nat.zero_add]) (by omega)
  refine PySem.W.kat_kind (T := .type "int") f1 (by omega) (fun v hv => ?_) (by decide) ?_
  · obtain ⟨i, t, rfl⟩ := f3 v hv
    exact PySem.W.Looks.of_pure rfl
  · rw [hlen, hxl]
    refine kWp_runIn (n := xss.length) (lt := ltR (lexRk xss)) (fun i j C hi hj hC => ?_) _ (kin_sort (by omega)) hG
    unfold PySem.W.kas_ask
    have gi : (ps.map Value.ref).getD i Value.none = .ref (ps.getD i 0) := by
      rw [List.getD_eq_getElem?_getD, List.getElem?_map, List.getElem?_eq_getElem (by omega), List.getD_eq_getElem?_getD, List.getElem?_eq_getElem (by omega)]; rfl
    have gj : (ps.map Value.ref).getD j Value.none = .ref (ps.getD j 0) := by
      rw [List.getD_eq_getElem?_getD, List.getElem?_map, List.getElem?_eq_getElem (by omega), List.getD_eq_getElem?_getD, List.getElem?_eq_getElem (by omega)]; rfl
    rw [gi, gj]
    obtain ⟨oi, vi, ni, ho1, _, hd1, rv1⟩ := tup i (by omega)
    obtain ⟨oj, vj, nj, ho2, _, hd2, rv2⟩ := tup j (by omega)
    refine PySem.W.kat_lt ho1 hd1 ho2 hd2 (lex_ask 0 rv1 rv2 rfl ?_)
    rw [← lexRk_lt hi]; exact hC
theorem pick_out {ps : List Addr} {oo : List Nat} (hin : ∀ i ∈ oo, i < ps.length) : (oo.map fun i => (ps.map Value.ref).getD i Value.none) = (oo.map fun i => ps.getD i 0).map Value.ref := by
  rw [List.map_map]
  refine List.map_congr_left fun i hi => ?_
  have := hin i hi
  rw [List.getD_eq_getElem?_getD, List.getElem?_map, List.getElem?_eq_getElem this]
  show _ = Value.ref (ps.getD i 0)
  rw [List.getD_eq_getElem?_getD, List.getElem?_eq_getElem this]; rfl
theorem sort_small {prog : Program} {w : World} {A : Around} {E : Value → Shared → Prop} {s : Shared} {D : Addr} {vs : List Value} {n : Nat} {Q : Value → Shared → Prop} (ho : s.heap.get? D = some (seqObj "list" vs.toArray n)) (h2 : vs.length < 2)
    (h : Q .none { s with heap := sortedHeap s.heap D vs vs.toArray }) : wpAny (model prog w) A (call (.builtin "list.sort") [.ref D]) Q E s := by
  refine wpAny_call_entry slot_list_sort ⟨_, ho, rfl⟩ entry_list_sort ?_ (args_list_sort _)
  rw [list_sort_plain]
  have ha : D < s.heap.objs.size := Heap.lt_size ho
  refine wpAny_bind (listItems_at ho rfl ?_)
  refine wpAny_bind (listUpdate_at ho rfl ?_ (by rw [List.size_toArray, sizeLine_eq]; omega) (Nat.zero_le _))
  obtain ⟨e1, ho1⟩ : ∃ e1, (s.heap.update D (Obj.mapSeq fun _ => #[])).get? D = some (seqObj "list" #[] e1) := ⟨_, get?_update_seq ho (fun _ => #[])⟩
  refine wpAny_bind (seqEpoch_at ho1 rfl ?_)
  refine wpAny_bind (wpAny_newTuple ?_ (by show vs.length ≤ _; rw [sizeLine_eq]; omega))
  refine wpAny_bind (wpAny_newList ?_ (Nat.zero_le _))
  refine wpAny_holding ?_
  have ho6 : (((s.heap.update D (Obj.mapSeq fun _ => #[])).push (seqObj "tuple" vs.toArray 0)).push (seqObj "list" #[] 0)).get? D = some (seqObj "list" #[] e1) := by
    rw [Heap.get?_push_ne _ _ _ (by rw [size_push', Heap.size_update]; exact Nat.ne_of_lt (Nat.lt_succ_of_lt ha)), Heap.get?_push_ne _ _ _ (by rw [Heap.size_update]; exact Nat.ne_of_lt ha)]
    exact ho1
  show wpAny (model prog w) _ _ _ _ { s with heap := ((s.heap.update D (Obj.mapSeq fun _ => #[])).push (seqObj "tuple" vs.toArray 0)).push (seqObj "list" #[] 0) }
  dsimp only
  have h2' : vs.toArray.size < 2 := by simpa using h2
  rw [if_pos h2', if_pos h2']
  refine wpAny_bind (wpAny_pure ?_)
  rw [StateT.run_pure]
  refine wpAny_bind (wpAny_pure ?_)
  dsimp only
  have em : (arrOf (SortSt.mk' general' (vs.toArray.zip vs.toArray) #[] 7 none)).map (·.2) = vs.toArray := by
    show (vs.toArray.zip vs.toArray).map (·.2) = vs.toArray
    apply Array.ext <;> simp
  refine wpAny_bind (seqEpoch_at ho6 rfl ?_)
  refine wpAny_bind (listUpdate_at ho6 rfl ?_ (Nat.zero_le _) (hsz2 := by rw [Array.size_map]; show (pairsOf vs).size ≤ _; rw [pairsOf_size, sizeLine_eq]; omega))
  simp only [bne_self_eq_false, Bool.false_eq_true, if_false]
  refine wpAny_pure ⟨_, rfl, ?_⟩
  show Q .none { s with heap := (((s.heap.update D (Obj.mapSeq fun _ => #[])).push (seqObj "tuple" vs.toArray 0)).push (seqObj "list" #[] 0)).update D (Obj.mapSeq fun _ => (arrOf (SortSt.mk' general' (vs.toArray.zip vs.toArray) #[] 7 none)).map (·.2)) }
  rw [em]
  exact h
theorem call_sortedD (hc : X.calm = true := by rfl) (h : X.K = K := by rfl) : CallR X (.builtin "sorted") (fun xs H Q => ∃ (d : Addr) (kvs : List (List Key × V)) (xss : List (List Int)), xs = [.ref d] ∧ H d = some (.dT kvs) ∧ kvs.map (·.1) = xss.map (fun r => r.map Sum.inl) ∧ xss.length < 64 ∧ (∀ x ∈ xss, x ≠ []) ∧
    ∀ (l : Addr) (qs : List Addr) (yss : List (List Int)), TuAt H qs yss → yss.Perm xss → RowsUp yss → H l = none → Q (.ref l) (upd H l (.lst (qs.map V.ref)))) := by
  subst h
  intro pins s σ H xs us Q I r h
  obtain ⟨d, kvs, xss, rfl, hd, hkx, h64, hne, q⟩ := h
  obtain ⟨u, rfl, ru⟩ := vals1 r
  cases ru
  obtain ⟨hz, lo, ps, vs, ep, hP, hE, hV⟩ := I.dictT hd
  have hkl : kvs.length = xss.length := by have := congrArg List.length hkx; simpa using this
  have hpl : kvs.length = ps.length := hP.length
  have hxl : ps.length = xss.length := by omega
  have hU : TuAt H ps xss := by
    have go : ∀ {kvs : List (List Key × V)} {ps : List Addr} {xss : List (List Int)}, Paired (fun (p : List Key × V) a => H a = some (.tup (p.1.map kV))) kvs ps → kvs.map (·.1) = xss.map (fun r => r.map Sum.inl) → TuAt H ps xss := by
      intro kvs ps xss h
      induction h generalizing xss with
      | nil => intro e; cases xss with
        | nil => exact .nil
        | cons _ _ => simp at e
      | @cons p a l1 l2 hq t ih =>
        intro e
        cases xss with
        | nil => simp at e
        | cons x xss =>
          rw [List.map_cons, List.map_cons] at e
          injection e with e1 e2
          refine .cons ?_ (ih e2)
          rw [hq, e1, List.map_map]; rfl
    exact go hP hkx
  have hT : TsAt X.K H ps xss := L2.Paired.mapP hU fun a xs z => SqT.of z
  have hvl : vs.length = ps.length := by have := hV.length; rw [List.length_map] at this; omega
  obtain ⟨m, F⟩ := I.fr
  have hzl : ((ps.map Value.ref).zip vs).length = ps.length := by rw [List.length_zip, List.length_map, hvl, Nat.min_self]
  refine PySem.W.kdu_sorted (PySem.W.kdl_dictE lo) (I.ok.hd hc) F news_all hE (by rw [hzl]; omega) fun D h' tk ws F' N' hD hwl hw => ?_
  have ews : ws = ps.map Value.ref := by
    refine List.ext_getElem? fun j => ?_
    by_cases hj : j < ws.length
    · obtain ⟨k, x, e1, e2⟩ := hw j _ (List.getElem?_eq_getElem hj)
      rw [List.getElem?_eq_getElem hj, e2]
      rw [List.getElem?_zip_eq_some] at e1
      exact e1.1.symm
    · rw [List.getElem?_eq_none (by omega), List.getElem?_eq_none (by rw [List.length_map]; omega)]
  subst ews
  have keep : ∀ b o, b ≠ X.env.locals → s.heap.get? b = some o → h'.get? b = some o := fun b o hb e => by
    cases q : X.base.get? b with
    | some u =>
      have := I.bk b u q
      rw [e] at this; cases this
      exact F'.keep b _ q
    | none => exact (N' (b, o) (List.mem_cons_of_mem _ (mem_allNews hb q e))).1
  by_cases h2 : 2 ≤ ps.length
  · refine PySem.W.kat_lsort F' N' (.head fun q hq => Nat.ne_of_lt (hD q hq)) rfl (by rw [List.length_map]; exact h2) (by rw [List.length_map]; omega) fun e1 h2' F2 N2 => ?_
    have keep2 : ∀ b o, b ≠ X.env.locals → s.heap.get? b = some o → h2'.get? b = some o := fun b o hb e => by
      cases q : X.base.get? b with
      | some u =>
        have := I.bk b u q
        rw [e] at this; cases this
        exact F2.keep b _ q
      | none => exact (N2 (b, o) (List.mem_cons_of_mem _ (mem_allNews hb q e))).1
    obtain ⟨o1, o2⟩ := rows_sorted (xss := xss) (by omega)
    have hin : ∀ i ∈ (kRun (ltR (lexRk xss)) (PySem.W.kas_sort xss.length)).toList, i < ps.length := fun i hi => by
      have := List.mem_range.mp (o1.mem_iff.mp hi); omega
    refine ask_rows hxl h2 hne (fun i hi => ?_) ?_
    · obtain ⟨its, rv, ⟨o, ho, hcl, n, hdt⟩, _⟩ := I.tuple (ts_getD hT hi)
      have hb : ps.getD i 0 ≠ X.env.locals := fun z => by
        obtain ⟨m', ⟨o', es, ep, e', d', _⟩, _⟩ := I.loc
        rw [z, e'] at ho; cases ho
        rw [hdt] at d'; cases d'
      exact ⟨o, its.toArray, n, keep2 _ o hb ho, hcl, hdt, rv⟩
    · refine PySem.W.KasFin.intro F2 N2 (.head fun q hq => Nat.ne_of_lt (hD q hq)) fun h3 c F3 N3 => ?_
      generalize kRun (ltR (lexRk xss)) (PySem.W.kas_sort xss.length) = oo at o1 o2 hin N3
      rw [pick_out hin] at N3
      have hol : oo.toList.length = xss.length := by rw [o1.length_eq, List.length_range]
      obtain ⟨hDn, J⟩ := I.layK (t' := tk) F.ns F3 N3 hD (refs_vals (oo.toList.map fun i => ps.getD i 0)) (le_line (by rw [List.length_map, List.length_map]; omega))
      refine ⟨.ref D, _, J, rfl, q D _ _ (tu_pick hU hin) ?_ o2 hDn⟩
      have := o1.map fun i => xss.getD i []
      rw [range_getD] at this
      exact this
  · have nD := N' _ List.mem_cons_self
    refine sort_small (n := 0) nD.1 (by rw [List.length_map]; omega) ?_
    have up : RowsUp xss := by
      unfold RowsUp
      match xss, hxl with
      | [], _ => exact .nil
      | [x], _ => exact List.pairwise_singleton _ _
      | x :: y :: t, hxl => simp at hxl; omega
    obtain ⟨c, hc3⟩ : ∃ c, (sortedHeap h' D (ps.map Value.ref) (ps.map Value.ref).toArray).get? D = some (seqObj "list" (ps.map Value.ref).toArray c) := sortedHeap_at nD.1
    have old3 : ∀ b, b ≠ D → b < h'.objs.size → (sortedHeap h' D (ps.map Value.ref) (ps.map Value.ref).toArray).get? b = h'.get? b := fun b hb hlt => sortedHeap_old hb hlt
    have F3 : Fr X.base X.env.locals (sortedHeap h' D (ps.map Value.ref) (ps.map Value.ref).toArray) m := by
      refine ⟨?_, fun b o e => ?_, F'.above⟩
      · obtain ⟨o', es, ep', e', rest⟩ := F'.ns
        exact ⟨o', es, ep', by rw [old3 _ (fun z => nD.2.1 z.symm) (Heap.lt_size e')]; exact e', rest⟩
      · have e' := F'.keep b o e
        rw [old3 b (fun z => by rw [z, nD.2.2] at e; cases e) (Heap.lt_size e')]; exact e'
    have N3 : News X.base X.env.locals (sortedHeap h' D (ps.map Value.ref) (ps.map Value.ref).toArray) ((D, { cls := .type "list", data := .seq (ps.map Value.ref).toArray c }) :: allNews X.base s.heap X.env.locals) := fun p hp => by
      rcases List.mem_cons.mp hp with e | hp
      · subst e; exact ⟨hc3, nD.2⟩
      · have := N' p (List.mem_cons_of_mem _ hp)
        exact ⟨by rw [old3 _ (Nat.ne_of_lt (hD p hp)) (Heap.lt_size this.1)]; exact this.1, this.2⟩
    obtain ⟨hDn, J⟩ := I.layK (t' := tk) F.ns F3 N3 hD (refs_vals ps) (le_line (by rw [List.length_map]; omega))
    exact ⟨.ref D, _, J, rfl, q D ps xss hU (.refl _) up hDn⟩
end
end L2
set_option Elab.async false
set_option linter.all false
set_option maxRecDepth 100000
namespace L2
open PySem PySem.Spec PyProof.Rows
inductive Dd where
  | non | bl (b : Bool) | int (i : Int) | str (x : Str) | lst (l : List Dd) | tup (l : List Dd)
mutual
def DAt (K : PySem.W.Frag) (H : Hp) : Dd → V → Prop
  | .non, v => v = .non
  | .bl b, v => v = .bl b
  | .int i, v => v = .int i
  | .str x, v => v = .str x
  | .lst l, v => ∃ (a : Addr) (vs : List V), v = .ref a ∧ SqL K H a vs ∧ DAts K H l vs
  | .tup l, v => ∃ (a : Addr) (vs : List V), v = .ref a ∧ SqT K H a vs ∧ DAts K H l vs
def DAts (K : PySem.W.Frag) (H : Hp) : List Dd → List V → Prop
  | [], vs => vs = []
  | d :: l, vs => ∃ (v : V) (r : List V), vs = v :: r ∧ DAt K H d v ∧ DAts K H l r
end
theorem DAts.length {K : PySem.W.Frag} {H : Hp} : ∀ {l : List Dd} {vs : List V}, DAts K H l vs → vs.length = l.length
  | [], vs, h => by rw [DAts] at h; rw [h]; rfl
  | d :: l, vs, h => by
    rw [DAts] at h
    obtain ⟨v, r, rfl, _, h2⟩ := h
    rw [List.length_cons, List.length_cons, DAts.length h2]
theorem DAts.get {K : PySem.W.Frag} {H : Hp} : ∀ {l : List Dd} {vs : List V} {j : Nat}, DAts K H l vs → j < l.length → ∃ v, vs[j]? = some v ∧ DAt K H (l.getD j .non) v
  | [], vs, j, h, hj => by simp at hj
  | d :: l, vs, j, h, hj => by
    rw [DAts] at h
    obtain ⟨v, r, rfl, h1, h2⟩ := h
    cases j with
    | zero => exact ⟨v, rfl, h1⟩
    | succ j =>
      obtain ⟨v', e, h3⟩ := DAts.get h2 (by simpa using hj)
      exact ⟨v', by simpa using e, by simpa using h3⟩
section
variable {X : Cx} {K : PySem.W.Frag} {pins : List (Addr × Obj)} {σ : St} {H : Hp} {s : Shared}
end
end L2
set_option Elab.async false
set_option linter.all false
set_option maxRecDepth 100000
namespace L2
open PySem PySem.Spec PyProof.Rows
section
variable {X : Cx} {K : PySem.W.Frag}
end
end L2
set_option Elab.async false
set_option linter.all false
set_option maxRecDepth 100000
namespace L2
open PySem
theorem paired_getM {α β : Type} {F : α → β → Prop} : ∀ {l1 : List α} {l2 : List β} {j : Nat} {a : α}, Paired F l1 l2 → l1[j]? = some a → ∃ b, F a b ∧ l2[j]? = some b := by
  intro l1 l2 j a h e
  induction h generalizing j with
  | nil => simp at e
  | cons r t ih =>
    cases j with
    | zero => simp at e; subst e; exact ⟨_, r, rfl⟩
    | succ j => obtain ⟨b, q, e2⟩ := ih (by simpa using e); exact ⟨b, q, by simpa using e2⟩
end L2
set_option Elab.async false
set_option linter.all false
set_option maxRecDepth 100000
namespace L2
open PySem PySem.Spec PyProof.Rows
open PySem.StrLaws (occBody occ_eq subAt_one partsFrom partsBetween_eq strSub_toList)
section
variable {X : Cx} {K : PySem.W.Frag}
end
end L2
set_option Elab.async false
set_option linter.all false
set_option maxRecDepth 100000
namespace L2
open PySem
end L2
set_option Elab.async false
set_option linter.all false
set_option maxRecDepth 100000
namespace L2
open PySem PySem.Spec PyProof.Rows
section
variable {X : Cx} {K : PySem.W.Frag}
end
end L2
set_option Elab.async false
set_option linter.all false
set_option maxRecDepth 100000
namespace L2
open PySem
def neL (L : List (List Int)) : List (List Int) := L.filter fun l => decide (0 < l.length)
section
variable {ws F : List Int} (hw : isWay ws = true) (hH : IsH (arW ws) (crW ws) (fresh 0 ws).toNat F)
include hw hH in
include hw hH in
include hw hH in
include hw hH in
include hw hH in
end
end L2
set_option Elab.async false
set_option linter.all false
set_option maxRecDepth 100000
namespace L2
open PySem PySem.Spec PyProof.Rows
section
variable {prog : Program} {w : World} {A : Around} {E : Value → Shared → Prop} {s : Shared}
end
section
variable {X : Cx} {K : PySem.W.Frag}
end
end L2
set_option Elab.async false
set_option linter.all false
set_option maxRecDepth 100000
namespace L2
open PySem PySem.Spec PyProof.Rows
section
variable {X : Cx}
end
end L2
set_option Elab.async false
set_option linter.all false
set_option maxRecDepth 100000
namespace L2
open PySem PySem.Spec PyProof.Rows
section
variable {X : Cx} {K : PySem.W.Frag}
end
end L2
set_option Elab.async false
set_option linter.all false
set_option maxRecDepth 100000
namespace L2
open PySem PySem.Spec PyProof.Rows
theorem seq_a {te : TE} {i : Nat} {B : TS} {D : Ends} {σ : St} {H : Hp} (h : te σ H fun x H1 => B D (σ.set i (some x)) H1) : tSeq (tAsg te (gName i)) B D σ H := h
theorem seq_by2 {A B : TS} {D : Ends} {σ : St} {H : Hp} (P : St → Hp → Prop) (hA : ∀ N : St → Hp → Prop, (∀ σ H, P σ H → N σ H) → A { D with nx := N } σ H) (hB : ∀ σ H, P σ H → B D σ H) : tSeq A B D σ H := hA _ hB
end L2
set_option Elab.async false
set_option linter.all false
set_option maxRecDepth 100000
namespace L2
open PySem PySem.Spec PyProof.Rows
structure CalM (P : Program) (w : World) (K : PySem.W.Frag) (mg : Str → Option Value) (base : Heap) (C : Addr) (k : Nat) (m : Str) (sp : Sp) : Prop where
  ex : ∃ f fd ps, FnOk P w K mg base CX0 k f fd ps sp ∧ Meth K C m f ∧ Binds K fd ps []
structure CalK (P : Program) (w : World) (K : PySem.W.Frag) (mg : Str → Option Value) (base : Heap) (C : Addr) (k : Nat) (x : Str) (sp : Sp) : Prop where
  ex : ∃ f fd ps, FnOk P w K mg base CX0 k f fd ps sp ∧ Mk K C f ∧ mg x = some (.ref C) ∧ Binds K fd ps []
section
variable {X : Cx} {k : Nat} {C : Addr} {x m : Str} {sp : Sp} {E : XK} {e o : Expr} {es : List Expr} {ta : TE} {t : TA} {p pos apos : Pos}
theorem pe_calM {pl : Sem Bool} (c : CalM X.prog X.w X.K X.mg X.base C k m sp) (cl : Cls X.K C) (hr : Room k X.A) (he : PE X o ta) (ha : PA X (e :: es) t)
    (hst : starEach (e :: es) X.env = (false, eval e X.env) :: starEach es X.env := by rfl) (hpl : (backTo pos (starEach es X.env)).any (·.1) = false := by rfl)
    (ht : eval (.Call (.Attribute o m apos) (e :: es) [] pos) X.env = (do
      let ov ← eval o X.env
      standAt apos.atName
      let (f, first) ← holding [ov] (getMethod ov m pl)
      callWith pos f first (backTo pos (starEach (e :: es) X.env)) (backToKw pos (keywordEach [] X.env))) := by rfl) :
    PE X (.Call (.Attribute o m apos) (e :: es) [] pos) (tMeth C m sp [] E0 ta t) := by
  obtain ⟨f, fd, ps, F, hm, hb⟩ := c.ex
  exact pe_meth (pl := pl) he cl hm F hr hb .nil pass0 ha hst hpl ht
theorem pe_calK (c : CalK X.prog X.w X.K X.mg X.base C k x sp) (hr : Room (k + 1) X.A) (hg : Gl X x) (ha : PA X (e :: es) t) (hdb : (x == ("__debug__" : Str)) = false := by decide)
    (he : starEach (e :: es) X.env = (false, eval e X.env) :: starEach es X.env := by rfl) (hpl : (backTo pos (starEach es X.env)).any (·.1) = false := by rfl) :
    PE X (.Call (.Name x p) (e :: es) [] pos) (tMake C sp [] E0 t) := by
  obtain ⟨f, fd, ps, F, M, hm, hb⟩ := c.ex
  exact pe_make M F hr hg hm hb .nil pass0 ha hdb he hpl
end
end L2
set_option Elab.async false
set_option linter.all false
set_option maxRecDepth 100000
namespace L2
open PySem PySem.Spec PyProof.Rows
section
variable {X : Cx} {K : PySem.W.Frag} {tg : Expr}
end
end L2
set_option Elab.async false
set_option linter.all false
set_option maxRecDepth 100000
namespace L2
open PySem PySem.Spec PyProof.Rows
section
variable {prog : Program} {w : World} {A : Around} {R : Result → Shared → Prop} {I : Addr} {fp wr : List Addr} {G : Array GenState → Array GenState → Prop} {n : Nat} {P : Nat → Value → Prop} {St : Nat → Shared → Prop}
end
section
variable {prog : Program} {w : World} {A : Around} {E : Value → Shared → Prop} {s : Shared}
end
section
variable {X : Cx} {K : PySem.W.Frag}
end
end L2
set_option Elab.async false
set_option linter.all false
set_option maxRecDepth 100000
namespace L2
open PySem PySem.Spec PyProof.Rows
abbrev Wds := List (Str × Int)
def wT (w : Str × Int) : HO := .tup [.str w.1, .int w.2]
def WAt (H : Hp) (as : List Addr) (W : Wds) : Prop := Paired (fun (a : Addr) (w : Str × Int) => H a = some (wT w)) as W
theorem WAt.same {H H' : Hp} {as : List Addr} {W : Wds} (h : WAt H as W) (s : Same H H') : WAt H' as W := L2.Paired.mapP h fun a w e => s a _ e
def letN (c : Nat) : Bool := decide (97 ≤ c) && decide (c ≤ 122)
def isNm (z : Str) : Bool := (decide (1 ≤ (z.length : Int)) && decide ((z.length : Int) ≤ 12)) && z.cps.toList.all letN
def NmL (k : Nat) (c : Int) (S : List Str) : Prop := ∀ j, j < S.length → isNm (S.getD j "") = true ∧ (S.getD j "").cps.toList.getD k 0 = 97 + ((c + 5 * j) % 26).toNat
theorem NmL.snoc {k : Nat} {c : Int} {S : List Str} {z : Str} (h : NmL k c S) (h1 : isNm z = true) (h2 : z.cps.toList.getD k 0 = 97 + ((c + 5 * S.length) % 26).toNat) : NmL k c (S ++ [z]) := by
  intro j hj
  rw [List.length_append, List.length_singleton] at hj
  rw [List.getD_eq_getElem?_getD, List.getElem?_append]
  by_cases e : j < S.length
  · rw [if_pos e, ← List.getD_eq_getElem?_getD]
    exact h j e
  · rw [if_neg e, show j - S.length = 0 by omega, show j = S.length by omega]
    exact ⟨h1, h2⟩
theorem NmL.ok {k : Nat} {c : Int} {S : List Str} (h : NmL k c S) (hl : S.length ≤ 9) : S.Nodup ∧ ∀ z ∈ S, isNm z = true := by
  constructor
  · rw [List.nodup_iff_pairwise_ne, List.pairwise_iff_getElem]
    intro i j hi hj hij e
    have a := (h i hi).2
    have b := (h j hj).2
    have q : ∀ m (hm : m < S.length), S.getD m "" = S[m] := fun m hm => by rw [List.getD_eq_getElem?_getD, List.getElem?_eq_getElem hm]; rfl
    rw [q i hi] at a
    rw [q j hj, ← show S[i] = S[j] from e] at b
    rw [a] at b
    omega
  · intro z hz
    obtain ⟨i, hi, rfl⟩ := List.getElem_of_mem hz
    have := (h i hi).1
    rw [List.getD_eq_getElem?_getD, List.getElem?_eq_getElem hi] at this
    exact this
def stkF (l : Addr) : List (Str × V) := putF "stock" (.ref l) []
def TrayAt (C : Addr) (H : Hp) (p : Addr) (W : Wds) : Prop := ∃ (dx l : Addr) (as : List Addr), H p = some (.ins C dx (stkF l)) ∧ H l = some (.lst (as.map V.ref)) ∧ WAt H as W
theorem TrayAt.same {C : Addr} {H H' : Hp} {p : Addr} {W : Wds} (h : TrayAt C H p W) (s : Same H H') : TrayAt C H' p W := by
  obtain ⟨dx, l, as, h1, h2, h3⟩ := h
  exact ⟨dx, l, as, s _ _ h1, s _ _ h2, h3.same s⟩
end L2
set_option Elab.async false
set_option linter.all false
set_option maxRecDepth 100000
namespace L2
open PySem PySem.Spec PyProof.Rows
section
variable {c : TT} {t u B : TS} {D : Ends} {σ : St} {H H' : Hp}
theorem if_P (b : Bool) (P : Hp → Prop) (hc : ∀ N : Bool → Hp → Prop, (∀ H', P H' → N b H') → c σ H N) (ht : b = true → ∀ H', P H' → t D σ H') (hu : b = false → ∀ H', P H' → u D σ H') : tIfS c t u D σ H := by
  refine hc _ fun H' p => ?_
  cases b
  · exact iteF (hu rfl H' p)
  · exact iteT (ht rfl H' p)
theorem if_N (b : Bool) (P : Hp → Prop) (hc : ∀ N : Bool → Hp → Prop, (∀ H', P H' → N b H') → c σ H N) (ht : b = true → ∀ H', P H' → t D σ H') (hu : b = false → ∀ H', P H' → D.nx σ H') : tIfS c t tNext D σ H := if_P b P hc ht hu
theorem seq_ifN (b : Bool) (P : Hp → Prop) (hc : ∀ N : Bool → Hp → Prop, (∀ H', P H' → N b H') → c σ H N) (ht : b = true → ∀ H', P H' → t { D with nx := B D } σ H') (hu : b = false → ∀ H', P H' → B D σ H') : tSeq (tIfS c t tNext) B D σ H := if_P b P hc ht hu
end
theorem map_take_snoc {α β : Type} {l : List α} {i : Nat} {x : α} (h : l[i]? = some x) (f : α → β) : (l.take (i + 1)).map f = (l.take i).map f ++ [f x] := by rw [take_snoc h, List.map_append]; rfl
theorem paired_getR {α β : Type} {F : α → β → Prop} : ∀ {l1 : List α} {l2 : List β} {j : Nat} {b : β}, Paired F l1 l2 → l2[j]? = some b → ∃ a, F a b ∧ l1[j]? = some a
  | _, _, j, b, .nil, e => by simp at e
  | a :: _, _ :: _, 0, b, .cons r t, e => by simp at e; subst e; exact ⟨a, r, rfl⟩
  | _ :: _, _ :: _, j + 1, b, .cons r t, e => by
    obtain ⟨a, h1, h2⟩ := paired_getR t (show _ = some b by simpa using e)
    exact ⟨a, h1, by simpa using h2⟩
theorem made_same {C : Addr} {H1 H' : Hp} {x dx : Addr} (hx : H1 x = none) (hdx : H1 dx = none) (kp : ∀ b o, upd (upd H1 dx (.own x)) x (.ins C dx []) b = some o → b ≠ x → H' b = some o) : Same H1 H' := fun b o e =>
  kp b o (by rw [upd_ne (ne_of_none e hx), upd_ne (ne_of_none e hdx)]; exact e) (ne_of_none e hx)
theorem made_start {C : Addr} {H1 : Hp} {x dx : Addr} (hx : H1 x = none) (hdx : H1 dx = none) : Same H1 (upd (upd H1 dx (.own x)) x (.ins C dx [])) := fun b o e => by rw [upd_ne (ne_of_none e hx), upd_ne (ne_of_none e hdx)]; exact e
theorem iteDF {c A B : Prop} [Decidable c] (hc : ¬ c) (h : B) : if decide c = true then A else B := by rw [if_neg (fun e => hc (of_decide_eq_true e))]; exact h
theorem atI_nt {rs : List Int} {j : Nat} {r : Int} (h : rs[j]? = some r) : atI (rs.map V.int) (j : Int) = some (V.int r) := atI_nat (by rw [List.getElem?_map, h]; rfl)
theorem atI_intZ {rs : List Int} {i : Int} {j : Nat} {r : Int} (e : i = (j : Int)) (h : rs[j]? = some r) : atI (rs.map V.int) i = some (V.int r) := by rw [e]; exact atI_nt h
theorem lim_ok {ls : List Int} (h : ls.all (fun l => decide (0 < l) && decide (l.natAbs.log2 < 9000)) = true) : ∀ l ∈ ls, LimOk l := fun l hl => by
  have := List.all_eq_true.mp h l hl
  rw [Bool.and_eq_true, decide_eq_true_iff, decide_eq_true_iff] at this
  exact this
theorem seq_l {wi : TI} {M : List (Option Nat)} {g : TG} {tc : TT} {te : TE} {i : Nat} {B : TS} {D : Ends} {σ : St} {H : Hp} (h : tLc wi M g tc te σ H fun ys H' => ∀ p, H' p = none → B D (σ.set i (some (V.ref p))) (upd H' p (.lst ys))) :
    tSeq (fun D σ H => tLc wi M g tc te σ H fun ys H' => ∀ p, H' p = none → D.nx (σ.set i (some (V.ref p))) (upd H' p (.lst ys))) B D σ H := h
theorem gN {i : Nat} {v : V} {σ : St} {H : Hp} {Q : St → Hp → Prop} (h : Q (σ.set i (some v)) H) : gName i v σ H Q := h
theorem dInt (x y : Int) : decide (V.int x = V.int y) = decide (x = y) := decide_eq_decide.mpr ⟨fun e => V.int.inj e, fun e => congrArg V.int e⟩
theorem bF {b : Bool} (h : ¬ b = true) : b = false := by
  cases b
  · rfl
  · exact absurd rfl h
theorem nT {b : Bool} (h : (!b) = true) : b = false := by
  cases b
  · rfl
  · exact absurd h (by decide)
theorem nF {b : Bool} (h : (!b) = false) : b = true := by
  cases b
  · exact absurd h (by decide)
  · rfl
end L2
set_option Elab.async false
set_option linter.all false
set_option maxRecDepth 100000
namespace L2
open PySem PySem.Spec PyProof.Rows
section
variable {X : Cx} {K : PySem.W.Frag}
end
end L2
namespace L2
open PySem PySem.Spec PyProof.Rows
theorem nrm {B : TS} {D : Ends} {σ σ' : St} {H : Hp} (e : σ = σ') (h : B D σ' H) : B D σ H := e ▸ h
end L2
set_option Elab.async false
set_option linter.all false
set_option maxRecDepth 100000
namespace L2
open PySem PySem.Spec PyProof.Rows
abbrev Hol := List (Option Nat)
def hV : Option Nat → V
  | none => .non
  | some r => .int (r : Int)
def tE (T : List (List Int)) (r c : Nat) : Int := (T.getD r []).getD c 0
def tgt (T : List (List Int)) (R C : List Int) (r c : Nat) : Prop := R.getD r 0 + C.getD c 0 = tE T r c
instance {T R C r c} : Decidable (tgt T R C r c) := by unfold tgt; infer_instance
section
variable {T : List (List Int)} {R C : List Int} {Hd Hd1 : Hol} {S Si : List Nat} {row i h k m : Nat}
structure HInv (T : List (List Int)) (m k : Nat) (R C : List Int) (Hd : Hol) : Prop where
  lT : T.length = m
  lr : ∀ r, r < m → (T.getD r []).length = k
  lR : R.length = m
  lC : C.length = k
  lH : Hd.length = k
  t0 : ∀ r c, 0 ≤ tE T r c
  fe : ∀ r c, r < m → c < k → tE T r c ≤ R.getD r 0 + C.getD c 0
  ti : ∀ c h, Hd[c]? = some (some h) → h < m ∧ tgt T R C h c
  on : ∀ h, Hd.count (some h) ≤ 1
  c0 : ∀ c, 0 ≤ C.getD c 0
  cf : ∀ c : Nat, Hd[c]? = some none → C.getD c 0 = 0
  r0 : ∀ r, 0 ≤ R.getD r 0
def valC (T : List (List Int)) (Hd : Hol) (c : Nat) : Int := match Hd.getD c none with
  | none => 0
  | some r => tE T r c
def rOf (R : List Int) : Option Nat → Int
  | none => 0
  | some r => R.getD r 0
theorem sum_cnt (f : Nat → Int) : ∀ (Hd : Hol) (m : Nat), (∀ h, some h ∈ Hd → h < m) → (Hd.map fun o : Option Nat => match o with | none => 0 | some r => f r).sum = ((List.range m).map fun r => f r * (Hd.count (some r) : Int)).sum
  | [], m, _ => by
    have : ∀ l : List Nat, (l.map fun r => f r * (([] : Hol).count (some r) : Int)).sum = 0 := fun l => by
      induction l with
      | nil => rfl
      | cons a l ih => rw [List.map_cons, List.sum_cons, ih]; simp
    rw [this]; rfl
  | o :: Hd, m, h => by
    have ih := sum_cnt f Hd m (fun x hx => h x (List.mem_cons_of_mem _ hx))
    rw [List.map_cons, List.sum_cons, ih]
    cases o with
    | none =>
      have : ∀ r, (none :: Hd).count (some r) = Hd.count (some r) := fun r => by rw [List.count_cons_of_ne (by simp)]
      simp only [this]
      omega
    | some x =>
      have hx : x < m := h x List.mem_cons_self
      have key : ∀ n, ((List.range n).map fun r => f r * ((some x :: Hd).count (some r) : Int)).sum = (if x < n then f x else 0) + ((List.range n).map fun r => f r * (Hd.count (some r) : Int)).sum := fun n => by
        induction n with
        | zero => rfl
        | succ n ihn =>
          rw [List.range_succ, List.map_append, List.map_append, List.sum_append, List.sum_append, ihn]
          simp only [List.map_cons, List.map_nil, List.sum_cons, List.sum_nil]
          by_cases e : x = n
          · rw [e, List.count_cons_self, if_neg (Nat.lt_irrefl _), if_pos (Nat.lt_succ_self _)]
            rw [show ((Hd.count (some n) + 1 : Nat) : Int) = (Hd.count (some n) : Int) + 1 by omega, Int.mul_add]; omega
          · rw [List.count_cons_of_ne (by simpa using e)]
            by_cases e2 : x < n
            · rw [if_pos e2, if_pos (by omega)]; omega
            · rw [if_neg e2, if_neg (by omega)]; omega
      rw [key m, if_pos hx]
theorem sum_range_getD (R : List Int) : ((List.range R.length).map fun r => R.getD r 0).sum = R.sum := by
  have : (List.range R.length).map (fun r => R.getD r 0) = R := by
    refine List.ext_getElem (by simp) fun i h1 h2 => ?_
    simp at h1 ⊢
    rw [List.getElem?_eq_getElem h1]; rfl
  rw [this]
theorem sum_map_add (f g : Nat → Int) : ∀ l : List Nat, (l.map fun c => f c + g c).sum = (l.map f).sum + (l.map g).sum
  | [] => rfl
  | a :: l => by rw [List.map_cons, List.sum_cons, sum_map_add f g l, List.map_cons, List.map_cons, List.sum_cons, List.sum_cons]; omega
theorem sum_congr {f g : Nat → Int} : ∀ {l : List Nat}, (∀ c ∈ l, f c = g c) → (l.map f).sum = (l.map g).sum
  | [], _ => rfl
  | a :: l, h => by rw [List.map_cons, List.sum_cons, List.map_cons, List.sum_cons, h a List.mem_cons_self, sum_congr fun c hc => h c (List.mem_cons_of_mem _ hc)]
theorem HInv.sum (I : HInv T m k R C Hd) (all : ∀ h, h < m → Hd.count (some h) = 1) : ((List.range k).map (valC T Hd)).sum = R.sum + C.sum := by
  have e1 : ((List.range k).map (valC T Hd)).sum = ((List.range k).map fun c => rOf R (Hd.getD c none) + C.getD c 0).sum := sum_congr fun c hc => by
    have hl : c < Hd.length := by rw [I.lH]; exact List.mem_range.mp hc
    unfold valC
    cases e : Hd.getD c none with
    | none => rw [I.cf c (by rw [List.getElem?_eq_getElem hl]; rw [List.getD_eq_getElem?_getD, List.getElem?_eq_getElem hl] at e; exact congrArg some e)]; rfl
    | some r =>
      have := (I.ti c r (by rw [List.getElem?_eq_getElem hl]; rw [List.getD_eq_getElem?_getD, List.getElem?_eq_getElem hl] at e; exact congrArg some e)).2
      exact this.symm
  rw [e1, sum_map_add, ← I.lC, sum_range_getD]
  have e2 : ((List.range C.length).map fun c => rOf R (Hd.getD c none)).sum = (Hd.map (rOf R)).sum := by
    rw [I.lC, ← I.lH]
    have : (List.range Hd.length).map (fun c => rOf R (Hd.getD c none)) = Hd.map (rOf R) := by
      refine List.ext_getElem (by simp) fun i h1 h2 => ?_
      simp at h1 ⊢
      rw [List.getElem?_eq_getElem h1]; rfl
    rw [this]
  rw [e2]
  have e3 := sum_cnt (fun r => R.getD r 0) Hd m (fun x hx => by
    obtain ⟨j, hj, ej⟩ := List.getElem_of_mem hx
    exact (I.ti j x (by rw [List.getElem?_eq_getElem hj, ej])).1)
  have e4 : (Hd.map (rOf R)) = Hd.map fun o : Option Nat => match o with | none => 0 | some r => R.getD r 0 := List.map_congr_left fun o _ => by cases o <;> rfl
  rw [e4, e3]
  have e5 : ((List.range m).map fun r => R.getD r 0 * (Hd.count (some r) : Int)).sum = ((List.range m).map fun r => R.getD r 0).sum := sum_congr fun r hr => by
    rw [all r (List.mem_range.mp hr)]; simp
  rw [e5, ← I.lR, sum_range_getD]
end
end L2
set_option Elab.async false
set_option linter.all false
set_option maxRecDepth 100000
namespace L2
open PySem PySem.Spec PyProof.Rows
section
variable {X : Cx} {K : PySem.W.Frag}
theorem get_list (h : X.K = K := by rfl) : PGet X (fun x y H Q => ∃ p xs i v, x = .ref p ∧ y = .int i ∧ 0 ≤ i ∧ SqL K H p xs ∧ atI xs i = some v ∧ Q v H) := by
  subst h
  intro pins s σ H o i ov iv Q I ro ri h
  obtain ⟨p, xs, i, z, rfl, rfl, h0, hq, he, q⟩ := h
  cases ro
  obtain ⟨t, rfl⟩ := ri
  obtain ⟨its, r, pl, hz⟩ := I.list hq
  obtain ⟨j, h1, h2, h3, h4, h5⟩ := atI_get he
  obtain ⟨w, ew, rw'⟩ := r.get h2
  have hl := r.length
  have hn := line63
  have hj : i.toNat = j := by
    rw [seqIndex_of h0 h5] at h1
    exact Option.some.inj h1
  exact wpAny_getItem_list pl.isList h0 (by omega) (by rw [hj]; simpa using ew) ⟨z, H, I, rw', q⟩
end
def pF (t rp cp hd : Addr) : List (Str × V) := putF "holders" (.ref hd) (putF "column_prices" (.ref cp) (putF "row_prices" (.ref rp) (putF "table" (.ref t) [])))
structure PrAt (C : Addr) (H : Hp) (p dx t rp cp hd : Addr) (ts : List Addr) (T : List (List Int)) (R Cc : List Int) (Hd : Hol) : Prop where
  ob : H p = some (.ins C dx (pF t rp cp hd))
  ht : H t = some (.lst (ts.map V.ref))
  hr : LhAt H ts T
  hR : H rp = some (.lst (R.map V.int))
  hC : H cp = some (.lst (Cc.map V.int))
  hH : H hd = some (.lst (Hd.map hV))
  n1 : rp ≠ cp ∧ rp ≠ hd ∧ cp ≠ hd
  n2 : t ≠ rp ∧ t ≠ cp ∧ t ≠ hd
  n3 : ∀ a ∈ ts, a ≠ rp ∧ a ≠ cp ∧ a ≠ hd
theorem lh_put {H : Hp} {g : Addr} {o : HO} : ∀ {ts : List Addr} {T : List (List Int)}, LhAt H ts T → (∀ a ∈ ts, a ≠ g) → LhAt (upd H g o) ts T
  | _, _, .nil, _ => .nil
  | a :: ts, r :: T, .cons e t, h => .cons (by rw [upd_ne (h a List.mem_cons_self)]; exact e) (lh_put t fun b hb => h b (List.mem_cons_of_mem _ hb))
theorem LhAt.sameH {H H' : Hp} {ts : List Addr} {T : List (List Int)} (h : LhAt H ts T) (s : Same H H') : LhAt H' ts T := L2.Paired.mapP h fun a r e => s a _ e
section
variable {C : Addr} {H H' : Hp} {p dx t rp cp hd g : Addr} {ts : List Addr} {T : List (List Int)} {R Cc R' : List Int} {Hd Hd' : Hol}
theorem PrAt.same (h : PrAt C H p dx t rp cp hd ts T R Cc Hd) (s : Same H H') : PrAt C H' p dx t rp cp hd ts T R Cc Hd := ⟨s _ _ h.ob, s _ _ h.ht, h.hr.sameH s, s _ _ h.hR, s _ _ h.hC, s _ _ h.hH, h.n1, h.n2, h.n3⟩
theorem ins_ne {fs : List (Str × V)} {xs : List V} {q : Addr} (h1 : H p = some (.ins C dx fs)) (h2 : H q = some (.lst xs)) : p ≠ q := ne_of h1 h2 (by intro z; cases z)
theorem PrAt.put {o : HO} {xs : List V} (h : PrAt C H p dx t rp cp hd ts T R Cc Hd) (hg : H g = some (.lst xs)) (ng : t ≠ g ∧ rp ≠ g ∧ cp ≠ g ∧ hd ≠ g ∧ ∀ a ∈ ts, a ≠ g) : PrAt C (upd H g o) p dx t rp cp hd ts T R Cc Hd :=
  ⟨by rw [upd_ne (ins_ne h.ob hg)]; exact h.ob, by rw [upd_ne ng.1]; exact h.ht, lh_put h.hr ng.2.2.2.2, by rw [upd_ne ng.2.1]; exact h.hR, by rw [upd_ne ng.2.2.1]; exact h.hC, by rw [upd_ne ng.2.2.2.1]; exact h.hH, h.n1, h.n2, h.n3⟩
theorem PrAt.apart (h : PrAt C H p dx t rp cp hd ts T R Cc Hd) (hg : H g = none) : t ≠ g ∧ rp ≠ g ∧ cp ≠ g ∧ hd ≠ g ∧ ∀ a ∈ ts, a ≠ g :=
  ⟨ne_of_none h.ht hg, ne_of_none h.hR hg, ne_of_none h.hC hg, ne_of_none h.hH hg, fun a ha => by
    obtain ⟨j, hj, e⟩ := List.getElem_of_mem ha
    obtain ⟨r, hr, _⟩ := paired_getM h.hr (List.getElem?_eq_getElem hj)
    rw [e] at hr
    exact ne_of_none hr hg⟩
end
theorem getD_at {R : List Int} {i : Nat} (h : i < R.length) : R[i]? = some (R.getD i 0) := by rw [List.getD_eq_getElem?_getD, List.getElem?_eq_getElem h]; rfl
theorem mem_gD {l : List Int} {c : Nat} (h : c < l.length) : l.getD c 0 ∈ l := by rw [List.getD_eq_getElem?_getD, List.getElem?_eq_getElem h]; exact List.getElem_mem h
end L2
namespace L2
open PySem PySem.Spec PyProof.Rows
section
variable {C : Addr} {H H' : Hp} {p dx t rp cp hd rc : Addr} {ts : List Addr} {T : List (List Int)} {R Cc : List Int} {Hd Hd' : Hol}
end
structure SzOk (T : List (List Int)) (R Cc : List Int) (Hd : Hol) (k : Nat) : Prop where
  lr : ∀ r, r < T.length → (T.getD r []).length = k
  lR : R.length = T.length
  lC : Cc.length = k
  lH : Hd.length = k
  ho : ∀ (c h : Nat), Hd[c]? = some (some h) → h < T.length
  k9 : k ≤ 9
theorem HInv.sz {T : List (List Int)} {m k : Nat} {R C : List Int} {Hd : Hol} (I : HInv T m k R C Hd) (h : k ≤ 9) : SzOk T R C Hd k := ⟨fun r hr => I.lr r (by rw [← I.lT]; exact hr), by rw [I.lR, I.lT], I.lC, I.lH, fun c x e => by rw [I.lT]; exact (I.ti c x e).1, h⟩
end L2
set_option Elab.async false
set_option linter.all false
set_option maxRecDepth 100000
namespace L2
open PySem PySem.Spec PyProof.Rows
structure KeptOk (tab : List (List Int)) (m cols : Nat) (tot : Int) (yss : List (List Int)) (R C : List Int) : Prop where
  lR : R.length = m
  lC : C.length = cols
  r0 : ∀ x ∈ R, 0 ≤ x
  c0 : ∀ x ∈ C, 0 ≤ x
  pr : ∀ y ∈ yss, ∃ r c : Nat, y = [(r : Int), (c : Int)] ∧ r < m ∧ c < cols
  n1 : (yss.map fun y => y.getD 0 0).Nodup
  n2 : (yss.map fun y => y.getD 1 0).Nodup
  fe : ∀ r c, r < m → c < cols → tE tab r c ≤ R.getD r 0 + C.getD c 0
  s1 : tot = (yss.map fun y => tE tab (y.getD 0 0).toNat (y.getD 1 0).toNat).sum
  s2 : tot = R.sum + C.sum
theorem perm_sum {l1 l2 : List Int} (h : l1.Perm l2) : l1.sum = l2.sum := by
  induction h with
  | nil => rfl
  | cons x _ ih => rw [List.sum_cons, List.sum_cons, ih]
  | swap x y l => rw [List.sum_cons, List.sum_cons, List.sum_cons, List.sum_cons]; omega
  | trans _ _ ih1 ih2 => rw [ih1, ih2]
theorem KeptOk.perm {tab : List (List Int)} {m cols : Nat} {tot : Int} {xss yss : List (List Int)} {R C : List Int} (h : KeptOk tab m cols tot xss R C) (p : yss.Perm xss) : KeptOk tab m cols tot yss R C :=
  ⟨h.lR, h.lC, h.r0, h.c0, fun y hy => h.pr y (p.mem_iff.mp hy), ((p.map _).nodup_iff).mpr h.n1, ((p.map _).nodup_iff).mpr h.n2, h.fe, by rw [h.s1]; exact (perm_sum (p.map _)).symm, h.s2⟩
end L2
namespace L2
open PySem PySem.Spec PyProof.Rows
theorem pairs_le {R C : List Int} : ∀ {qs : List (Nat × Nat)} {f : Nat → Nat → Int}, (∀ r, 0 ≤ R.getD r 0) → (∀ c, 0 ≤ C.getD c 0) → (∀ q ∈ qs, q.1 < R.length ∧ q.2 < C.length ∧ f q.1 q.2 ≤ R.getD q.1 0 + C.getD q.2 0) → (qs.map (·.1)).Nodup → (qs.map (·.2)).Nodup →
    (qs.map fun q => f q.1 q.2).sum ≤ R.sum + C.sum := by
  intro qs f r0 c0 h n1 n2
  have key : ∀ (R : List Int) (l : List Nat), (∀ r, 0 ≤ R.getD r 0) → l.Nodup → (∀ x ∈ l, x < R.length) → (l.map fun x => R.getD x 0).sum ≤ R.sum := by
    intro R
    induction R with
    | nil =>
      intro l _ _ hl
      cases l with
      | nil => exact Int.le_refl _
      | cons a l => exact absurd (hl a List.mem_cons_self) (by simp)
    | cons a R ih =>
      intro l h0 nd hl
      have h0' : ∀ r, 0 ≤ R.getD r 0 := fun r => by have := h0 (r + 1); simpa using this
      have a0 : 0 ≤ a := by have := h0 0; simpa using this
      have hsp : ∀ l : List Nat, l.Nodup → (l.map fun x => (a :: R).getD x 0).sum ≤ a * ((l.filter (· == 0)).length : Int) + ((l.filter (· != 0)).map fun x => R.getD (x - 1) 0).sum := by
        intro l
        induction l with
        | nil => intro _; simp
        | cons x l ihl =>
          intro nd
          have := ihl (List.nodup_cons.mp nd).2
          rw [List.map_cons, List.sum_cons]
          cases x with
          | zero =>
            simp only [List.filter_cons]
            simp only [beq_self_eq_true, if_true, bne_self_eq_false, Bool.false_eq_true, if_false, List.length_cons]
            rw [show (((l.filter (· == 0)).length + 1 : Nat) : Int) = ((l.filter (· == 0)).length : Int) + 1 by omega, Int.mul_add]
            have e : (a :: R).getD 0 0 = a := by simp
            omega
          | succ x =>
            simp only [List.filter_cons]
            have e1 : (x + 1 == 0) = false := by simp
            have e2 : (x + 1 != 0) = true := by simp
            rw [e1, e2]
            simp only [Bool.false_eq_true, if_false, if_true, List.map_cons, List.sum_cons]
            have e : (a :: R).getD (x + 1) 0 = R.getD (x + 1 - 1) 0 := by simp
            omega
      have h1 := hsp l nd
      have c1 : ((l.filter (· == 0)).length : Int) ≤ 1 := by
        have : (l.filter (· == 0)).length = l.count 0 := by rw [List.count_eq_length_filter]
        rw [this, nd.count]
        split <;> decide
      have h2 := ih ((l.filter (· != 0)).map (· - 1)) h0' (by
        rw [List.nodup_iff_pairwise_ne, List.pairwise_map]
        refine List.Pairwise.imp_of_mem (fun {x y} hx hy hxy e => ?_) (List.nodup_iff_pairwise_ne.mp (nd.filter _))
        have hx := (List.mem_filter.mp hx).2
        have hy := (List.mem_filter.mp hy).2
        simp at hx hy
        exact hxy (by omega)) (fun x hx => by
        obtain ⟨y, hy, rfl⟩ := List.mem_map.mp hx
        obtain ⟨hy1, hy2⟩ := List.mem_filter.mp hy
        have := hl y hy1
        simp at hy2 this
        omega)
      rw [List.map_map] at h2
      have h2 : ((l.filter (· != 0)).map fun x => R.getD (x - 1) 0).sum ≤ R.sum := h2
      rw [List.sum_cons]
      have : a * ((l.filter (· == 0)).length : Int) ≤ a * 1 := Int.mul_le_mul_of_nonneg_left c1 a0
      omega
  have h1 := key R (qs.map (·.1)) r0 n1 (fun x hx => by obtain ⟨q, hq, rfl⟩ := List.mem_map.mp hx; exact (h q hq).1)
  have h2 := key C (qs.map (·.2)) c0 n2 (fun x hx => by obtain ⟨q, hq, rfl⟩ := List.mem_map.mp hx; exact (h q hq).2.1)
  rw [List.map_map] at h1 h2
  have h3 : ∀ {qs : List (Nat × Nat)}, (∀ q ∈ qs, f q.1 q.2 ≤ R.getD q.1 0 + C.getD q.2 0) → (qs.map fun q => f q.1 q.2).sum ≤ (qs.map ((fun x => R.getD x 0) ∘ fun q : Nat × Nat => q.1)).sum + (qs.map ((fun x => C.getD x 0) ∘ fun q : Nat × Nat => q.2)).sum := by
    intro qs
    induction qs with
    | nil => intro _; exact Int.le_refl _
    | cons q qs ih =>
      intro h
      have := ih fun x hx => h x (List.mem_cons_of_mem _ hx)
      have hq := h q List.mem_cons_self
      rw [List.map_cons, List.map_cons, List.map_cons, List.sum_cons, List.sum_cons, List.sum_cons]
      simp only [Function.comp] at this ⊢
      omega
  have := h3 fun q hq => (h q hq).2.2
  omega
theorem getD_nn {l : List Int} (h : ∀ x ∈ l, 0 ≤ x) (r : Nat) : 0 ≤ l.getD r 0 := by
  by_cases hr : r < l.length
  · exact h _ (mem_gD hr)
  · rw [List.getD_eq_getElem?_getD, List.getElem?_eq_none_iff.mpr (by omega)]; exact Int.le_refl _
section
variable {tab : List (List Int)} {m cols : Nat} {tot tot' : Int} {yss yss' : List (List Int)} {R C R' C' : List Int}
theorem KeptOk.most (K : KeptOk tab m cols tot yss R C) {qs : List (Nat × Nat)} (h : ∀ q ∈ qs, q.1 < m ∧ q.2 < cols) (n1 : (qs.map (·.1)).Nodup) (n2 : (qs.map (·.2)).Nodup) : (qs.map fun q => tE tab q.1 q.2).sum ≤ tot := by
  rw [K.s2]
  exact pairs_le (getD_nn K.r0) (getD_nn K.c0) (fun q hq => ⟨by rw [K.lR]; exact (h q hq).1, by rw [K.lC]; exact (h q hq).2, K.fe q.1 q.2 (h q hq).1 (h q hq).2⟩) n1 n2
end
end L2
namespace L2
open PySem PySem.Spec PyProof.Rows
end L2
set_option Elab.async false
set_option linter.all false
set_option maxRecDepth 100000
namespace L2
open PySem PySem.Spec PyProof.Rows
def Pat (ws us : List Int) (J : List Nat) : Prop := ∀ i ∈ J, ∀ j ∈ J, ws.getD i 0 = ws.getD j 0 ↔ us.getD i 0 = us.getD j 0
section
variable {ws us vs : List Int} {tot tot' tot2 : Int} {yss yss' yss2 : List (List Int)} {R C R' C' R2 C2 : List Int}
theorem Pat.symm {J : List Nat} (h : Pat ws us J) : Pat us ws J := fun i hi j hj => (h i hi j hj).symm
end
section
variable {X : Cx}
end
end L2
namespace L2
open PySem PySem.Spec PyProof.Rows
section
variable {ws us vs : List Int} {tot tot' tot2 : Int} {yss yss' yss2 : List (List Int)} {R C R' C' R2 C2 : List Int}
end
end L2
set_option Elab.async false
set_option linter.all false
set_option maxRecDepth 100000
namespace PySem
open Sem (wp)
section
variable {prog : Program} {w : World} {A : Around} {R : Result → Shared → Prop} {I : Addr} {fp wr : List Addr} {n : Nat} {P : Nat → Value → Prop} {St : Nat → Heap → Prop} {d : Value}
theorem codeAny_maxD (W : Walks prog w A.in1 I fp wr n P St) (bt : Nat → Nat → Bool) (hcmp : CmpOf prog w A.in1 .Gt P bt) (S : Addr) (hSf : S ∉ fp) :
    ∀ (k j : Nat) (s : Shared) (vb : Value) (c : Nat), n - (j + 1) = k → j + 1 ≤ n → St (j + 1) s.heap → P (argBest bt j) vb →
    s.heap.get? S = some { cls := .type "list", dict := none, data := .seq #[vb, vb] c, slots := #[] } →
    (∀ v h' tk, P (argBest bt (n - 1)) v → (∀ b o, b ∉ wr → b ≠ S → s.heap.get? b = some o → h'.get? b = some o) → R (.ok (.ret v)) { s with heap := h', toks := tk }) →
    codeAny (model prog w) A (.builtin "max.loop" ⟨[.ref I, .none, .ref S], [("default", d)]⟩) R s := by
  have hSw : S ∉ wr := fun h => hSf (W.sub _ h)
  have hname : (toString "max" ++ toString ".loop" : String) = "max.loop" := by decide
  intro k
  induction k with
  | zero =>
    intro j s vb c hk hj hst hPb hS hR
    have hin : j + 1 = n := by omega
    refine codeAny_builtin F.entry_max_loop ?_
    rw [Around.under_plainId F.plain_max_loop _]
    show wpAny _ A.in1 (seqItems? (.ref S) >>= _) _ _ s
    refine wpAny_bind (wpAny_seqItems hS rfl ?_)
    show wpAny _ A.in1 (tryCatch (pyNext (.ref I)) _ >>= _) _ _ s
    refine wpAny_bind (wpAny_tryCatch (W.done s _ _ (hin ▸ hst) fun h' tk hk' => ?_))
    have hS' := hk' S _ hSw hS
    show wpAny _ A.in1 (updateSeq S (fun _ => #[]) >>= _) _ _ _
    refine wpAny_bind ?_
    refine wpAny_updateSeq hS' rfl (wpAny_bind (wpAny_letGo (wpAny_pure ?_)))
    refine hR vb _ tk (by rw [← hin]; exact hPb) fun b o hbw hbS e => (Heap.get?_update_other _ _ (Ne.symm hbS)).trans (hk' b o hbw e)
  | succ k ih =>
    intro j s vb c hk hj hst hPb hS hR
    have hlt : j + 1 < n := by omega
    refine codeAny_builtin F.entry_max_loop ?_
    rw [Around.under_plainId F.plain_max_loop _]
    show wpAny _ A.in1 (seqItems? (.ref S) >>= _) _ _ s
    refine wpAny_bind (wpAny_seqItems hS rfl ?_)
    show wpAny _ A.in1 (tryCatch (pyNext (.ref I)) _ >>= _) _ _ s
    refine wpAny_bind (wpAny_tryCatch (W.item (j + 1) s _ _ hlt hst fun v h' tk hP hst' hk' => ?_))
    have hS' := hk' S _ hSw hS
    show wpAny _ A.in1 (tryCatch (holding [v, v] (richCompare .Gt v vb >>= _)) _ >>= _) _ _ _
    refine wpAny_bind (wpAny_tryCatch (wpAny_holding (wpAny_bind (hcmp (j + 1) (argBest bt j) v vb _ _ _ hP hPb ?_))))
    refine wpAny_bind (wpAny_holding (wpAny_truthy_bool ?_))
    refine wpAny_bind (wpAny_letGo (wpAny_pure ?_))
    cases hb : bt (j + 1) (argBest bt j) with
    | true =>
      simp only [if_true]
      refine wpAny_bind ?_
      refine wpAny_updateSeq hS' rfl (wpAny_bind (wpAny_letGo ?_))
      rw [hname]
      refine wpAny_pure ⟨plainId_quiet F.plain_max_loop _, ih (j + 1) _ v _ (by omega) hlt (W.frame _ _ _ hst' fun b hbf o e => ?_) (by simp only [argBest, hb, if_true]; exact hP) (Heap.get?_update_self _ hS' rfl)
        fun v' h'' tk'' hP' hk'' => ?_⟩
      · exact (Heap.get?_update_other _ _ (fun h : S = b => hSf (by rw [h]; exact hbf))).trans e
      · exact hR v' h'' tk'' hP' fun b o hbw hbS e => hk'' b o hbw hbS ((Heap.get?_update_other _ _ (Ne.symm hbS)).trans (hk' b o hbw e))
    | false =>
      simp only [Bool.false_eq_true, if_false]
      refine wpAny_bind (wpAny_letGo ?_)
      rw [hname]
      refine wpAny_pure ⟨plainId_quiet F.plain_max_loop _, ih (j + 1) _ vb c (by omega) hlt hst' (by simp only [argBest, hb, Bool.false_eq_true, if_false]; exact hPb) hS' fun v' h'' tk'' hP' hk'' => ?_⟩
      exact hR v' h'' tk'' hP' fun b o hbw hbS e => hk'' b o hbw hbS (hk' b o hbw e)
theorem codeAny_maxD_first (W : Walks prog w A.in1 I fp wr n P St) (bt : Nat → Nat → Bool) (hcmp : CmpOf prog w A.in1 .Gt P bt) (S : Addr) (hSf : S ∉ fp) (hn : 0 < n) {s : Shared} {c : Nat} (hst : St 0 s.heap)
    (hS : s.heap.get? S = some { cls := .type "list", dict := none, data := .seq #[] c, slots := #[] })
    (hR : ∀ v h' tk, P (argBest bt (n - 1)) v → (∀ b o, b ∉ wr → b ≠ S → s.heap.get? b = some o → h'.get? b = some o) → R (.ok (.ret v)) { s with heap := h', toks := tk }) :
    codeAny (model prog w) A (.builtin "max.loop" ⟨[.ref I, .none, .ref S], [("default", d)]⟩) R s := by
  have hSw : S ∉ wr := fun h => hSf (W.sub _ h)
  have hname : (toString "max" ++ toString ".loop" : String) = "max.loop" := by decide
  refine codeAny_builtin F.entry_max_loop ?_
  rw [Around.under_plainId F.plain_max_loop _]
  show wpAny _ A.in1 (seqItems? (.ref S) >>= _) _ _ s
  refine wpAny_bind (wpAny_seqItems hS rfl ?_)
  show wpAny _ A.in1 (tryCatch (pyNext (.ref I)) _ >>= _) _ _ s
  refine wpAny_bind (wpAny_tryCatch (W.item 0 s _ _ hn hst fun v h' tk hP hst' hk' => ?_))
  have hS' := hk' S _ hSw hS
  show wpAny _ A.in1 (updateSeq S (fun _ => #[v, v]) >>= _) _ _ _
  refine wpAny_bind ?_
  refine wpAny_updateSeq hS' rfl ?_
  rw [hname]
  refine wpAny_pure ⟨plainId_quiet F.plain_max_loop _, codeAny_maxD W bt hcmp S hSf _ 0 _ v _ rfl hn (W.frame _ _ _ hst' fun b hbf o e => ?_) hP (Heap.get?_update_self _ hS' rfl) fun v' h'' tk'' hP' hk'' => ?_⟩
  · exact (Heap.get?_update_other _ _ (fun h : S = b => hSf (by rw [h]; exact hbf))).trans e
  · exact hR v' h'' tk'' hP' fun b o hbw hbS e => hk'' b o hbw hbS ((Heap.get?_update_other _ _ (Ne.symm hbS)).trans (hk' b o hbw e))
end
section
variable {prog : Program} {w : World} {A : Around} {R : Result → Shared → Prop} {I : Addr} {fp wr : List Addr} {P : Nat → Value → Prop} {St : Nat → Heap → Prop} {d : Value}
theorem codeAny_maxD_none (W : Walks prog w A.in1 I fp wr 0 P St) (S : Addr) (hSf : S ∉ fp) {s : Shared} {c : Nat} (hst : St 0 s.heap)
    (hS : s.heap.get? S = some { cls := .type "list", dict := none, data := .seq #[] c, slots := #[] })
    (hR : ∀ h' tk, (∀ b o, b ∉ wr → b ≠ S → s.heap.get? b = some o → h'.get? b = some o) → R (.ok (.ret d)) { s with heap := h', toks := tk }) :
    codeAny (model prog w) A (.builtin "max.loop" ⟨[.ref I, .none, .ref S], [("default", d)]⟩) R s := by
  refine codeAny_builtin F.entry_max_loop ?_
  rw [Around.under_plainId F.plain_max_loop _]
  show wpAny _ A.in1 (seqItems? (.ref S) >>= _) _ _ s
  refine wpAny_bind (wpAny_seqItems hS rfl ?_)
  show wpAny _ A.in1 (tryCatch (pyNext (.ref I)) _ >>= _) _ _ s
  refine wpAny_bind (wpAny_tryCatch (W.done s _ _ hst fun h' tk hk' => ?_))
  show wpAny _ A.in1 (do rule _; ret d) _ _ _
  refine wpAny_bind (wpAny_rule (wpAny_pure ?_))
  exact hR h' tk fun b o hbw _ e => hk' b o hbw e
end
section
variable {prog : Program} {w : World} {A : Around} {E : Value → Shared → Prop} {s : Shared} {d : Value}
theorem call_tree_kw {id : String} {b : Builtin} {args : List Value} {kw : List (Str × Value)} {Q : Value → Shared → Prop} (hk : builtinKind id = none) (hp : plainId id = true)
    (hb : entryFor table id = some b) (ha : argsOk id ⟨args, kw⟩)
    (hc : wpAny (model prog w) A.in1 (b ⟨args, kw⟩) (fun fin s' => match fin with
      | .done f => (match (Except.ok f : Result) with | .ok (.ret v) => Q v s' | .ok _ => False | .error e => E e s')
      | .again c' => c'.quiet = true ∧ codeAny (model prog w) A c' (fun r s' => match r with | .ok (.ret v) => Q v s' | .ok _ => False | .error e => E e s') s') E s) :
    wpAny (model prog w) A (call (.builtin id) args kw) Q E s := by
  refine wpAny_call (codeAny_call_builtin hp hb ?_)
  simp only [checkBuiltinCall, hk]
  cases hsig : Manifest.signature? id with
  | none => exact wpAny_pure hc
  | some sig =>
    simp only [argsOk, hsig] at ha
    have h2 : Bind.checkArgs id sig ⟨args, kw⟩ = pure () := ha
    show wpAny _ A.in1 (Bind.checkArgs id sig ⟨args, kw⟩) _ _ s
    rw [h2]; exact wpAny_pure hc
theorem args_maxD (a d : Value) : argsOk "max" ⟨[a], [("default", d)]⟩ := by unfold argsOk; kernel_rfl
theorem call_max_walkD {x : Value} {Q : Value → Shared → Prop}
    (h : wpAny (model prog w) A.in1 (pyIter x) (fun it s₂ => ∃ I fp wr n P St, it = .ref I ∧ Walks prog w A.in1 I fp wr n P St ∧ St 0 s₂.heap ∧ (∀ b ∈ fp, b < s₂.heap.objs.size) ∧
      ((0 < n ∧ ∃ bt, CmpOf prog w A.in1 .Gt P bt ∧ ∀ v h' tk, P (argBest bt (n - 1)) v → (∀ b o, b ∉ wr → s₂.heap.get? b = some o → h'.get? b = some o) → Q v { s₂ with heap := h', toks := tk }) ∨
       (n = 0 ∧ ∀ h' tk, (∀ b o, b ∉ wr → s₂.heap.get? b = some o → h'.get? b = some o) → Q d { s₂ with heap := h', toks := tk }))) E s) :
    wpAny (model prog w) A (call (.builtin "max") [x] [("default", d)]) Q E s := by
  have hname : (toString "max" ++ toString ".loop" : String) = "max.loop" := by decide
  refine call_tree_kw F.kind_max F.plain_max F.entry_max (args_maxD _ _) ?_
  show wpAny _ A.in1 (Builtin.Builtins.bindParams "max" ["key", "default"] 0 ⟨[], [("default", d)]⟩ >>= _) _ _ s
  refine wpAny_bind (wpAny_of_eq (show Builtin.Builtins.bindParams "max" ["key", "default"] 0 ⟨[], [("default", d)]⟩ = pure [none, some d] from by kernel_rfl) ?_)
  refine wpAny_bind (wpAny_pure ?_)
  refine wpAny_bind (wpAny_mono h (fun it s₂ h₂ => ?_) fun _ _ e => e)
  obtain ⟨I, fp, wr, n, P, St, rfl, W, hst, hfp, hh⟩ := h₂
  refine wpAny_bind (wpAny_newObj_type ?_)
  have hSf : s₂.heap.objs.size ∉ fp := fun hm => Nat.lt_irrefl _ (hfp _ hm)
  rw [hname]
  rcases hh with ⟨hn, bt, hcmp, hQ⟩ | ⟨rfl, hQ⟩
  · refine wpAny_pure ⟨plainId_quiet F.plain_max_loop _, codeAny_maxD_first W bt hcmp s₂.heap.objs.size hSf hn (W.frame _ _ _ hst fun b _ o e => Heap.get?_push_of_some _ e) (Heap.get?_push_size _ rfl) fun v h' tk hP hk => ?_⟩
    exact hQ v h' tk hP fun b o hbw e => hk b o hbw (Nat.ne_of_lt (Heap.lt_size e)) (Heap.get?_push_of_some _ e)
  · refine wpAny_pure ⟨plainId_quiet F.plain_max_loop _, codeAny_maxD_none W s₂.heap.objs.size hSf (W.frame _ _ _ hst fun b _ o e => Heap.get?_push_of_some _ e) (Heap.get?_push_size _ rfl) fun h' tk hk => ?_⟩
    exact hQ h' tk fun b o hbw e => hk b o hbw (Nat.ne_of_lt (Heap.lt_size e)) (Heap.get?_push_of_some _ e)
end
end PySem
namespace L2
open PySem PySem.Spec PyProof.Rows
section
variable {X : Cx} {K : PySem.W.Frag}
def rMaxD (K : PySem.W.Frag) : V → V → Hp → VK → Prop := fun x y H Q => ∃ (a : Addr) (ns : List Int) (d : Int), x = .ref a ∧ y = .int d ∧ (SqL K H a (ns.map V.int) ∨ SqT K H a (ns.map V.int)) ∧ (ns = [] → Q (.int d) H) ∧ (ns ≠ [] → ∀ m, IsMax ns m → Q (.int m) H)
theorem call_maxD (hc : X.calm = true) {pins : List (Addr × Obj)} {s : Shared} {σ : St} {H : Hp} {x y : V} {u v : Value} {Q : VK} (I : Inv X pins σ H s) (rx : RelV x u) (ry : RelV y v) (h : rMaxD X.K x y H Q) :
    wpAny (model X.prog X.w) X.A (call (.builtin "max") [u] [("default", v)]) (EP X pins σ Q) X.xe s := by
  obtain ⟨a, ns, d, rfl, rfl, hq, q0, q1⟩ := h
  cases rx
  obtain ⟨td, rfl⟩ := ry
  refine call_max_walkD (seq_walk I (A := X.A.in1) (I.ok.hd hc) hq fun its I' fp wr St' s2 rv W st hfp _ _ _ _ hI => ?_)
  have hlen : its.toArray.size = ns.length := by rw [List.size_toArray, ← rv.length, List.length_map]
  by_cases hne : ns = []
  · refine ⟨_, _, _, _, _, _, rfl, W, st, hfp, .inr ⟨by rw [hlen, hne]; rfl, fun h' tk hk => ?_⟩⟩
    exact ⟨.int d, H, hI h' tk hk, ⟨td, rfl⟩, q0 hne⟩
  · have hpos : 0 < ns.length := List.length_pos_iff.mpr hne
    refine ⟨_, _, _, _, _, _, rfl, W, st, hfp, .inl ⟨by rw [hlen]; exact hpos, _, CmpOf.ints_gt (fun i => ns.getD i 0) (fun i v hv => (vals_int_at rv hv).imp fun t e => e.1), fun v h' tk hP hk => ?_⟩⟩
    obtain ⟨t, rfl, hi⟩ := vals_int_at rv hP
    obtain ⟨h1, h2⟩ := argBest_gt (fun i => ns.getD i 0) (its.toArray.size - 1)
    refine ⟨.int _, H, hI h' tk hk, ⟨t, rfl⟩, q1 hne _ ⟨getD_mem' hi, fun b hb => ?_⟩⟩
    obtain ⟨j, hj, rfl⟩ := mem_getD' hb
    exact h2 j (by omega)
def tMaxD (K : PySem.W.Frag) (t tk : TA) : TE := fun σ H Q => t σ H fun vs H1 => tk σ H1 fun zs H2 => ∃ x y, vs = [x] ∧ zs = [y] ∧ rMaxD K x y H2 Q
theorem pe_maxD {e e2 : Expr} {t tk : TA} {p pos kpos : Pos} (hc : X.calm = true) (hg : Gl X "max") (hm : X.mg "max" = none) (ha : PA X [e] t) (hd : PK X [⟨some "default", e2, kpos⟩] tk) (h : X.K = K := by rfl)
    (he : starEach [e] X.env = [(false, eval e X.env)] := by rfl) :
    PE X (.Call (.Name "max" p) [e] [⟨some "default", e2, kpos⟩] pos) (tMaxD K t tk) := by
  subst h
  intro pins s σ H Q I hh
  refine wpAny_Call_Name_kw (ld_blt I hg hm PyProof.Rows.Boot.«max» ?_ (by decide) (by decide))
  refine PyProof.Rows.callWith_kw (thn (ha pos pins s σ H _ I hh) fun us s1 ⟨vs, H1, I1, r, q⟩ => ?_) (by rw [he]; rfl) (by rw [he]; rfl)
  refine thn (hd pos pins s1 σ H1 _ I1 q) fun ws s2 ⟨zs, H2, I2, rz, q2⟩ => ?_
  obtain ⟨x, y, rfl, rfl, q3⟩ := q2
  obtain ⟨u, rfl, ru⟩ := vals1 r
  obtain ⟨v, rfl, rv⟩ := vals1 rz
  exact call_maxD hc I2 ru rv q3
end
end L2
set_option Elab.async false
set_option linter.all false
set_option maxRecDepth 100000
namespace PySem
open Sem (wp)
open AutoSeq1 (wpAny_loadPart')
section
variable {prog : Program} {w : World} {A : Around} {E : Value → Shared → Prop} {s : Shared}
theorem zip_next_itemM {z TI TO i1 i2 l1 l2 : Addr} {k1 k2 : Nat} {xs ys : Array Value} {x y a b : Value} {Q : Value → Shared → Prop} (D : ZipApart z TI TO i1 i2 l1 l2)
    (hz : IsZip s.heap z TI TO .none) (hTI : IsPair s.heap TI (.ref i1) (.ref i2)) (hTO : IsPair s.heap TO a b)
    (h1 : s.heap.IsListIter i1 l1 k1) (h2 : s.heap.IsTupleIter i2 l2 k2) (hl1 : s.heap.IsList l1 xs) (hl2 : s.heap.IsTuple l2 ys) (hx : xs[k1]? = some x) (hy : ys[k2]? = some y)
    (hQ : ∀ h', IsZip h' z TI TO (rawInt s.heap.objs.size) → IsPair h' TO x y → h'.IsListIter i1 l1 (k1 + 1) → h'.IsTupleIter i2 l2 (k2 + 1) → IsPair h' s.heap.objs.size x y → h'.objs.size = s.heap.objs.size + 1 →
      (∀ c o, c ≠ z → c ≠ TO → c ≠ i1 → c ≠ i2 → s.heap.get? c = some o → h'.get? c = some o) → Q (.ref s.heap.objs.size) { s with heap := h' }) :
    wpAny (model prog w) A (Builtin.«zip.__next__» ⟨[.ref z], []⟩) (fun fin s' => ∃ v, fin = .done (.ret v) ∧ Q v s') E s := by
  show wpAny _ _ (field (.ref z) 2 >>= _) _ _ _
  refine wpAny_bind (wpAny_field hz rfl (x := .bool false) rfl ?_)
  show wpAny _ _ (field (.ref z) 3 >>= _) _ _ _
  refine wpAny_bind (wpAny_field hz rfl (x := .ref TI) rfl ?_)
  refine wpAny_bind (wpAny_seqItems hTI rfl ?_)
  show wpAny _ _ (Builtin.SmallTypes.ownedTupleIsFree (.ref z) >>= _) _ _ _
  refine wpAny_bind ?_
  unfold Builtin.SmallTypes.ownedTupleIsFree
  refine wpAny_bind (wpAny_field hz rfl (x := .none) rfl (wpAny_pure ?_))
  simp only [if_true]
  refine wpAny_bind (wpAny_rule ?_)
  refine wpAny_bind (wpAny_field hz rfl (x := .ref TO) rfl ?_)
  refine wpAny_bind (wpAny_setField_rec hz (by simp) fun h₁ hz₁ hs₁ => ?_)
  replace hz₁ : IsZip h₁ z TI TO .ellipsis := hz₁
  refine wpAny_bind ?_
  simp only [List.zipIdx_cons, List.zipIdx_nil, List.forIn_cons, List.forIn_nil]
  refine wpAny_bind (wpAny_bind (wpAny_onRaise ?_))
  show wpAny _ _ (Builtin.SmallTypes.nextOf (.ref i1) >>= _) _ _ _
  refine wpAny_bind (wpAny_nextOf_list_item (h1.extBut hs₁.extBut D.i1z) (hl1.extBut hs₁.extBut D.l1z) hx fun h₂ h1₂ hs₂ => wpAny_pure ?_)
  have hTO₂ : IsPair h₂ TO a b := hs₂.extBut _ _ D.TOi1 (hs₁.extBut _ _ D.TOz hTO)
  refine wpAny_bind (wpAny_seqItems hTO₂ rfl ?_)
  refine wpAny_bind (wpAny_updateSeq_pair hTO₂ fun h₃ hTO₃ hs₃ => ?_)
  replace hTO₃ : IsPair h₃ TO x b := hTO₃
  refine wpAny_bind (wpAny_letGo (wpAny_pure ?_))
  refine wpAny_bind (wpAny_bind (wpAny_onRaise ?_))
  show wpAny _ _ (Builtin.SmallTypes.nextOf (.ref i2) >>= _) _ _ _
  refine wpAny_bind (wpAny_nextOf_tuple_item (((h2.extBut hs₁.extBut D.i2z).extBut hs₂.extBut D.i12.symm).extBut hs₃.extBut D.TOi2.symm)
    (((hl2.extBut hs₁.extBut D.l2z).extBut hs₂.extBut D.l2i1).extBut hs₃.extBut D.l2TO) hy fun h₄ h2₄ hs₄ => wpAny_pure ?_)
  have hTO₄ : IsPair h₄ TO x b := hs₄.extBut _ _ D.TOi2 hTO₃
  refine wpAny_bind (wpAny_seqItems hTO₄ rfl ?_)
  refine wpAny_bind (wpAny_updateSeq_pair hTO₄ fun h₅ hTO₅ hs₅ => ?_)
  replace hTO₅ : IsPair h₅ TO x y := hTO₅
  refine wpAny_bind (wpAny_letGo (wpAny_pure (wpAny_pure ?_)))
  refine wpAny_bind (wpAny_seqItems hTO₅ rfl ?_)
  refine wpAny_bind (wpAny_newTuple ?_)
  have hsz : h₅.objs.size = s.heap.objs.size := by rw [hs₅.1, hs₄.1, hs₃.1, hs₂.1, hs₁.1]
  have hz₅ : IsZip h₅ z TI TO .ellipsis := hs₅.extBut _ _ D.TOz.symm (hs₄.extBut _ _ D.i2z.symm (hs₃.extBut _ _ D.TOz.symm (hs₂.extBut _ _ D.i1z.symm hz₁)))
  have hk₅ : ∀ c o, c ≠ z → c ≠ TO → c ≠ i1 → c ≠ i2 → s.heap.get? c = some o → h₅.get? c = some o := fun c o c1 c2 c3 c4 e =>
    hs₅.extBut _ _ c2 (hs₄.extBut _ _ c4 (hs₃.extBut _ _ c2 (hs₂.extBut _ _ c3 (hs₁.extBut _ _ c1 e))))
  have h1₅ : h₅.IsListIter i1 l1 (k1 + 1) := ((h1₂.extBut hs₃.extBut D.TOi1.symm).extBut hs₄.extBut D.i12).extBut hs₅.extBut D.TOi1.symm
  have h2₅ : h₅.IsTupleIter i2 l2 (k2 + 1) := h2₄.extBut hs₅.extBut D.TOi2.symm
  have hzlt : z < h₅.objs.size := Heap.lt_size hz₅
  have hTOlt : TO < h₅.objs.size := Heap.lt_size hTO₅
  have hi1lt : i1 < h₅.objs.size := by obtain ⟨_, e, _⟩ := h1₅; exact Heap.lt_size e
  have hi2lt : i2 < h₅.objs.size := by obtain ⟨_, e, _⟩ := h2₅; exact Heap.lt_size e
  show wpAny _ _ (Builtin.SmallTypes.ownedTupleHandOut (.ref z) (.ref h₅.objs.size) >>= _) _ _ _
  refine wpAny_bind ?_
  unfold Builtin.SmallTypes.ownedTupleHandOut
  have hz₆ : IsZip (h₅.push { cls := .type "tuple", data := .seq #[x, y] }) z TI TO .ellipsis := Heap.get?_push_of_some _ hz₅
  refine wpAny_bind (wpAny_setField_rec hz₆ (by simp) fun h₇ hz₇ hs₇ => ?_)
  replace hz₇ : IsZip h₇ z TI TO (rawInt h₅.objs.size) := hz₇
  refine wpAny_setField_rec hz₇ (by simp) fun h₈ hz₈ hs₈ => ?_
  replace hz₈ : IsZip h₈ z TI TO (rawInt h₅.objs.size) := hz₈
  have up : ∀ c o, c ≠ z → h₅.get? c = some o → h₈.get? c = some o := fun c o c1 e => hs₈.extBut _ _ c1 (hs₇.extBut _ _ c1 (Heap.get?_push_of_some _ e))
  have hT₈ : IsPair h₈ h₅.objs.size x y := hs₈.extBut _ _ (Nat.ne_of_gt hzlt) (hs₇.extBut _ _ (Nat.ne_of_gt hzlt) (Heap.get?_push_size _ rfl))
  have hz8 : h₈.objs.size = h₅.objs.size + 1 := by rw [hs₈.1, hs₇.1, Heap.size_push]
  rw [hsz] at hz₈ hT₈ hz8
  refine wpAny_pure ⟨_, rfl, ?_⟩
  show Q (.ref h₅.objs.size) _
  rw [hsz]
  exact hQ h₈ hz₈ (up _ _ D.TOz hTO₅) (h1₅.at fun o e => up _ o D.i1z e) (h2₅.at fun o e => up _ o D.i2z e) hT₈ hz8 fun c o c1 c2 c3 c4 e => up c o c1 (hk₅ c o c1 c2 c3 c4 e)
theorem zip_next_endM {z TI TO i1 i2 l1 l2 : Addr} {k1 k2 : Nat} {xs ys : Array Value} {a b : Value} {Q : Fin → Shared → Prop} (hh : A.handled = none) (D : ZipApart z TI TO i1 i2 l1 l2)
    (hz : IsZip s.heap z TI TO .none) (hTI : IsPair s.heap TI (.ref i1) (.ref i2)) (hTO : IsPair s.heap TO a b)
    (h1 : s.heap.IsListIter i1 l1 k1) (h2 : s.heap.IsTupleIter i2 l2 k2) (hl1 : s.heap.IsList l1 xs) (hl2 : s.heap.IsTuple l2 ys) (hend : xs[k1]? = none ∨ ys[k2]? = none)
    (hE : ∀ h' e, (∀ c o, c ≠ z → c ≠ TO → c ≠ i1 → c ≠ i2 → s.heap.get? c = some o → h'.get? c = some o) → (∃ o, h'.get? e = some o ∧ o.cls = .type "StopIteration") → E (.ref e) { s with heap := h' }) :
    wpAny (model prog w) A (Builtin.«zip.__next__» ⟨[.ref z], []⟩) Q E s := by
  show wpAny _ _ (field (.ref z) 2 >>= _) _ _ _
  refine wpAny_bind (wpAny_field hz rfl (x := .bool false) rfl ?_)
  show wpAny _ _ (field (.ref z) 3 >>= _) _ _ _
  refine wpAny_bind (wpAny_field hz rfl (x := .ref TI) rfl ?_)
  refine wpAny_bind (wpAny_seqItems hTI rfl ?_)
  show wpAny _ _ (Builtin.SmallTypes.ownedTupleIsFree (.ref z) >>= _) _ _ _
  refine wpAny_bind ?_
  unfold Builtin.SmallTypes.ownedTupleIsFree
  refine wpAny_bind (wpAny_field hz rfl (x := .none) rfl (wpAny_pure ?_))
  simp only [if_true]
  refine wpAny_bind (wpAny_rule ?_)
  refine wpAny_bind (wpAny_field hz rfl (x := .ref TO) rfl ?_)
  refine wpAny_bind (wpAny_setField_rec hz (by simp) fun h₁ hz₁ hs₁ => ?_)
  replace hz₁ : IsZip h₁ z TI TO .ellipsis := hz₁
  refine wpAny_bind ?_
  simp only [List.zipIdx_cons, List.zipIdx_nil, List.forIn_cons, List.forIn_nil]
  refine wpAny_bind (wpAny_bind (wpAny_onRaise ?_))
  show wpAny _ _ (Builtin.SmallTypes.nextOf (.ref i1) >>= _) _ _ _
  cases hx : xs[k1]? with
  | none =>
    refine wpAny_bind (wpAny_nextOf_list_end hh (h1.extBut hs₁.extBut D.i1z) (hl1.extBut hs₁.extBut D.l1z) hx fun h₂ e hs₂ he => ?_)
    obtain ⟨oe, hoe, hce⟩ := he
    have hz₂ : IsZip h₂ z TI TO .ellipsis := hs₂ _ _ D.i1z.symm hz₁
    have hez : e ≠ z := fun x => by subst x; rw [hz₂] at hoe; cases hoe; simp at hce
    refine wpAny_setField_rec hz₂ (by simp) fun h₃ _ hs₃ => hE h₃ e (fun c o c1 _ c3 _ x => hs₃.extBut _ _ c1 (hs₂ _ _ c3 (hs₁.extBut _ _ c1 x))) ⟨oe, hs₃.extBut _ _ hez hoe, hce⟩
  | some x =>
    have hy : ys[k2]? = none := by rcases hend with h | h; rw [hx] at h; cases h; exact h
    refine wpAny_bind (wpAny_nextOf_list_item (h1.extBut hs₁.extBut D.i1z) (hl1.extBut hs₁.extBut D.l1z) hx fun h₂ h1₂ hs₂ => wpAny_pure ?_)
    have hTO₂ : IsPair h₂ TO a b := hs₂.extBut _ _ D.TOi1 (hs₁.extBut _ _ D.TOz hTO)
    refine wpAny_bind (wpAny_seqItems hTO₂ rfl ?_)
    refine wpAny_bind (wpAny_updateSeq_pair hTO₂ fun h₃ hTO₃ hs₃ => ?_)
    refine wpAny_bind (wpAny_letGo (wpAny_pure ?_))
    refine wpAny_bind (wpAny_bind (wpAny_onRaise ?_))
    show wpAny _ _ (Builtin.SmallTypes.nextOf (.ref i2) >>= _) _ _ _
    refine wpAny_bind (wpAny_nextOf_tuple_end hh (((h2.extBut hs₁.extBut D.i2z).extBut hs₂.extBut D.i12.symm).extBut hs₃.extBut D.TOi2.symm)
      (((hl2.extBut hs₁.extBut D.l2z).extBut hs₂.extBut D.l2i1).extBut hs₃.extBut D.l2TO) hy fun h₄ e hs₄ he => ?_)
    obtain ⟨oe, hoe, hce⟩ := he
    have hz₄ : IsZip h₄ z TI TO .ellipsis := hs₄ _ _ D.i2z.symm (hs₃.extBut _ _ D.TOz.symm (hs₂.extBut _ _ D.i1z.symm hz₁))
    have hez : e ≠ z := fun x => by subst x; rw [hz₄] at hoe; cases hoe; simp at hce
    refine wpAny_setField_rec hz₄ (by simp) fun h₅ _ hs₅ => hE h₅ e (fun c o c1 c2 c3 c4 x => hs₅.extBut _ _ c1 (hs₄ _ _ c4 (hs₃.extBut _ _ c2 (hs₂.extBut _ _ c3 (hs₁.extBut _ _ c1 x))))) ⟨oe, hs₅.extBut _ _ hez hoe, hce⟩
theorem wpAny_pyNext_zip_itemM {z TI TO i1 i2 l1 l2 : Addr} {k1 k2 : Nat} {xs ys : Array Value} {x y a b : Value} {Q : Option Value → Shared → Prop} (D : ZipApart z TI TO i1 i2 l1 l2)
    (hz : IsZip s.heap z TI TO .none) (hTI : IsPair s.heap TI (.ref i1) (.ref i2)) (hTO : IsPair s.heap TO a b)
    (h1 : s.heap.IsListIter i1 l1 k1) (h2 : s.heap.IsTupleIter i2 l2 k2) (hl1 : s.heap.IsList l1 xs) (hl2 : s.heap.IsTuple l2 ys) (hx : xs[k1]? = some x) (hy : ys[k2]? = some y)
    (hQ : ∀ h', IsZip h' z TI TO (rawInt s.heap.objs.size) → IsPair h' TO x y → h'.IsListIter i1 l1 (k1 + 1) → h'.IsTupleIter i2 l2 (k2 + 1) → IsPair h' s.heap.objs.size x y → h'.objs.size = s.heap.objs.size + 1 →
      (∀ c o, c ≠ z → c ≠ TO → c ≠ i1 → c ≠ i2 → s.heap.get? c = some o → h'.get? c = some o) → Q (some (.ref s.heap.objs.size)) { s with heap := h' }) :
    wpAny (model prog w) A (pyNext (.ref z)) Q E s := by
  have hT : s.TypeIs (.ref z) "zip" := ⟨_, hz, rfl⟩
  unfold pyNext
  exact wpAny_bind (wpAny_attempt (wpAny_callSpecial?_slot (name := Str.ofString "__next__") hT F.slot_zip_next
    (wpAny_call_entry F.slot_zip_next hT F.entry_zip_next
      (zip_next_itemM D hz hTI hTO h1 h2 hl1 hl2 hx hy fun h' a1 a2 a3 a4 a5 a6 a7 => wpAny_pure (hQ h' a1 a2 a3 a4 a5 a6 a7)) (F.args_zip_next_1 _))))
theorem wpAny_pyNext_zip_endM {z TI TO i1 i2 l1 l2 : Addr} {k1 k2 : Nat} {xs ys : Array Value} {a b : Value} {Q : Option Value → Shared → Prop} (hh : A.handled = none) (D : ZipApart z TI TO i1 i2 l1 l2)
    (hz : IsZip s.heap z TI TO .none) (hTI : IsPair s.heap TI (.ref i1) (.ref i2)) (hTO : IsPair s.heap TO a b)
    (h1 : s.heap.IsListIter i1 l1 k1) (h2 : s.heap.IsTupleIter i2 l2 k2) (hl1 : s.heap.IsList l1 xs) (hl2 : s.heap.IsTuple l2 ys) (hend : xs[k1]? = none ∨ ys[k2]? = none)
    (hQ : ∀ h', (∀ c o, c ≠ z → c ≠ TO → c ≠ i1 → c ≠ i2 → s.heap.get? c = some o → h'.get? c = some o) → Q none { s with heap := h' }) : wpAny (model prog w) A (pyNext (.ref z)) Q E s := by
  have hT : s.TypeIs (.ref z) "zip" := ⟨_, hz, rfl⟩
  unfold pyNext
  refine wpAny_bind (wpAny_attempt (wpAny_callSpecial?_slot (name := Str.ofString "__next__") hT F.slot_zip_next
    (wpAny_call_entry F.slot_zip_next hT F.entry_zip_next (zip_next_endM hh D hz hTI hTO h1 h2 hl1 hl2 hend fun h' e hk he => ?_) (F.args_zip_next_1 _))))
  obtain ⟨o, ho, hc⟩ := he
  refine wpAny_bind (wpAny_isInstance (T := "StopIteration") (b := true) ⟨o, ho, hc⟩ isSubtype_stop ?_)
  exact wpAny_pure (hQ _ hk)
end
abbrev zipM1 (h : Heap) (l1 : Addr) : Heap := h.push { cls := .type "list_iterator", data := .fields #[.ref l1, .int 0 0] }
abbrev zipM2 (h : Heap) (l1 l2 : Addr) : Heap := (zipM1 h l1).push { cls := .type "tuple_iterator", data := .fields #[.ref l2, .int 0 0] }
abbrev zipM3 (h : Heap) (l1 l2 : Addr) : Heap := (zipM2 h l1 l2).push { cls := .type "tuple", data := .seq #[.ref h.objs.size, .ref (zipM1 h l1).objs.size] }
abbrev zipM4 (h : Heap) (l1 l2 : Addr) : Heap := (zipM3 h l1 l2).push { cls := .type "tuple", data := .seq #[.none, .none] }
abbrev zipM5 (h : Heap) (l1 l2 : Addr) : Heap := (zipM4 h l1 l2).push { cls := .type "zip", data := .fields #[.none, .bool false, .bool false, .ref (zipM2 h l1 l2).objs.size, .ref (zipM3 h l1 l2).objs.size] }
theorem meets_zip_newM (l1 l2 : Addr) (xs ys : Array Value) :
    Meets (Builtin.«zip.__new__» ⟨[.type "zip", .ref l1, .ref l2], []⟩) (fun _ R s => s.heap.IsList l1 xs ∧ s.heap.IsTuple l2 ys ∧
      R (.ok (.ret (.ref (zipM4 s.heap l1 l2).objs.size))) { s with heap := zipM5 s.heap l1 l2 }) :=
  .of_wp fun prog w A R s h => by
    obtain ⟨hp, g, d, tk, os⟩ := s; obtain ⟨hl1, hl2, h⟩ := h
    have hsub := sub_zip
    have hL1 : Heap.IsList (Shared.heap ⟨hp, g, d, tk, os⟩) l1 xs := hl1
    have hL2 : Heap.IsTuple (Shared.heap ⟨hp.push { cls := .type "list_iterator", data := .fields #[.ref l1, .int 0 0] }, g, d, tk, os⟩) l2 ys := Heap.IsTuple.push hl2 _
    wp_walk using wpAny_pyIter_list hL1, wpAny_pyIter_tuple hL2
    exact ⟨_, rfl, h⟩
section
variable {prog : Program} {w : World} {A : Around} {E : Value → Shared → Prop} {s : Shared}
theorem call_zip_2M {l1 l2 : Addr} {xs ys : Array Value} {Q : Value → Shared → Prop} (hl1 : s.heap.IsList l1 xs) (hl2 : s.heap.IsTuple l2 ys)
    (h : ∀ h', IsZip h' (s.heap.objs.size + 4) (s.heap.objs.size + 2) (s.heap.objs.size + 3) .none → IsPair h' (s.heap.objs.size + 2) (.ref s.heap.objs.size) (.ref (s.heap.objs.size + 1)) →
      IsPair h' (s.heap.objs.size + 3) .none .none → h'.IsListIter s.heap.objs.size l1 0 → h'.IsTupleIter (s.heap.objs.size + 1) l2 0 → h'.objs.size = s.heap.objs.size + 5 →
      (∀ c o, s.heap.get? c = some o → h'.get? c = some o) → Q (.ref (s.heap.objs.size + 4)) { s with heap := h' }) :
    wpAny (model prog w) A (call (.type "zip") [.ref l1, .ref l2]) Q E s := by
  refine callType_new F.called_zip (by decide) (F.typeCall_zip_2 _ _) (F.newCall_zip_2 _ _) (fun obj => F.args_object_init_3 obj _ _) F.entry_zip_new
    (meets_zip_newM l1 l2 xs ys) ⟨hl1, hl2, ?_⟩
  have z1 : (zipM1 s.heap l1).objs.size = s.heap.objs.size + 1 := Heap.size_push ..
  have z2 : (zipM2 s.heap l1 l2).objs.size = s.heap.objs.size + 2 := by rw [Heap.size_push, z1]
  have z3 : (zipM3 s.heap l1 l2).objs.size = s.heap.objs.size + 3 := by rw [Heap.size_push, z2]
  have z4 : (zipM4 s.heap l1 l2).objs.size = s.heap.objs.size + 4 := by rw [Heap.size_push, z3]
  have z5 : (zipM5 s.heap l1 l2).objs.size = s.heap.objs.size + 5 := by rw [Heap.size_push, z4]
  have g5 : (zipM5 s.heap l1 l2).get? (zipM4 s.heap l1 l2).objs.size = some _ := Heap.get?_push_size _ rfl
  have g4 : (zipM5 s.heap l1 l2).get? (zipM3 s.heap l1 l2).objs.size = some _ := Heap.get?_push_of_some _ (Heap.get?_push_size _ rfl)
  have g3 : (zipM5 s.heap l1 l2).get? (zipM2 s.heap l1 l2).objs.size = some _ := Heap.get?_push_of_some _ (Heap.get?_push_of_some _ (Heap.get?_push_size _ rfl))
  have g2 : (zipM5 s.heap l1 l2).get? (zipM1 s.heap l1).objs.size = some _ := Heap.get?_push_of_some _ (Heap.get?_push_of_some _ (Heap.get?_push_of_some _ (Heap.get?_push_size _ rfl)))
  have g1 : (zipM5 s.heap l1 l2).get? s.heap.objs.size = some _ := Heap.get?_push_of_some _ (Heap.get?_push_of_some _ (Heap.get?_push_of_some _ (Heap.get?_push_of_some _ (Heap.get?_push_size _ rfl))))
  show _ ∧ _
  rw [z2, z3, z4] at g5
  rw [z1, z2] at g3
  rw [z3] at g4
  rw [z1] at g2
  rw [z4]
  exact ⟨⟨_, g5, rfl⟩, h _ g5 g3 g4 ⟨_, g1, rfl, rfl⟩ ⟨_, g2, rfl, rfl⟩ z5 fun c o x =>
    Heap.get?_push_of_some _ (Heap.get?_push_of_some _ (Heap.get?_push_of_some _ (Heap.get?_push_of_some _ (Heap.get?_push_of_some _ x))))⟩
theorem WalksT.zip2M (hh : A.handled = none) (z TI TO i1 i2 l1 l2 : Addr) (D : ZipApart z TI TO i1 i2 l1 l2) (xs ys : Array Value) :
    WalksT prog w A z [z, TI, TO, i1, i2, l1, l2] [z, TO, i1, i2] (min xs.size ys.size)
      (fun i vals => ∃ x y, xs[i]? = some x ∧ ys[i]? = some y ∧ vals = #[x, y])
      (fun i h => IsZip h z TI TO .none ∧ IsPair h TI (.ref i1) (.ref i2) ∧ (∃ a b, IsPair h TO a b) ∧ h.IsListIter i1 l1 i ∧ h.IsTupleIter i2 l2 i ∧ h.IsList l1 xs ∧ h.IsTuple l2 ys)
      (fun i T h => IsZip h z TI TO (rawInt T) ∧ IsPair h TI (.ref i1) (.ref i2) ∧ (∃ a b, IsPair h TO a b) ∧ h.IsListIter i1 l1 (i + 1) ∧ h.IsTupleIter i2 l2 (i + 1) ∧ h.IsList l1 xs ∧ h.IsTuple l2 ys ∧
        T ≠ z ∧ T ≠ TO ∧ T ≠ i1 ∧ T ≠ i2) where
  sub := fun c hc => by simp at hc ⊢; rcases hc with rfl | rfl | rfl | rfl <;> simp
  frame := fun i h h' hst hk => by
    obtain ⟨hz, hTI, ⟨a, b, hTO⟩, h1, h2, hl1, hl2⟩ := hst
    exact ⟨hk z (by simp) _ hz, hk TI (by simp) _ hTI, ⟨a, b, hk TO (by simp) _ hTO⟩, h1.at fun o e => hk i1 (by simp) o e, h2.at fun o e => hk i2 (by simp) o e,
      hl1.at fun o e => hk l1 (by simp) o e, hl2.at fun o e => hk l2 (by simp) o e⟩
  item := fun i s Q E hi hst hQ => by
    obtain ⟨hz, hTI, ⟨a, b, hTO⟩, h1, h2, hl1, hl2⟩ := hst
    have hix : i < xs.size := Nat.lt_of_lt_of_le hi (Nat.min_le_left ..)
    have hiy : i < ys.size := Nat.lt_of_lt_of_le hi (Nat.min_le_right ..)
    refine wpAny_pyNext_zip_itemM D hz hTI hTO h1 h2 hl1 hl2 (Array.getElem?_eq_getElem hix) (Array.getElem?_eq_getElem hiy) fun h' a1 a2 a3 a4 a5 a6 hk => ?_
    have lt : ∀ {c o}, s.heap.get? c = some o → s.heap.objs.size ≠ c := fun e => Nat.ne_of_gt (Heap.lt_size e)
    exact hQ s.heap.objs.size #[xs[i], ys[i]] h' s.toks ⟨_, _, Array.getElem?_eq_getElem hix, Array.getElem?_eq_getElem hiy, rfl⟩ (Nat.le_refl _) ⟨_, a5, rfl, _, rfl⟩
      ⟨a1, hk _ _ D.TIz D.TITO D.TIi1 D.TIi2 hTI, ⟨_, _, a2⟩, a3, a4, hl1.at fun o e => hk _ o D.l1z D.l1TO D.l1i1 D.l1i2 e, hl2.at fun o e => hk _ o D.l2z D.l2TO D.l2i1 D.l2i2 e,
        lt hz, lt hTO, (by obtain ⟨_, e, _⟩ := h1; exact lt e), (by obtain ⟨_, e, _⟩ := h2; exact lt e)⟩
      fun c o hc e => hk c o (fun x => hc (by simp [x])) (fun x => hc (by simp [x])) (fun x => hc (by simp [x])) (fun x => hc (by simp [x])) e
  go := fun elts k pos i T s Q E hm hQ => by
    obtain ⟨hz, hTI, ⟨a, b, hTO⟩, h1, h2, hl1, hl2, _⟩ := hm
    refine wpAny_letOwnedTupleGo_zip hz fun h' hz' hs' => hQ h' ⟨hz', hs'.extBut _ _ D.TIz hTI, ⟨a, b, hs'.extBut _ _ D.TOz hTO⟩, h1.extBut hs'.extBut D.i1z, h2.extBut hs'.extBut D.i2z,
      hl1.extBut hs'.extBut D.l1z, hl2.extBut hs'.extBut D.l2z⟩ fun c o hc e => hs'.extBut _ _ (fun x => hc (by simp [x])) e
  apart := fun i T h hm hT => by
    obtain ⟨_, _, _, _, _, _, _, t1, t2, t3, t4⟩ := hm
    simp at hT
    rcases hT with rfl | rfl | rfl | rfl
    · exact t1 rfl
    · exact t2 rfl
    · exact t3 rfl
    · exact t4 rfl
  done := fun s Q E hst hQ => by
    obtain ⟨hz, hTI, ⟨a, b, hTO⟩, h1, h2, hl1, hl2⟩ := hst
    have hend : xs[min xs.size ys.size]? = none ∨ ys[min xs.size ys.size]? = none := by
      rcases Nat.le_total xs.size ys.size with h | h
      · exact .inl (by rw [Nat.min_eq_left h]; exact Array.getElem?_eq_none (Nat.le_refl _))
      · exact .inr (by rw [Nat.min_eq_right h]; exact Array.getElem?_eq_none (Nat.le_refl _))
    exact wpAny_pyNext_zip_endM hh D hz hTI hTO h1 h2 hl1 hl2 hend fun h' hk => hQ h' s.toks fun c o hc e =>
      hk c o (fun x => hc (by simp [x])) (fun x => hc (by simp [x])) (fun x => hc (by simp [x])) (fun x => hc (by simp [x])) e
  self := fun i s Q E hst hQ => wpAny_pyIter_zip hst.1 hQ
end
end PySem
namespace L2
open PySem PySem.Spec PyProof.Rows
def ItzM (K : PySem.W.Frag) (a b : Addr) : It :=
  ⟨fun i H => ∃ xs ys x y, SqL K H a xs ∧ SqT K H b ys ∧ xs[i]? = some x ∧ ys[i]? = some y, fun i H v H' => ∃ T x y, H T = none ∧ v = .ref T ∧ H' = upd H T (.tup [x, y]) ∧ (∀ xs, SqL K H a xs → xs[i]? = some x) ∧ (∀ ys, SqT K H b ys → ys[i]? = some y),
    fun i H => ∃ xs ys, SqL K H a xs ∧ SqT K H b ys ∧ i = min xs.length ys.length⟩
theorem turn_zipM {P : Program} {w : World} {K : PySem.W.Frag} {elts : List Expr} {kk : Nat} {ps : Pos} {a b z TI TO i1 i2 : Addr} (D : ZipApart z TI TO i1 i2 a b) : Turn P w K (.Tuple elts kk ps) (ItzM K a b) [z, TI, TO, i1, i2] z
    (fun i h => IsZip h z TI TO .none ∧ IsPair h TI (.ref i1) (.ref i2) ∧ (∃ c d, IsPair h TO c d) ∧ h.IsListIter i1 a i ∧ h.IsTupleIter i2 b i) where
  mem := by simp
  obj := fun i h st c hc => by
    obtain ⟨g1, g2, ⟨_, _, g3⟩, ⟨o4, e4, _, d4⟩, o5, e5, _, d5⟩ := st
    simp only [List.mem_cons, List.not_mem_nil, or_false] at hc
    rcases hc with rfl | rfl | rfl | rfl | rfl
    · exact ⟨_, g1, fun v q => by cases q⟩
    · exact ⟨_, g2, fun v q => by cases q⟩
    · exact ⟨_, g3, fun v q => by cases q⟩
    · exact ⟨_, e4, fun v q => by rw [d4] at q; cases q⟩
    · exact ⟨_, e5, fun v q => by rw [d5] at q; cases q⟩
  keep := fun i h h' st k => by
    obtain ⟨g1, g2, ⟨_, _, g3⟩, ⟨o4, e4, r4⟩, o5, e5, r5⟩ := st
    exact ⟨k z (by simp) _ g1, k TI (by simp) _ g2, ⟨_, _, k TO (by simp) _ g3⟩, ⟨o4, k i1 (by simp) _ e4, r4⟩, o5, k i2 (by simp) _ e5, r5⟩
  item := by
    intro X hP hw hK hc i pins s σ H E I hf st hg
    subst hP hw hK
    obtain ⟨xs, ys, x, y, hq1, hq2, hx, hy⟩ := hg
    obtain ⟨its1, rv1, p1, hz1⟩ := I.list hq1
    obtain ⟨its2, rv2, p2, hz2⟩ := I.tuple hq2
    obtain ⟨u1, hu1, ru1⟩ := rv1.get hx
    obtain ⟨u2, hu2, ru2⟩ := rv2.get hy
    have q1 : s.heap.IsList a its1.toArray := show s.heap.IsList a its1.toArray from p1.isList
    have q2 : s.heap.IsTuple b its2.toArray := show s.heap.IsTuple b its2.toArray from p2
    have hh : X.A.handled = none := I.ok.hd hc
    have W := WalksT.zip2M (prog := X.prog) (w := X.w) hh z TI TO i1 i2 a b D its1.toArray its2.toArray
    have l1 := (List.getElem?_eq_some_iff.mp hu1).1
    have l2 := (List.getElem?_eq_some_iff.mp hu2).1
    obtain ⟨g1, g2, g3, g4, g5⟩ := st
    refine W.item i s _ _ (by simp only [List.size_toArray]; omega) ⟨g1, g2, g3, g4, g5, q1, q2⟩ fun T vals h' tk hP hT ht mid k => ?_
    obtain ⟨v1, v2, e1, e2, rfl⟩ := hP
    have ev1 : v1 = u1 := by
      have : its1.toArray[i]? = some u1 := by simpa using hu1
      rw [this] at e1; exact (Option.some.inj e1).symm
    have ev2 : v2 = u2 := by
      have : its2.toArray[i]? = some u2 := by simpa using hu2
      rw [this] at e2; exact (Option.some.inj e2).symm
    subst ev1 ev2
    have hf' : ∀ c ∈ [z, TO, i1, i2], FpOk X pins H c := fun c hc => hf c (by simp only [List.mem_cons, List.not_mem_nil, or_false] at hc ⊢; rcases hc with h | h | h | h <;> simp [h])
    have I1 : Inv X pins σ (upd H T (.tup [x, y])) { s with heap := h', toks := tk } := I.turnNew (its := [v1, v2]) k hf' hT (by simp [le_line]) (.cons ru1 (.cons ru2 .nil)) ht
    have hTn : H T = none := I.hok.fresh hT
    have hne : ∀ c ∈ [z, TI, TO, i1, i2], upd H T (.tup [x, y]) c = none := fun c hc => by
      have hcT : c ≠ T := fun q => by
        have : c < s.heap.objs.size := by
          obtain ⟨_, _, g3⟩ := g3
          obtain ⟨o4, e4, _⟩ := g4
          obtain ⟨o5, e5, _⟩ := g5
          simp only [List.mem_cons, List.not_mem_nil, or_false] at hc
          rcases hc with rfl | rfl | rfl | rfl | rfl
          · exact Heap.lt_size g1
          · exact Heap.lt_size g2
          · exact Heap.lt_size g3
          · exact Heap.lt_size e4
          · exact Heap.lt_size e5
        exact absurd this (by rw [q]; exact Nat.not_lt.mpr hT)
      rw [upd_ne hcT]; exact (hf c hc).1
    refine ⟨_, rfl, W.go elts kk ps i T { s with heap := h', toks := tk } _ E mid fun h'' st2 k2 => ?_⟩
    refine ⟨.ref T, upd H T (.tup [x, y]), I1.turnL (t' := tk) (wr := [z, TO, i1, i2]) k2 (fun c hc => ⟨hne c (by simp only [List.mem_cons, List.not_mem_nil, or_false] at hc ⊢; rcases hc with h | h | h | h <;> simp [h]), (hf' c hc).2⟩), rfl,
      ⟨T, x, y, hTn, rfl, rfl, fun zs hy => by rw [I.list_inj hy hq1]; exact hx, fun zs hy' => by rw [I.tuple_inj hy' hq2]; exact hy⟩, ⟨st2.1, st2.2.1, st2.2.2.1, st2.2.2.2.1, st2.2.2.2.2.1⟩, hne⟩
  done := by
    intro X hP hw hK hc i pins s σ H E I hf st hg
    subst hP hw hK
    obtain ⟨xs, ys, hq1, hq2, hx⟩ := hg
    obtain ⟨its1, rv1, p1, hz1⟩ := I.list hq1
    obtain ⟨its2, rv2, p2, hz2⟩ := I.tuple hq2
    have q1 : s.heap.IsList a its1.toArray := show s.heap.IsList a its1.toArray from p1.isList
    have q2 : s.heap.IsTuple b its2.toArray := show s.heap.IsTuple b its2.toArray from p2
    have hh : X.A.handled = none := I.ok.hd hc
    have W := WalksT.zip2M (prog := X.prog) (w := X.w) hh z TI TO i1 i2 a b D its1.toArray its2.toArray
    obtain ⟨g1, g2, g3, g4, g5⟩ := st
    have e1 := rv1.length
    have e2 := rv2.length
    have ei : i = min its1.toArray.size its2.toArray.size := by simp only [List.size_toArray]; rw [← e1, ← e2]; exact hx
    subst ei
    exact W.done s _ _ ⟨g1, g2, g3, g4, g5, q1, q2⟩ fun h' tk k => ⟨rfl, I.turnL (t' := tk) (wr := [z, TO, i1, i2]) k fun c hc => hf c (by simp only [List.mem_cons, List.not_mem_nil, or_false] at hc ⊢; rcases hc with h | h | h | h <;> simp [h])⟩
  self := fun _ _ _ _ _ st h => wpAny_pyIter_zip st.1 h
def iZipM (K : PySem.W.Frag) (ta : TA) : TI := fun σ H R => ta σ H fun vs H1 => ∃ a b, vs = [.ref a, .ref b] ∧ (∃ xs, SqL K H1 a xs) ∧ (∃ ys, SqT K H1 b ys) ∧ R (ItzM K a b) H1
theorem pi_zipM {X : Cx} {K : PySem.W.Frag} {elts : List Expr} {kk : Nat} {ps p pos : Pos} {l m : Expr} {ta : TA} (hg : Gl X "zip") (hm : X.mg "zip" = none) (ha : PA X [l, m] ta) (hs : starEach [l, m] X.env = [(false, eval l X.env), (false, eval m X.env)] := by rfl) (hs2 : starEach [m] X.env = [(false, eval m X.env)] := by rfl) (h : X.K = K := by rfl) :
    PI X (.Tuple elts kk ps) (.Call (.Name "zip" p) [l, m] [] pos) (iZipM K ta) := by
  subst h
  intro pins s σ H R I h
  refine Call_ (ld_blt I hg hm (PyProof.Rows.Boot.«zip») (PyProof.Rows.callWith_type1 (thn (ha pos pins s σ H _ I h) fun us s1 ⟨vs, H1, I1, r1, q1⟩ => ?_) (by rw [hs, hs2]) (by rw [hs2]; rfl)))
  obtain ⟨a, b, e, ⟨xs, hq1⟩, ⟨ys, hq2⟩, q⟩ := q1
  subst e
  obtain ⟨u1, u2, rfl, ru1, ru2⟩ := r1.two
  cases ru1
  cases ru2
  obtain ⟨its1, rv1, p1, hz1⟩ := I1.list hq1
  obtain ⟨its2, rv2, p2, hz2⟩ := I1.tuple hq2
  have q1 : s1.heap.IsList a its1.toArray := show s1.heap.IsList a its1.toArray from p1.isList
  have q2 : s1.heap.IsTuple b its2.toArray := show s1.heap.IsTuple b its2.toArray from p2
  have al : @LT.lt Nat _ a s1.heap.objs.size := by obtain ⟨_, e, _⟩ := q1; exact Heap.lt_size e
  have bl : @LT.lt Nat _ b s1.heap.objs.size := by obtain ⟨_, e, _⟩ := q2; exact Heap.lt_size e
  refine call_zip_2M q1 q2 fun h' hz hTI hTO h1 h2 hsz hk => ?_
  have I2 : Inv X pins σ H1 { s1 with heap := h', toks := s1.toks } := I1.kept hk
  have D : ZipApart (s1.heap.objs.size + 4) (s1.heap.objs.size + 2) (s1.heap.objs.size + 3) s1.heap.objs.size (s1.heap.objs.size + 1) a b := by
    constructor <;> (intro q; have q : @Eq Nat _ _ := q; omega)
  refine wpAny_pyIter_zip hz ⟨_, [s1.heap.objs.size + 4, s1.heap.objs.size + 2, s1.heap.objs.size + 3, s1.heap.objs.size, s1.heap.objs.size + 1], _, _, H1, rfl, I2, turn_zipM D, ⟨hz, hTI, ⟨_, _, hTO⟩, h1, h2⟩, fun c hc => ?_, q⟩
  have hge : s1.heap.objs.size ≤ c := by
    simp only [List.mem_cons, List.not_mem_nil, or_false] at hc
    show @LE.le Nat _ _ c
    rcases hc with q | q | q | q | q <;> (have q : @Eq Nat _ _ := q; omega)
  exact I1.fpOk hge (I1.hok.fresh hge)
end L2
set_option Elab.async false
set_option linter.all false
set_option maxRecDepth 100000
namespace L2
open PySem PySem.Spec PyProof.Rows
section
variable {K : PySem.W.Frag} {a : Addr} {xs : List V} {σ0 : St} {g : TG} {tc : TT} {tm : TM} {F : List V → Hp → Prop} {H : Hp} {ys0 : List V}
theorem lcw_list (Pv : Nat → List V → Hp → Prop) (h0 : Pv 0 ys0 H) (hl : ∀ i ys H, i ≤ xs.length → Pv i ys H → SqL K H a xs ∧ ys.length ≤ sizeLine)
    (hs : ∀ i x ys H, xs[i]? = some x → Pv i ys H → g x σ0 H fun σ2 H2 => tc σ2 H2 fun b H3 => if b = true then tm σ2 H3 ys (Pv (i + 1)) else Pv (i + 1) ys H3)
    (hd : ∀ ys H, Pv xs.length ys H → F ys H) : LcW (Itl K a) g tc tm σ0 ys0 H F := by
  refine ⟨fun i m ys H => m = xs.length - i ∧ i ≤ xs.length ∧ Pv i ys H, ⟨xs.length, by simp, Nat.zero_le _, h0⟩, ?_⟩
  rintro i m ys H ⟨rfl, hi, p⟩
  obtain ⟨q, hy⟩ := hl i ys H hi p
  refine ⟨hy, ?_⟩
  by_cases hlt : i < xs.length
  · refine .inr ⟨⟨xs, xs[i], q, by simp [hlt]⟩, Pv (i + 1), fun ys' H' p' => ⟨xs.length - (i + 1), by omega, rfl, hlt, p'⟩, fun x H' y => ?_⟩
    obtain ⟨e, y⟩ := y
    subst e
    exact hs i x ys _ (y xs q) p
  · have e : i = xs.length := by omega
    subst e
    exact .inl ⟨⟨xs, q, Nat.le_refl _⟩, hd ys H p⟩
theorem lcM {i : Nat} {x : V} {σ : St} {ys : List V} {N : List V → Hp → Prop} (h : tm (σ.set i (some x)) H ys N) : gName i x σ H fun σ2 H2 => tYes σ2 H2 fun b H3 => if b = true then tm σ2 H3 ys N else N ys H3 := by
  show if true = true then tm (σ.set i (some x)) H ys N else N ys H
  rw [if_pos rfl]; exact h
end
def mrg (ws : List Int) (a b : Int) : List Int := numRow (relab ws b a)
theorem mrg_length (ws : List Int) (a b : Int) : (mrg ws a b).length = ws.length := by unfold mrg; rw [numRow_length, relab_length]
theorem mrg_pat {ws : List Int} {a b : Int} {i j : Nat} (hi : i < ws.length) (hj : j < ws.length) : (mrg ws a b).getD i 0 = (mrg ws a b).getD j 0 ↔ ws.getD i 0 = ws.getD j 0 ∨ ((ws.getD i 0 = a ∨ ws.getD i 0 = b) ∧ (ws.getD j 0 = a ∨ ws.getD j 0 = b)) := by
  unfold mrg
  rw [numRow_pat (by rw [relab_length]; exact hi) (by rw [relab_length]; exact hj), relab_at hi, relab_at hj]
  generalize ws.getD i 0 = x
  generalize ws.getD j 0 = y
  by_cases h1 : x = b
  · rw [if_pos h1]
    by_cases h2 : y = b
    · rw [if_pos h2]; exact ⟨fun _ => .inl (h1.trans h2.symm), fun _ => rfl⟩
    · rw [if_neg h2]
      constructor
      · intro e; exact .inr ⟨.inr h1, .inl e.symm⟩
      · rintro (e | ⟨_, e | e⟩)
        · exact absurd (e.symm.trans h1) h2
        · exact e.symm
        · exact absurd e h2
  · rw [if_neg h1]
    by_cases h2 : y = b
    · rw [if_pos h2]
      constructor
      · intro e; exact .inr ⟨.inl e, .inr h2⟩
      · rintro (e | ⟨e | e, _⟩)
        · exact absurd (e.trans h2) h1
        · exact e
        · exact absurd e h1
    · rw [if_neg h2]
      constructor
      · intro e; exact .inl e
      · rintro (e | ⟨e | e, e' | e'⟩)
        · exact e
        · exact e.trans e'.symm
        · exact absurd e' h2
        · exact absurd e h1
        · exact absurd e h1
theorem mrg_comm (ws : List Int) (a b : Int) : mrg ws a b = mrg ws b a := by
  have hl : (relab ws b a).length = ws.length := relab_length ..
  have hl2 : (relab ws a b).length = ws.length := relab_length ..
  refine pat_numRow ws.length (relab ws b a) (relab ws a b) hl hl2 fun i j hi hj => ?_
  have h1 := mrg_pat (ws := ws) (a := a) (b := b) hi hj
  have h2 := mrg_pat (ws := ws) (a := b) (b := a) hi hj
  unfold mrg at h1 h2
  rw [numRow_pat (by omega) (by omega)] at h1 h2
  rw [h1, h2]
  constructor <;> (rintro (e | ⟨e1, e2⟩); exact .inl e; exact .inr ⟨e1.symm, e2.symm⟩)
theorem mrg_inj {ws : List Int} (hw : isWay ws = true) {f s f' s' : Nat} (h1 : f < s) (h2 : s < (fresh 0 ws).toNat) (h1' : f' < s') (h2' : s' < (fresh 0 ws).toNat) (e : mrg ws f s = mrg ws f' s') : f = f' ∧ s = s' := by
  obtain ⟨a0, a1, a2⟩ := hdL_ok hw (k := f) (by omega)
  obtain ⟨b0, b1, b2⟩ := hdL_ok hw (k := s) h2
  have p := (mrg_pat (ws := ws) (a := (f : Int)) (b := (s : Int)) (i := (hdL ws f).toNat) (j := (hdL ws s).toNat) (by omega) (by omega)).mpr (.inr ⟨.inl a2, .inr b2⟩)
  rw [e] at p
  have p' := (mrg_pat (ws := ws) (a := (f' : Int)) (b := (s' : Int)) (i := (hdL ws f).toNat) (j := (hdL ws s).toNat) (by omega) (by omega)).mp p
  rw [a2, b2] at p'
  rcases p' with p' | ⟨p1, p2⟩
  · omega
  · omega
def lotPs (n : Nat) : List (Nat × Nat) := (List.range n).flatMap fun s => (List.range s).map fun f => (f, s)
theorem mem_lotPs {n : Nat} {p : Nat × Nat} : p ∈ lotPs n ↔ p.1 < p.2 ∧ p.2 < n := by
  unfold lotPs
  rw [List.mem_flatMap]
  constructor
  · rintro ⟨s, hs, hp⟩
    obtain ⟨f, hf, rfl⟩ := List.mem_map.mp hp
    exact ⟨List.mem_range.mp hf, List.mem_range.mp hs⟩
  · rintro ⟨h1, h2⟩
    exact ⟨p.2, List.mem_range.mpr h2, List.mem_map.mpr ⟨p.1, List.mem_range.mpr h1, rfl⟩⟩
theorem lotPs_succ (n : Nat) : lotPs (n + 1) = lotPs n ++ (List.range n).map fun f => (f, n) := by
  unfold lotPs
  rw [List.range_succ, List.flatMap_append, List.flatMap_singleton]
theorem lotPs_nodup : ∀ n : Nat, (lotPs n).Nodup
  | 0 => List.nodup_nil
  | n + 1 => by
    rw [lotPs_succ]
    refine List.nodup_append.mpr ⟨lotPs_nodup n, ?_, fun x hx y hy e => ?_⟩
    · exact List.Pairwise.map _ (fun a b h e => h (congrArg Prod.fst e)) List.nodup_range
    · subst e
      obtain ⟨f, _, rfl⟩ := List.mem_map.mp hy
      have := (mem_lotPs.mp hx).2
      exact absurd this (Nat.lt_irrefl _)
theorem lotPs_len : ∀ n : Nat, (lotPs n).length * 2 = n * (n - 1)
  | 0 => rfl
  | 1 => rfl
  | n + 2 => by
    rw [lotPs_succ, List.length_append, List.length_map, List.length_range, Nat.add_mul, lotPs_len (n + 1)]
    have : (n + 1) * (n + 1 - 1) = (n + 1) * n := rfl
    rw [this]
    have h2 : (n + 2) * (n + 2 - 1) = (n + 2) * (n + 1) := rfl
    rw [h2, Nat.add_mul n 2 (n + 1), Nat.mul_comm (n + 1) n]
    omega
def joinL (ws : List Int) : List (List Int) := (lotPs (fresh 0 ws).toNat).map fun p => mrg ws p.1 p.2
theorem nodup_map_on {α β : Type} {f : α → β} : ∀ {l : List α}, l.Nodup → (∀ a ∈ l, ∀ b ∈ l, f a = f b → a = b) → (l.map f).Nodup
  | [], _, _ => List.nodup_nil
  | a :: l, h, hi => by
    rw [List.nodup_cons] at h
    rw [List.map_cons, List.nodup_cons]
    refine ⟨fun hm => ?_, nodup_map_on h.2 fun x hx y hy => hi x (List.mem_cons_of_mem _ hx) y (List.mem_cons_of_mem _ hy)⟩
    obtain ⟨b, hb, e⟩ := List.mem_map.mp hm
    exact h.1 (hi b (List.mem_cons_of_mem _ hb) a List.mem_cons_self e ▸ hb)
theorem joinL_nodup {ws : List Int} (hw : isWay ws = true) : (joinL ws).Nodup :=
  nodup_map_on (lotPs_nodup _) fun a ha b hb e => by
    have h1 := mem_lotPs.mp ha
    have h2 := mem_lotPs.mp hb
    obtain ⟨e1, e2⟩ := mrg_inj hw h1.1 h1.2 h2.1 h2.2 e
    exact Prod.ext e1 e2
def addNew (l : List (List Int)) (x : List Int) : List (List Int) := if x ∈ l then l else l ++ [x]
def dueL (ws : List Int) (qs : List (Nat × Nat)) : List (List Int) := qs.foldl (fun l p => if ws.getD p.1 0 = ws.getD p.2 0 then l else addNew l (mrg ws (ws.getD p.1 0) (ws.getD p.2 0))) []
theorem dueL_snoc (ws : List Int) (qs : List (Nat × Nat)) (p : Nat × Nat) : dueL ws (qs ++ [p]) = if ws.getD p.1 0 = ws.getD p.2 0 then dueL ws qs else addNew (dueL ws qs) (mrg ws (ws.getD p.1 0) (ws.getD p.2 0)) := by
  unfold dueL; rw [List.foldl_append]; rfl
theorem mem_addNew {l : List (List Int)} {x y : List Int} : y ∈ addNew l x ↔ y ∈ l ∨ y = x := by
  unfold addNew
  split
  · rename_i h; exact ⟨.inl, fun z => z.elim id fun e => e ▸ h⟩
  · rw [List.mem_append, List.mem_singleton]
theorem addNew_nodup {l : List (List Int)} {x : List Int} (h : l.Nodup) : (addNew l x).Nodup := by
  unfold addNew
  split
  · exact h
  · rename_i hx
    refine List.nodup_append.mpr ⟨h, by simp, fun a ha b hb e => ?_⟩
    rw [List.mem_singleton.mp hb] at e
    exact hx (e ▸ ha)
theorem dueL_nodup (ws : List Int) (qs : List (Nat × Nat)) : (dueL ws qs).Nodup := by
  refine snoc_ind (P := fun qs => (dueL ws qs).Nodup) List.nodup_nil (fun qs p ih => ?_) qs
  rw [dueL_snoc]
  split
  · exact ih
  · exact addNew_nodup ih
theorem mem_dueL (ws : List Int) (qs : List (Nat × Nat)) : ∀ y, y ∈ dueL ws qs ↔ ∃ p ∈ qs, ws.getD p.1 0 ≠ ws.getD p.2 0 ∧ y = mrg ws (ws.getD p.1 0) (ws.getD p.2 0) := by
  refine snoc_ind (P := fun qs => ∀ y, y ∈ dueL ws qs ↔ ∃ p ∈ qs, ws.getD p.1 0 ≠ ws.getD p.2 0 ∧ y = mrg ws (ws.getD p.1 0) (ws.getD p.2 0)) (fun y => by simp [dueL]) (fun qs p ih y => ?_) qs
  rw [dueL_snoc]
  by_cases e : ws.getD p.1 0 = ws.getD p.2 0
  · rw [if_pos e, ih]
    constructor
    · rintro ⟨q, hq, r⟩; exact ⟨q, List.mem_append_left _ hq, r⟩
    · rintro ⟨q, hq, r⟩
      rcases List.mem_append.mp hq with hq | hq
      · exact ⟨q, hq, r⟩
      · rw [List.mem_singleton.mp hq] at r; exact absurd e r.1
  · rw [if_neg e, mem_addNew, ih]
    constructor
    · rintro (⟨q, hq, r⟩ | r)
      · exact ⟨q, List.mem_append_left _ hq, r⟩
      · exact ⟨p, List.mem_append_right _ (List.mem_singleton.mpr rfl), e, r⟩
    · rintro ⟨q, hq, r⟩
      rcases List.mem_append.mp hq with hq | hq
      · exact .inl ⟨q, hq, r⟩
      · rw [List.mem_singleton.mp hq] at r; exact .inr r.2
theorem pairsN_mem {n : Nat} {p : Nat × Nat} : p.1 < p.2 → p.2 < n → p ∈ pairsN n := by
  induction n with
  | zero => intro _ h; omega
  | succ n ih =>
    intro h1 h2
    rw [pairsN_succ, List.mem_append]
    by_cases e : p.2 = n
    · exact .inr (List.mem_map.mpr ⟨p.1, List.mem_range.mpr (by omega), Prod.ext rfl e.symm⟩)
    · exact .inl (ih h1 (by omega))
theorem pairsN_lt {n : Nat} {p : Nat × Nat} : p ∈ pairsN n → p.1 < p.2 ∧ p.2 < n := by
  induction n with
  | zero => intro h; cases h
  | succ n ih =>
    intro h
    rw [pairsN_succ, List.mem_append] at h
    rcases h with h | h
    · have := ih h; omega
    · obtain ⟨j, hj, rfl⟩ := List.mem_map.mp h
      have := List.mem_range.mp hj
      exact ⟨this, Nat.lt_succ_self _⟩
theorem join_due {ws : List Int} (hw : isWay ws = true) : (joinL ws).Perm (dueL ws (pairsN ws.length)) := by
  rw [List.perm_ext_iff_of_nodup (joinL_nodup hw) (dueL_nodup _ _)]
  intro y
  rw [mem_dueL]
  unfold joinL
  rw [List.mem_map]
  constructor
  · rintro ⟨p, hp, rfl⟩
    obtain ⟨h1, h2⟩ := mem_lotPs.mp hp
    obtain ⟨a0, a1, a2⟩ := hdL_ok hw (k := p.1) (by omega)
    obtain ⟨b0, b1, b2⟩ := hdL_ok hw (k := p.2) h2
    have hm := hd_mono hw h1 h2
    refine ⟨((hdL ws p.1).toNat, (hdL ws p.2).toNat), pairsN_mem (by show (hdL ws p.1).toNat < (hdL ws p.2).toNat; omega) (by show (hdL ws p.2).toNat < _; omega), ?_, ?_⟩
    · show ws.getD _ 0 ≠ ws.getD _ 0
      rw [a2, b2]; omega
    · show _ = mrg ws (ws.getD _ 0) (ws.getD _ 0)
      rw [a2, b2]
  · rintro ⟨p, hp, hne, rfl⟩
    obtain ⟨h1, h2⟩ := pairsN_lt hp
    obtain ⟨c0, _, c2⟩ := way_small hw (i := p.1) (by omega)
    obtain ⟨d0, _, d2⟩ := way_small hw (i := p.2) h2
    generalize ws.getD p.1 0 = x at *
    generalize ws.getD p.2 0 = z at *
    rcases Int.lt_or_gt_of_ne hne with h | h
    · exact ⟨(x.toNat, z.toNat), mem_lotPs.mpr ⟨by show x.toNat < z.toNat; omega, by show z.toNat < _; omega⟩, by show mrg ws ((x.toNat : Nat) : Int) ((z.toNat : Nat) : Int) = _; rw [Int.toNat_of_nonneg c0, Int.toNat_of_nonneg d0]⟩
    · refine ⟨(z.toNat, x.toNat), mem_lotPs.mpr ⟨by show z.toNat < x.toNat; omega, by show x.toNat < _; omega⟩, ?_⟩
      show mrg ws ((z.toNat : Nat) : Int) ((x.toNat : Nat) : Int) = _
      rw [Int.toNat_of_nonneg c0, Int.toNat_of_nonneg d0, mrg_comm]
theorem put_rows {l : List (List Int)} {x : List Int} : putK (l.map fun r => (r.map (Sum.inl : Int → Key), V.bl true)) (x.map Sum.inl) (V.bl true) = (addNew l x).map fun r => (r.map (Sum.inl : Int → Key), V.bl true) := by
  have inj : ∀ a b : List Int, a.map (Sum.inl : Int → Key) = b.map Sum.inl → a = b := by
    intro a
    induction a with
    | nil => intro b h; cases b with
      | nil => rfl
      | cons _ _ => simp at h
    | cons x a ih => intro b h; cases b with
      | nil => simp at h
      | cons y b =>
        rw [List.map_cons, List.map_cons] at h
        injection h with h1 h2
        rw [Sum.inl.inj h1, ih b h2]
  unfold putK addNew
  by_cases h : x ∈ l
  · have hany : ((l.map fun r => (r.map (Sum.inl : Int → Key), V.bl true)).any fun kv => decide (kv.1 = x.map Sum.inl)) = true := List.any_eq_true.mpr ⟨(x.map Sum.inl, V.bl true), List.mem_map.mpr ⟨x, h, rfl⟩, decide_eq_true rfl⟩
    rw [if_pos h, if_pos hany, List.map_map]
    refine List.map_congr_left fun r _ => ?_
    show (if r.map Sum.inl = x.map Sum.inl then (r.map Sum.inl, V.bl true) else (r.map Sum.inl, V.bl true)) = _
    split <;> rfl
  · have hany : ¬ ((l.map fun r => (r.map (Sum.inl : Int → Key), V.bl true)).any fun kv => decide (kv.1 = x.map Sum.inl)) = true := fun z => by
      obtain ⟨p, hp, e⟩ := List.any_eq_true.mp z
      obtain ⟨r, hr, rfl⟩ := List.mem_map.mp hp
      exact h (inj r x (of_decide_eq_true e) ▸ hr)
    rw [if_neg h, if_neg hany, List.map_append]
    rfl
theorem joinL_len {ws : List Int} (hw : isWay ws = true) : (joinL ws).length ≤ 36 := by
  obtain ⟨w1, w9, w0⟩ := isWay_iff.mp hw
  have fl := fresh_le ws
  have h := lotPs_len (fresh 0 ws).toNat
  unfold joinL
  rw [List.length_map]
  have h9 : (fresh 0 ws).toNat ≤ 9 := by omega
  have : (fresh 0 ws).toNat * ((fresh 0 ws).toNat - 1) ≤ 9 * 8 := Nat.mul_le_mul h9 (by omega)
  omega
end L2
namespace L2
open PySem
end L2
namespace L2
open PySem PySem.Spec PyProof.Rows
def SameD (d : Addr) (H H' : Hp) : Prop := ∀ b o, b ≠ d → H b = some o → H' b = some o
theorem SameD.refl (d : Addr) (H : Hp) : SameD d H H := fun _ _ _ h => h
theorem SameD.same {d : Addr} {H H1 H2 : Hp} (h : SameD d H H1) (s : Same H1 H2) : SameD d H H2 := fun b o hb e => s b o (h b o hb e)
theorem SameD.put {d : Addr} {H H1 : Hp} {o : HO} (h : SameD d H H1) : SameD d H (upd H1 d o) := fun b u hb e => by rw [upd_ne hb]; exact h b u hb e
theorem SameD.back {d : Addr} {H0 H H1 : Hp} (h : SameD d H H1) (s : Same H0 H) (hd : H0 d = none) : Same H0 H1 := fun b o e => h b o (ne_of_none e hd) (s b o e)
theorem SqT.but {K : PySem.W.Frag} {H H' : Hp} {a d : Addr} {xs : List V} {o : HO} (h : SqT K H a xs) (s : SameD d H H') (hd : H d = some o) (h1 : ∀ ys, o ≠ .tup ys) (h2 : ∀ ob u, o ≠ .frz ob u) : SqT K H' a xs := by
  rcases h with (h | ⟨ob, h⟩) | h
  · exact .inl (.inl (s a _ (fun e => by rw [e, hd] at h; exact h1 _ (Option.some.inj h)) h))
  · exact .inl (.inr ⟨ob, s a _ (fun e => by rw [e, hd] at h; exact h2 _ _ (Option.some.inj h)) h⟩)
  · exact .inr h
theorem SqL.but {K : PySem.W.Frag} {H H' : Hp} {a d : Addr} {xs : List V} {o : HO} (h : SqL K H a xs) (s : SameD d H H') (hd : H d = some o) (h1 : ∀ ys, o ≠ .lst ys) (h2 : ∀ ob u, o ≠ .frz ob u) : SqL K H' a xs := by
  rcases h with (h | ⟨ob, h⟩) | h
  · exact .inl (.inl (s a _ (fun e => by rw [e, hd] at h; exact h1 _ (Option.some.inj h)) h))
  · exact .inl (.inr ⟨ob, s a _ (fun e => by rw [e, hd] at h; exact h2 _ _ (Option.some.inj h)) h⟩)
  · exact .inr h
end L2
namespace L2
open PySem
theorem addNew_len (l : List (List Int)) (x : List Int) : (addNew l x).length ≤ l.length + 1 := by unfold addNew; split <;> simp
theorem dueL_len (ws : List Int) (qs : List (Nat × Nat)) : (dueL ws qs).length ≤ qs.length := by
  refine snoc_ind (P := fun qs => (dueL ws qs).length ≤ qs.length) (Nat.le_refl _) (fun qs p ih => ?_) qs
  rw [dueL_snoc, List.length_append]
  split
  · show _ ≤ _ + 1; omega
  · have := addNew_len (dueL ws qs) (mrg ws (ws.getD p.1 0) (ws.getD p.2 0))
    show _ ≤ _ + 1; omega
end L2
set_option Elab.async false
set_option linter.all false
set_option maxRecDepth 100000
namespace L2
open PySem PySem.Spec PyProof.Rows
def tLc2V (wi : TI) (M : List (Option Nat)) (g : TG) (tc : TT) (wi2 : TI) (g2 : TG) (tc2 : TT) (te : TE) : TE := fun σ H Q => tLc2 wi M g tc wi2 g2 tc2 te σ H fun ys H' => ∀ p, H' p = none → Q (.ref p) (upd H' p (.lst ys))
section
variable {X : Cx} {N' : List Str} {M : List (Option Nat)} {scope : Scope} {tg elt iter tg2 iter2 : Expr} {ifs ifs2 : List Expr} {ks ks2 : List Nat} {pos : Pos} {g g2 : TG} {tc tc2 : TT} {te : TE} {wi wi2 : TI}
theorem pe_lc2V (S : LcSc X.N N' M scope X.env.scope) (hc : X.calm = true) (hi : PI X tg iter wi) (hg : ∀ cl C s H fp, PG (cxLc X N' scope cl C s H fp) tg g) (ho : Own ks g)
    (ht : ∀ cl C s H fp, PTs (cxLc X N' scope cl C s H fp) ifs tc) (hks : ∀ i ∈ ks, M[i]? = some none) (hks2 : ∀ i ∈ ks2, M[i]? = some none ∧ i ∉ ks) (hi2 : ∀ cl C s H fp, PI (cxLc X N' scope cl C s H fp) tg2 iter2 wi2) (hg2 : ∀ cl C s H fp, PG (cxLc X N' scope cl C s H fp) tg2 g2) (ho2 : Own ks2 g2) (ht2 : ∀ cl C s H fp, PTs (cxLc X N' scope cl C s H fp) ifs2 tc2) (he : ∀ cl C s H fp, PE (cxLc X N' scope cl C s H fp) elt te)
    (hs : ∀ x, foldedSetIterable iter X.env x = pure x := by intro _; rfl) (hs2 : ∀ env x, foldedSetIterable iter2 env x = pure x := by intro _ _; rfl) :
    PE X (.ListComp elt [⟨tg, iter, ifs, 0⟩, ⟨tg2, iter2, ifs2, 0⟩] scope pos) (tLc2V wi M g tc wi2 g2 tc2 te) := pe_lc2 S hc hi hg ho ht hks hks2 hi2 hg2 ho2 ht2 he hs hs2
end
def eqp (w : List Int) (q : Nat × Nat) : Bool := decide (w.getD q.1 0 = w.getD q.2 0)
def agr (w u : List Int) : Int := ((pairsN w.length).map fun q => if eqp w q = eqp u q then (1 : Int) else 0).sum
def gnAt (U : List (List Int)) (q : Nat × Nat) : Int := (U.map fun u => if eqp u q = true then (1 : Int) else -1).sum
def gnRow (U : List (List Int)) (k : Nat) : List Int := (List.range k).map fun j => gnAt U (j, k)
def gnT (U : List (List Int)) (n : Nat) : List (List Int) := (List.range n).map (gnRow U)
def gnOf (tr row : List Int) (w : Int) : Int := ((tr.zip row).filterMap fun p => if p.2 = w then some p.1 else none).sum
def posS (tr : List Int) : Int := (tr.filter fun g => decide (0 < g)).sum
def outL (T : List (List Int)) (p : Nat) : Int := ((T.drop p).map posS).sum
def valW (T : List (List Int)) (w : List Int) : Int := ((List.range w.length).map fun k => gnOf (T.getD k []) (w.take k) (w.getD k 0)).sum
theorem sum_snoc (l : List Int) (x : Int) : (l ++ [x]).sum = l.sum + x := by simp
theorem valW_snoc (T : List (List Int)) (w : List Int) (z : Int) : valW T (w ++ [z]) = valW T w + gnOf (T.getD w.length []) w z := by
  unfold valW
  rw [List.length_append, List.length_singleton, List.range_succ, List.map_append, List.map_singleton, sum_snoc]
  congr 1
  · congr 1
    apply List.map_congr_left
    intro k hk
    have hk := List.mem_range.mp hk
    rw [List.take_append_of_le_length (Nat.le_of_lt hk), getD_app1 hk]
  · rw [List.take_left', getD_app2]; rfl
theorem gnOf_le : ∀ (tr row : List Int) (w : Int), gnOf tr row w ≤ posS tr
  | [], row, w => by unfold gnOf posS; simp
  | g :: tr, [], w => by
    have h : gnOf tr [] w ≤ posS tr := gnOf_le tr [] w
    unfold gnOf at h ⊢
    unfold posS at h ⊢
    rw [List.zip_nil_right] at h ⊢
    rw [List.filter_cons]
    by_cases hg : 0 < g
    · rw [if_pos (decide_eq_true hg), List.sum_cons]; simp at h ⊢; omega
    · rw [if_neg (by simpa using hg)]; exact h
  | g :: tr, r :: row, w => by
    have h : gnOf tr row w ≤ posS tr := gnOf_le tr row w
    unfold gnOf at h ⊢
    unfold posS at h ⊢
    rw [List.zip_cons_cons, List.filterMap_cons, List.filter_cons]
    by_cases hg : 0 < g
    · rw [if_pos (decide_eq_true hg), List.sum_cons]
      by_cases hr : r = w
      · simp only [if_pos hr, List.sum_cons]; omega
      · simp only [if_neg hr]; omega
    · rw [if_neg (fun q => hg (of_decide_eq_true q))]
      by_cases hr : r = w
      · simp only [if_pos hr, List.sum_cons]; omega
      · simp only [if_neg hr]; omega
theorem outL_succ {T : List (List Int)} {p : Nat} (h : p < T.length) : outL T p = posS (T.getD p []) + outL T (p + 1) := by
  unfold outL
  rw [List.drop_eq_getElem_cons h, List.map_cons, List.sum_cons, getD_lt h]
theorem outL_end {T : List (List Int)} {p : Nat} (h : T.length ≤ p) : outL T p = 0 := by
  unfold outL; rw [List.drop_eq_nil_of_le h]; rfl
theorem val_out {T : List (List Int)} : ∀ (m : Nat) (row w : List Int), w.length = T.length → w.length = row.length + m → w.take row.length = row → valW T w ≤ valW T row + outL T row.length
  | 0, row, w, h1, h2, h3 => by
    have e : w = row := by rw [← h3, List.take_of_length_le (by omega)]
    rw [e, outL_end (by omega)]; omega
  | m + 1, row, w, h1, h2, h3 => by
    have hlt : row.length < w.length := by omega
    have h := val_out m (row ++ [w.getD row.length 0]) w h1 (by rw [List.length_append, List.length_singleton]; omega) (by
      rw [List.length_append, List.length_singleton, List.take_add_one, h3, List.getElem?_eq_getElem hlt, getD_lt hlt]; rfl)
    rw [valW_snoc, List.length_append, List.length_singleton] at h
    have g := gnOf_le (T.getD row.length []) row (w.getD row.length 0)
    rw [outL_succ (by omega)]
    omega
abbrev Best := Option (Int × List Int)
def Beh (n : Nat) (row w : List Int) : Prop := wayGo 0 w = true ∧ w.length = n ∧ w.take row.length = row
def Res (T : List (List Int)) (Cs : List Int → Prop) (b b' : Best) : Prop :=
  (b' = b ∧ ∀ w, Cs w → ∃ g l, b = some (g, l) ∧ valW T w ≤ g) ∨
  (∃ l, b' = some (valW T l, l) ∧ Cs l ∧ (∀ g l0, b = some (g, l0) → g < valW T l) ∧ ∀ w, Cs w → valW T w ≤ valW T l ∧ (HT.lexLt w l = true → valW T w < valW T l))
theorem res_cut {T : List (List Int)} {row : List Int} {g : Int} {l : List Int} (h : valW T row + outL T row.length ≤ g) : Res T (Beh T.length row) (some (g, l)) (some (g, l)) := by
  refine .inl ⟨rfl, fun w hw => ⟨g, l, rfl, ?_⟩⟩
  have hl : row.length ≤ w.length := by
    have := congrArg List.length hw.2.2
    rw [List.length_take] at this; omega
  exact Int.le_trans (val_out (w.length - row.length) row w hw.2.1 (by omega) hw.2.2) h
theorem res_leaf {T : List (List Int)} {row : List Int} {b : Best} (hw : wayGo 0 row = true) (hl : row.length = T.length) (h : ∀ g l, b = some (g, l) → g < valW T row + outL T row.length) : Res T (Beh T.length row) b (some (valW T row, row)) := by
  refine .inr ⟨row, rfl, ⟨hw, hl, List.take_length⟩, fun g l0 e => ?_, fun w hw => ?_⟩
  · have := h g l0 e
    rw [outL_end (by omega)] at this; omega
  · have e : w = row := by rw [← hw.2.2, List.take_of_length_le (by rw [hw.2.1, hl]; exact Nat.le_refl _)]
    subst e
    exact ⟨Int.le_refl _, fun q => by rw [lexLt_irrefl] at q; cases q⟩
def BehTo (n : Nat) (row : List Int) (i : Nat) (w : List Int) : Prop := Beh n row w ∧ w.getD row.length 0 < (i : Int)
theorem lex_at : ∀ (row u w : List Int), u.take row.length = row → w.take row.length = row → row.length < u.length → row.length < w.length → u.getD row.length 0 < w.getD row.length 0 → HT.lexLt u w = true ∧ HT.lexLt w u = false
  | [], x :: u, y :: w, _, _, _, _, h => by
    have h : x < y := h
    rw [HT.lexLt_cons, HT.lexLt_cons, if_neg (by omega), if_neg (by omega)]
    exact ⟨decide_eq_true h, decide_eq_false (by omega)⟩
  | r :: row, x :: u, y :: w, h1, h2, l1, l2, h => by
    rw [List.length_cons, List.take_succ_cons] at h1 h2
    have e1 := (List.cons.inj h1)
    have e2 := (List.cons.inj h2)
    rw [HT.lexLt_cons, HT.lexLt_cons, if_pos (e1.1.trans e2.1.symm), if_pos (e2.1.trans e1.1.symm)]
    exact lex_at row u w e1.2 e2.2 (by simpa using l1) (by simpa using l2) (by simpa using h)
  | _, [], _, _, _, l, _, _ => by simp at l
  | _, _ :: _, [], _, _, _, l, _ => by simp at l
theorem beh_snoc {n : Nat} {row w : List Int} {z : Int} : Beh n (row ++ [z]) w ↔ Beh n row w ∧ row.length < n ∧ w.getD row.length 0 = z := by
  constructor
  · rintro ⟨h1, h2, h3⟩
    have hl : row.length < w.length := by
      have := congrArg List.length h3
      simp [List.length_take] at this; omega
    rw [List.length_append, List.length_singleton, List.take_add_one, List.getElem?_eq_getElem hl] at h3
    have h4 : w.take row.length = row ∧ [w[row.length]] = [z] := List.append_inj h3 (by rw [List.length_take]; omega)
    refine ⟨⟨h1, h2, h4.1⟩, by omega, ?_⟩
    rw [getD_lt hl]; exact (List.cons.inj h4.2).1
  · rintro ⟨⟨h1, h2, h3⟩, hn, e⟩
    have hl : row.length < w.length := by omega
    refine ⟨h1, h2, ?_⟩
    rw [List.length_append, List.length_singleton, List.take_add_one, h3, List.getElem?_eq_getElem hl, ← e, getD_lt hl]; rfl
theorem res_zero {T : List (List Int)} {row : List Int} {b : Best} (hr : row.length < T.length) : Res T (BehTo T.length row 0) b b := by
  refine .inl ⟨rfl, fun w hw => ?_⟩
  obtain ⟨⟨h1, h2, h3⟩, h4⟩ := hw
  have : 0 ≤ w.getD row.length 0 := by
    have hm : w.getD row.length 0 ∈ w := mem_getD.mpr ⟨row.length, by omega, rfl⟩
    exact ((way_memJ w h1 _).mp hm).1
  omega
theorem res_step {T : List (List Int)} {row : List Int} {i : Nat} {b b1 b2 : Best} (hr : row.length < T.length) (h1 : Res T (BehTo T.length row i) b b1) (h2 : Res T (Beh T.length (row ++ [(i : Int)])) b1 b2) : Res T (BehTo T.length row (i + 1)) b b2 := by
  have sp : ∀ w, BehTo T.length row (i + 1) w → BehTo T.length row i w ∨ Beh T.length (row ++ [(i : Int)]) w := fun w ⟨hw, hl⟩ => by
    by_cases e : w.getD row.length 0 < (i : Int)
    · exact .inl ⟨hw, e⟩
    · exact .inr (beh_snoc.mpr ⟨hw, hr, by omega⟩)
  have up : ∀ w, BehTo T.length row i w → BehTo T.length row (i + 1) w := fun w ⟨hw, hl⟩ => ⟨hw, by omega⟩
  have up2 : ∀ w, Beh T.length (row ++ [(i : Int)]) w → BehTo T.length row (i + 1) w := fun w hw => by
    obtain ⟨q1, q2, q3⟩ := beh_snoc.mp hw
    exact ⟨q1, by omega⟩
  have before : ∀ u w, BehTo T.length row i u → Beh T.length (row ++ [(i : Int)]) w → HT.lexLt w u = false := fun u w ⟨hu, hul⟩ hw => by
    obtain ⟨q1, q2, q3⟩ := beh_snoc.mp hw
    exact (lex_at row u w hu.2.2 q1.2.2 (by rw [hu.2.1]; exact hr) (by rw [q1.2.1]; exact hr) (by omega)).2
  rcases h1 with ⟨rfl, p1⟩ | ⟨l, rfl, c1, g1, p1⟩
  · rcases h2 with ⟨rfl, p2⟩ | ⟨l', rfl, c2, g2, p2⟩
    · exact .inl ⟨rfl, fun w hw => (sp w hw).elim (p1 w) (p2 w)⟩
    · refine .inr ⟨l', rfl, up2 _ c2, g2, fun w hw => (sp w hw).elim (fun q => ?_) (p2 w)⟩
      obtain ⟨g, l0, e, hle⟩ := p1 w q
      have := g2 g l0 e
      exact ⟨by omega, fun _ => by omega⟩
  · rcases h2 with ⟨rfl, p2⟩ | ⟨l', rfl, c2, g2, p2⟩
    · refine .inr ⟨l, rfl, up _ c1, g1, fun w hw => (sp w hw).elim (p1 w) fun q => ?_⟩
      obtain ⟨g, l0, e, hle⟩ := p2 w q
      cases e
      exact ⟨hle, fun z => by rw [before l w c1 q] at z; cases z⟩
    · have gl := g2 _ _ rfl
      refine .inr ⟨l', rfl, up2 _ c2, fun g l0 e => Int.lt_trans (g1 g l0 e) gl, fun w hw => (sp w hw).elim (fun q => ?_) (p2 w)⟩
      have := (p1 w q).1
      exact ⟨by omega, fun _ => by omega⟩
theorem res_all {T : List (List Int)} {row : List Int} {b b' : Best} {i : Nat} (hr : row.length < T.length) (hi : (i : Int) = fresh 0 row + 1) (h : Res T (BehTo T.length row i) b b') : Res T (Beh T.length row) b b' := by
  have al : ∀ w, Beh T.length row w → BehTo T.length row i w := fun w hw => by
    refine ⟨hw, ?_⟩
    have hl : row.length < w.length := by rw [hw.2.1]; exact hr
    have e : w = (row ++ [w.getD row.length 0]) ++ w.drop (row.length + 1) := by
      rw [List.append_assoc]
      conv => lhs; rw [← List.take_append_drop row.length w, hw.2.2, List.drop_eq_getElem_cons hl]
      rw [getD_lt hl]; rfl
    have hg : wayGo 0 (row ++ [w.getD row.length 0]) = true := by
      have := hw.1
      rw [e] at this
      rw [way_app, Bool.and_eq_true] at this
      exact this.1
    rw [wayGo_snoc] at hg
    simp only [Bool.and_eq_true, decide_eq_true_eq] at hg
    omega
  rcases h with ⟨rfl, p⟩ | ⟨l, rfl, c, g, p⟩
  · exact .inl ⟨rfl, fun w hw => p w (al w hw)⟩
  · exact .inr ⟨l, rfl, c.1, g, fun w hw => p w (al w hw)⟩
theorem res_end {T : List (List Int)} {b : Best} {u : List Int} (hu : wayGo 0 u = true) (hn : u.length = T.length) (h : Res T (Beh T.length []) none b) :
    ∃ l, b = some (valW T l, l) ∧ wayGo 0 l = true ∧ l.length = T.length ∧ ∀ w, wayGo 0 w = true → w.length = T.length → valW T w ≤ valW T l ∧ (HT.lexLt w l = true → valW T w < valW T l) := by
  rcases h with ⟨rfl, p⟩ | ⟨l, rfl, c, g, p⟩
  · obtain ⟨g, l, e, _⟩ := p u ⟨hu, hn, rfl⟩
    cases e
  · exact ⟨l, rfl, c.1, c.2.1, fun w h1 h2 => p w ⟨h1, h2, rfl⟩⟩
theorem sum_add2 {α : Type} (f g : α → Int) : ∀ l : List α, (l.map fun x => f x + g x).sum = (l.map f).sum + (l.map g).sum
  | [] => rfl
  | x :: l => by rw [List.map_cons, List.map_cons, List.map_cons, List.sum_cons, List.sum_cons, List.sum_cons, sum_add2 f g l]; omega
theorem gnOf_eq (f : Nat → Int) (z : Int) (w : List Int) : gnOf ((List.range w.length).map f) w z = ((List.range w.length).map fun j => if w.getD j 0 = z then f j else 0).sum := by
  induction w using snoc_ind with
  | h0 => rfl
  | h1 xs y ih =>
    rw [List.length_append, List.length_singleton, List.range_succ, List.map_append, List.map_append, List.map_singleton, List.map_singleton, sum_snoc, getD_app2]
    have e : ((List.range xs.length).map fun j => if (xs ++ [y]).getD j 0 = z then f j else 0) = (List.range xs.length).map fun j => if xs.getD j 0 = z then f j else 0 :=
      List.map_congr_left fun j hj => by rw [getD_app1 (List.mem_range.mp hj)]
    rw [e, ← ih]
    unfold gnOf
    rw [List.zip_append (by simp), List.filterMap_append]
    by_cases hy : y = z
    · simp [hy]
    · simp [hy]
theorem valW_eq (U : List (List Int)) (n : Nat) (w : List Int) : w.length ≤ n → valW (gnT U n) w = ((pairsN w.length).map fun q => if eqp w q = true then gnAt U q else 0).sum := by
  induction w using snoc_ind with
  | h0 => intro _; rfl
  | h1 xs y ih =>
    intro hl
    rw [List.length_append, List.length_singleton] at hl
    rw [valW_snoc, ih (by omega), List.length_append, List.length_singleton, pairsN_succ, List.map_append, List.sum_append, List.map_map]
    have e1 : ((pairsN xs.length).map fun q => if eqp (xs ++ [y]) q = true then gnAt U q else 0) = (pairsN xs.length).map fun q => if eqp xs q = true then gnAt U q else 0 :=
      List.map_congr_left fun q hq => by
        obtain ⟨h1, h2⟩ := pairsN_ok q hq
        unfold eqp; rw [getD_app1 h1, getD_app1 h2]
    have e2 : (gnT U n).getD xs.length [] = (List.range xs.length).map fun j => gnAt U (j, xs.length) := by
      unfold gnT
      rw [List.getD_eq_getElem?_getD, List.getElem?_map, List.getElem?_range (by omega)]; rfl
    rw [e1, e2, gnOf_eq]
    congr 2
    apply List.map_congr_left
    intro j hj
    have hj := List.mem_range.mp hj
    show _ = if eqp (xs ++ [y]) (j, xs.length) = true then gnAt U (j, xs.length) else 0
    unfold eqp
    dsimp only
    rw [getD_app1 hj, getD_app2]
    by_cases q : xs.getD j 0 = y
    · rw [if_pos q, if_pos (decide_eq_true q)]
    · rw [if_neg q, if_neg (by simpa using q)]
def sumA (U : List (List Int)) (w : List Int) : Int := (U.map fun u => agr w u).sum
def negC (U : List (List Int)) (n : Nat) : Int := (U.map fun u => ((pairsN n).map fun q => if eqp u q = true then (0 : Int) else 1).sum).sum
theorem sumA_eq (w : List Int) : ∀ U : List (List Int), sumA U w = ((pairsN w.length).map fun q => if eqp w q = true then gnAt U q else 0).sum + negC U w.length
  | [] => by
    have e : ∀ l : List (Nat × Nat), (l.map fun q => if eqp w q = true then gnAt [] q else 0).sum = 0 := fun l => by
      induction l with
      | nil => rfl
      | cons x l ih => rw [List.map_cons, List.sum_cons, ih]; by_cases h : eqp w x = true <;> simp [h, gnAt]
    rw [e]; rfl
  | u :: U => by
    have ih := sumA_eq w U
    have e1 : sumA (u :: U) w = agr w u + sumA U w := by unfold sumA; rw [List.map_cons, List.sum_cons]
    have e2 : negC (u :: U) w.length = ((pairsN w.length).map fun q => if eqp u q = true then (0 : Int) else 1).sum + negC U w.length := by unfold negC; rw [List.map_cons, List.sum_cons]
    have e3 : ∀ l : List (Nat × Nat), (l.map fun q => if eqp w q = true then gnAt (u :: U) q else 0).sum + (l.map fun q => if eqp u q = true then (0 : Int) else 1).sum = (l.map fun q => if eqp w q = eqp u q then (1 : Int) else 0).sum + (l.map fun q => if eqp w q = true then gnAt U q else 0).sum := fun l => by
      rw [← sum_add2, ← sum_add2]
      congr 1
      apply List.map_congr_left
      intro q _
      have g : gnAt (u :: U) q = (if eqp u q = true then (1 : Int) else -1) + gnAt U q := by unfold gnAt; rw [List.map_cons, List.sum_cons]
      rw [g]
      cases eqp w q <;> cases eqp u q <;> simp <;> omega
    have := e3 (pairsN w.length)
    unfold agr at e1
    omega
theorem sumA_val (U : List (List Int)) {n : Nat} {w : List Int} (h : w.length = n) : sumA U w = valW (gnT U n) w + negC U n := by
  subst h; rw [sumA_eq, valW_eq U _ w (Nat.le_refl _)]
theorem gnT_length (U : List (List Int)) (n : Nat) : (gnT U n).length = n := by unfold gnT; simp
theorem council_best {U : List (List Int)} {n : Nat} {l w : List Int} (hl : l.length = n) (hw : w.length = n) (h : valW (gnT U n) w ≤ valW (gnT U n) l ∧ (HT.lexLt w l = true → valW (gnT U n) w < valW (gnT U n) l)) :
    ¬ sumA U l < sumA U w ∧ (sumA U w = sumA U l → HT.lexLt w l = false) := by
  rw [sumA_val U hl, sumA_val U hw]
  refine ⟨by omega, fun e => ?_⟩
  cases q : HT.lexLt w l with
  | false => rfl
  | true => have := h.2 q; omega
end L2
set_option Elab.async false
set_option linter.all false
set_option maxRecDepth 100000
namespace L2
open PySem PySem.Spec PyProof.Rows
def gV : Best → V
  | none => .non
  | some (g, _) => .int g
def sF (t o : Addr) (g l : V) : List (Str × V) := [("table", .ref t), ("outlook", .ref o), ("greatest", g), ("leader", l)]
theorem sF_made (t o : Addr) (g l : V) : putF "leader" l (putF "greatest" g (putF "outlook" (.ref o) (putF "table" (.ref t) []))) = sF t o g l := by
  have n1 : ¬ ("table" : Str) = "outlook" := by decide +kernel
  have n2 : ¬ ("table" : Str) = "greatest" := by decide +kernel
  have n3 : ¬ ("table" : Str) = "leader" := by decide +kernel
  have n4 : ¬ ("outlook" : Str) = "greatest" := by decide +kernel
  have n5 : ¬ ("outlook" : Str) = "leader" := by decide +kernel
  have n6 : ¬ ("greatest" : Str) = "leader" := by decide +kernel
  simp only [putF, if_neg n1, if_neg n2, if_neg n3, if_neg n4, if_neg n5, if_neg n6, sF]
theorem sF_g (t o : Addr) (g l g' : V) : putF "greatest" g' (sF t o g l) = sF t o g' l := by
  have n2 : ¬ ("table" : Str) = "greatest" := by decide +kernel
  have n4 : ¬ ("outlook" : Str) = "greatest" := by decide +kernel
  simp only [sF, putF, if_neg n2, if_neg n4, if_pos]
theorem sF_l (t o : Addr) (g l l' : V) : putF "leader" l' (sF t o g l) = sF t o g l' := by
  have n3 : ¬ ("table" : Str) = "leader" := by decide +kernel
  have n5 : ¬ ("outlook" : Str) = "leader" := by decide +kernel
  have n6 : ¬ ("greatest" : Str) = "leader" := by decide +kernel
  simp only [sF, putF, if_neg n3, if_neg n5, if_neg n6, if_pos]
theorem lk_sF (t o : Addr) (g l : V) (x : Str) : (sF t o g l).lookup x = if x = "leader" then some l else if x = "greatest" then some g else if x = "outlook" then some (.ref o) else if x = "table" then some (.ref t) else none := by
  rw [← sF_made]; simp only [lookup_putF, List.lookup_nil]
theorem sF_atT (t o : Addr) (g l : V) : (sF t o g l).lookup ("table" : Str) = some (.ref t) := by rw [lk_sF, if_neg (by decide +kernel), if_neg (by decide +kernel), if_neg (by decide +kernel), if_pos rfl]
theorem sF_atO (t o : Addr) (g l : V) : (sF t o g l).lookup ("outlook" : Str) = some (.ref o) := by rw [lk_sF, if_neg (by decide +kernel), if_neg (by decide +kernel), if_pos rfl]
theorem sF_atG (t o : Addr) (g l : V) : (sF t o g l).lookup ("greatest" : Str) = some g := by rw [lk_sF, if_neg (by decide +kernel), if_pos rfl]
theorem sF_atL (t o : Addr) (g l : V) : (sF t o g l).lookup ("leader" : Str) = some l := by rw [lk_sF, if_pos rfl]
theorem sF_no (t o : Addr) (g l : V) {m : Str} (h1 : ¬ m = "leader") (h2 : ¬ m = "greatest") (h3 : ¬ m = "outlook") (h4 : ¬ m = "table") : (sF t o g l).lookup m = none := by rw [lk_sF, if_neg h1, if_neg h2, if_neg h3, if_neg h4]
def outs (T : List (List Int)) : List Int := (List.range (T.length + 1)).map (outL T)
theorem outs_at {T : List (List Int)} {i : Nat} (h : i ≤ T.length) : (outs T)[i]? = some (outL T i) := by
  unfold outs; rw [List.getElem?_map, List.getElem?_range (by omega)]; rfl
structure SrAt (K : PySem.W.Frag) (C : Addr) (H : Hp) (p dx t o : Addr) (lv : V) (ts : List Addr) (T : List (List Int)) (b : Best) : Prop where
  ob : H p = some (.ins C dx (sF t o (gV b) lv))
  ht : H t = some (.lst (ts.map V.ref))
  hr : LhAt H ts T
  ho : H o = some (.lst ((outs T).map V.int))
  hl : ∀ g l, b = some (g, l) → ∃ q, lv = .ref q ∧ SqT K H q (l.map V.int)
def FrP (H H' : Hp) (p : Addr) : Prop := ∀ x u, H x = some u → x ≠ p → H' x = some u
theorem FrP.trans {H1 H2 H3 : Hp} {p : Addr} (a : FrP H1 H2 p) (b : FrP H2 H3 p) : FrP H1 H3 p := fun x u e n => b x u (a x u e n) n
theorem FrP.of {H H' : Hp} {p : Addr} (s : Same H H') : FrP H H' p := fun x u e _ => s x u e
theorem upd_FrP {H : Hp} {p : Addr} {a b : HO} : FrP H (upd (upd H p a) p b) p := fun x u e n => by rw [upd_ne n, upd_ne n]; exact e
theorem SqT.frP {K : PySem.W.Frag} {H H' : Hp} {p a C dx : Addr} {fs : List (Str × V)} {xs : List V} (h : SqT K H a xs) (hp : H p = some (.ins C dx fs)) (f : FrP H H' p) : SqT K H' a xs := by
  rcases h with (h | ⟨u, h⟩) | h
  · exact .inl (.inl (f a _ h (fun e => by rw [e, hp] at h; cases h)))
  · exact .inl (.inr ⟨u, f a _ h (fun e => by rw [e, hp] at h; cases h)⟩)
  · exact .inr h
section
variable {K : PySem.W.Frag} {C : Addr} {H H' : Hp} {p dx t o : Addr} {lv : V} {ts : List Addr} {T : List (List Int)} {b : Best}
theorem SrAt.same (h : SrAt K C H p dx t o lv ts T b) (s : Same H H') : SrAt K C H' p dx t o lv ts T b :=
  ⟨s _ _ h.ob, s _ _ h.ht, h.hr.sameH s, s _ _ h.ho, fun g l e => by obtain ⟨q, e1, e2⟩ := h.hl g l e; exact ⟨q, e1, s.seqT e2⟩⟩
theorem SrAt.row (h : SrAt K C H p dx t o lv ts T b) {i : Nat} (hi : i < T.length) : ∃ q, ts[i]? = some q ∧ H q = some (.lst ((T.getD i []).map V.int)) := by
  obtain ⟨q, hq, e⟩ := paired_getR h.hr (show T[i]? = some (T.getD i []) by rw [List.getD_eq_getElem?_getD, List.getElem?_eq_getElem hi]; rfl)
  exact ⟨q, e, hq⟩
theorem lh_ins_ne (h : H p = some (.ins C dx (sF t o (gV b) lv))) (hr : LhAt H ts T) : ∀ a ∈ ts, a ≠ p := fun a ha e => by
  obtain ⟨j, hj, e2⟩ := List.getElem_of_mem ha
  obtain ⟨r, hr', _⟩ := paired_getM hr (List.getElem?_eq_getElem hj)
  rw [e2, e, h] at hr'; cases hr'
theorem SrAt.put (h : SrAt K C H p dx t o lv ts T b) {r : Addr} {g : Int} {l : List Int} (hr : SqT K H r (l.map V.int)) : SrAt K C (upd (upd H p (.ins C dx (sF t o (.int g) lv))) p (.ins C dx (sF t o (.int g) (.ref r)))) p dx t o (.ref r) ts T (some (g, l)) := by
  have np : ∀ {x : Addr} {u : HO}, H x = some u → x ≠ p → upd (upd H p (.ins C dx (sF t o (.int g) lv))) p (.ins C dx (sF t o (.int g) (.ref r))) x = some u := fun e n => by rw [upd_ne n, upd_ne n]; exact e
  refine ⟨upd_same, np h.ht (ins_ne h.ob h.ht).symm, ?_, np h.ho (ins_ne h.ob h.ho).symm, fun g' l' e => ?_⟩
  · have nn := lh_ins_ne h.ob h.hr
    exact lh_put (lh_put h.hr nn) nn
  · cases e
    exact ⟨r, rfl, (hr.frP h.ob upd_FrP)⟩
end
theorem way_more {row : List Int} (hw : wayGo 0 row = true) {i : Nat} (hi : (i : Int) < fresh 0 row + 1) : wayGo 0 (row ++ [(i : Int)]) = true := by
  rw [wayGo_snoc, hw]
  simp only [Bool.true_and, Bool.and_eq_true, decide_eq_true_eq]
  omega
theorem gn_snoc {tr row : List Int} {i : Nat} {w g x : Int} (h1 : tr[i]? = some g) (h2 : row[i]? = some x) : ((tr.zip row).take (i + 1)).filterMap (fun p => if p.2 = w then some p.1 else none) = ((tr.zip row).take i).filterMap (fun p => if p.2 = w then some p.1 else none) ++ (if x = w then [g] else []) := by
  rw [take_snoc (show (tr.zip row)[i]? = some (g, x) by rw [List.getElem?_zip_eq_some]; exact ⟨h1, h2⟩), List.filterMap_append]
  by_cases e : x = w <;> simp [e]
theorem iteNo {c A B : Prop} [Decidable c] (hc : ¬ c) (h : A) : if (!decide c) = true then A else B := by
  rw [if_pos (by rw [decide_eq_false hc]; rfl)]; exact h
theorem fresh_nn (row : List Int) (hw : wayGo 0 row = true) : 0 ≤ fresh 0 row := by
  by_cases h : row = []
  · subst h; exact Int.le_refl _
  · have := (fresh_pos hw h).1; omega
theorem rMaxD_way {K : PySem.W.Frag} {H : Hp} {r : Addr} {row : List Int} {Q : VK} (hw : wayGo 0 row = true) (hs : SqT K H r (row.map V.int)) (h : Q (.int (fresh 0 row - 1)) H) : rMaxD K (.ref r) (.int (-1)) H Q :=
  ⟨r, row, -1, rfl, rfl, .inr hs, fun e => by subst e; exact h, fun ne m hm => by rw [(fresh_pos hw ne).2.uniq hm] at h; exact h⟩
def cutB (T : List (List Int)) (row : List Int) : Best → Bool
  | none => false
  | some (g, _) => decide (valW T row + outL T row.length ≤ g)
theorem kc_isiS {X : Cx} {K : PySem.W.Frag} (h : X.K = K := by rfl) : CallR X (.builtin "isinstance") (fun xs H Q => ∃ x n t b, xs = [x, .ty n] ∧ (TyOf K H x t ∨ ∃ (a : Addr) (ys : List V), x = .ref a ∧ SqT K H a ys ∧ t = .type "tuple") ∧ PySem.W.kitOne K t (.type n) = some b ∧ Q (.bl b) H) := by
  subst h
  intro pins s σ H xs us Q I r h
  obtain ⟨x, n, t, b, rfl, ty, e, q⟩ := h
  obtain ⟨u, w', rfl, rx, ru⟩ := vals2 r
  cases (show w' = Value.type n from ru)
  rcases ty with ty | ⟨a, ys, rfl, hS, rfl⟩
  · exact isinst_ok I rx ty e fun tk => ⟨.bl b, H, I.tok tk, rfl, q⟩
  · cases (show u = Value.ref a from rx)
    obtain ⟨its, rv, p, _⟩ := I.tuple hS
    obtain ⟨ob, e1, e2, _⟩ := (show s.heap.IsTuple a its.toArray from p)
    exact PySem.W.kia_one PySem.W.kitx_tuple I.kIn ⟨ob, e1, e2⟩ e (fun z => nomatch z) fun tk => ⟨.bl b, H, I.tok tk, rfl, q⟩
theorem emodN (r : Int) {n : Nat} (h : 0 < n) : ∃ k : Nat, r % (n : Int) = (k : Int) ∧ k < n :=
  ⟨(r % (n : Int)).toNat, by have := Int.emod_nonneg r (show (n : Int) ≠ 0 by omega); omega, by have := Int.emod_lt_of_pos r (show 0 < (n : Int) by omega); have := Int.emod_nonneg r (show (n : Int) ≠ 0 by omega); omega⟩
end L2
set_option Elab.async false
set_option linter.all false
set_option maxRecDepth 100000
namespace L2
open PySem PySem.Spec PyProof.Rows
section
variable {X : Cx} {K : PySem.W.Frag}
def Itw (x : Int) (n : Nat) : It := ⟨fun i _ => i < n, fun i H v H' => H' = H ∧ v = .int (x + i * 2), fun i _ => n ≤ i⟩
theorem turn_two {P : Program} {w : World} {tg : Expr} (it : Addr) (lo : Int) (n : Nat) : Turn P w K tg (Itw lo n) [it] it (fun i h => IsRangeIter h it (lo + (i : Nat) * 2) ((n : Int) - (i : Nat)) 2) where
  mem := by simp
  obj := fun i h st b hb => by
    have e : b = it := by simpa using hb
    subst e
    exact ⟨_, st, fun v z => by
      have z' : Data.fields _ = Data.cell v := z
      cases z'⟩
  keep := fun i h h' st k => k it (by simp) _ st
  item := by
    intro X hP hw hK hc i pins s σ H E I hf st hg
    subst hP hw hK
    obtain ⟨f0, f1, f2, f3, f4, f5⟩ := hf it (by simp)
    have W := Walks.range (prog := X.prog) (w := X.w) (I.ok.hd hc) it lo 2 n
    refine W.item i s _ _ hg st fun v h' tk hv st' kk => ?_
    obtain ⟨t, rfl⟩ := hv
    have I1 : Inv X pins σ H { s with heap := h', toks := tk } := I.turned (fun b o hb e => kk b o (by simpa using hb) e) f0 f1 f3 f4 f5
    refine ⟨_, rfl, go_of (s := { s with heap := h', toks := tk }) (n := "range_iterator") st' rfl rfl (by decide) ⟨.int (lo + i * 2), H, I1, ⟨t, ?_⟩, ⟨rfl, rfl⟩, st', fun b hb => (hf b hb).1⟩⟩
    rfl
  done := by
    intro X hP hw hK hc i pins s σ H E I hf st hg
    subst hP hw hK
    obtain ⟨f0, f1, f2, f3, f4, f5⟩ := hf it (by simp)
    exact wpAny_pyNext_range_end (I.ok.hd hc) st (by have : n ≤ i := hg; omega) fun h' eb => ⟨rfl, I.turned (t' := s.toks) (fun b o hb e => eb b o hb e) f0 f1 f3 f4 f5⟩
  self := fun _ _ _ _ _ st h => wpAny_pyIter_rangeiter st h
def iRngW (ta : TA) : TI := fun σ H R => ta σ H fun vs H1 => ∃ i j : Int, vs = [.int i, .int j, .int 2] ∧ (-(2 ^ 40) ≤ i ∧ i < 2 ^ 40 ∧ -(2 ^ 40) ≤ j ∧ j < 2 ^ 40) ∧ R (Itw i ((j - i + 1) / 2).toNat) H1
theorem pi_rangeW {tg : Expr} {a b c : Expr} {ta : TA} {p pos : Pos} (hg : Gl X "range") (hm : X.mg "range" = none) (ha : PA X [a, b, c] ta) (hs : starEach [a, b, c] X.env = (false, eval a X.env) :: starEach [b, c] X.env := by rfl) (hs2 : (backTo pos (starEach [b, c] X.env)).any (·.1) = false := by rfl) :
    PI X tg (.Call (.Name "range" p) [a, b, c] [] pos) (iRngW ta) := by
  intro pins s σ H R I h
  refine Call_ (ld_blt I hg hm boot_range (PyProof.Rows.callWith_type1 (thn (ha pos pins s σ H _ I h) fun us s1 ⟨vs, H1, I1, r1, q1⟩ => ?_) hs hs2))
  obtain ⟨i, j, e, ⟨g1, g2, g3, g4⟩, q⟩ := q1
  subst e
  cases r1 with
  | cons r rr =>
    cases rr with
    | cons r' rr =>
      cases rr with
      | cons r'' rr =>
        cases rr
        obtain ⟨t, rfl⟩ := r
        obtain ⟨t', rfl⟩ := r'
        obtain ⟨t'', rfl⟩ := r''
        refine call_range_3 (by decide) ?_ (Or.inl (PyProof.noPylong_small (by omega)))
        have hsz : Builtin.Range.rangeSize i j 2 = (((j - i + 1) / 2).toNat : Int) := by
          unfold Builtin.Range.rangeSize
          rw [if_pos (by decide)]
          split <;> omega
        have hsm : Builtin.Range.small i j 2 = true := by
          unfold Builtin.Range.small
          rw [hsz]
          simp only [Builtin.Range.rangeFitsLong, Bool.and_eq_true, Bool.or_eq_true, decide_eq_true_eq, beq_iff_eq, show ((2 : Int) > 0) by decide, if_true]
          omega
        refine wpAny_pyIter_range (IsRange.new ..) hsm ?_
        rw [hsz]
        have I2 : Inv X pins σ H1 { s1 with heap := s1.heap.push { cls := .type "range", data := .fields #[.int i t, .int j t', .int 2 t''] }, toks := s1.toks } := I1.kept fun b o e => Heap.get?_push_of_some _ e
        refine ⟨(s1.heap.push { cls := .type "range", data := .fields #[.int i t, .int j t', .int 2 t''] }).objs.size, [(s1.heap.push { cls := .type "range", data := .fields #[.int i t, .int j t', .int 2 t''] }).objs.size], _, _, H1, rfl,
          I2.kept (t' := s1.toks) fun b o e => Heap.get?_push_of_some _ e, turn_two _ i ((j - i + 1) / 2).toNat, ?_, fun b hb => ?_, q⟩
        · have e1 : i + ((0 : Nat) : Int) * 2 = i := by simp
          have e2 : ((((j - i + 1) / 2).toNat : Nat) : Int) - ((0 : Nat) : Int) = (((j - i + 1) / 2).toNat : Int) := by simp
          show IsRangeIter _ _ (i + ((0 : Nat) : Int) * 2) (((((j - i + 1) / 2).toNat : Nat) : Int) - ((0 : Nat) : Int)) 2
          rw [e1, e2]
          exact Heap.get?_push_size _ rfl
        · have e : b = (s1.heap.push { cls := .type "range", data := .fields #[.int i t, .int j t', .int 2 t''] }).objs.size := by simpa using hb
          subst e
          exact I2.fpOk (Nat.le_refl _) (I2.hok.fresh (Nat.le_refl _))
end
theorem due_ok {ws : List Int} (hw : isWay ws = true) {qs : List (Nat × Nat)} : ∀ r ∈ dueL ws qs, isWay r = true ∧ r.length = ws.length := fun r hr => by
  obtain ⟨q, _, _, rfl⟩ := (mem_dueL _ _ _).mp hr
  obtain ⟨w1, w9, _⟩ := isWay_iff.mp hw
  refine ⟨?_, mrg_length ..⟩
  unfold mrg
  exact numRow_isWay (by rw [relab_length]; exact w1) (by rw [relab_length]; exact w9)
def cntE (U : List (List Int)) (q : Nat × Nat) : Int := (U.map fun u => if eqp u q = true then (1 : Int) else 0).sum
theorem cntE_snoc (U : List (List Int)) (u : List Int) (q : Nat × Nat) : cntE (U ++ [u]) q = cntE U q + if eqp u q = true then 1 else 0 := by
  unfold cntE; rw [List.map_append, List.map_singleton, sum_snoc]
def pickE (U : List (List Int)) (w : List Int) (q : Nat × Nat) : Int := if eqp w q = true then cntE U q else (U.length : Int) - cntE U q
theorem pick_sum (w : List Int) : ∀ U : List (List Int), ((pairsN w.length).map (pickE U w)).sum = sumA U w
  | [] => by
    have e : ∀ l : List (Nat × Nat), (l.map (pickE [] w)).sum = 0 := fun l => by
      induction l with
      | nil => rfl
      | cons x l ih => rw [List.map_cons, List.sum_cons, ih]; unfold pickE cntE; by_cases h : eqp w x = true <;> simp [h]
    rw [e]; rfl
  | u :: U => by
    have ih := pick_sum w U
    have e1 : sumA (u :: U) w = agr w u + sumA U w := by unfold sumA; rw [List.map_cons, List.sum_cons]
    rw [e1, ← ih]
    unfold agr
    rw [← sum_add2]
    congr 1
    apply List.map_congr_left
    intro q _
    have g : cntE (u :: U) q = (if eqp u q = true then (1 : Int) else 0) + cntE U q := by unfold cntE; rw [List.map_cons, List.sum_cons]
    unfold pickE
    rw [g, List.length_cons]
    cases eqp w q <;> cases eqp u q <;> simp <;> omega
def tabF (n : Nat) (f : Nat × Nat → Int) : List (List Int) := (List.range n).map fun j => (List.range n).map fun k => f (j, k)
theorem tabF_row {n j : Nat} (f : Nat × Nat → Int) (h : j < n) : (tabF n f)[j]? = some ((List.range n).map fun k => f (j, k)) := by
  unfold tabF; rw [List.getElem?_map, List.getElem?_range h]; rfl
theorem tabF_at {n j k : Nat} (f : Nat × Nat → Int) (h : k < n) : ((List.range n).map fun k => f (j, k))[k]? = some (f (j, k)) := by
  rw [List.getElem?_map, List.getElem?_range h]; rfl
theorem set_range {α : Type} (n k : Nat) (g : Nat → α) (x : α) : ((List.range n).map g).set k x = (List.range n).map fun i => if i = k then x else g i := by
  apply List.ext_getElem?
  intro i
  rw [List.getElem?_set, List.getElem?_map, List.getElem?_map]
  by_cases hi : i < n
  · rw [List.getElem?_range hi]
    by_cases e : k = i
    · subst e; simp [hi]
    · simp [e, Ne.symm e]
  · have : (List.range n)[i]? = none := by rw [List.getElem?_eq_none_iff]; simp; omega
    rw [this]
    by_cases e : k = i
    · subst e; simp [hi]
    · simp [e]
theorem tabF_set {n j k : Nat} (f : Nat × Nat → Int) (x : Int) : (tabF n f).set j (((List.range n).map fun k => f (j, k)).set k x) = tabF n fun q => if q = (j, k) then x else f q := by
  unfold tabF
  rw [set_range, set_range]
  apply List.map_congr_left
  intro i _
  by_cases e : i = j
  · subst e
    rw [if_pos rfl]
    apply List.map_congr_left
    intro m _
    by_cases e2 : m = k
    · subst e2; simp
    · rw [if_neg e2]; dsimp only; rw [if_neg (fun z => e2 (Prod.mk.inj z).2)]
  · rw [if_neg e]
    apply List.map_congr_left
    intro m _
    dsimp only
    rw [if_neg (fun z => e (Prod.mk.inj z).1)]
theorem pairsN_nodup : ∀ n : Nat, (pairsN n).Nodup
  | 0 => List.nodup_nil
  | n + 1 => by
    rw [pairsN_succ]
    refine List.nodup_append.mpr ⟨pairsN_nodup n, ?_, fun a ha b hb e => ?_⟩
    · refine List.Pairwise.map (R := fun a b => a ≠ b) (fun j => (j, n)) (fun a b h e => h (Prod.mk.inj e).1) List.nodup_range
    · obtain ⟨j, _, rfl⟩ := List.mem_map.mp hb
      have := mem_pairsN.mp (e ▸ ha)
      omega
theorem not_in_take {α : Type} {l : List α} (h : l.Nodup) {m : Nat} {x : α} (hx : l[m]? = some x) : x ∉ l.take m := fun hm => by
  obtain ⟨i, hi, e⟩ := List.getElem_of_mem hm
  rw [List.length_take] at hi
  rw [List.getElem_take] at e
  obtain ⟨hm', e2⟩ := List.getElem?_eq_some_iff.mp hx
  exact List.pairwise_iff_getElem.mp h i m (by omega) hm' (by omega) (e.trans e2.symm)
theorem lh_outQ {H : Hp} {q : Addr} {o : HO} : ∀ {l1 : List Addr} {l2 : List (List Int)}, LhAt H l1 l2 → q ∉ l1 → LhAt (upd H q o) l1 l2
  | _, _, .nil, _ => .nil
  | _, _, .cons r t, hm => by
    rw [List.mem_cons, not_or] at hm
    exact .cons (by rw [upd_ne (fun z => hm.1 z.symm)]; exact r) (lh_outQ t hm.2)
theorem lh_setQ {H : Hp} {q : Addr} {xs' : List Int} : ∀ {ps : List Addr} {xss : List (List Int)} {i : Nat}, LhAt H ps xss → ps.Nodup → ps[i]? = some q → LhAt (upd H q (.lst (xs'.map V.int))) ps (xss.set i xs') := by
  intro ps xss i h
  induction h generalizing i with
  | nil => intro _ e; simp at e
  | @cons a x l1 l2 h t ih =>
    intro hn e
    rw [List.nodup_cons] at hn
    cases i with
    | zero =>
      simp at e; subst e
      exact .cons upd_same (lh_outQ t hn.1)
    | succ i =>
      have e' : l1[i]? = some q := by simpa using e
      have hne : a ≠ q := fun z => hn.1 (z ▸ List.mem_of_getElem? e')
      exact .cons (by rw [upd_ne hne]; exact h) (ih hn.2 e')
theorem paired_takeQ {α β : Type} {F : α → β → Prop} : ∀ {l1 : List α} {l2 : List β} (i : Nat), Paired F l1 l2 → Paired F (l1.take i) (l2.take i)
  | _, _, 0, _ => .nil
  | _, _, _ + 1, .nil => .nil
  | _, _, i + 1, .cons e t => .cons e (paired_takeQ i t)
theorem getD0_len {U : List (List Int)} {n : Nat} (hz : 1 ≤ U.length) (h : ∀ u ∈ U, isWay u = true ∧ u.length = n) : (U.getD 0 []).length = n := by
  have : U[0]? = some (U.getD 0 []) := by rw [List.getD_eq_getElem?_getD, List.getElem?_eq_getElem (by omega)]; rfl
  exact (h _ (List.mem_of_getElem? this)).2
theorem ts_of {K : PySem.W.Frag} {H : Hp} {ps : List Addr} {R : List (List Int)} (h : TuAt H ps R) : TsAt K H ps R := L2.Paired.mapP h fun _ _ z => SqT.of z
theorem len_ne {U : List (List Int)} (hz : 1 ≤ U.length) : U ≠ [] := fun e => by rw [e] at hz; simp at hz
structure NwAt (H0 H : Hp) (p : Addr) (n : Nat) (ps : List Addr) (R : List (List Int)) (B : Nat) : Prop where
  fr : FrP H0 H p
  hp : H p = some (.lst (ps.map V.ref))
  hR : TuAt H ps R
  ok : ∀ r ∈ R, isWay r = true ∧ r.length = n
  hb : R.length ≤ B
section
variable {H0 H H' : Hp} {p : Addr} {n B B' : Nat} {ps : List Addr} {R : List (List Int)}
theorem NwAt.le (h : NwAt H0 H p n ps R B) (hB : B ≤ B') : NwAt H0 H p n ps R B' := ⟨h.fr, h.hp, h.hR, h.ok, Nat.le_trans h.hb hB⟩
theorem NwAt.same (h : NwAt H0 H p n ps R B) (s : Same H H') : NwAt H0 H' p n ps R B := ⟨h.fr.trans (FrP.of s), s _ _ h.hp, tu_same s h.hR, h.ok, h.hb⟩
theorem NwAt.rebase (h : NwAt H0 H p n ps R B) : NwAt H H p n ps R B := ⟨FrP.of (Same.refl _), h.hp, h.hR, h.ok, h.hb⟩
theorem NwAt.before {G : Hp} (h : NwAt H0 H p n ps R B) (f : FrP G H0 p) : NwAt G H p n ps R B := ⟨f.trans h.fr, h.hp, h.hR, h.ok, h.hb⟩
theorem NwAt.app {w : Addr} {us : List Int} (h : NwAt H0 H p n ps R B) (s : Same H H') (hw : H' w = some (.tup (us.map V.int))) (ok : isWay us = true ∧ us.length = n) :
    NwAt H0 (upd H' p (.lst (ps.map V.ref ++ [V.ref w]))) p n (ps ++ [w]) (R ++ [us]) (B + 1) := by
  have hp' := s _ _ h.hp
  refine ⟨fun x u e nx => by rw [upd_ne nx]; exact s _ _ (h.fr x u e nx), by rw [upd_same, List.map_append]; rfl, Paired.snoc (tu_put hp' (tu_same s h.hR)) ?_, fun r hr => ?_, ?_⟩
  · rw [upd_ne (fun e => by rw [e, hp'] at hw; cases hw)]; exact hw
  · rcases List.mem_append.mp hr with z | z
    · exact h.ok r z
    · rw [List.mem_singleton.mp z]; exact ok
  · rw [List.length_append, List.length_singleton]; have := h.hb; omega
theorem NwAt.len (h : NwAt H0 H p n ps R B) : ps.length ≤ B := by rw [h.hR.length]; exact h.hb
end
theorem SqT.frL {K : PySem.W.Frag} {H H' : Hp} {p a : Addr} {xs l : List V} (h : SqT K H a xs) (hp : H p = some (.lst l)) (f : FrP H H' p) : SqT K H' a xs := by
  rcases h with (h | ⟨u, h⟩) | h
  · exact .inl (.inl (f a _ h (fun e => by rw [e, hp] at h; cases h)))
  · exact .inl (.inr ⟨u, f a _ h (fun e => by rw [e, hp] at h; cases h)⟩)
  · exact .inr h
end L2

set_option Elab.async false
set_option linter.all false
set_option maxRecDepth 100000
namespace Lw
open PySem L2
def top (i : Nat) : Stmt := PySem.Challenge.pw_censers_k49_whole_councils_of_all_ways.main.body.getD i (.Pass ⟨0, 0, 0, 0⟩)
abbrev s_law_draw : Stmt := top 13
abbrev s_law_cell : Stmt := top 14
abbrev s_law_many : Stmt := top 15
abbrev sis_way : Stmt := top 5
abbrev scheck_way : Stmt := top 6
abbrev scheck_way_of : Stmt := top 7
abbrev sgains : Stmt := top 9
abbrev sSearch___init__ : Stmt := inClass (top 10) 0
abbrev sSearch_follow : Stmt := inClass (top 10) 1
abbrev scouncil : Stmt := top 11
abbrev s_law_num : Stmt := top 16
abbrev s_law_row_ok : Stmt := top 17
abbrev s_law_way_ok : Stmt := top 18
abbrev s_law_way : Stmt := top 19
abbrev s_law_pairs : Stmt := top 21
abbrev s_law_all : Stmt := top 20
abbrev s_law_number_row : Stmt := top 22
abbrev s_law_lots : Stmt := top 23
abbrev s_law_joinings : Stmt := top 24
abbrev s_law_pair_table : Stmt := top 25
abbrev s_law_sum_with : Stmt := top 26
abbrev s_law_put : Stmt := top 27
abbrev s_law_near_ways : Stmt := top 28
abbrev s_law_first_best : Stmt := top 29
abbrev slaw : Stmt := top 30
structure Bs (mg : Str → Option Value) : Prop where
  all : mg "all" = none
  bool : mg "bool" = none
  int : mg "int" = none
  isinstance : mg "isinstance" = none
  len : mg "len" = none
  list : mg "list" = none
  max : mg "max" = none
  min : mg "min" = none
  range : mg "range" = none
  sorted : mg "sorted" = none
  sum : mg "sum" = none
  tuple : mg "tuple" = none
  zip : mg "zip" = none
structure Gs (mg : Str → Option Value) : Prop where
  yes : True
  MOST_CENSERS : ∃ t, mg "MOST_CENSERS" = some (.int 9 t)
def spRowOk (K : PySem.W.Frag) : Sp := fun vs H Q _ => ∃ (a : Addr) (ns : List Int), vs = [.ref a] ∧ SqT K H a (ns.map V.int) ∧ ns.length ≤ 1000 ∧ ∀ H', Same H H' → Q (.bl (rowOk ns)) H'
def spLaw (K : PySem.W.Frag) : Sp := fun vs H Q _ => ∃ (a : Addr) (ns : List Int), vs = [.ref a] ∧ SqL K H a (ns.map V.int) ∧ ns.length ≤ 63 ∧ ∀ H', Q (.bl true) H'
def spNum : Sp := fun vs H Q _ => ∃ z : Int, vs = [.int z] ∧ Q (.bl true) H
def spWayOkS (K : PySem.W.Frag) : Sp := fun vs H Q _ => ∃ (a : Addr) (ns : List Int) (n : Int), vs = [.ref a, .int n] ∧ SqT K H a (ns.map V.int) ∧ ns.length ≤ 1000 ∧ ∀ H', Same H H' → Q (.bl (decide ((ns.length : Int) = n) && rowOk ns)) H'
def spIsWay (K : PySem.W.Frag) : Sp := fun vs H Q _ => ∃ (a : Addr) (ns : List Int), vs = [.ref a] ∧ SqT K H a (ns.map V.int) ∧ Q (.bl (isWay ns)) H
def spCheckWay (K : PySem.W.Frag) : Sp := fun vs H Q _ => ∃ (a : Addr) (ns : List Int), vs = [.ref a] ∧ SqT K H a (ns.map V.int) ∧ isWay ns = true ∧ Q .non H
def spCheckOfE (K : PySem.W.Frag) (C : Addr) : Sp := fun vs H Q E => ∃ (n : Int) (b : Addr) (us : List Int), vs = [.int n, .ref b] ∧ SqT K H b (us.map V.int) ∧ isWay us = true ∧ ((us.length : Int) = n → Q .non H) ∧ ((us.length : Int) ≠ n → E (.ref C) none H)
def spPairs (K : PySem.W.Frag) : Sp := fun vs H Q _ => ∃ n : Int, vs = [.int n] ∧ 0 ≤ n ∧ n ≤ 9 ∧ ∀ (p : Addr) (ps : List Addr) (H' : Hp), Same H H' → H' p = some (.lst (ps.map V.ref)) → Paired (fun a (q : Nat × Nat) => SqT K H' a [.int ((q.1 : Nat) : Int), .int ((q.2 : Nat) : Int)]) ps (pairsN n.toNat) → Q (.ref p) H'
theorem paired_get {α β : Type} {R : α → β → Prop} : ∀ {l1 : List α} {l2 : List β} {j : Nat} {a : α}, Paired R l1 l2 → l1[j]? = some a → ∃ b, R a b ∧ l2[j]? = some b
  | _, _, _, _, .nil, h => by simp at h
  | _, _, 0, _, .cons r t, h => by simp at h; subst h; exact ⟨_, r, rfl⟩
  | _, _, j + 1, _, .cons r t, h => by
    obtain ⟨b, q, e⟩ := paired_get (j := j) t (by simpa using h)
    exact ⟨b, q, by simpa using e⟩
theorem paired_app {α β : Type} {R : α → β → Prop} : ∀ {l1 : List α} {l2 : List β} {k1 : List α} {k2 : List β}, Paired R l1 l2 → Paired R k1 k2 → Paired R (l1 ++ k1) (l2 ++ k2)
  | _, _, _, _, .nil, h => h
  | _, _, _, _, .cons r t, h => .cons r (paired_app t h)
def spLLots (K : PySem.W.Frag) : Sp := fun vs H Q _ => ∃ (a : Addr) (ws : List Int), vs = [.ref a] ∧ SqT K H a (ws.map V.int) ∧ isWay ws = true ∧ ∀ (p : Addr) (qs : List Addr) (H' : Hp), Same H H' → H' p = some (.lst (qs.map V.ref)) → qs.length = (fresh 0 ws).toNat → (∀ (k : Nat) q, qs[k]? = some q → H' q = some (.lst ((lotL ws (k : Int) ws.length).map V.int))) → Q (.ref p) H'
def spNumRow (K : PySem.W.Frag) : Sp := fun vs H Q _ => ∃ (a : Addr) (ns : List Int), vs = [.ref a] ∧ SqL K H a (ns.map V.int) ∧ ns.length ≤ 900 ∧ ∀ (p : Addr) (H' : Hp), H p = none → Same H H' → H' p = some (.tup ((numRow ns).map V.int)) → Q (.ref p) H'
def spGains (K : PySem.W.Frag) : Sp := fun vs H Q _ => ∃ (l : Addr) (as : List Addr) (U : List (List Int)) (n : Nat), vs = [.ref l] ∧ H l = some (.lst (as.map V.ref)) ∧ TuAt H as U ∧ (1 ≤ n ∧ n ≤ 9 ∧ ∀ u ∈ U, u.length = n) ∧ (1 ≤ U.length ∧ U.length ≤ 50) ∧ ∀ (t : Addr) (ts : List Addr) (H' : Hp), Same H H' → H' t = some (.lst (ts.map V.ref)) → LhAt H' ts (gnT U n) → Q (.ref t) H'
def spSInit (K : PySem.W.Frag) (C : Addr) : Sp := fun vs H Q _ => ∃ (p dx t : Addr) (ts : List Addr) (T : List (List Int)), vs = [.ref p, .ref t] ∧ H p = some (.ins C dx []) ∧ H t = some (.lst (ts.map V.ref)) ∧ LhAt H ts T ∧ (T.length ≤ 9 ∧ ∀ r ∈ T, r.length ≤ 9) ∧ ∀ (o : Addr) (H' : Hp), SrAt K C H' p dx t o .non ts T none → FrP H H' p → Q .non H'
def spFollow (K : PySem.W.Frag) (C : Addr) (dd : Nat) : Sp := fun vs H Q _ => 0 < dd ∧ ∃ (p dx t o r : Addr) (lv : V) (ts : List Addr) (T : List (List Int)) (row : List Int) (b : Best), vs = [.ref p, .ref r, .int (valW T row)] ∧ SrAt K C H p dx t o lv ts T b ∧ SqT K H r (row.map V.int) ∧ wayGo 0 row = true ∧ row.length ≤ T.length ∧ (∀ i, i < T.length → (T.getD i []).length = i) ∧ T.length ≤ 9 ∧ T.length + 1 ≤ dd + row.length ∧ ∀ (lv' : V) (b' : Best) (H' : Hp), SrAt K C H' p dx t o lv' ts T b' → Res T (Beh T.length row) b b' → FrP H H' p → Q .non H'
def spCouncilE (K : PySem.W.Frag) (C : Addr) : Sp := fun vs H Q E => ∃ (l : Addr) (as : List Addr) (U : List (List Int)), vs = [.ref l] ∧ H l = some (.lst (as.map V.ref)) ∧ TuAt H as U ∧ (∀ u ∈ U, isWay u = true) ∧ U.length ≤ 50 ∧ (U ≠ [] → (∀ u ∈ U, u.length = (U.getD 0 []).length) → ∀ (p : Addr) (L : List Int) (H' : Hp), Same H H' → SqT K H' p (L.map V.int) → wayGo 0 L = true → L.length = (U.getD 0 []).length → (∀ w, wayGo 0 w = true → w.length = (U.getD 0 []).length → ¬ sumA U L < sumA U w ∧ (sumA U w = sumA U L → HT.lexLt w L = false)) → Q (.ref p) H') ∧ (U = [] ∨ (∃ u ∈ U, u.length ≠ (U.getD 0 []).length) → ∀ H', Same H H' → E (.ref C) none H')
def spLJoinsN (K : PySem.W.Frag) : Sp := fun vs H Q _ => ∃ (a : Addr) (ws : List Int), vs = [.ref a] ∧ SqT K H a (ws.map V.int) ∧ isWay ws = true ∧ ∀ (p : Addr) (ps : List Addr) (R : List (List Int)) (H' : Hp), H p = none → Same H H' → H' p = some (.lst (ps.map V.ref)) → TuAt H' ps R → R.Perm (dueL ws (pairsN ws.length)) → RowsUp R → Q (.ref p) H'
def spAllW (K : PySem.W.Frag) : Sp := fun vs H Q _ => ∃ n : Int, vs = [.int n] ∧ 1 ≤ n ∧ n ≤ 7 ∧ ∀ (p : Addr) (ps : List Addr) (R : List (List Int)) (H' : Hp), Same H H' → H' p = some (.lst (ps.map V.ref)) → TsAt K H' ps R → (∀ r ∈ R, isWay r = true ∧ (r.length : Int) = n) → R.length ≤ 1000000 → Q (.ref p) H'
def spPairTab (K : PySem.W.Frag) : Sp := fun vs H Q _ => ∃ (l : Addr) (as : List Addr) (U : List (List Int)) (n : Nat), vs = [.ref l] ∧ H l = some (.lst (as.map V.ref)) ∧ TuAt H as U ∧ (1 ≤ n ∧ n ≤ 9 ∧ ∀ u ∈ U, u.length = n) ∧ (1 ≤ U.length ∧ U.length ≤ 50) ∧ ∀ (t : Addr) (ts : List Addr) (f0 : Nat × Nat → Int) (H' : Hp), Same H H' → H' t = some (.lst (ts.map V.ref)) → LhAt H' ts (tabF n f0) → (∀ q ∈ pairsN n, f0 q = cntE U q) → Q (.ref t) H'
def spSumWith (K : PySem.W.Frag) : Sp := fun vs H Q _ => ∃ (a t : Addr) (ts : List Addr) (ws : List Int) (U : List (List Int)) (f0 : Nat × Nat → Int), vs = [.ref a, .ref t, .int (U.length : Int)] ∧ SqT K H a (ws.map V.int) ∧ H t = some (.lst (ts.map V.ref)) ∧ LhAt H ts (tabF ws.length f0) ∧ isWay ws = true ∧ (∀ q ∈ pairsN ws.length, f0 q = cntE U q) ∧ ∀ H', Same H H' → Q (.int (sumA U ws)) H'
def spPutW (K : PySem.W.Frag) : Sp := fun vs H Q _ => ∃ (a : Addr) (i z : Int) (ws : List Int), vs = [.ref a, .int i, .int z] ∧ SqT K H a (ws.map V.int) ∧ isWay ws = true ∧ (0 ≤ i ∧ i < ws.length) ∧ ∀ (p : Addr) (us : List Int) (H' : Hp), Same H H' → H' p = some (.tup (us.map V.int)) → isWay us = true → us.length = ws.length → Q (.ref p) H'
def spNearW (K : PySem.W.Frag) : Sp := fun vs H Q _ => ∃ (a : Addr) (c : Int) (ws : List Int), vs = [.ref a, .int c] ∧ SqT K H a (ws.map V.int) ∧ isWay ws = true ∧ ∀ (p : Addr) (ps : List Addr) (R : List (List Int)) (H' : Hp), Same H H' → H' p = some (.lst (ps.map V.ref)) → TuAt H' ps R → (∀ r ∈ R, isWay r = true ∧ r.length = ws.length) → R.length ≤ 1000 → Q (.ref p) H'
def spFirstBest (K : PySem.W.Frag) : Sp := fun vs H Q _ => ∃ (fp l o : Addr) (as ps : List Addr) (U R : List (List Int)) (L : List Int), vs = [.ref fp, .ref l, .ref o] ∧ SqT K H fp (L.map V.int) ∧ isWay L = true ∧ H l = some (.lst (as.map V.ref)) ∧ TuAt H as U ∧ (∀ u ∈ U, isWay u = true ∧ u.length = L.length) ∧ (1 ≤ U.length ∧ U.length ≤ 50) ∧ H o = some (.lst (ps.map V.ref)) ∧ TsAt K H ps R ∧ (∀ r ∈ R, isWay r = true ∧ r.length = L.length) ∧ (∀ w, wayGo 0 w = true → w.length = L.length → ¬ sumA U L < sumA U w ∧ (sumA U w = sumA U L → HT.lexLt w L = false)) ∧ ∀ H', Same H H' → Q (.bl true) H'

section
variable {P : Program} {w : World} {K : PySem.W.Frag} {mg : Str → Option Value} {base : Heap} {CBadWay : Addr} {CSearch : Addr}
theorem sc_law_draw : FnScope (["_law_cell_here", "_law_limits", "_law_rest", "_law_seed", "_law_row", "_law_limit"]) (["_law_cell_here", "_law_limits"]) (defScope s_law_draw) := ⟨rfl, rfl, rfl, by decide +kernel, rfl, by decide +kernel, by decide +kernel⟩
set_option maxHeartbeats 4000000 in
theorem ok_law_draw {f : Addr} {fd : FuncData} (F : Fun K "_law_draw" "_law_draw" s_law_draw f fd) (B : Bs mg) (T : Gs mg) (mBadWay : mg "BadWay" = some (.ref CBadWay)) (qBadWay : PySem.W.excIn K CBadWay bmV "ValueError.__new__" = true)  (clSearch : Cls K CSearch) (nSearch_table : NoAttr K CSearch "table") (nSearch_outlook : NoAttr K CSearch "outlook") (nSearch_greatest : NoAttr K CSearch "greatest") (nSearch_leader : NoAttr K CSearch "leader")  : FnOk P w K mg base CX0 1 f fd ["_law_cell_here", "_law_limits"] (spDraw K) := by
  have sc := sc_law_draw
  refine F.ok sc (fun vs H Q E h => ?_) (fun cdv A outer s H vs Q E hr h => ?_)
  · obtain ⟨c, a, ls, rfl, _⟩ := h; rfl
  · obtain ⟨c, a, ls, rfl, hS, hL, hlen, k⟩ := h
    refine ⟨_, (pss_cons (ps_set (i := 2) sc.nd rfl (Or.inl rfl) (pe_ifExp (pt_cmpR op_ge (pv 0) (pe_op op_pow pe_int pe_int) (nomark _)) (pv 0) pe_int))
      (pss_cons (ps_set (i := 3) sc.nd rfl (Or.inl rfl) (pe_op op_mod (pe_op op_add (pe_op op_mulW (pe_op op_mod (pv 0) pe_int) pe_int) pe_int) pe_int))
      (pss_cons (ps_set (i := 4) sc.nd rfl (Or.inl rfl) (pe_lst pa_nil))
      (pss_cons (ps_for PassesOwn.never rfl (kpi_list (K := K) (pv 1)) (pg_name (i := 5) sc.nd rfl (Or.inl rfl))
      (pss_cons (ps_set (i := 3) sc.nd rfl (Or.inl rfl) (pe_op op_mod (pe_op op_add (pe_op op_mulW (pe_op op_mod (pe_op op_mulW (pv 3) (pv 3)) pe_int) (pe_op op_add (pv 3) pe_int)) pe_int) pe_int))
      (pss_cons (ps_expr (pe_bm PySem.F.plainAttrs_list PySem.F.slot_list_append PySem.F.type_list_append mt_append (pv 4) (pa_cons (pe_ifExp (pt_cmpR op_gt (pv 2) pe_int (nomark _)) (pe_op op_mod (pv 2) (pv 5)) (pe_op op_mod (pe_op op_add (pe_op op_fdivW (pv 3) pe_int) (pe_op op_mulW (pe_op op_mod (pv 3) pe_int) pe_int)) (pv 5))) pa_nil)))
      (pss_one (ps_set (i := 2) sc.nd rfl (Or.inl rfl) (pe_op op_fdivW (pv 2) (pv 5)))))))
      (pss_one (ps_ret (pv 4))))))), ?_⟩
    -- rest
    refine ⟨_, rfl, _, _, rfl, rfl, ⟨by decide, by decide, by decide⟩, _, _, rfl, rfl, _, rfl, ?_⟩
    refine ite_P (fun _ => True) (fun r _ => ?_) (fun Q' h => ⟨_, rfl, h _ trivial⟩) (fun Q' h => h _ trivial)
    -- seed
    refine ⟨_, rfl, _, _, rfl, rfl, p0, _, _, rfl, rfl, mulOk_r ⟨by decide, by decide⟩, _, _, rfl, rfl, _, _, rfl, rfl, p0, ?_⟩
    -- row = []
    refine ⟨Nat.zero_le _, fun p hp => ?_⟩
    have hS1 : SqL K (upd H p (.lst [])) a (ls.map V.int) := (Same.new hp).seq hS
    -- for limit in limits
    refine ⟨_, rfl, a, rfl, ⟨_, hS1⟩, for_list (K := K) (a := a) (xs := ls.map V.int) (fun i σ H2 => ∃ (r seed : Int) (rs : List Int) (v : Option V), σ = [some (.int c), some (.ref a), some (.int r), some (.int seed), some (.ref p), v] ∧ 0 ≤ seed ∧ seed < 2147483647 ∧ Same H H2 ∧ H2 p = some (.lst (rs.map V.int)) ∧ Drawn' (ls.take i) rs)
      ⟨r, _, [], none, rfl, (modB _ (by decide)).1, (modB _ (by decide)).2, Same.new hp, upd_same, .nil⟩ (fun i σ H2 _ ⟨_, _, _, _, _, _, _, s2, _, _⟩ => s2.seq hS) ?_ ?_⟩
    · rintro i y σ H2 hi ⟨r, seed, rs, v, rfl, hs0, hs1, s2, hp2, hD⟩
      obtain ⟨l, rfl, hl, hil⟩ := getI hi
      have hlim := hL l (List.mem_of_getElem? hl)
      have hrl : rs.length = i := by have := hD.length; rw [List.length_take] at this; omega
      -- seed
      refine ⟨_, rfl, _, rfl, _, _, rfl, rfl, mulOk_r ⟨by omega, by omega⟩, _, _, rfl, rfl, p0, _, rfl, _, _, rfl, rfl, _, _, rfl, rfl, mulOk_r ⟨by omega, by omega⟩, _, _, rfl, rfl, _, _, rfl, rfl, p0, ?_⟩
      -- row.append
      refine ⟨_, rfl, .inl ⟨rfl, _, SqL.of hp2⟩, _, rfl, _, _, rfl, rfl, _, rfl, ?_⟩
      refine ite_P (fun q => 0 ≤ q ∧ q < l) (fun q hq => ?_) (fun Q' h => ⟨_, rfl, _, rfl, _, _, rfl, rfl, hlim.1, h _ (modB _ hlim.1)⟩)
        (fun Q' h => ⟨_, rfl, _, _, rfl, rfl, ⟨by decide, by decide⟩, _, rfl, _, _, rfl, rfl, p0, _, _, rfl, rfl, mulOk_r ⟨by decide, by decide⟩, _, _, rfl, rfl, _, rfl, _, _, rfl, rfl, hlim.1, h _ (modB _ hlim.1)⟩)
      obtain ⟨q0, q1⟩ := hq
      refine ⟨p, _, _, rfl, rfl, hp2, lt_line (by rw [ltm]; omega), ?_⟩
      -- rest
      refine ⟨_, rfl, _, rfl, _, _, rfl, rfl, hlim, ?_⟩
      refine ⟨_, _, rs ++ [q], _, rfl, (modB _ (by decide)).1, (modB _ (by decide)).2, s2.put hp, by rw [upd_same, mapV], ?_⟩
      rw [take_snoc hl]
      exact drawn_snoc hD q0 q1
    · rintro σ H2 ⟨r, seed, rs, v, rfl, hs0, hs1, s2, hp2, hD⟩
      rw [ltm, List.take_length] at hD
      exact ⟨_, rfl, k p rs H2 hp s2 hp2 hD⟩
theorem sc_law_cell : FnScope (["_law_script", "_law_k"]) (["_law_script", "_law_k"]) (defScope s_law_cell) := ⟨rfl, rfl, rfl, by decide +kernel, rfl, by decide +kernel, by decide +kernel⟩
set_option maxHeartbeats 4000000 in
theorem ok_law_cell {f : Addr} {fd : FuncData} (F : Fun K "_law_cell" "_law_cell" s_law_cell f fd) (B : Bs mg) (T : Gs mg) (mBadWay : mg "BadWay" = some (.ref CBadWay)) (qBadWay : PySem.W.excIn K CBadWay bmV "ValueError.__new__" = true)  (clSearch : Cls K CSearch) (nSearch_table : NoAttr K CSearch "table") (nSearch_outlook : NoAttr K CSearch "outlook") (nSearch_greatest : NoAttr K CSearch "greatest") (nSearch_leader : NoAttr K CSearch "leader")  : FnOk P w K mg base CX0 1 f fd ["_law_script", "_law_k"] (spCell K) := by
  have sc := sc_law_cell
  refine F.ok sc (fun vs H Q E h => ?_) (fun cdv A outer s H vs Q E hr h => ?_)
  · obtain ⟨a, ns, kk, rfl, _⟩ := h; rfl
  · obtain ⟨a, ns, kk, rfl, hS, h0, h1, hl, k⟩ := h
    refine ⟨_, (pss_cons (ps_if (pt_cmpR op_lt (pv 1) (pe_callB (kc_len (K := K)) (by rfl) B.len PyProof.Rows.Boot.«len» (pa_cons (pv 0) pa_nil)) (nomark _)) (pss_one (ps_ret (pe_ix (kix_list (K := K)) (pv 0) (pv 1) (fun _ _ => rfl)))) pss_nil)
      (pss_one (ps_ret (pe_op op_add (pe_op op_add (pe_op op_mulW (pe_op op_mod (pe_callB (kc_sum (K := K)) (by rfl) B.sum PyProof.Rows.Boot.«sum» (pa_cons (pv 0) pa_nil)) pe_int) pe_int) (pe_op op_mulW (pe_callB (kc_len (K := K)) (by rfl) B.len PyProof.Rows.Boot.«len» (pa_cons (pv 0) pa_nil)) pe_int)) (pe_op op_mulW (pv 1) pe_int))))), ?_⟩
    refine ⟨_, rfl, _, rfl, a, _, rfl, .inl hS, _, _, rfl, rfl, _, rfl, ?_⟩
    rw [ltm]
    refine ite2 (fun hk => ?_) (fun _ => ?_)
    · have hk : kk < (ns.length : Int) := of_decide_eq_true hk
      obtain ⟨j, rfl⟩ := Int.eq_ofNat_of_zero_le h0
      have hj : j < ns.length := by omega
      refine ⟨_, rfl, _, rfl, a, _, _, _, rfl, rfl, hS, atI_nat (v := V.int (ns[j])) (by rw [List.getElem?_map, List.getElem?_eq_getElem hj]; rfl), k _⟩
    · refine ⟨_, rfl, a, ns, rfl, .inl hS, _, _, rfl, rfl, p0, _, _, rfl, rfl, mulOk_r ⟨by decide, by decide⟩, _, rfl, a, _, rfl, .inl hS, _, _, rfl, rfl, mulOk_r ⟨by decide, by decide⟩, _, _, rfl, rfl, _, rfl, _, _, rfl, rfl, mulOk_r ⟨by decide, by decide⟩, _, _, rfl, rfl, k _⟩
theorem sc_law_many : FnScope (["_law_script", "_law_few"]) (["_law_script", "_law_few"]) (defScope s_law_many) := ⟨rfl, rfl, rfl, by decide +kernel, rfl, by decide +kernel, by decide +kernel⟩
set_option maxHeartbeats 4000000 in
theorem ok_law_many {f : Addr} {fd : FuncData} (F : Fun K "_law_many" "_law_many" s_law_many f fd) (B : Bs mg) (T : Gs mg) (mBadWay : mg "BadWay" = some (.ref CBadWay)) (qBadWay : PySem.W.excIn K CBadWay bmV "ValueError.__new__" = true)  (clSearch : Cls K CSearch) (nSearch_table : NoAttr K CSearch "table") (nSearch_outlook : NoAttr K CSearch "outlook") (nSearch_greatest : NoAttr K CSearch "greatest") (nSearch_leader : NoAttr K CSearch "leader")  : FnOk P w K mg base CX0 1 f fd ["_law_script", "_law_few"] (spMany K) := by
  have sc := sc_law_many
  refine F.ok sc (fun vs H Q E h => ?_) (fun cdv A outer s H vs Q E hr h => ?_)
  · obtain ⟨a, ns, f, rfl, _⟩ := h; rfl
  · obtain ⟨a, ns, f, rfl, hS, k⟩ := h
    refine ⟨_, (pss_one (ps_ret (pe_callB kc_max2 (by rfl) B.max PyProof.Rows.Boot.«max» (pa_cons (pv 1) (pa_cons (pe_callB kc_min2 (by rfl) B.min PyProof.Rows.Boot.«min» (pa_cons (pe_callB (kc_len (K := K)) (by rfl) B.len PyProof.Rows.Boot.«len» (pa_cons (pv 0) pa_nil)) (pa_cons pe_int pa_nil))) pa_nil))))), ?_⟩
    refine ⟨_, rfl, _, rfl, a, _, rfl, .inl hS, _, _, rfl, _, _, rfl, k _ ?_ ?_⟩
    · split <;> omega
    · split <;> split <;> omega
theorem scis_way : FnScope (["row", "fresh", "wood"]) (["row"]) (defScope sis_way) := ⟨rfl, rfl, rfl, by decide +kernel, rfl, by decide +kernel, by decide +kernel⟩
set_option maxHeartbeats 4000000 in
theorem okis_way {f : Addr} {fd : FuncData} (F : Fun K "is_way" "is_way" sis_way f fd) (B : Bs mg) (T : Gs mg) (mBadWay : mg "BadWay" = some (.ref CBadWay)) (qBadWay : PySem.W.excIn K CBadWay bmV "ValueError.__new__" = true)  (clSearch : Cls K CSearch) (nSearch_table : NoAttr K CSearch "table") (nSearch_outlook : NoAttr K CSearch "outlook") (nSearch_greatest : NoAttr K CSearch "greatest") (nSearch_leader : NoAttr K CSearch "leader")  : FnOk P w K mg base CX0 1 f fd ["row"] (spIsWay K) := by
  have sc := scis_way
  refine F.ok sc (fun vs H Q E h => ?_) (fun cdv A outer s H vs Q E hr h => ?_)
  · obtain ⟨a, ns, rfl, _⟩ := h; rfl
  · obtain ⟨a, ns, rfl, hS, k⟩ := h
    obtain ⟨tM, gMOST_CENSERS⟩ := T.MOST_CENSERS
    refine ⟨_, (pss_cons (ps_if (pt_not (pt_chain op_le op_le pe_int (pe_callB (kc_len (K := K)) (by rfl) B.len PyProof.Rows.Boot.«len» (pa_cons (pv 0) pa_nil)) (pe_glob (v := .int 9) rfl gMOST_CENSERS ⟨_, rfl⟩))) (pss_one (ps_ret pe_bl)) pss_nil)
      (pss_cons (ps_set (i := 1) sc.nd rfl (Or.inl rfl) pe_int)
      (pss_cons (ps_for PassesOwn.never rfl (kpi_tup (K := K) (pv 0)) (pg_name (i := 2) sc.nd rfl (Or.inl rfl))
      (pss_cons (ps_if (pt_not (pt_chain op_le op_le pe_int (pv 2) (pv 1))) (pss_one (ps_ret pe_bl)) pss_nil)
      (pss_one (ps_if (pt_cmpR op_eq (pv 2) (pv 1) (nomark _)) (pss_one (ps_aug (i := 1) sc.nd rfl (Or.inl rfl) pe_int ip_add)) pss_nil))))
      (pss_one (ps_ret pe_bl))))), ?_⟩
    refine ⟨_, rfl, a, _, rfl, .inr hS, _, _, rfl, rfl, _, rfl, ?_⟩
    rw [ltm]
    have no : ¬ (1 ≤ ns.length ∧ ns.length ≤ 9) → isWay ns = false := fun z => by
      unfold isWay
      rw [← Bool.decide_and, decide_eq_false z]; rfl
    refine ite2 (fun h1 => ⟨_, _, rfl, rfl, _, rfl, ite2 (fun h2 => ?_) (fun h2 => ?_)⟩) (fun h1 => ⟨_, rfl, iteT ?_⟩)
    · rw [no (by simp at h2; omega)] at k
      exact k
    · have h1 : (1 : Int) ≤ (ns.length : Int) := of_decide_eq_true h1
      have h2 : (ns.length : Int) ≤ 9 := by simp at h2; omega
      have e0 : isWay ns = wayGo 0 ns := by
        unfold isWay
        rw [decide_eq_true (show 1 ≤ ns.length by omega), decide_eq_true (show ns.length ≤ 9 by omega)]; rfl
      rw [e0] at k
      refine ⟨_, rfl, a, rfl, ⟨_, hS⟩, for_tup (K := K) (a := a) (xs := ns.map V.int) (fun i σ H2 => ∃ (f : Int) (v : Option V), σ = [some (.ref a), some (.int f), v] ∧ H2 = H ∧ wayGo 0 ns = wayGo f (ns.drop i))
        ⟨0, none, rfl, rfl, by rw [List.drop_zero]⟩ (fun i σ H2 _ ⟨_, _, _, e, _⟩ => by rw [e]; exact hS) ?_ ?_⟩
      · rintro i y σ H2 hi ⟨f, v, rfl, e, hw⟩
        subst e
        obtain ⟨z, rfl, hz, hil⟩ := getI hi
        have hd : ns.drop i = z :: ns.drop (i + 1) := by
          rw [List.drop_eq_getElem_cons hil]
          rw [List.getElem?_eq_getElem hil] at hz
          rw [Option.some.inj hz]
        rw [hd] at hw
        have hw' : wayGo 0 ns = (decide (0 ≤ z) && decide (z ≤ f) && wayGo (if z = f then f + 1 else f) (ns.drop (i + 1))) := hw
        refine ⟨_, rfl, _, _, rfl, rfl, _, rfl, ?_⟩
        refine ite2 (fun g1 => ⟨_, rfl, _, _, rfl, rfl, _, rfl, ite2 (fun g2 => ?_) (fun g2 => ?_)⟩) (fun g1 => ⟨_, rfl, iteT ?_⟩)
        · have g2 : ¬ z ≤ f := by simp at g2; omega
          rw [hw', decide_eq_false g2, Bool.and_false, Bool.false_and] at k
          exact k
        · have g1 : 0 ≤ z := of_decide_eq_true g1
          have g2 : z ≤ f := by simp at g2; omega
          rw [decide_eq_true g1, decide_eq_true g2, Bool.and_true, Bool.true_and] at hw'
          refine ⟨_, rfl, _, rfl, rfl, _, rfl, ite2 (fun g => ?_) (fun g => ?_)⟩
          · have g : z = f := by have := of_decide_eq_true g; cases this; rfl
            rw [if_pos g] at hw'
            exact ⟨_, rfl, _, _, rfl, rfl, f + 1, _, rfl, rfl, hw'⟩
          · have g : ¬ z = f := fun e => g (decide_eq_true (by rw [e]))
            rw [if_neg g] at hw'
            exact ⟨f, _, rfl, rfl, hw'⟩
        · have g1 : ¬ 0 ≤ z := fun e => g1 (decide_eq_true e)
          rw [hw', decide_eq_false g1, Bool.false_and, Bool.false_and] at k
          exact k
      · rintro σ H2 ⟨f, v, rfl, e, hw⟩
        subst e
        rw [ltm, List.drop_length] at hw
        rw [show wayGo 0 ns = true from hw] at k
        exact k
    · have h1 : ¬ (1 : Int) ≤ (ns.length : Int) := fun e => h1 (decide_eq_true e)
      rw [no (by omega)] at k
      exact k
theorem sccheck_way : FnScope (["way"]) (["way"]) (defScope scheck_way) := ⟨rfl, rfl, rfl, by decide +kernel, rfl, by decide +kernel, by decide +kernel⟩
set_option maxHeartbeats 4000000 in
theorem okcheck_way {f : Addr} {fd : FuncData} (F : Fun K "check_way" "check_way" scheck_way f fd) (B : Bs mg) (T : Gs mg) (mBadWay : mg "BadWay" = some (.ref CBadWay)) (qBadWay : PySem.W.excIn K CBadWay bmV "ValueError.__new__" = true)  (clSearch : Cls K CSearch) (nSearch_table : NoAttr K CSearch "table") (nSearch_outlook : NoAttr K CSearch "outlook") (nSearch_greatest : NoAttr K CSearch "greatest") (nSearch_leader : NoAttr K CSearch "leader") (cis_way : Cal P w K mg base 1 "is_way" [] (spIsWay K)) : FnOk P w K mg base CX0 2 f fd ["way"] (spCheckWay K) := by
  have sc := sccheck_way
  refine F.ok sc (fun vs H Q E h => ?_) (fun cdv A outer s H vs Q E hr h => ?_)
  · obtain ⟨a, ns, rfl, _⟩ := h; rfl
  · obtain ⟨a, ns, rfl, hS, hw, k⟩ := h
    refine ⟨_, (pss_one (ps_if (pt_not (pt_val (pe_cal cis_way (hr.mono (by decide)) rfl (pa_cons (pv 0) pa_nil)))) (pss_one ps_never) pss_nil)), ?_⟩
    refine ⟨_, rfl, a, ns, rfl, hS, _, rfl, ?_⟩
    rw [hw]
    exact iteF k
theorem sccheck_way_of : FnScope (["censers", "way"]) (["censers", "way"]) (defScope scheck_way_of) := ⟨rfl, rfl, rfl, by decide +kernel, rfl, by decide +kernel, by decide +kernel⟩
set_option maxHeartbeats 4000000 in
theorem okcheck_way_of {f : Addr} {fd : FuncData} (F : Fun K "check_way_of" "check_way_of" scheck_way_of f fd) (B : Bs mg) (T : Gs mg) (mBadWay : mg "BadWay" = some (.ref CBadWay)) (qBadWay : PySem.W.excIn K CBadWay bmV "ValueError.__new__" = true)  (clSearch : Cls K CSearch) (nSearch_table : NoAttr K CSearch "table") (nSearch_outlook : NoAttr K CSearch "outlook") (nSearch_greatest : NoAttr K CSearch "greatest") (nSearch_leader : NoAttr K CSearch "leader") (ccheck_way : Cal P w K mg base 2 "check_way" [] (spCheckWay K)) : FnOk P w K mg base (CXE P w) 3 f fd ["censers", "way"] (spCheckOfE K CBadWay) := by
  have sc := sccheck_way_of
  refine F.okE sc (fun vs H Q E h => ?_) (fun cdv A outer s H vs Q E hr F0 h => ?_)
  · obtain ⟨n, b, vs, rfl, _⟩ := h; rfl
  · obtain ⟨n, b, vs, rfl, hT, hv, k, kE⟩ := h
    refine ⟨_, (pss_cons (ps_expr (pe_cal ccheck_way (hr.mono (by decide)) rfl (pa_cons (pv 1) pa_nil)))
      (pss_one (ps_if (pt_cmpR op_ne (pe_callB (kc_len (K := K)) (by rfl) B.len PyProof.Rows.Boot.«len» (pa_cons (pv 1) pa_nil)) (pv 0) (nomark _)) (pss_one (ps_raise F0 rfl rfl mBadWay qBadWay (pa_cons pe_str pa_nil))) pss_nil))), ?_⟩
    refine ⟨_, rfl, b, vs, rfl, hT, hv, ?_⟩
    refine ⟨_, rfl, b, _, rfl, .inr hT, _, rfl, rfl, _, rfl, ?_⟩
    rw [ltm]
    refine ite2 (fun g => ⟨le_line (by simp), kE (fun e => ?_)⟩) (fun g => k ?_)
    · rw [e] at g; simp at g
    · by_cases e : (vs.length : Int) = n
      · exact e
      · exact absurd (by simp; omega) g
theorem scgains : FnScope (["ways"]) (["ways"]) (defScope sgains) := ⟨rfl, rfl, rfl, by decide +kernel, rfl, by decide +kernel, by decide +kernel⟩
set_option maxHeartbeats 4000000 in
theorem okgains {f : Addr} {fd : FuncData} (F : Fun K "gains" "gains" sgains f fd) (B : Bs mg) (T : Gs mg) (mBadWay : mg "BadWay" = some (.ref CBadWay)) (qBadWay : PySem.W.excIn K CBadWay bmV "ValueError.__new__" = true)  (clSearch : Cls K CSearch) (nSearch_table : NoAttr K CSearch "table") (nSearch_outlook : NoAttr K CSearch "outlook") (nSearch_greatest : NoAttr K CSearch "greatest") (nSearch_leader : NoAttr K CSearch "leader")  : FnOk P w K mg base CX0 1 f fd ["ways"] (spGains K) := by
  have sc := scgains
  refine F.ok sc (fun vs H Q E h => ?_) (fun cdv A outer s H vs Q E hr h => ?_)
  · obtain ⟨l, as, U, n, rfl, _⟩ := h; rfl
  · obtain ⟨l, as, U, n, rfl, hl, hU, hn, hz, k⟩ := h
    refine ⟨_, (pss_one (ps_ret (pe_lcC (N' := ["second", "ways"]) (M := [none, some 0]) (lcScC_of (by rfl)) rfl (pi_range1 rfl B.range (pa_cons (pe_callB (kc_len (K := K)) (by rfl) B.len PyProof.Rows.Boot.«len» (pa_cons (pe_ix (kix_list (K := K)) (pv 0) pe_int (fun _ _ => rfl)) pa_nil)) pa_nil)) (fun _ _ _ _ _ => pg_name (i := 0) (show (["second", "ways"] : List Str).Nodup by decide +kernel) rfl (Or.inr rfl) (.inl rfl)) (frm_name rfl) (fun _ _ _ _ _ => pts_nil) (fun _ _ _ _ _ => (pe_lcCV (N' := ["first", "ways", "second"]) (M := [none, some 1, some 0]) (lcScC_of (by rfl)) rfl (pi_range1 rfl B.range (pa_cons (pv 0) pa_nil)) (fun _ _ _ _ _ => pg_name (i := 0) (show (["first", "ways", "second"] : List Str).Nodup by decide +kernel) rfl (Or.inr rfl) (.inl rfl)) (frm_name rfl) (fun _ _ _ _ _ => pts_nil) (fun _ _ _ _ _ => (pe_callB (kc_sum (K := K)) (by rfl) B.sum PyProof.Rows.Boot.«sum» (pa_cons (pe_lcV (N' := ["way", "first", "second"]) (M := [none, some 0, some 2]) (lcSc_of (by rfl)) rfl (kpi_list (K := K) (pv 1)) (fun _ _ _ _ _ => pg_name (i := 0) (show (["way", "first", "second"] : List Str).Nodup by decide +kernel) rfl (Or.inl rfl) (.inr rfl)) (frm_name rfl) (fun _ _ _ _ _ => pts_nil) (fun _ _ _ _ _ => (pe_ifExp (pt_cmpR op_eq (pe_ix (kix_tup (K := K)) (pv 0) (pv 1) (fun _ _ => rfl)) (pe_ix (kix_tup (K := K)) (pv 0) (pv 2) (fun _ _ => rfl)) (nomark _)) pe_int (pe_un un_neg pe_int)))) pa_nil)))))))), ?_⟩
    obtain ⟨n1, n9, hln⟩ := hn
    obtain ⟨z1, z50⟩ := hz
    have hal := hU.length
    have hU0 : U[0]? = some (U.getD 0 []) := by rw [List.getD_eq_getElem?_getD, List.getElem?_eq_getElem (by omega)]; rfl
    obtain ⟨r0, hr0, e0⟩ := paired_getR hU hU0
    have l0 : (U.getD 0 []).length = n := hln _ (List.mem_of_getElem? hU0)
    refine ⟨_, rfl, l, _, _, _, rfl, rfl, SqL.of hl, atI_ref (j := 0) e0, r0, _, rfl, .inr (SqT.of hr0), ?_⟩
    rw [ltm, l0]
    refine ⟨_, rfl, by omega, by omega, ?_⟩
    refine lc_range (lo := 0) (n := (n : Int).toNat) (fun kk ys H2 => Same H H2 ∧ ∃ ts : List Addr, ys = ts.map V.ref ∧ LhAt H2 ts ((List.range kk).map (gnRow U))) (le_line (by omega)) ⟨Same.refl H, [], rfl, .nil⟩ (fun kk ys H2 _ h => by
      obtain ⟨_, ts, e, hL⟩ := h
      rw [e, List.length_map, hL.length, List.length_map, List.length_range]; exact Nat.le_refl _) ?_ ?_
    · rintro kk ys H2 hkk ⟨s2, ts, rfl, hL⟩
      refine lcN ?_
      refine ⟨_, rfl, _, rfl, by omega, by omega, ?_⟩
      refine lc_range (lo := 0) (n := ((0 : Int) + (kk : Int)).toNat) (fun j ys H3 => Same H2 H3 ∧ ys = ((List.range j).map fun j => gnAt U (j, kk)).map V.int) (le_line (by omega)) ⟨Same.refl H2, rfl⟩ (fun j ys H3 _ h => by rw [h.2, ltm, List.length_map, List.length_range]; exact Nat.le_refl _) ?_ ?_
      · rintro j ys H3 hj ⟨s3, rfl⟩
        refine lcN ?_
        have hl3 := s3 _ _ (s2 _ _ hl)
        refine ⟨_, rfl, l, rfl, ⟨_, SqL.of hl3⟩, lc_list (xs := as.map V.ref) (fun i ys H4 => H4 = H3 ∧ ys = ((U.take i).map fun u => if eqp u (j, kk) = true then (1 : Int) else -1).map V.int) (le_line (by rw [List.length_map]; omega)) ⟨rfl, rfl⟩
          (fun i ys H4 _ h => ⟨by rw [h.1]; exact SqL.of hl3, by rw [h.2, ltm, List.length_map, List.length_take]; omega⟩) ?_ ?_⟩
        · rintro i y ys H4 hi ⟨rfl, rfl⟩
          obtain ⟨q, rfl, hq, hil⟩ := getRef hi
          obtain ⟨u, hu, hui⟩ := paired_getM hU hq
          have ul := hln u (List.mem_of_getElem? hui)
          have hu4 := s3 _ _ (s2 _ _ hu)
          refine lcN ?_
          have a1 := atI_intZ (i := (0 : Int) + (j : Int)) (by omega) (getD_at (R := u) (i := j) (by omega))
          have a2 := atI_intZ (i := (0 : Int) + (kk : Int)) (by omega) (getD_at (R := u) (i := kk) (by omega))
          refine ⟨_, rfl, _, rfl, q, _, _, _, rfl, rfl, SqT.of hu4, a1, _, rfl, _, rfl, q, _, _, _, rfl, rfl, SqT.of hu4, a2, rfl, _, rfl, ?_⟩
          rw [dInt, map_take_snoc hui, List.map_append]
          refine ite2 (fun g => ⟨rfl, ?_⟩) (fun g => ⟨_, rfl, rfl, ?_⟩)
          · rw [show eqp u (j, kk) = true from g]; rfl
          · rw [show eqp u (j, kk) = false from bF g]; rfl
        · rintro ys H4 ⟨rfl, rfl⟩ p hp
          refine ⟨p, _, rfl, .inl (SqL.of upd_same), s3.new2 hp, ?_⟩
          rw [List.length_map, hal, List.take_length, List.range_succ, List.map_append, List.map_append]; rfl
      · rintro ys H3 ⟨s3, rfl⟩ p hp
        refine ⟨(s2.trans s3).new2 hp, ts ++ [p], by rw [List.map_append]; rfl, ?_⟩
        rw [List.range_succ, List.map_append]
        refine Paired.snoc (L2.Paired.mapP hL fun a' q z => (s3.new2 hp) a' _ z) ?_
        rw [upd_same, show ((0 : Int) + (kk : Int)).toNat = kk by omega]; rfl
    · rintro ys H2 ⟨s2, ts, rfl, hL⟩ p hp
      rw [Int.toNat_natCast] at hL
      exact k p ts _ (s2.new2 hp) upd_same (L2.Paired.mapP hL fun a' q z => (Same.new hp) a' _ z)
theorem scSearch___init__ : FnScope (["self", "table"]) (["self", "table"]) (defScope sSearch___init__) := ⟨rfl, rfl, rfl, by decide +kernel, rfl, by decide +kernel, by decide +kernel⟩
set_option maxHeartbeats 4000000 in
theorem okSearch___init__ {f : Addr} {fd : FuncData} (F : Fun K "__init__" "Search.__init__" sSearch___init__ f fd) (B : Bs mg) (T : Gs mg) (mBadWay : mg "BadWay" = some (.ref CBadWay)) (qBadWay : PySem.W.excIn K CBadWay bmV "ValueError.__new__" = true)  (clSearch : Cls K CSearch) (nSearch_table : NoAttr K CSearch "table") (nSearch_outlook : NoAttr K CSearch "outlook") (nSearch_greatest : NoAttr K CSearch "greatest") (nSearch_leader : NoAttr K CSearch "leader")  : FnOk P w K mg base CX0 1 f fd ["self", "table"] (spSInit K CSearch) := by
  have sc := scSearch___init__
  refine F.ok sc (fun vs H Q E h => ?_) (fun cdv A outer s H vs Q E hr h => ?_)
  · obtain ⟨p, dx, t, ts, Tb, rfl, _⟩ := h; rfl
  · obtain ⟨p, dx, t, ts, Tb, rfl, hp, ht, hL, hn, kk⟩ := h
    refine ⟨_, (pss_cons (ps_fld (pv 0) (pv 1) rfl)
      (pss_cons (ps_fld (pv 0) (pe_lc (N' := ["place", "table"]) (M := [none, some 1]) (lcSc_of (by rfl)) rfl (pi_range1 rfl B.range (pa_cons (pe_op op_add (pe_callB (kc_len (K := K)) (by rfl) B.len PyProof.Rows.Boot.«len» (pa_cons (pv 1) pa_nil)) pe_int) pa_nil)) (fun _ _ _ _ _ => pg_name (i := 0) (show (["place", "table"] : List Str).Nodup by decide +kernel) rfl (Or.inl rfl) (.inr rfl)) (frm_name rfl) (fun _ _ _ _ _ => pts_nil) (fun _ _ _ _ _ => (pe_callB (kc_sum (K := K)) (by rfl) B.sum PyProof.Rows.Boot.«sum» (pa_cons (pe_lc2V (N' := ["row", "gain"]) (M := [none, none]) (lcSc_of (by rfl)) rfl (kpi_list (K := K) (pe_slice (ksl_list (K := K)) (pv 1) (po_some (pv 0)) po_none)) (fun _ _ _ _ _ => pg_name (i := 0) (show (["row", "gain"] : List Str).Nodup by decide +kernel) rfl (Or.inl rfl) (.inr rfl)) own_name (fun _ _ _ _ _ => pts_nil) (by decide) (by decide) (fun _ _ _ _ _ => (kpi_list (K := K) (pv 0))) (fun _ _ _ _ _ => pg_name (i := 1) (show (["row", "gain"] : List Str).Nodup by decide +kernel) rfl (Or.inl rfl) (.inr rfl)) own_name (fun _ _ _ _ _ => pts_one (pt_cmpR op_gt (pv 1) pe_int (nomark _))) (fun _ _ _ _ _ => (pv 1))) pa_nil)))) rfl)
      (pss_cons (ps_fld (pv 0) pe_non rfl)
      (pss_one (ps_fld (pv 0) pe_non rfl))))), ?_⟩
    obtain ⟨t9, r9⟩ := hn
    have hlen := hL.length
    have npt : p ≠ t := ins_ne hp ht
    refine ⟨_, rfl, _, rfl, p, CSearch, dx, [], rfl, hp, clSearch, nSearch_table, by decide, ?_⟩
    have hp1 : upd H p (HO.ins CSearch dx (putF "table" (.ref t) [])) p = some (.ins CSearch dx (putF "table" (.ref t) [])) := upd_same
    have hL1 : LhAt (upd H p (HO.ins CSearch dx (putF "table" (.ref t) []))) ts Tb := lh_put hL fun a ha e => by
      obtain ⟨j, hj, e2⟩ := List.getElem_of_mem ha
      obtain ⟨r, hr', _⟩ := paired_getM hL (List.getElem?_eq_getElem hj)
      rw [e2, e] at hr'
      rw [hp] at hr'; cases hr'
    have fr1 : FrP H (upd H p (HO.ins CSearch dx (putF "table" (.ref t) []))) p := fun x u e n => by rw [upd_ne n]; exact e
    have ht1 := fr1 t _ ht npt.symm
    generalize upd H p (HO.ins CSearch dx (putF "table" (.ref t) [])) = H1 at hp1 fr1 hL1 ht1
    refine ⟨_, rfl, t, _, rfl, .inl (SqL.of ht1), ?_⟩
    rw [List.length_map, hlen]
    refine ⟨_, _, rfl, rfl, _, rfl, by omega, by omega, ?_⟩
    refine lc_range (lo := 0) (n := ((Tb.length : Int) + 1).toNat) (fun i ys H2 => Same H1 H2 ∧ ys = ((List.range i).map (outL Tb)).map V.int) (le_line (by omega)) ⟨Same.refl H1, rfl⟩ (fun i ys H2 _ h => by rw [h.2, ltm, List.length_map, List.length_range]; exact Nat.le_refl _) ?_ ?_
    · rintro i ys H2 hi ⟨s2, rfl⟩
      refine lcN ?_
      refine ⟨_, rfl, _, rfl, _, rfl, t, _, rfl, SqL.of (s2 _ _ ht1), fun c hc => ?_⟩
      have s3 := s2.new2 (o := HO.lst (cutV (ts.map V.ref) (some (0 + (i : Int))) none)) hc
      have hc3 : upd H2 c (HO.lst (cutV (ts.map V.ref) (some (0 + (i : Int))) none)) c = some (.lst (cutV (ts.map V.ref) (some (0 + (i : Int))) none)) := upd_same
      generalize upd H2 c (HO.lst (cutV (ts.map V.ref) (some (0 + (i : Int))) none)) = H3 at s3 hc3
      rw [Int.zero_add, cut_drop, ← List.map_drop] at hc3
      refine ⟨c, rfl, ⟨_, SqL.of hc3⟩, ?_⟩
      refine lcw_list (xs := (ts.drop i).map V.ref) (fun m ys H4 => H4 = H3 ∧ ∃ L : List Int, ys = L.map V.int ∧ L.sum = (((Tb.drop i).take m).map posS).sum ∧ L.length ≤ 9 * m) ⟨rfl, [], rfl, rfl, Nat.le_refl _⟩ (fun m ys H4 hm h => by
        obtain ⟨e, L, e2, _, h3⟩ := h
        rw [List.length_map, List.length_drop] at hm
        exact ⟨by rw [e]; exact SqL.of hc3, by rw [e2, ltm]; exact le_line (by omega)⟩) ?_ ?_
      · rintro m y ys H4 hm ⟨rfl, L, rfl, hLs, hLl⟩
        obtain ⟨q, rfl, hq, hil⟩ := getRef hm
        rw [List.getElem?_drop] at hq
        obtain ⟨r, hr', hri⟩ := paired_getM hL1 hq
        have hr4 := s3 _ _ hr'
        have rl := r9 r (List.mem_of_getElem? hri)
        have hrd : (Tb.drop i)[m]? = some r := by rw [List.getElem?_drop]; exact hri
        rw [List.length_drop] at hil
        refine lcM ?_
        refine ⟨_, rfl, q, rfl, ⟨_, SqL.of hr4⟩, ?_⟩
        refine lcw_list (xs := r.map V.int) (fun j ys H5 => H5 = H4 ∧ ∃ L2 : List Int, ys = L2.map V.int ∧ L2.sum = L.sum + ((r.take j).filter fun g => decide (0 < g)).sum ∧ L2.length ≤ 9 * m + j) ⟨rfl, L, rfl, by simp, by omega⟩ (fun j ys H5 hj h => by
          obtain ⟨e, L2, e2, _, h3⟩ := h
          rw [ltm] at hj
          exact ⟨by rw [e]; exact SqL.of hr4, by rw [e2, ltm]; exact le_line (by omega)⟩) ?_ ?_
        · rintro j y ys H5 hj ⟨rfl, L2, rfl, h1, h2⟩
          obtain ⟨z, rfl, hz, hzl⟩ := getI hj
          refine gN ?_
          refine ⟨_, rfl, _, _, rfl, rfl, _, rfl, ?_⟩
          rw [take_snoc hz, List.filter_append]
          refine ite2 (fun g => ⟨lt_line (by rw [ltm]; omega), _, rfl, rfl, L2 ++ [z], mapV, ?_, by rw [List.length_append, List.length_singleton]; omega⟩) (fun g => ⟨rfl, L2, rfl, ?_, by omega⟩)
          · rw [List.filter_cons, if_pos g, List.filter_nil, sum_snoc, sum_snoc]; omega
          · rw [List.filter_cons, if_neg g, List.filter_nil, List.append_nil]; exact h1
        · rintro ys H5 ⟨rfl, L2, rfl, h1, h2⟩
          rw [ltm] at h1 h2
          refine ⟨rfl, L2, rfl, ?_, by omega⟩
          rw [map_take_snoc hrd, sum_snoc, ← hLs, h1, List.take_length]; rfl
      · rintro ys H4 ⟨rfl, L, rfl, hLs, hLl⟩ u hu
        refine ⟨u, _, rfl, .inl (SqL.of upd_same), s3.new2 hu, ?_⟩
        rw [List.length_map, List.length_drop, hlen, ← List.length_drop, List.take_length] at hLs
        rw [hLs, List.range_succ, List.map_append, List.map_append]; rfl
    rintro ys H2 ⟨s2, rfl⟩ o ho
    rw [show ((Tb.length : Int) + 1).toNat = Tb.length + 1 by omega]
    have np : p ≠ o := ne_of_none (s2 _ _ hp1) ho
    have s3 := s2.new2 (o := HO.lst (((List.range (Tb.length + 1)).map (outL Tb)).map V.int)) ho
    have ho3 : upd H2 o (HO.lst (((List.range (Tb.length + 1)).map (outL Tb)).map V.int)) o = some (.lst ((outs Tb).map V.int)) := upd_same
    generalize upd H2 o (HO.lst (((List.range (Tb.length + 1)).map (outL Tb)).map V.int)) = H3 at s3 ho3
    have hp3 := s3 _ _ hp1
    have ht3 := s3 _ _ ht1
    refine ⟨_, rfl, p, CSearch, dx, _, rfl, hp3, clSearch, nSearch_outlook, by show 1 < 1000; decide, ?_⟩
    refine ⟨_, rfl, p, CSearch, dx, _, rfl, upd_same, clSearch, nSearch_greatest, by show 2 < 1000; decide, ?_⟩
    refine ⟨_, rfl, p, CSearch, dx, _, rfl, upd_same, clSearch, nSearch_leader, by show 3 < 1000; decide, ?_⟩
    have ee : putF "leader" V.non (putF "greatest" V.non (putF "outlook" (V.ref o) (putF "table" (V.ref t) []))) = sF t o (gV none) .non := sF_made ..
    rw [ee]
    have nn : ∀ a ∈ ts, a ≠ p := fun a ha e => by
      obtain ⟨j, hj, e2⟩ := List.getElem_of_mem ha
      obtain ⟨r, hr', _⟩ := paired_getM hL (List.getElem?_eq_getElem hj)
      rw [e2, e] at hr'
      rw [hp] at hr'; cases hr'
    refine kk o _ ⟨upd_same, ?_, ?_, ?_, fun g l e => by cases e⟩ ?_
    · rw [upd_ne npt.symm, upd_ne npt.symm, upd_ne npt.symm]; exact ht3
    · exact lh_put (lh_put (lh_put (hL1.sameH s3) nn) nn) nn
    · rw [upd_ne np.symm, upd_ne np.symm, upd_ne np.symm]; exact ho3
    · intro x u e n
      rw [upd_ne n, upd_ne n, upd_ne n]; exact s3 _ _ (fr1 x u e n)
theorem scSearch_follow : FnScope (["self", "row", "total", "place", "wood", "gain"]) (["self", "row", "total"]) (defScope sSearch_follow) := ⟨rfl, rfl, rfl, by decide +kernel, rfl, by decide +kernel, by decide +kernel⟩
set_option maxHeartbeats 4000000 in
theorem okSearch_follow {dd : Nat} {f : Addr} {fd : FuncData} (F : Fun K "follow" "Search.follow" sSearch_follow f fd) (B : Bs mg) (T : Gs mg) (mBadWay : mg "BadWay" = some (.ref CBadWay)) (qBadWay : PySem.W.excIn K CBadWay bmV "ValueError.__new__" = true)  (clSearch : Cls K CSearch) (nSearch_table : NoAttr K CSearch "table") (nSearch_outlook : NoAttr K CSearch "outlook") (nSearch_greatest : NoAttr K CSearch "greatest") (nSearch_leader : NoAttr K CSearch "leader") (cSearch_follow : CalM P w K mg base CSearch (1 + dd) "follow" (spFollow K CSearch dd)) : FnOk P w K mg base CX0 (1 + dd + 1) f fd ["self", "row", "total"] (spFollow K CSearch (dd + 1)) := by
  have sc := scSearch_follow
  refine F.ok sc (fun vs H Q E h => ?_) (fun cdv A outer s H vs Q E hr h => ?_)
  · obtain ⟨_, p, dx, t, o, r, lv, ts, Tb, row, b, rfl, _⟩ := h; rfl
  · obtain ⟨hd0, p, dx, t, o, r, lv, ts, Tb, row, b, rfl, hP, hr0, hw, hrl, hTl, hT9, hfu, kk⟩ := h
    refine ⟨_, (pss_cons (ps_set (i := 3) sc.nd rfl (Or.inl rfl) (pe_callB (kc_len (K := K)) (by rfl) B.len PyProof.Rows.Boot.«len» (pa_cons (pv 1) pa_nil)))
      (pss_cons (ps_if (PW.pt (pw_and (pt_cmpR op_notN (pe_fld (pv 0) rfl) pe_non (nomark _)) (pw_and1 (pt_cmpR op_le (pe_op op_add (pv 2) (pe_ix (kix_list (K := K)) (pe_fld (pv 0) rfl) (pv 3) (fun _ _ => rfl))) (pe_fld (pv 0) rfl) (nomark _))))) (pss_one ps_retN) pss_nil)
      (pss_cons (ps_if (pt_cmpR op_eq (pv 3) (pe_callB (kc_len (K := K)) (by rfl) B.len PyProof.Rows.Boot.«len» (pa_cons (pe_fld (pv 0) rfl) pa_nil)) (nomark _)) (pss_cons (ps_fld (pv 0) (pv 2) rfl)
      (pss_cons (ps_fld (pv 0) (pv 1) rfl)
      (pss_one ps_retN))) pss_nil)
      (pss_one (ps_for PassesOwn.never rfl (pi_range1 rfl B.range (pa_cons (pe_op op_add (pe_maxD (K := K) rfl (by rfl) B.max (pa_cons (pv 1) pa_nil) (pk_cons (pe_un un_neg pe_int) pk_nil)) pe_int) pa_nil)) (pg_name (i := 4) sc.nd rfl (Or.inr rfl))
      (pss_cons (ps_set (i := 5) sc.nd rfl (Or.inl rfl) (pe_callB (kc_sum (K := K)) (by rfl) B.sum PyProof.Rows.Boot.«sum» (pa_cons (pe_lc (N' := ["worth", "other", "wood"]) (M := [none, none, some 4]) (lcSc_of (by rfl)) rfl (pi_zipM (K := K) rfl B.zip (pa_cons (pe_ix (kix_list (K := K)) (pe_fld (pv 0) rfl) (pv 3) (fun _ _ => rfl)) (pa_cons (pv 1) pa_nil))) (fun _ _ _ _ _ => kpg_tup (K := K) (n := 2) rfl (pgs_cons (pg_name (i := 0) (show (["worth", "other", "wood"] : List Str).Nodup by decide +kernel) rfl (Or.inl rfl) (.inr rfl)) (pgs_cons (pg_name (i := 1) (show (["worth", "other", "wood"] : List Str).Nodup by decide +kernel) rfl (Or.inl rfl) (.inr rfl)) pgs_nil))) frm_two (fun _ _ _ _ _ => pts_one (pt_cmpR op_eq (pv 1) (pv 2) (nomark _))) (fun _ _ _ _ _ => (pv 0))) pa_nil)))
      (pss_one (ps_expr (pe_calM cSearch_follow clSearch (hr.mono (by omega)) (pv 0) (pa_cons (pe_op (kop_cat (K := K)) (pv 1) (pe_tup (pa_cons (pv 4) pa_nil))) (pa_cons (pe_op op_add (pv 2) (pv 5)) pa_nil))))))))))), ?_⟩
    have hlen := hP.hr.length
    have hfr := fresh_le row
    have hfn := fresh_nn row hw
    refine ⟨_, rfl, r, _, rfl, .inr hr0, ?_⟩
    rw [ltm]
    refine gN ?_
    try dsimp only
    refine nrm (σ' := [some (.ref p), some (.ref r), some (.int (valW Tb row)), some (.int (row.length : Int)), none, none]) rfl ?_
    refine seq_ifN (b := cutB Tb row b) (P := fun H' => H' = H) (fun N hN => ?_) (fun g H' e => ?_) (fun g H' e => ?_)
    · cases b with
      | none => exact ⟨_, rfl, p, CSearch, dx, _, _, rfl, hP.ob, clSearch, nSearch_greatest, sF_atG _ _ _ _, rfl, _, rfl, iteNS rfl (hN _ rfl)⟩
      | some bb =>
        obtain ⟨g, l⟩ := bb
        refine ⟨_, rfl, p, CSearch, dx, _, _, rfl, hP.ob, clSearch, nSearch_greatest, sF_atG _ _ _ _, rfl, _, rfl, iteNo (by intro z; cases z) ?_⟩
        exact ⟨_, rfl, _, rfl, p, CSearch, dx, _, _, rfl, hP.ob, clSearch, nSearch_outlook, sF_atO _ _ _ _, _, rfl, o, _, _, _, rfl, rfl, SqL.of hP.ho, atI_nt (outs_at hrl), _, _, rfl, rfl, _, rfl, p, CSearch, dx, _, _, rfl, hP.ob, clSearch, nSearch_greatest, sF_atG _ _ _ _, _, _, rfl, rfl, _, rfl, hN _ rfl⟩
    · subst e
      cases b with
      | none => cases g
      | some bb =>
        obtain ⟨g', l⟩ := bb
        exact kk lv _ H' hP (res_cut (of_decide_eq_true g)) (FrP.of (Same.refl H'))
    subst e
    have nocut : ∀ g' l, b = some (g', l) → g' < valW Tb row + outL Tb row.length := fun g' l e => by
      subst e
      have := of_decide_eq_false g
      omega
    refine seq_ifN (b := decide ((row.length : Int) = (Tb.length : Int))) (P := fun H2 => H2 = H') (fun N hN => ?_) (fun g H2 e => ?_) (fun g H2 e => ?_)
    · refine ⟨_, rfl, _, rfl, p, CSearch, dx, _, _, rfl, hP.ob, clSearch, nSearch_table, sF_atT _ _ _ _, t, _, rfl, .inl (SqL.of hP.ht), rfl, _, rfl, ?_⟩
      rw [dInt, List.length_map, hlen]
      exact hN _ rfl
    · subst e
      have hl : row.length = Tb.length := by have := of_decide_eq_true g; omega
      refine ⟨_, rfl, _, rfl, p, CSearch, dx, _, rfl, hP.ob, clSearch, nSearch_greatest, by show 4 < 1000; decide, ?_⟩
      rw [sF_g]
      refine ⟨_, rfl, _, rfl, p, CSearch, dx, _, rfl, upd_same, clSearch, nSearch_leader, by show 4 < 1000; decide, ?_⟩
      rw [sF_l]
      exact kk (.ref r) _ _ (hP.put hr0) (res_leaf hw hl nocut) upd_FrP
    subst e
    have hlt : row.length < Tb.length := by
      have := of_decide_eq_false g
      omega
    refine ⟨_, rfl, _, rfl, _, _, rfl, rfl, rMaxD_way hw hr0 ?_⟩
    refine ⟨_, _, rfl, rfl, _, rfl, by omega, by omega, ?_⟩
    refine for_range (lo := 0) (n := (fresh 0 row - 1 + 2).toNat) (fun i σ H3 => ∃ (lv2 : V) (b2 : Best) (o4 o5 : Option V), σ = [some (.ref p), some (.ref r), some (.int (valW Tb row)), some (.int (row.length : Int)), o4, o5] ∧ SrAt K CSearch H3 p dx t o lv2 ts Tb b2 ∧ Res Tb (BehTo Tb.length row i) b b2 ∧ FrP H2 H3 p)
      ⟨lv, b, none, none, rfl, hP, res_zero hlt, FrP.of (Same.refl H2)⟩ ?_ ?_
    · rintro i σ H3 hi ⟨lv2, b2, o4, o5, rfl, P3, R3, fr3⟩
      have hi' : (i : Int) < fresh 0 row + 1 := by omega
      refine gN ?_
      try dsimp only
      obtain ⟨q, hq, hq3⟩ := P3.row hlt
      have htl := hTl _ hlt
      have hr3 := hr0.frP hP.ob fr3
      generalize hTr : Tb.getD row.length [] = tr at hq3 htl
      refine ⟨_, rfl, p, CSearch, dx, _, _, rfl, P3.ob, clSearch, nSearch_table, sF_atT _ _ _ _, _, rfl, t, _, _, _, rfl, rfl, SqL.of P3.ht, atI_ref hq, _, rfl, q, r, rfl, ⟨_, SqL.of hq3⟩, ⟨_, hr3⟩, ?_⟩
      refine lc_it (n := row.length) (fun m ys H4 => Same H3 H4 ∧ ∃ L : List Int, ys = L.map V.int ∧ L.length ≤ m ∧ L = ((tr.zip row).take m).filterMap (fun p => if p.2 = (0 : Int) + (i : Int) then some p.1 else none)) (le_line (by omega)) ⟨Same.refl H3, [], rfl, Nat.le_refl _, rfl⟩ ?_ ?_ ?_ ?_ ?_
      · rintro m ys H4 hm ⟨s4, _⟩
        exact ⟨_, _, _, _, SqL.of (s4 _ _ hq3), s4.seqT hr3, by rw [List.getElem?_map, getD_at (R := tr) (i := m) (by omega)]; rfl, by rw [List.getElem?_map, getD_at (R := row) (i := m) (by omega)]; rfl⟩
      · rintro ys H4 ⟨s4, _⟩
        exact ⟨_, _, SqL.of (s4 _ _ hq3), s4.seqT hr3, by rw [ltm, ltm, htl]; omega⟩
      · rintro m ys H4 _ ⟨_, L, rfl, hLl, _⟩
        rw [ltm]; exact hLl
      · rintro m x ys H4 H5 hm ⟨s4, L, rfl, hLl, hL⟩ ⟨T', x1, y1, hT', rfl, rfl, hx, hy⟩
        have hx1 := hx _ (SqL.of (s4 _ _ hq3))
        have hy1 := hy _ (s4.seqT hr3)
        obtain ⟨g1, rfl, hg1, _⟩ := getI hx1
        obtain ⟨z1, rfl, hz1, _⟩ := getI hy1
        refine ⟨T', _, rfl, SqT.of upd_same, rfl, _, _, rfl, _, _, rfl, rfl, ?_⟩
        refine ⟨_, rfl, _, rfl, rfl, _, rfl, ?_⟩
        rw [dInt, gn_snoc hg1 hz1, ← hL]
        refine ite2 (fun g => ⟨_, rfl, s4.new2 hT', L ++ [g1], mapV, by rw [List.length_append, List.length_singleton]; omega, by rw [if_pos (of_decide_eq_true g)]⟩) (fun g => ⟨s4.new2 hT', L, rfl, by omega, by rw [if_neg (fun e => g (decide_eq_true e)), List.append_nil]⟩)
      rintro ys H4 ⟨s4, L, rfl, hLl, hL⟩ u hu
      have s5 := s4.new2 (o := HO.lst (L.map V.int)) hu
      refine ⟨u, _, rfl, .inl (SqL.of upd_same), ?_⟩
      have eg : L.sum = gnOf tr row (i : Int) := by
        rw [hL, Int.zero_add, List.take_of_length_le (by rw [List.length_zip]; omega)]; rfl
      rw [eg]
      generalize upd H4 u (HO.lst (L.map V.int)) = H5 at s5
      refine gN ?_
      try dsimp only
      have P5 := P3.same s5
      refine ⟨_, rfl, p, dx, _, rfl, P5.ob, sF_no _ _ _ _ (by decide +kernel) (by decide +kernel) (by decide +kernel) (by decide +kernel), ?_⟩
      refine ⟨_, rfl, _, rfl, le_line (by simp), fun w1 hw1 => ?_⟩
      have s6 := s5.new2 (o := HO.tup [V.int (0 + (i : Int))]) hw1
      have hw6 : upd H5 w1 (HO.tup [V.int (0 + (i : Int))]) w1 = some (.tup [V.int (0 + (i : Int))]) := upd_same
      generalize upd H5 w1 (HO.tup [V.int (0 + (i : Int))]) = H6 at s6 hw6
      refine ⟨r, w1, _, _, rfl, rfl, s6.seqT hr3, SqT.of hw6, le_line (by simp; omega), fun r7 H7 s7 hr7 => ?_⟩
      have s37 := s6.trans s7
      have hr7 : SqT K H7 r7 ((row ++ [(i : Int)]).map V.int) := by
        rw [List.map_append]; rw [Int.zero_add] at hr7; exact hr7
      have ev : valW Tb row + gnOf tr row (i : Int) = valW Tb (row ++ [(i : Int)]) := by rw [valW_snoc, hTr]
      refine ⟨_, rfl, _, rfl, _, _, rfl, rfl, by omega, p, dx, t, o, r7, lv2, ts, Tb, row ++ [(i : Int)], b2, ?_, P3.same s37, hr7, way_more hw hi', by rw [List.length_append, List.length_singleton]; omega, hTl, hT9, by rw [List.length_append, List.length_singleton]; omega, fun lv8 b8 H8 P8 R8 fr8 => ?_⟩
      · show [V.ref p, V.ref r7, V.int (valW Tb row + gnOf tr row (i : Int))] = _
        rw [ev]
      · exact ⟨lv8, b8, _, _, rfl, P8, res_step hlt R3 R8, fr3.trans ((FrP.of s37).trans fr8)⟩
    · rintro σ H3 ⟨lv2, b2, o4, o5, rfl, P3, R3, fr3⟩
      exact kk lv2 b2 H3 P3 (res_all hlt (by omega) R3) fr3
theorem sccouncil : FnScope (["ways", "way", "search"]) (["ways"]) (defScope scouncil) := ⟨rfl, rfl, rfl, by decide +kernel, rfl, by decide +kernel, by decide +kernel⟩
set_option maxHeartbeats 4000000 in
theorem okcouncil {f : Addr} {fd : FuncData} (F : Fun K "council" "council" scouncil f fd) (B : Bs mg) (T : Gs mg) (mBadWay : mg "BadWay" = some (.ref CBadWay)) (qBadWay : PySem.W.excIn K CBadWay bmV "ValueError.__new__" = true)  (clSearch : Cls K CSearch) (nSearch_table : NoAttr K CSearch "table") (nSearch_outlook : NoAttr K CSearch "outlook") (nSearch_greatest : NoAttr K CSearch "greatest") (nSearch_leader : NoAttr K CSearch "leader") (kSearch : CalK P w K mg base CSearch 1 "Search" (spSInit K CSearch)) (cSearch_follow : CalM P w K mg base CSearch 12 "follow" (spFollow K CSearch 11)) (ccheck_way : Cal P w K mg base 2 "check_way" [] (spCheckWay K)) (ccheck_way_of : CalE P w K mg base 3 "check_way_of" [] (spCheckOfE K CBadWay)) (cgains : Cal P w K mg base 1 "gains" [] (spGains K)) : FnOk P w K mg base (CXE P w) 14 f fd ["ways"] (spCouncilE K CBadWay) := by
  have sc := sccouncil
  refine F.okE sc (fun vs H Q E h => ?_) (fun cdv A outer s H vs Q E hr F0 h => ?_)
  · obtain ⟨l, as, U, rfl, _⟩ := h; rfl
  · obtain ⟨l, as, U, rfl, hl, hU, hww, hz, k0, kE⟩ := h
    refine ⟨_, (pss_cons (ps_if (pt_cmpR op_eq (pe_callB (kc_len (K := K)) (by rfl) B.len PyProof.Rows.Boot.«len» (pa_cons (pv 0) pa_nil)) pe_int (nomark _)) (pss_one (ps_raise F0 rfl rfl mBadWay qBadWay (pa_cons pe_str pa_nil))) pss_nil)
      (pss_cons (ps_expr (pe_cal ccheck_way (hr.mono (by decide)) rfl (pa_cons (pe_ix (kix_list (K := K)) (pv 0) pe_int (fun _ _ => rfl)) pa_nil)))
      (pss_cons (ps_for PassesOwn.leaving rfl (kpi_list (K := K) (pv 0)) (pg_name (i := 1) sc.nd rfl (Or.inl rfl))
      (pss_one (ps_expr (pe_calE ccheck_way_of (hr.mono (by decide)) rfl (pass_fn F0) (pa_cons (pe_callB (kc_len (K := K)) (by rfl) B.len PyProof.Rows.Boot.«len» (pa_cons (pe_ix (kix_list (K := K)) (pv 0) pe_int (fun _ _ => rfl)) pa_nil)) (pa_cons (pv 1) pa_nil))))))
      (pss_cons (ps_set (i := 2) sc.nd rfl (Or.inl rfl) (pe_calK kSearch (hr.mono (by decide)) rfl (pa_cons (pe_cal cgains (hr.mono (by decide)) rfl (pa_cons (pv 0) pa_nil)) pa_nil)))
      (pss_cons (ps_expr (pe_calM cSearch_follow clSearch (hr.mono (by decide)) (pv 2) (pa_cons (pe_tup pa_nil) (pa_cons pe_int pa_nil))))
      (pss_one (ps_ret (pe_fld (pv 2) rfl)))))))), ?_⟩
    have hal := hU.length
    refine seq_ifN (b := decide ((U.length : Int) = 0)) (P := fun H2 => H2 = H) (fun N hN => ?_) (fun g H2 e => ?_) (fun g H2 e => ?_)
    · refine ⟨_, rfl, l, _, rfl, .inl (SqL.of hl), rfl, _, rfl, ?_⟩
      rw [dInt, List.length_map, hal]
      exact hN _ rfl
    · subst e
      have g := of_decide_eq_true g
      exact ⟨le_line (by simp), kE (.inl (List.length_eq_zero_iff.mp (by omega))) _ (Same.refl _)⟩
    subst e
    have z1 : 1 ≤ U.length := by
      have := of_decide_eq_false g
      omega
    have hne : U ≠ [] := fun e => by rw [e] at z1; simp at z1
    have hU0 : U[0]? = some (U.getD 0 []) := by rw [List.getD_eq_getElem?_getD, List.getElem?_eq_getElem (by omega)]; rfl
    obtain ⟨r0, hr0, e0⟩ := paired_getR hU hU0
    have hw0 := hww _ (List.mem_of_getElem? hU0)
    obtain ⟨w1, w9, w0⟩ := isWay_iff.mp hw0
    refine ⟨_, rfl, l, _, _, _, rfl, rfl, SqL.of hl, atI_ref (j := 0) e0, r0, _, rfl, SqT.of hr0, hw0, ?_⟩
    refine ⟨_, rfl, l, rfl, ⟨_, SqL.of hl⟩, for_list (K := K) (a := l) (xs := as.map V.ref) (fun i σ H3 => ∃ v : Option V, σ = [some (.ref l), v, none] ∧ H3 = H2 ∧ ∀ j u, j < i → U[j]? = some u → u.length = (U.getD 0 []).length)
      ⟨none, rfl, rfl, fun j u h => absurd h (by omega)⟩ (fun i σ H3 _ ⟨_, _, e, _⟩ => by rw [e]; exact SqL.of hl) ?_ ?_⟩
    · rintro i y σ H3 hi ⟨v, rfl, rfl, ha⟩
      obtain ⟨q, rfl, hq, hil⟩ := getRef hi
      obtain ⟨u, hu, hui⟩ := paired_getM hU hq
      refine gN ?_
      refine ⟨_, rfl, l, _, _, _, rfl, rfl, SqL.of hl, atI_ref (j := 0) e0, r0, _, rfl, .inr (SqT.of hr0), _, rfl, ?_⟩
      rw [ltm]
      refine ⟨_, q, u, rfl, SqT.of hu, hww u (List.mem_of_getElem? hui), fun e => ⟨_, rfl, rfl, fun j u' hj hu' => ?_⟩, fun e => kE (.inr ⟨u, List.mem_of_getElem? hui, fun e2 => e (by rw [e2])⟩) _ (Same.refl _)⟩
      by_cases ej : j = i
      · subst ej
        rw [hui] at hu'; cases hu'; omega
      · exact ha j u' (by omega) hu'
    rintro σ H3 ⟨v, rfl, rfl, ha⟩
    have hall : ∀ u ∈ U, u.length = (U.getD 0 []).length := fun u hu => by
      obtain ⟨j, hj, e⟩ := List.getElem_of_mem hu
      exact ha j u (by rw [List.length_map]; omega) (by rw [List.getElem?_eq_getElem hj, e])
    generalize hn : (U.getD 0 []).length = n at *
    refine ⟨_, rfl, l, as, U, n, rfl, hl, hU, ⟨w1, w9, hall⟩, ⟨z1, hz⟩, fun t ts H4 s4 ht4 hL4 => ?_⟩
    intro x dx hx hdx hxd
    have m0 := made_start (C := CSearch) hx hdx
    refine ⟨x, dx, t, ts, gnT U n, rfl, upd_same, m0 _ _ ht4, hL4.sameH m0, ⟨by rw [gnT_length]; exact w9, fun r hr' => ?_⟩, fun o H5 P5 fr5 => ⟨rfl, ?_⟩⟩
    · unfold gnT at hr'
      obtain ⟨i, hi, rfl⟩ := List.mem_map.mp hr'
      have := List.mem_range.mp hi
      unfold gnRow; simp; omega
    have s5 := made_same hx hdx fr5
    refine gN ?_
    try dsimp only
    refine nrm (σ' := [some (.ref l), v, some (.ref x)]) rfl ?_
    refine ⟨_, rfl, x, dx, _, rfl, P5.ob, sF_no _ _ _ _ (by decide +kernel) (by decide +kernel) (by decide +kernel) (by decide +kernel), le_line (by simp), fun e1 he1 => ?_⟩
    have n6 := Same.new (o := HO.tup []) he1
    have he6 : upd H5 e1 (HO.tup []) e1 = some (.tup (([] : List Int).map V.int)) := upd_same
    generalize upd H5 e1 (HO.tup []) = H6 at n6 he6
    refine ⟨by decide, x, dx, t, o, e1, .non, ts, gnT U n, [], none, rfl, P5.same n6, SqT.of he6, rfl, Nat.zero_le _, fun i hi => ?_, by rw [gnT_length]; exact w9, by rw [gnT_length]; simp; omega, fun lv7 b7 H7 P7 R7 fr7 => ?_⟩
    · rw [gnT_length] at hi
      unfold gnT gnRow
      rw [List.getD_eq_getElem?_getD, List.getElem?_map, List.getElem?_range hi]
      simp
    obtain ⟨L, rfl, hLw, hLl, hb⟩ := res_end (u := U.getD 0 []) w0 (by rw [gnT_length]; exact hn) R7
    rw [gnT_length] at hLl
    obtain ⟨q, rfl, hq⟩ := P7.hl _ _ rfl
    refine ⟨_, rfl, x, CSearch, dx, _, _, rfl, P7.ob, clSearch, nSearch_leader, sF_atL _ _ _ _, ?_⟩
    refine k0 hne hall q L H7 (fun a u e => fr7 a u (n6 a u (s5 a u (s4 a u e))) (ne_of_none (s4 a u e) hx)) hq hLw hLl fun w h1 h2 => council_best hLl h2 (hb w h1 (by rw [gnT_length]; exact h2))
theorem sc_law_num : FnScope (["_law_found"]) (["_law_found"]) (defScope s_law_num) := ⟨rfl, rfl, rfl, by decide +kernel, rfl, by decide +kernel, by decide +kernel⟩
set_option maxHeartbeats 4000000 in
theorem ok_law_num {f : Addr} {fd : FuncData} (F : Fun K "_law_num" "_law_num" s_law_num f fd) (B : Bs mg) (T : Gs mg) (mBadWay : mg "BadWay" = some (.ref CBadWay)) (qBadWay : PySem.W.excIn K CBadWay bmV "ValueError.__new__" = true)  (clSearch : Cls K CSearch) (nSearch_table : NoAttr K CSearch "table") (nSearch_outlook : NoAttr K CSearch "outlook") (nSearch_greatest : NoAttr K CSearch "greatest") (nSearch_leader : NoAttr K CSearch "leader")  : FnOk P w K mg base CX0 1 f fd ["_law_found"] spNum := by
  have sc := sc_law_num
  refine F.ok sc (fun vs H Q E h => ?_) (fun cdv A outer s H vs Q E hr h => ?_)
  · obtain ⟨z, rfl, _⟩ := h; rfl
  · obtain ⟨z, rfl, k⟩ := h
    refine ⟨_, (pss_one (ps_ret (pe_and (pe_callB (kc_isi (K := K)) (by rfl) B.isinstance PyProof.Rows.Boot.«isinstance» (pa_cons (pv 0) (pa_cons (pe_bltn (v := .ty "int") rfl B.int PyProof.Rows.Boot.«int» rfl) pa_nil))) (pe_one (pe_not (pe_callB (kc_isi (K := K)) (by rfl) B.isinstance PyProof.Rows.Boot.«isinstance» (pa_cons (pv 0) (pa_cons (pe_bltn (v := .ty "bool") rfl B.bool PyProof.Rows.Boot.«bool» rfl) pa_nil)))))))), ?_⟩
    refine ⟨_, rfl, .int z, "int", _, true, rfl, TyOf.int z, rfl, _, rfl, iteT ?_⟩
    exact ⟨_, rfl, .int z, "bool", _, false, rfl, TyOf.int z, rfl, _, rfl, k⟩
theorem sc_law_row_ok : FnScope (["_law_row"]) (["_law_row"]) (defScope s_law_row_ok) := ⟨rfl, rfl, rfl, by decide +kernel, rfl, by decide +kernel, by decide +kernel⟩
set_option maxHeartbeats 4000000 in
theorem ok_law_row_ok {f : Addr} {fd : FuncData} (F : Fun K "_law_row_ok" "_law_row_ok" s_law_row_ok f fd) (B : Bs mg) (T : Gs mg) (mBadWay : mg "BadWay" = some (.ref CBadWay)) (qBadWay : PySem.W.excIn K CBadWay bmV "ValueError.__new__" = true)  (clSearch : Cls K CSearch) (nSearch_table : NoAttr K CSearch "table") (nSearch_outlook : NoAttr K CSearch "outlook") (nSearch_greatest : NoAttr K CSearch "greatest") (nSearch_leader : NoAttr K CSearch "leader")  : FnOk P w K mg base CX0 1 f fd ["_law_row"] (spRowOk K) := by
  have sc := sc_law_row_ok
  refine F.ok sc (fun vs H Q E h => ?_) (fun cdv A outer s H vs Q E hr h => ?_)
  · obtain ⟨a, ns, rfl, _⟩ := h; rfl
  · obtain ⟨a, ns, rfl, hS, hln, k⟩ := h
    refine ⟨_, (pss_cons (ps_if (PW.pt (pw_or (pt_not (pt_chain op_le op_le pe_int (pe_callB (kc_len (K := K)) (by rfl) B.len PyProof.Rows.Boot.«len» (pa_cons (pv 0) pa_nil)) pe_int)) (pw_or1 (pt_cmpR op_ne (pe_ix (kix_tup (K := K)) (pv 0) pe_int (fun _ _ => rfl)) pe_int (nomark _))))) (pss_one (ps_ret pe_bl)) pss_nil)
      (pss_one (ps_ret (pe_callB (kc_all (K := K)) (by rfl) B.all PyProof.Rows.Boot.«all» (pa_cons (pe_lc (N' := ["_law_k", "_law_row"]) (M := [none, some 0]) (lcSc_of (by rfl)) rfl (pi_range2 rfl B.range (pa_cons pe_int (pa_cons (pe_callB (kc_len (K := K)) (by rfl) B.len PyProof.Rows.Boot.«len» (pa_cons (pv 0) pa_nil)) pa_nil))) (fun _ _ _ _ _ => pg_name (i := 0) (show (["_law_k", "_law_row"] : List Str).Nodup by decide +kernel) rfl (Or.inl rfl) (.inr rfl)) (frm_name rfl) (fun _ _ _ _ _ => pts_nil) (fun _ _ _ _ _ => (pe_chain op_le op_le pe_int (pe_ix (kix_tup (K := K)) (pv 1) (pv 0) (fun _ _ => rfl)) (pe_op op_add (pe_callB (kc_max (K := K)) (by rfl) B.max PyProof.Rows.Boot.«max» (pa_cons (pe_slice (ksl_tup (K := K)) (pv 1) po_none (po_some (pv 0))) pa_nil)) pe_int)))) pa_nil))))), ?_⟩
    refine ⟨_, rfl, a, _, rfl, .inr hS, _, _, rfl, rfl, _, rfl, ?_⟩
    rw [ltm]
    have no : ¬ (1 ≤ ns.length ∧ ns.length ≤ 9) → rowOk ns = false := fun z => by
      unfold rowOk
      rw [← Bool.decide_and, decide_eq_false z]; rfl
    refine ite2 (fun h1 => ⟨_, _, rfl, rfl, _, rfl, ite2 (fun h2 => iteT ?_) (fun h2 => ?_)⟩) (fun h1 => ⟨_, rfl, iteT (iteT ?_)⟩)
    · have k := k H (Same.refl H)
      rw [no (by simp at h2; omega)] at k
      exact k
    · have h1 : (1 : Int) ≤ (ns.length : Int) := of_decide_eq_true h1
      have h2 : (ns.length : Int) ≤ 9 := by simp at h2; omega
      have e0 : rowOk ns = (decide (ns.getD 0 1 = 0) && rowAll ns) := by
        unfold rowOk
        rw [decide_eq_true (show 1 ≤ ns.length by omega), decide_eq_true (show ns.length ≤ 9 by omega)]; rfl
      have hp0 : 0 < ns.length := by omega
      have g0 : ns.getD 0 1 = ns.getD 0 0 := by
        rw [List.getD_eq_getElem?_getD, List.getD_eq_getElem?_getD, List.getElem?_eq_getElem hp0]; rfl
      rw [e0, g0] at k
      refine ⟨_, rfl, a, _, _, _, rfl, rfl, hS, atI_lt (i := 0) (by decide) (by omega), rfl, _, rfl, ite2 (fun g => ?_) (fun g => ?_)⟩
      · have g : ¬ ns.getD 0 0 = 0 := fun e => by
          have e' : ns.getD (0 : Int).toNat 0 = 0 := e
          rw [e'] at g
          exact absurd g (by decide)
        have k := k H (Same.refl H)
        rw [decide_eq_false g, Bool.false_and] at k
        exact k
      · have g : ns.getD 0 0 = 0 := by
          have g' : ¬ (!decide (V.int (ns.getD 0 0) = V.int 0)) = true := g
          rw [Bool.not_eq_true, Bool.not_eq_false'] at g'
          exact V.int.inj (of_decide_eq_true g')
        rw [decide_eq_true g, Bool.true_and] at k
        refine ⟨_, rfl, a, _, rfl, .inr hS, _, _, rfl, ⟨by decide, by decide, by rw [ltm]; omega, by rw [ltm]; omega⟩, ?_⟩
        rw [ltm, show ((ns.length : Int) - 1).toNat = ns.length - 1 by omega]
        refine lc_range (fun i ys H2 => Same H H2 ∧ ys = (List.range i).map fun j => V.bl (decide (0 ≤ ns.getD (j + 1) 0) && decide (ns.getD (j + 1) 0 ≤ maxL (ns.take (j + 1)) + 1))) (le_line (by omega)) ⟨Same.refl H, rfl⟩
          (fun i ys H2 _ h => by rw [h.2, List.length_map, List.length_range]; exact Nat.le_refl _) ?_ ?_
        · rintro i ys H2 hi ⟨s2, rfl⟩
          have e1 : (1 : Int) + (i : Int) = ((i + 1 : Nat) : Int) := by omega
          have hS2 := s2.seqT hS
          rw [e1]
          refine lcN ?_
          refine ⟨_, rfl, _, rfl, a, _, _, _, rfl, rfl, hS2, atI_lt (by omega) (by omega), _, _, rfl, rfl, _, rfl, ?_⟩
          rw [Int.toNat_natCast]
          refine ite2 (fun g1 => ?_) (fun g1 => ?_)
          · refine ⟨_, rfl, _, rfl, _, rfl, a, _, rfl, hS2, fun p H3 s3 hp3 => ?_⟩
            rw [cut_take_int] at hp3
            refine ⟨p, _, rfl, .inr hp3, (fun e => by have := congrArg List.length e; rw [List.length_take, List.length_nil] at this; omega), fun m hm => ?_⟩
            refine ⟨_, _, rfl, rfl, _, _, rfl, rfl, s2.trans s3, ?_⟩
            rw [← map_snoc]
            rw [hm.eq, of_decide_eq_true g1 |> decide_eq_true, Bool.true_and]
          · refine ⟨s2, ?_⟩
            rw [← map_snoc]
            rw [Bool.not_eq_true] at g1
            rw [g1, Bool.false_and]
        · rintro ys H2 ⟨s2, rfl⟩ p hp
          refine ⟨p, _, rfl, .inl (SqL.of (by rw [upd_same, mapB2])), ?_⟩
          have e2 : ((List.range (ns.length - 1)).map fun j => decide (0 ≤ ns.getD (j + 1) 0) && decide (ns.getD (j + 1) 0 ≤ maxL (ns.take (j + 1)) + 1)).all id = rowAll ns := by
            rw [List.all_map]; rfl
          rw [e2]
          exact k _ (s2.new2 hp)
    · have h1 : ¬ (1 : Int) ≤ (ns.length : Int) := fun e => h1 (decide_eq_true e)
      have k := k H (Same.refl H)
      rw [no (by omega)] at k
      exact k
theorem sc_law_way_ok : FnScope (["_law_found", "_law_size"]) (["_law_found", "_law_size"]) (defScope s_law_way_ok) := ⟨rfl, rfl, rfl, by decide +kernel, rfl, by decide +kernel, by decide +kernel⟩
set_option maxHeartbeats 4000000 in
theorem ok_law_way_ok {f : Addr} {fd : FuncData} (F : Fun K "_law_way_ok" "_law_way_ok" s_law_way_ok f fd) (B : Bs mg) (T : Gs mg) (mBadWay : mg "BadWay" = some (.ref CBadWay)) (qBadWay : PySem.W.excIn K CBadWay bmV "ValueError.__new__" = true)  (clSearch : Cls K CSearch) (nSearch_table : NoAttr K CSearch "table") (nSearch_outlook : NoAttr K CSearch "outlook") (nSearch_greatest : NoAttr K CSearch "greatest") (nSearch_leader : NoAttr K CSearch "leader") (c_law_num : Cal P w K mg base 1 "_law_num" [] spNum) (c_law_row_ok : Cal P w K mg base 1 "_law_row_ok" [] (spRowOk K)) : FnOk P w K mg base CX0 2 f fd ["_law_found", "_law_size"] (spWayOkS K) := by
  have sc := sc_law_way_ok
  refine F.ok sc (fun vs H Q E h => ?_) (fun cdv A outer s H vs Q E hr h => ?_)
  · obtain ⟨a, ns, n, rfl, _⟩ := h; rfl
  · obtain ⟨a, ns, n, rfl, hT, hl, k⟩ := h
    refine ⟨_, (pss_cons (ps_if (PW.pt (pw_or (pt_not (pt_val (pe_callB (kc_isiS (K := K)) (by rfl) B.isinstance PyProof.Rows.Boot.«isinstance» (pa_cons (pv 0) (pa_cons (pe_bltn (v := .ty "tuple") rfl B.tuple PyProof.Rows.Boot.«tuple» rfl) pa_nil))))) (pw_or (pt_cmpR op_ne (pe_callB (kc_len (K := K)) (by rfl) B.len PyProof.Rows.Boot.«len» (pa_cons (pv 0) pa_nil)) (pv 1) (nomark _)) (pw_or1 (pt_not (pt_val (pe_callB (kc_all (K := K)) (by rfl) B.all PyProof.Rows.Boot.«all» (pa_cons (pe_lc (N' := ["_law_one"]) (M := [none]) (lcSc_of (by rfl)) rfl (kpi_tup (K := K) (pv 0)) (fun _ _ _ _ _ => pg_name (i := 0) (show (["_law_one"] : List Str).Nodup by decide +kernel) rfl (Or.inl rfl) (.inr rfl)) (frm_name rfl) (fun _ _ _ _ _ => pts_nil) (fun _ _ _ _ _ => (pe_cal c_law_num (hr.mono (by decide)) rfl (pa_cons (pv 0) pa_nil)))) pa_nil)))))))) (pss_one (ps_ret pe_bl)) pss_nil)
      (pss_one (ps_ret (pe_cal c_law_row_ok (hr.mono (by decide)) rfl (pa_cons (pv 0) pa_nil))))), ?_⟩
    refine ⟨_, rfl, .ref a, "tuple", _, true, rfl, .inr ⟨a, _, rfl, hT, rfl⟩, rfl, _, rfl, iteF ?_⟩
    refine ⟨_, rfl, a, _, rfl, .inr (hT), _, rfl, rfl, _, rfl, ?_⟩
    rw [ltm]
    refine ite2 (fun g => iteT ?_) (fun g => ?_)
    · have g : ¬ (ns.length : Int) = n := fun e => by rw [e] at g; exact absurd g (by simp)
      have k := k H (Same.refl H)
      rw [decide_eq_false g, Bool.false_and] at k
      exact k
    · have g : (ns.length : Int) = n := by
        have g' : ¬ (!decide (V.int (ns.length : Int) = V.int n)) = true := g
        rw [Bool.not_eq_true, Bool.not_eq_false'] at g'
        exact V.int.inj (of_decide_eq_true g')
      rw [decide_eq_true g, Bool.true_and] at k
      refine ⟨_, rfl, a, rfl, ⟨_, hT⟩, lc_tup (xs := ns.map V.int) (fun i ys H4 => H4 = H ∧ ys = (List.replicate i true).map V.bl) (le_line (by rw [ltm]; omega)) ⟨rfl, rfl⟩
        (fun i ys H4 _ ⟨e, e2⟩ => ⟨by rw [e]; exact hT, by rw [e2, List.length_map, List.length_replicate]; exact Nat.le_refl _⟩) ?_ ?_⟩
      · rintro i y ys H4 hi ⟨rfl, rfl⟩
        obtain ⟨z, rfl, hz, hil⟩ := getI hi
        refine lcN ?_
        refine ⟨_, rfl, z, rfl, rfl, ?_⟩
        rw [List.replicate_succ', List.map_append]; rfl
      · rintro ys H4 ⟨rfl, rfl⟩ p hp
        refine ⟨p, _, rfl, .inl (SqL.of upd_same), _, rfl, ?_⟩
        rw [show (List.replicate (List.map V.int ns).length true).all id = true by simp]
        refine iteF ?_
        exact ⟨_, rfl, a, ns, rfl, (Same.new hp).seqT (hT), hl, fun H5 s5 => k H5 ((Same.new hp).trans s5)⟩
theorem sc_law_way : FnScope (["_law_cell_here", "_law_size", "_law_row", "_law_cap", "_law_way_here", "_law_one"]) (["_law_cell_here", "_law_size"]) (defScope s_law_way) := ⟨rfl, rfl, rfl, by decide +kernel, rfl, by decide +kernel, by decide +kernel⟩
set_option maxHeartbeats 4000000 in
theorem ok_law_way {f : Addr} {fd : FuncData} (F : Fun K "_law_way" "_law_way" s_law_way f fd) (B : Bs mg) (T : Gs mg) (mBadWay : mg "BadWay" = some (.ref CBadWay)) (qBadWay : PySem.W.excIn K CBadWay bmV "ValueError.__new__" = true)  (clSearch : Cls K CSearch) (nSearch_table : NoAttr K CSearch "table") (nSearch_outlook : NoAttr K CSearch "outlook") (nSearch_greatest : NoAttr K CSearch "greatest") (nSearch_leader : NoAttr K CSearch "leader") (c_law_draw : Cal P w K mg base 1 "_law_draw" [] (spDraw K)) : FnOk P w K mg base CX0 2 f fd ["_law_cell_here", "_law_size"] (spWay K) := by
  have sc := sc_law_way
  refine F.ok sc (fun vs H Q E h => ?_) (fun cdv A outer s H vs Q E hr h => ?_)
  · obtain ⟨c, n, rfl, _⟩ := h; rfl
  · obtain ⟨c, n, rfl, hn1, hn9, k⟩ := h
    refine ⟨_, (pss_cons (ps_set (i := 2) sc.nd rfl (Or.inl rfl) (pe_cal c_law_draw (hr.mono (by decide)) rfl (pa_cons (pv 0) (pa_cons (pe_op op_cat (pe_lst (pa_cons pe_int pa_nil)) (pe_lc (N' := ["_law_k"]) (M := [none]) (lcSc_of (by rfl)) rfl (pi_range1 rfl B.range (pa_cons (pv 1) pa_nil)) (fun _ _ _ _ _ => pg_name (i := 0) (show (["_law_k"] : List Str).Nodup by decide +kernel) rfl (Or.inl rfl) (.inr rfl)) (frm_name rfl) (fun _ _ _ _ _ => pts_nil) (fun _ _ _ _ _ => (pe_op op_add (pv 0) pe_int)))) pa_nil))))
      (pss_cons (ps_set (i := 3) sc.nd rfl (Or.inl rfl) (pe_ix (kix_list (K := K)) (pe_lst (pa_cons pe_int (pa_cons pe_int (pa_cons pe_int (pa_cons pe_int pa_nil))))) (pe_ix (kix_list (K := K)) (pv 2) pe_int (fun _ _ => rfl)) (fun _ _ => rfl)))
      (pss_cons (ps_set (i := 4) sc.nd rfl (Or.inl rfl) (pe_lst pa_nil))
      (pss_cons (ps_for PassesOwn.never rfl (kpi_list (K := K) (pe_slice (ksl_list (K := K)) (pv 2) (po_some pe_int) po_none)) (pg_name (i := 5) sc.nd rfl (Or.inl rfl))
      (pss_one (ps_expr (pe_bm PySem.F.plainAttrs_list PySem.F.slot_list_append PySem.F.type_list_append mt_append (pv 4) (pa_cons (pe_callB kc_min2 (by rfl) B.min PyProof.Rows.Boot.«min» (pa_cons (pe_op op_sub (pv 3) pe_int) (pa_cons (pe_op op_mod (pv 5) (pe_op op_add (pe_callB (kc_max (K := K)) (by rfl) B.max PyProof.Rows.Boot.«max» (pa_cons (pe_op op_cat (pe_lst (pa_cons (pe_un un_neg pe_int) pa_nil)) (pv 4)) pa_nil)) pe_int)) pa_nil))) pa_nil)))))
      (pss_one (ps_ret (pe_callTy (kc_tuple (K := K)) (by rfl) B.tuple PyProof.Rows.Boot.«tuple» (pa_cons (pv 4) pa_nil)))))))), ?_⟩
    -- the limits
    refine ⟨_, rfl, le_line (by decide), fun p hp => ⟨_, rfl, _, rfl, by omega, by omega, ?_⟩⟩
    refine lc_range (fun i ys H2 => H2 = upd H p (.lst [.int 4]) ∧ ys = (List.range i).map fun (j : Nat) => V.int (0 + (j : Int) + 1)) (le_line (by omega)) ⟨rfl, rfl⟩ (fun i ys H2 _ h => by rw [h.2, List.length_map, List.length_range]; exact Nat.le_refl _) ?_ ?_
    · rintro i ys H2 hi ⟨rfl, rfl⟩
      refine lcN ?_
      exact ⟨_, rfl, _, _, rfl, rfl, rfl, map_snoc (fun (j : Nat) => V.int (0 + (j : Int) + 1)) i⟩
    rintro ys H2 ⟨rfl, rfl⟩ q hq
    have hpq : p ≠ q := ne_of_none upd_same hq
    refine ⟨p, q, _, _, rfl, rfl, by rw [upd_ne hpq, upd_same], upd_same, le_line (by rw [List.length_map, List.length_range]; show 1 + _ ≤ _; omega), fun l hl => ?_⟩
    have sq : Same H (upd (upd (upd H p (.lst [.int 4])) q (.lst ((List.range n.toNat).map fun (j : Nat) => V.int (0 + (j : Int) + 1)))) l (.lst ([V.int 4] ++ (List.range n.toNat).map fun (j : Nat) => V.int (0 + (j : Int) + 1)))) := ((Same.new hp).new2 hq).new2 hl
    refine ⟨c, l, 4 :: (List.range n.toNat).map fun (j : Nat) => 0 + (j : Int) + 1, rfl, SqL.of (by rw [upd_same, mapV2]; rfl), fun z hz => ?_, by rw [List.length_cons, List.length_map, List.length_range]; omega, fun d rs H1 hd s1 hd1 hD => ?_⟩
    · rcases List.mem_cons.mp hz with e | e
      · rw [e]; exact limOk_small (by decide) (by decide)
      · obtain ⟨j, hj, rfl⟩ := List.mem_map.mp e
        have := List.mem_range.mp hj
        exact limOk_small (by omega) (by omega)
    obtain ⟨r0, rs', rfl, hr0, hr1, hD'⟩ := hD.uncons
    have s1' : Same H H1 := sq.trans s1
    have hrl : rs'.length = n.toNat := by have := hD'.length; rw [List.length_map, List.length_range] at this; exact this.symm
    -- the cap
    refine ⟨le_line (by decide), fun e he => ⟨_, rfl, d, _, _, _, rfl, rfl, SqL.of ((Same.new he) d _ hd1), atI_int (i := 0) (by decide) rfl, ?_⟩⟩
    obtain ⟨cap, hcap, hc2⟩ : ∃ cap : Int, atI [V.int 9, V.int 2, V.int 3, V.int 9] r0 = some (V.int cap) ∧ 2 ≤ cap := by
      have : r0 = 0 ∨ r0 = 1 ∨ r0 = 2 ∨ r0 = 3 := by omega
      rcases this with rfl | rfl | rfl | rfl
      · exact ⟨9, rfl, by decide⟩
      · exact ⟨2, rfl, by decide⟩
      · exact ⟨3, rfl, by decide⟩
      · exact ⟨9, rfl, by decide⟩
    refine ⟨e, _, _, _, rfl, rfl, SqL.of upd_same, hcap, ?_⟩
    -- the way
    refine ⟨Nat.zero_le _, fun u hu => ?_⟩
    generalize hH2 : upd H1 e (.lst [V.int 9, V.int 2, V.int 3, V.int 9]) = H2 at hu ⊢
    have s2 : Same H1 H2 := by rw [← hH2]; exact Same.new he
    refine ⟨_, rfl, _, rfl, d, _, rfl, SqL.of (Same.new hu d _ (s2 d _ hd1)), fun v hv => ?_⟩
    have huv : u ≠ v := ne_of_none upd_same hv
    have e3 : cutV ((r0 :: rs').map V.int) (some 1) none = rs'.map V.int := cut_drop_int (r0 :: rs') 1
    rw [e3]
    refine ⟨v, rfl, ⟨_, SqL.of upd_same⟩, for_list (K := K) (a := v) (xs := rs'.map V.int) (fun i σ H4 => ∃ (ws : List Int) (o : Option V), σ = [some (.int c), some (.int n), some (.ref d), some (.int cap), some (.ref u), o] ∧ Same H H4 ∧ H4 v = some (.lst (rs'.map V.int)) ∧ H4 u = some (.lst (ws.map V.int)) ∧ ws.length = i ∧ wayGo 0 ws = true)
      ⟨[], none, rfl, (((s1'.trans s2).new2 hu).new2 hv), upd_same, by rw [upd_ne huv, upd_same]; rfl, rfl, rfl⟩ (fun i σ H4 _ ⟨_, _, _, _, z, _⟩ => SqL.of z) ?_ ?_⟩
    · rintro i y σ H4 hi ⟨ws, o, rfl, s4, hv4, hu4, hwl, hw⟩
      obtain ⟨one, rfl, hone, hil⟩ := getI hi
      have huH : H u = none := (s1'.trans s2).free hu
      refine ⟨_, rfl, .inl ⟨rfl, _, SqL.of hu4⟩, _, rfl, _, _, rfl, rfl, _, rfl, _, rfl, le_line (by decide), fun t ht => ?_⟩
      have htu : u ≠ t := ne_of_none hu4 ht
      refine ⟨_, rfl, t, u, _, _, rfl, rfl, upd_same, by rw [upd_ne htu]; exact hu4, le_line (by rw [ltm]; show 1 + _ ≤ _; omega), fun t2 ht2 => ?_⟩
      have ht2u : u ≠ t2 := by
        have : upd H4 t (HO.lst [V.int (-1)]) u = some (.lst (ws.map V.int)) := by rw [upd_ne htu]; exact hu4
        exact ne_of_none this ht2
      refine ⟨t2, -1 :: ws, rfl, .inl (SqL.of upd_same), (by simp), fun m hm => ?_⟩
      have em : m = fresh 0 ws - 1 := hm.uniq (fresh_max ws hw)
      have fp : 0 ≤ fresh 0 ws := by have := (fresh_max ws hw).2 (-1) List.mem_cons_self; omega
      refine ⟨_, _, rfl, rfl, _, _, rfl, rfl, (by show 0 < m + 2; omega), _, _, rfl, ?_⟩
      have hmod := modB one (show 0 < m + 2 by omega)
      have hval : ∃ z : Int, (if one % (m + 2) < cap - 1 then one % (m + 2) else cap - 1) = z ∧ 0 ≤ z ∧ z ≤ fresh 0 ws := by
        refine ⟨_, rfl, ?_, ?_⟩ <;> split <;> omega
      obtain ⟨z, hz, hz0, hz1⟩ := hval
      rw [hz]
      refine ⟨u, _, _, rfl, rfl, by rw [upd_ne ht2u, upd_ne htu]; exact hu4, lt_line (by rw [ltm]; omega), ?_⟩
      refine ⟨ws ++ [z], _, rfl, ((s4.new2 ht).new2 ht2).put huH, ?_, by rw [upd_same, mapV], by rw [List.length_append, hwl]; rfl, ?_⟩
      · have hvt : v ≠ t := ne_of_none hv4 ht
        have hvt2 : v ≠ t2 := ne_of_none (show upd H4 t (HO.lst [V.int (-1)]) v = some _ by rw [upd_ne hvt]; exact hv4) ht2
        rw [upd_ne huv.symm, upd_ne hvt2, upd_ne hvt]; exact hv4
      · rw [wayGo_snoc, hw, decide_eq_true hz0, decide_eq_true hz1]; rfl
    · rintro σ H4 ⟨ws, o, rfl, s4, hv4, hu4, hwl, hw⟩
      rw [ltm] at hwl
      refine ⟨_, rfl, u, _, rfl, .inl ⟨SqL.of hu4, fun l2 hl2 => ?_⟩⟩
      refine k l2 ws _ (s4.free hl2) (s4.new2 hl2) upd_same (by rw [hwl, hrl]) ?_
      unfold isWay
      rw [hw, decide_eq_true (show 1 ≤ ws.length by omega), decide_eq_true (show ws.length ≤ 9 by omega)]; rfl
theorem sc_law_pairs : FnScope (["_law_size", "_law_found", "_law_k"]) (["_law_size"]) (defScope s_law_pairs) := ⟨rfl, rfl, rfl, by decide +kernel, rfl, by decide +kernel, by decide +kernel⟩
set_option maxHeartbeats 4000000 in
theorem ok_law_pairs {f : Addr} {fd : FuncData} (F : Fun K "_law_pairs" "_law_pairs" s_law_pairs f fd) (B : Bs mg) (T : Gs mg) (mBadWay : mg "BadWay" = some (.ref CBadWay)) (qBadWay : PySem.W.excIn K CBadWay bmV "ValueError.__new__" = true)  (clSearch : Cls K CSearch) (nSearch_table : NoAttr K CSearch "table") (nSearch_outlook : NoAttr K CSearch "outlook") (nSearch_greatest : NoAttr K CSearch "greatest") (nSearch_leader : NoAttr K CSearch "leader")  : FnOk P w K mg base CX0 1 f fd ["_law_size"] (spPairs K) := by
  have sc := sc_law_pairs
  refine F.ok sc (fun vs H Q E h => ?_) (fun cdv A outer s H vs Q E hr h => ?_)
  · obtain ⟨n, rfl, _⟩ := h; rfl
  · obtain ⟨n, rfl, h0, h9, k⟩ := h
    refine ⟨_, (pss_cons (ps_set (i := 1) sc.nd rfl (Or.inl rfl) (pe_lst pa_nil))
      (pss_cons (ps_for PassesOwn.never rfl (pi_range1 rfl B.range (pa_cons (pv 0) pa_nil)) (pg_name (i := 2) sc.nd rfl (Or.inr rfl))
      (pss_one (ps_expr (pe_bm PySem.F.plainAttrs_list PySem.F.slot_list_extend PySem.F.type_list_extend mt_extend (pv 1) (pa_cons (pe_lc (N' := ["_law_j", "_law_k"]) (M := [none, some 2]) (lcSc_of (by rfl)) rfl (pi_range1 rfl B.range (pa_cons (pv 2) pa_nil)) (fun _ _ _ _ _ => pg_name (i := 0) (show (["_law_j", "_law_k"] : List Str).Nodup by decide +kernel) rfl (Or.inl rfl) (.inr rfl)) (frm_name rfl) (fun _ _ _ _ _ => pts_nil) (fun _ _ _ _ _ => (pe_tup (pa_cons (pv 0) (pa_cons (pv 1) pa_nil))))) pa_nil)))))
      (pss_one (ps_ret (pv 1))))), ?_⟩
    refine ⟨Nat.zero_le _, fun p hp => ?_⟩
    refine ⟨_, rfl, _, rfl, by omega, by omega, for_range (lo := 0) (n := n.toNat) (fun i σ H2 => ∃ (ps : List Addr) (o : Option V), σ = [some (.int n), some (.ref p), o] ∧ Same H H2 ∧ H2 p = some (.lst (ps.map V.ref)) ∧ Paired (fun a q => SqT K H2 a [.int ((q.1 : Nat) : Int), .int ((q.2 : Nat) : Int)]) ps (pairsN i))
      ⟨[], none, rfl, Same.new hp, upd_same, .nil⟩ ?_ ?_⟩
    · rintro i σ H2 hi ⟨ps, o, rfl, s2, hp2, hP⟩
      have hpl := hP.length
      have hb := pairsN_le i
      have hb' : i * i ≤ 81 := Nat.mul_le_mul (show i ≤ 9 by omega) (show i ≤ 9 by omega)
      refine ⟨_, rfl, .inl ⟨rfl, _, SqL.of hp2⟩, _, rfl, _, rfl, by omega, by omega, ?_⟩
      rw [show ((0 : Int) + (i : Int)).toNat = i by omega]
      refine lc_range (fun b ys H4 => Same H2 H4 ∧ ∃ as : List Addr, ys = as.map V.ref ∧ as.length = b ∧ Paired (fun a (q : Nat × Nat) => SqT K H4 a [.int ((q.1 : Nat) : Int), .int ((q.2 : Nat) : Int)]) as ((List.range b).map fun j => (j, i))) (le_line (by omega)) ⟨Same.refl _, [], rfl, rfl, .nil⟩ (fun b ys H4 _ h => by obtain ⟨_, as, e, e2, _⟩ := h; rw [e, List.length_map, e2]; exact Nat.le_refl _) ?_ ?_
      · rintro b ys H4 hb ⟨s4, as, rfl, hal, hA⟩
        refine lcN ?_
        refine ⟨_, rfl, _, rfl, le_line (by simp), fun u hu => ⟨s4.new2 hu, as ++ [u], by rw [List.map_append]; rfl, by rw [List.length_append, hal]; rfl, ?_⟩⟩
        rw [List.range_succ, List.map_append]
        refine Paired.snoc (L2.Paired.mapP hA fun a' q z => (Same.new hu).seqT z) (SqT.of ?_)
        rw [upd_same, Int.zero_add, Int.zero_add]
      · rintro ys H4 ⟨s4, as, rfl, hal, hA⟩ u hu
        have hp4 := s4 p _ hp2
        have hpu : p ≠ u := ne_of_none hp4 hu
        have hpH : H p = none := hp
        have hp5 : upd H4 u (HO.lst (as.map V.ref)) p = some (.lst (ps.map V.ref)) := by rw [upd_ne hpu]; exact hp4
        have hQ : Paired (fun a (q : Nat × Nat) => SqT K (upd H4 u (HO.lst (as.map V.ref))) a [.int ((q.1 : Nat) : Int), .int ((q.2 : Nat) : Int)]) (ps ++ as) (pairsN (i + 1)) := by
          rw [pairsN_succ]
          exact paired_app (L2.Paired.mapP hP fun a' q z => (s4.new2 hu).seqT z) (L2.Paired.mapP hA fun a' q z => (Same.new hu).seqT z)
        refine ⟨p, u, _, _, rfl, rfl, hp5, upd_same, le_line (by rw [List.length_map, List.length_map]; omega), ?_⟩
        exact ⟨ps ++ as, _, rfl, (s2.trans (s4.new2 hu)).put hpH, by rw [upd_same, List.map_append], L2.Paired.mapP hQ fun a' q z => z.put hp5⟩
    · rintro σ H2 ⟨ps, o, rfl, s2, hp2, hP⟩
      exact ⟨_, rfl, k p ps H2 s2 hp2 hP⟩
theorem sc_law_all : FnScope (["_law_size", "_law_rows", "_law_step", "_law_longer", "_law_row"]) (["_law_size"]) (defScope s_law_all) := ⟨rfl, rfl, rfl, by decide +kernel, rfl, by decide +kernel, by decide +kernel⟩
set_option maxHeartbeats 4000000 in
theorem ok_law_all {f : Addr} {fd : FuncData} (F : Fun K "_law_all" "_law_all" s_law_all f fd) (B : Bs mg) (T : Gs mg) (mBadWay : mg "BadWay" = some (.ref CBadWay)) (qBadWay : PySem.W.excIn K CBadWay bmV "ValueError.__new__" = true)  (clSearch : Cls K CSearch) (nSearch_table : NoAttr K CSearch "table") (nSearch_outlook : NoAttr K CSearch "outlook") (nSearch_greatest : NoAttr K CSearch "greatest") (nSearch_leader : NoAttr K CSearch "leader")  : FnOk P w K mg base CX0 1 f fd ["_law_size"] (spAllW K) := by
  have sc := sc_law_all
  refine F.ok sc (fun vs H Q E h => ?_) (fun cdv A outer s H vs Q E hr h => ?_)
  · obtain ⟨n, rfl, _⟩ := h; rfl
  · obtain ⟨n, rfl, n1, n7, k⟩ := h
    refine ⟨_, (pss_cons (ps_set (i := 1) sc.nd rfl (Or.inl rfl) (pe_lst (pa_cons (pe_tup (pa_cons pe_int pa_nil)) pa_nil)))
      (pss_cons (ps_for PassesOwn.never rfl (pi_range1 rfl B.range (pa_cons (pe_op op_sub (pv 0) pe_int) pa_nil)) (pg_name (i := 2) sc.nd rfl (Or.inl rfl))
      (pss_cons (ps_set (i := 3) sc.nd rfl (Or.inl rfl) (pe_lst pa_nil))
      (pss_cons (ps_for PassesOwn.never rfl (kpi_list (K := K) (pv 1)) (pg_name (i := 4) sc.nd rfl (Or.inr rfl))
      (pss_one (ps_expr (pe_bm PySem.F.plainAttrs_list PySem.F.slot_list_extend PySem.F.type_list_extend mt_extend (pv 3) (pa_cons (pe_lc (N' := ["_law_lot", "_law_row"]) (M := [none, some 4]) (lcSc_of (by rfl)) rfl (pi_range1 rfl B.range (pa_cons (pe_op op_add (pe_callB (kc_max (K := K)) (by rfl) B.max PyProof.Rows.Boot.«max» (pa_cons (pv 4) pa_nil)) pe_int) pa_nil)) (fun _ _ _ _ _ => pg_name (i := 0) (show (["_law_lot", "_law_row"] : List Str).Nodup by decide +kernel) rfl (Or.inl rfl) (.inr rfl)) (frm_name rfl) (fun _ _ _ _ _ => pts_nil) (fun _ _ _ _ _ => (pe_op (kop_cat (K := K)) (pv 1) (pe_tup (pa_cons (pv 0) pa_nil))))) pa_nil)))))
      (pss_one (ps_set (i := 1) sc.nd rfl (Or.inl rfl) (pv 3))))))
      (pss_one (ps_ret (pv 1))))), ?_⟩
    refine ⟨le_line (by simp), fun q0 hq0 => ⟨le_line (by simp), fun l0 hl0 => ?_⟩⟩
    have s0 := (Same.new (o := HO.tup [V.int 0]) hq0).new2 (o := HO.lst [V.ref q0]) hl0
    have hq1 : upd (upd H q0 (HO.tup [V.int 0])) l0 (HO.lst [V.ref q0]) q0 = some (.tup ([(0 : Int)].map V.int)) := (Same.new hl0) _ _ upd_same
    have hl1 : upd (upd H q0 (HO.tup [V.int 0])) l0 (HO.lst [V.ref q0]) l0 = some (.lst ([q0].map V.ref)) := upd_same
    generalize upd (upd H q0 (HO.tup [V.int 0])) l0 (HO.lst [V.ref q0]) = H0 at s0 hq1 hl1
    refine gN ?_
    try dsimp only
    refine nrm (σ' := [some (.int n), some (.ref l0), none, none, none]) rfl ?_
    refine ⟨_, rfl, _, _, rfl, rfl, _, rfl, by omega, by omega, for_range (lo := 0) (n := (n - 1).toNat) (fun i σ H1 => ∃ (l : Addr) (ps : List Addr) (R : List (List Int)) (o2 o3 o4 : Option V), σ = [some (.int n), some (.ref l), o2, o3, o4] ∧ Same H H1 ∧ H1 l = some (.lst (ps.map V.ref)) ∧ TsAt K H1 ps R ∧ (∀ r ∈ R, wayGo 0 r = true ∧ r.length = i + 1) ∧ R.length ≤ 9 ^ i)
      ⟨l0, [q0], [[0]], none, none, none, rfl, s0, hl1, .cons (SqT.of hq1) .nil, fun r hr => by rw [List.mem_singleton.mp hr]; exact ⟨rfl, rfl⟩, Nat.le_refl _⟩ ?_ ?_⟩
    · rintro i σ H1 hi ⟨l, ps, R, o2, o3, o4, rfl, s1, hl, hR, hok, hb⟩
      have hpl := hR.length
      have hB : 9 ^ i ≤ 59049 := Nat.le_trans (Nat.pow_le_pow_right (by decide) (show i ≤ 5 by omega)) (by decide)
      refine gN ?_
      try dsimp only
      refine ⟨Nat.zero_le _, fun lg hlg => ?_⟩
      have n2 := Same.new (o := HO.lst []) hlg
      have hlg2 : upd H1 lg (HO.lst []) lg = some (.lst (([] : List Addr).map V.ref)) := upd_same
      have nl : l ≠ lg := ne_of_none hl hlg
      generalize upd H1 lg (HO.lst []) = H2 at n2 hlg2
      refine gN ?_
      try dsimp only
      refine nrm (σ' := [some (.int n), some (.ref l), some (.int (0 + (i : Int))), some (.ref lg), o4]) rfl ?_
      refine ⟨_, rfl, l, rfl, ⟨_, SqL.of (n2 _ _ hl)⟩, for_list (K := K) (a := l) (xs := ps.map V.ref) (fun j σ H3 => ∃ (o4 : Option V) (qs : List Addr) (R2 : List (List Int)), σ = [some (.int n), some (.ref l), some (.int (0 + (i : Int))), some (.ref lg), o4] ∧ Same H1 H3 ∧ H3 lg = some (.lst (qs.map V.ref)) ∧ TsAt K H3 qs R2 ∧ (∀ r ∈ R2, wayGo 0 r = true ∧ r.length = i + 2) ∧ R2.length ≤ 9 * j)
        ⟨o4, [], [], rfl, n2, hlg2, .nil, fun r h => absurd h (by simp), Nat.le_refl _⟩ (fun j σ H3 _ ⟨_, _, _, _, s, _⟩ => SqL.of (s _ _ hl)) ?_ ?_⟩
      · rintro j y σ H3 hj ⟨o4, qs, R2, rfl, s3, hlg3, hR3, hok3, hb3⟩
        obtain ⟨qa, rfl, hqa, hjl⟩ := getRef hj
        obtain ⟨r, hr', hri⟩ := paired_getM hR hqa
        obtain ⟨rw', rl⟩ := hok r (List.mem_of_getElem? hri)
        have rne : r ≠ [] := fun e => by rw [e] at rl; simp at rl
        obtain ⟨fp1, fp2⟩ := fresh_pos rw' rne
        have ffl := fresh_le r
        have hr3 := s3.seqT hr'
        have hql := hR3.length
        refine gN ?_
        refine ⟨_, rfl, .inl ⟨rfl, _, SqL.of hlg3⟩, _, rfl, qa, r, rfl, .inr hr3, rne, fun m hm => ⟨_, _, rfl, rfl, ?_⟩⟩
        have em : m = fresh 0 r - 1 := hm.uniq fp2
        refine ⟨_, rfl, by omega, by omega, ?_⟩
        refine lc_range (lo := 0) (n := (m + 2).toNat) (fun c ys H4 => Same H3 H4 ∧ ∃ (cs : List Addr) (C : List (List Int)), ys = cs.map V.ref ∧ cs.length = c ∧ TsAt K H4 cs C ∧ ∀ x ∈ C, wayGo 0 x = true ∧ x.length = i + 2) (le_line (by omega)) ⟨Same.refl H3, [], [], rfl, rfl, .nil, fun x h => absurd h (by simp)⟩ (fun c ys H4 _ h => by
          obtain ⟨_, cs, _, e, e2, _⟩ := h
          rw [e, List.length_map, e2]; exact Nat.le_refl _) ?_ ?_
        · rintro c ys H4 hc ⟨s4, cs, C, rfl, hcl, hC, hokC⟩
          refine lcN ?_
          refine ⟨_, rfl, _, rfl, le_line (by simp), fun w hw => ?_⟩
          have s5 := s4.new2 (o := HO.tup [V.int (0 + (c : Int))]) hw
          have hC5 : TsAt K (upd H4 w (HO.tup [V.int (0 + (c : Int))])) cs C := L2.Paired.mapP hC fun _ _ z => (Same.new hw).seqT z
          have hw5 : upd H4 w (HO.tup [V.int (0 + (c : Int))]) w = some (.tup [V.int (0 + (c : Int))]) := upd_same
          generalize upd H4 w (HO.tup [V.int (0 + (c : Int))]) = H5 at s5 hC5 hw5
          refine ⟨qa, w, _, _, rfl, rfl, s5.seqT hr3, SqT.of hw5, le_line (by simp; omega), fun pn H6 s6 hpn => ?_⟩
          refine ⟨s5.trans s6, cs ++ [pn], C ++ [r ++ [(c : Int)]], by rw [List.map_append]; rfl, by rw [List.length_append, hcl]; rfl, Paired.snoc (L2.Paired.mapP hC5 fun _ _ z => s6.seqT z) ?_, fun x hx => ?_⟩
          · rw [List.map_append]; rw [Int.zero_add] at hpn; exact hpn
          · rcases List.mem_append.mp hx with h | h
            · exact hokC x h
            · rw [List.mem_singleton.mp h]
              exact ⟨way_more rw' (by omega), by rw [List.length_append, rl]; rfl⟩
        · rintro ys H4 ⟨s4, cs, C, rfl, hcl, hC, hokC⟩ u hu
          have hlg4 := s4 _ _ hlg3
          have hCl := hC.length
          have s5 := s4.new2 (o := HO.lst (cs.map V.ref)) hu
          have hC5 : TsAt K (upd H4 u (HO.lst (cs.map V.ref))) cs C := L2.Paired.mapP hC fun _ _ z => (Same.new hu).seqT z
          have hu5 : upd H4 u (HO.lst (cs.map V.ref)) u = some (.lst (cs.map V.ref)) := upd_same
          generalize upd H4 u (HO.lst (cs.map V.ref)) = H5 at s5 hC5 hu5
          have hlg5 := s5 _ _ hlg3
          refine ⟨lg, u, _, _, rfl, rfl, hlg5, hu5, le_line (by rw [List.length_map, List.length_map]; omega), ?_⟩
          refine ⟨_, qs ++ cs, R2 ++ C, rfl, (s3.trans s5).put hlg, by rw [upd_same, List.map_append], paired_app (L2.Paired.mapP hR3 fun _ _ z => (s5.seqT z).put hlg5) (L2.Paired.mapP hC5 fun _ _ z => z.put hlg5), fun x hx => ?_, by rw [List.length_append]; omega⟩
          exact (List.mem_append.mp hx).elim (hok3 x) (hokC x)
      · rintro σ H3 ⟨o4, qs, R2, rfl, s3, hlg3, hR3, hok3, hb3⟩
        refine ⟨_, rfl, lg, qs, R2, _, _, _, rfl, s1.trans s3, hlg3, hR3, hok3, ?_⟩
        rw [List.length_map] at hb3
        rw [Nat.pow_succ]
        omega
    · rintro σ H1 ⟨l, ps, R, o2, o3, o4, rfl, s1, hl, hR, hok, hb⟩
      have hB : 9 ^ (n - 1).toNat ≤ 531441 := Nat.le_trans (Nat.pow_le_pow_right (by decide) (show (n - 1).toNat ≤ 6 by omega)) (by decide)
      refine ⟨_, rfl, k l ps R H1 s1 hl hR (fun r hr => ?_) (by omega)⟩
      obtain ⟨h1, h2⟩ := hok r hr
      exact ⟨isWay_iff.mpr ⟨by omega, by omega, h1⟩, by omega⟩
theorem sc_law_number_row : FnScope (["_law_marks", "_law_seen", "_law_row", "_law_one"]) (["_law_marks"]) (defScope s_law_number_row) := ⟨rfl, rfl, rfl, by decide +kernel, rfl, by decide +kernel, by decide +kernel⟩
set_option maxHeartbeats 4000000 in
theorem ok_law_number_row {f : Addr} {fd : FuncData} (F : Fun K "_law_number_row" "_law_number_row" s_law_number_row f fd) (B : Bs mg) (T : Gs mg) (mBadWay : mg "BadWay" = some (.ref CBadWay)) (qBadWay : PySem.W.excIn K CBadWay bmV "ValueError.__new__" = true)  (clSearch : Cls K CSearch) (nSearch_table : NoAttr K CSearch "table") (nSearch_outlook : NoAttr K CSearch "outlook") (nSearch_greatest : NoAttr K CSearch "greatest") (nSearch_leader : NoAttr K CSearch "leader")  : FnOk P w K mg base CX0 1 f fd ["_law_marks"] (spNumRow K) := by
  have sc := sc_law_number_row
  refine F.ok sc (fun vs H Q E h => ?_) (fun cdv A outer s H vs Q E hr h => ?_)
  · obtain ⟨a, ns, rfl, _⟩ := h; rfl
  · obtain ⟨a, ns, rfl, hS, hl, k⟩ := h
    refine ⟨_, (pss_cons (ps_set (i := 1) sc.nd rfl (Or.inl rfl) (pe_lst pa_nil))
      (pss_cons (ps_set (i := 2) sc.nd rfl (Or.inl rfl) (pe_lst pa_nil))
      (pss_cons (ps_for PassesOwn.never rfl (kpi_list (K := K) (pv 0)) (pg_name (i := 3) sc.nd rfl (Or.inl rfl))
      (pss_cons (ps_if (pt_cmpR (kop_notIn (K := K)) (pv 3) (pv 1) rfl) (pss_one (ps_expr (pe_bm PySem.F.plainAttrs_list PySem.F.slot_list_append PySem.F.type_list_append mt_append (pv 1) (pa_cons (pv 3) pa_nil)))) pss_nil)
      (pss_one (ps_expr (pe_bm PySem.F.plainAttrs_list PySem.F.slot_list_append PySem.F.type_list_append mt_append (pv 2) (pa_cons (pe_bm PySem.F.plainAttrs_list PySem.F.slot_list_index PySem.F.type_list_index mt_index (pv 1) (pa_cons (pv 3) pa_nil)) pa_nil))))))
      (pss_one (ps_ret (pe_callTy (kc_tuple (K := K)) (by rfl) B.tuple PyProof.Rows.Boot.«tuple» (pa_cons (pv 2) pa_nil))))))), ?_⟩
    refine ⟨Nat.zero_le _, fun p hp => ⟨Nat.zero_le _, fun q hq => ?_⟩⟩
    have hpq : p ≠ q := ne_of_none upd_same hq
    have S0 : Same H (upd (upd H p (.lst [])) q (.lst [])) := (Same.new hp).new2 hq
    have hqH : H q = none := (Same.new hp).free hq
    refine ⟨_, rfl, a, rfl, ⟨_, S0.seq hS⟩, for_list (K := K) (a := a) (xs := ns.map V.int) (fun i σ H2 => ∃ (v : Option V), σ = [some (.ref a), some (.ref p), some (.ref q), v] ∧ Same H H2 ∧ H2 p = some (.lst ((seen (ns.take i)).map V.int)) ∧ H2 q = some (.lst ((numRow (ns.take i)).map V.int)))
      ⟨none, rfl, S0, by rw [upd_ne hpq, upd_same]; rfl, by rw [upd_same]; rfl⟩ (fun i σ H2 _ ⟨_, _, s2, _⟩ => s2.seq hS) ?_ ?_⟩
    · rintro i y σ H2 hi ⟨v, rfl, s2, hp2, hq2⟩
      obtain ⟨z, rfl, hz, hil⟩ := getI hi
      have hts := take_snoc hz
      have hsl := seen_length (ns.take i)
      have htl : (ns.take i).length ≤ ns.length := by rw [List.length_take]; omega
      have fl : ∀ s : List Int, (s.map V.int).all flatV = true := fun s => by rw [List.all_map]; exact List.all_eq_true.mpr fun _ _ => rfl
      have inv : inV (V.int z) ((seen (ns.take i)).map V.int) = decide (z ∈ seen (ns.take i)) := by
        unfold inV
        rw [List.any_map]
        rw [Bool.eq_iff_iff, List.any_eq_true, decide_eq_true_iff]
        constructor
        · rintro ⟨y, hy, e⟩
          have : y = z := by simpa [eqV] using e
          rw [← this]; exact hy
        · intro hy; exact ⟨z, hy, by simp [eqV]⟩
      refine ⟨_, rfl, _, rfl, p, _, rfl, .inl (SqL.of hp2), rfl, fl _, _, rfl, ?_⟩
      rw [inv]
      have fin : ∀ H3 : Hp, Same H H3 → H3 p = some (.lst ((seenP (seen (ns.take i)) z).map V.int)) → H3 q = some (.lst ((numRow (ns.take i)).map V.int)) →
          ∃ H4 : Hp, H4 = upd H3 q (.lst (((numRow (ns.take i)) ++ [((seenP (seen (ns.take i)) z).idxOf z : Int)]).map V.int)) ∧ Same H H4 ∧ H4 p = some (.lst ((seen (ns.take (i + 1))).map V.int)) ∧ H4 q = some (.lst ((numRow (ns.take (i + 1))).map V.int)) := fun H3 s3 h3 h3q => by
        refine ⟨_, rfl, s3.put hqH, ?_, ?_⟩
        · rw [upd_ne hpq, h3, hts, seen_snoc]
        · rw [upd_same, hts, numRow_snoc]
      have zin : z ∈ seenP (seen (ns.take i)) z := mem_seenP.mpr (.inr rfl)
      refine ite2 (fun g => ?_) (fun g => ?_)
      · have g : z ∉ seen (ns.take i) := by simpa using g
        refine ⟨_, rfl, .inl ⟨rfl, _, SqL.of hp2⟩, _, rfl, p, _, _, rfl, rfl, hp2, lt_line (by rw [ltm]; omega), ?_⟩
        have e2 : (seen (ns.take i)).map V.int ++ [V.int z] = (seenP (seen (ns.take i)) z).map V.int := by unfold seenP; rw [if_neg g, mapV]
        rw [e2]
        have hp3 : upd H2 p (.lst ((seenP (seen (ns.take i)) z).map V.int)) p = some (.lst ((seenP (seen (ns.take i)) z).map V.int)) := upd_same
        have hq3 : upd H2 p (.lst ((seenP (seen (ns.take i)) z).map V.int)) q = some (.lst ((numRow (ns.take i)).map V.int)) := by rw [upd_ne hpq.symm]; exact hq2
        obtain ⟨H4, e4, r4⟩ := fin _ (s2.put hp) hp3 hq3
        refine ⟨_, rfl, .inl ⟨rfl, _, SqL.of hq3⟩, _, rfl, .inl ⟨rfl, _, SqL.of hp3⟩, _, rfl, p, _, z, rfl, rfl, hp3, zin, ?_, q, _, _, rfl, rfl, hq3, lt_line (by rw [ltm, numRow_length]; omega), ?_⟩
        · unfold seenP; rw [if_neg g, List.length_append]; show _ + 1 ≤ _; omega
        · rw [mapV, ← e4]; exact ⟨_, rfl, r4⟩
      · have g : z ∈ seen (ns.take i) := by simpa using g
        have e2 : seenP (seen (ns.take i)) z = seen (ns.take i) := by unfold seenP; rw [if_pos g]
        have hp3 : H2 p = some (.lst ((seenP (seen (ns.take i)) z).map V.int)) := by rw [e2]; exact hp2
        obtain ⟨H4, e4, r4⟩ := fin _ s2 hp3 hq2
        refine ⟨_, rfl, .inl ⟨rfl, _, SqL.of hq2⟩, _, rfl, .inl ⟨rfl, _, SqL.of hp3⟩, _, rfl, p, _, z, rfl, rfl, hp3, zin, ?_, q, _, _, rfl, rfl, hq2, lt_line (by rw [ltm, numRow_length]; omega), ?_⟩
        · rw [e2]; omega
        · rw [mapV, ← e4]; exact ⟨_, rfl, r4⟩
    · rintro σ H2 ⟨v, rfl, s2, hp2, hq2⟩
      rw [ltm, List.take_length] at hq2
      exact ⟨_, rfl, q, _, rfl, .inl ⟨SqL.of hq2, fun t ht => k t _ (s2.free ht) (s2.new2 ht) upd_same⟩⟩
theorem sc_law_lots : FnScope (["_law_way_here"]) (["_law_way_here"]) (defScope s_law_lots) := ⟨rfl, rfl, rfl, by decide +kernel, rfl, by decide +kernel, by decide +kernel⟩
set_option maxHeartbeats 4000000 in
theorem ok_law_lots {f : Addr} {fd : FuncData} (F : Fun K "_law_lots" "_law_lots" s_law_lots f fd) (B : Bs mg) (T : Gs mg) (mBadWay : mg "BadWay" = some (.ref CBadWay)) (qBadWay : PySem.W.excIn K CBadWay bmV "ValueError.__new__" = true)  (clSearch : Cls K CSearch) (nSearch_table : NoAttr K CSearch "table") (nSearch_outlook : NoAttr K CSearch "outlook") (nSearch_greatest : NoAttr K CSearch "greatest") (nSearch_leader : NoAttr K CSearch "leader")  : FnOk P w K mg base CX0 1 f fd ["_law_way_here"] (spLLots K) := by
  have sc := sc_law_lots
  refine F.ok sc (fun vs H Q E h => ?_) (fun cdv A outer s H vs Q E hr h => ?_)
  · obtain ⟨a, ws, rfl, _⟩ := h; rfl
  · obtain ⟨a, ws, rfl, hS, hw, k⟩ := h
    refine ⟨_, (pss_one (ps_ret (pe_lcC (N' := ["_law_lot", "_law_way_here"]) (M := [none, some 0]) (lcScC_of (by rfl)) rfl (pi_range1 rfl B.range (pa_cons (pe_op op_add (pe_callB (kc_max (K := K)) (by rfl) B.max PyProof.Rows.Boot.«max» (pa_cons (pv 0) pa_nil)) pe_int) pa_nil)) (fun _ _ _ _ _ => pg_name (i := 0) (show (["_law_lot", "_law_way_here"] : List Str).Nodup by decide +kernel) rfl (Or.inr rfl) (.inl rfl)) (frm_name rfl) (fun _ _ _ _ _ => pts_nil) (fun _ _ _ _ _ => (pe_lcV (N' := ["_law_k", "_law_lot", "_law_way_here"]) (M := [none, some 0, some 1]) (lcSc_of (by rfl)) rfl (pi_range1 rfl B.range (pa_cons (pe_callB (kc_len (K := K)) (by rfl) B.len PyProof.Rows.Boot.«len» (pa_cons (pv 1) pa_nil)) pa_nil)) (fun _ _ _ _ _ => pg_name (i := 0) (show (["_law_k", "_law_lot", "_law_way_here"] : List Str).Nodup by decide +kernel) rfl (Or.inl rfl) (.inr rfl)) (frm_name rfl) (fun _ _ _ _ _ => pts_one (pt_cmpR op_eq (pe_ix (kix_tup (K := K)) (pv 2) (pv 0) (fun _ _ => rfl)) (pv 1) (nomark _))) (fun _ _ _ _ _ => (pv 0))))))), ?_⟩
    obtain ⟨w1, w9, w0⟩ := isWay_iff.mp hw
    have wne : ws ≠ [] := fun e => by rw [e] at w1; simp at w1
    have f0 := (fresh_pos w0 wne).1
    have fl := fresh_le ws
    refine ⟨_, rfl, a, ws, rfl, .inr hS, wne, fun m hm => ⟨_, _, rfl, rfl, _, rfl, ?_, ?_, ?_⟩⟩
    · have := hm.uniq (fresh_pos w0 wne).2; omega
    · have := hm.uniq (fresh_pos w0 wne).2; omega
    have em : m + 1 = fresh 0 ws := by have := hm.uniq (fresh_pos w0 wne).2; omega
    rw [em]
    refine lc_range (n := (fresh 0 ws).toNat) (fun j ys H4 => Same H H4 ∧ ∃ qs : List Addr, ys = qs.map V.ref ∧ qs.length = j ∧ ∀ (k : Nat) q, qs[k]? = some q → H4 q = some (.lst ((lotL ws (k : Int) ws.length).map V.int))) (le_line (by omega)) ⟨Same.refl _, [], rfl, rfl, fun k q h => by simp at h⟩
      (fun j ys H4 _ h => by obtain ⟨_, qs, e, e2, _⟩ := h; rw [e, List.length_map, e2]; exact Nat.le_refl _) ?_ ?_
    · rintro j ys H4 hj ⟨s4, qs, rfl, hql, hqs⟩
      refine lcN ?_
      have hS4 := s4.seqT hS
      refine ⟨_, rfl, a, _, rfl, .inr hS4, _, rfl, by omega, by rw [ltm]; omega, ?_⟩
      rw [ltm, Int.toNat_natCast]
      refine lc_range (fun b zs H5 => H5 = H4 ∧ zs = (lotL ws (j : Int) b).map V.int) (le_line (by omega)) ⟨rfl, rfl⟩ (fun b zs H5 _ h => by rw [h.2, ltm, lotL_length]; exact lotN_length_le ws (j : Int) b) ?_ ?_
      · rintro b zs H5 hb ⟨rfl, rfl⟩
        have a1 := atI_lt (ns := ws) (i := (0 : Int) + (b : Int)) (by omega) (by omega)
        rw [show ((0 : Int) + (b : Int)).toNat = b by omega] at a1
        refine ⟨_, rfl, _, rfl, a, _, _, _, rfl, rfl, hS4, a1, _, rfl, rfl, _, rfl, ?_⟩
        rw [lotL_succ]
        refine ite2 (fun g => ⟨_, rfl, rfl, ?_⟩) (fun g => ⟨rfl, ?_⟩)
        · have g : ws.getD b 0 = 0 + (j : Int) := V.int.inj (of_decide_eq_true g)
          rw [if_pos (by omega), mapV, Int.zero_add]
        · have g : ¬ ws.getD b 0 = 0 + (j : Int) := fun e => g (decide_eq_true (congrArg V.int e))
          rw [if_neg (by omega)]
      · rintro zs H5 ⟨rfl, rfl⟩ t ht
        refine ⟨s4.new2 ht, qs ++ [t], by rw [List.map_append]; rfl, by rw [List.length_append, hql]; rfl, fun k q' hk => ?_⟩
        by_cases e : k < qs.length
        · rw [List.getElem?_append_left e] at hk
          exact Same.new ht q' _ (hqs k q' hk)
        · have hkl : k < (qs ++ [t]).length := (List.getElem?_eq_some_iff.mp hk).1
          rw [List.length_append] at hkl
          have ek : k = qs.length := by simp at hkl; omega
          subst ek
          rw [List.getElem?_append_right (Nat.le_refl _), Nat.sub_self] at hk
          have : t = q' := by simpa using hk
          subst this
          rw [upd_same, hql]
    · rintro ys H4 ⟨s4, qs, rfl, hql, hqs⟩ p hp
      exact k p qs _ (s4.new2 hp) upd_same hql (fun k q hk => Same.new hp q _ (hqs k q hk))
theorem sc_law_joinings : FnScope (["_law_way_here", "_law_found", "_law_j", "_law_k"]) (["_law_way_here"]) (defScope s_law_joinings) := ⟨rfl, rfl, rfl, by decide +kernel, rfl, by decide +kernel, by decide +kernel⟩
set_option maxHeartbeats 4000000 in
theorem ok_law_joinings {f : Addr} {fd : FuncData} (F : Fun K "_law_joinings" "_law_joinings" s_law_joinings f fd) (B : Bs mg) (T : Gs mg) (mBadWay : mg "BadWay" = some (.ref CBadWay)) (qBadWay : PySem.W.excIn K CBadWay bmV "ValueError.__new__" = true)  (clSearch : Cls K CSearch) (nSearch_table : NoAttr K CSearch "table") (nSearch_outlook : NoAttr K CSearch "outlook") (nSearch_greatest : NoAttr K CSearch "greatest") (nSearch_leader : NoAttr K CSearch "leader") (c_law_number_row : Cal P w K mg base 1 "_law_number_row" [] (spNumRow K)) (c_law_pairs : Cal P w K mg base 1 "_law_pairs" [] (spPairs K)) : FnOk P w K mg base CX0 3 f fd ["_law_way_here"] (spLJoinsN K) := by
  have sc := sc_law_joinings
  refine F.ok sc (fun vs H Q E h => ?_) (fun cdv A outer s H vs Q E hr h => ?_)
  · obtain ⟨a, ws, rfl, _⟩ := h; rfl
  · obtain ⟨a, ws, rfl, hS, hw, k⟩ := h
    refine ⟨_, (pss_cons (ps_set (i := 1) sc.nd rfl (Or.inl rfl) pe_dnewT)
      (pss_cons (ps_for PassesOwn.never rfl (kpi_list (K := K) (pe_cal c_law_pairs (hr.mono (by decide)) rfl (pa_cons (pe_callB (kc_len (K := K)) (by rfl) B.len PyProof.Rows.Boot.«len» (pa_cons (pv 0) pa_nil)) pa_nil))) (pg_tup rfl (pgs_cons (pg_name (i := 2) sc.nd rfl (Or.inr rfl)) (pgs_cons (pg_name (i := 3) sc.nd rfl (Or.inr rfl)) pgs_nil)))
      (pss_one (ps_if (pt_cmpR op_ne (pe_ix (kix_tup (K := K)) (pv 0) (pv 2) (fun _ _ => rfl)) (pe_ix (kix_tup (K := K)) (pv 0) (pv 3) (fun _ _ => rfl)) (nomark _)) (pss_one (ps_dput (hu_of hr) (pv 1) (pe_cal c_law_number_row (hr.mono (by decide)) rfl (pa_cons (pe_lc (N' := ["_law_lot", "_law_way_here", "_law_j", "_law_k"]) (M := [none, some 0, some 2, some 3]) (lcSc_of (by rfl)) rfl (kpi_tup (K := K) (pv 0)) (fun _ _ _ _ _ => pg_name (i := 0) (show (["_law_lot", "_law_way_here", "_law_j", "_law_k"] : List Str).Nodup by decide +kernel) rfl (Or.inl rfl) (.inr rfl)) (frm_name rfl) (fun _ _ _ _ _ => pts_nil) (fun _ _ _ _ _ => (pe_ifExp (pt_cmpR op_eq (pv 0) (pe_ix (kix_tup (K := K)) (pv 1) (pv 3) (fun _ _ => rfl)) (nomark _)) (pe_ix (kix_tup (K := K)) (pv 1) (pv 2) (fun _ _ => rfl)) (pv 0)))) pa_nil)) pe_bl rfl)) pss_nil)))
      (pss_one (ps_ret (pe_callB (call_sortedD (K := K)) (by rfl) B.sorted PyProof.Rows.Boot.«sorted» (pa_cons (pv 1) pa_nil)))))), ?_⟩
    obtain ⟨w1, w9, w0⟩ := isWay_iff.mp hw
    intro d hd
    have s1 := Same.new (o := HO.dT []) hd
    have hd1 : upd H d (HO.dT []) d = some (.dT []) := upd_same
    generalize upd H d (HO.dT []) = H1 at s1 hd1
    refine ⟨_, rfl, a, _, rfl, .inr (s1.seqT hS), ?_⟩
    rw [ltm]
    refine ⟨_, rfl, by omega, by omega, fun p ps H2 s2 hp2 hP => ?_⟩
    rw [Int.toNat_natCast] at hP
    have hpl := hP.length
    have hb := pairsN_le ws.length
    have hb' : ws.length * ws.length ≤ 81 := Nat.mul_le_mul w9 w9
    have hd2 := s2 d _ hd1
    have hpd : p ≠ d := ne_of hp2 hd2 (by intro z; cases z)
    refine ⟨p, rfl, ⟨_, SqL.of hp2⟩, for_list (K := K) (a := p) (xs := ps.map V.ref) (fun m σ H3 => ∃ (o2 o3 : Option V), σ = [some (.ref a), some (.ref d), o2, o3] ∧ SameD d H2 H3 ∧ H3 d = some (.dT ((dueL ws ((pairsN ws.length).take m)).map fun r => (r.map (Sum.inl : Int → Key), V.bl true))))
      ⟨none, none, rfl, SameD.refl _ _, hd2⟩ (fun m σ H3 _ ⟨_, _, _, s3, _⟩ => SqL.of (s3 p _ hpd hp2)) ?_ ?_⟩
    · rintro m y σ H3 hm ⟨o2, o3, rfl, s3, hd3⟩
      obtain ⟨pa, rfl, haj, hml⟩ := getRef hm
      obtain ⟨q, hq, hqj⟩ := paired_get hP haj
      obtain ⟨q1, q2⟩ := pairsN_ok _ (List.mem_of_getElem? hqj)
      have a1 := atI_lt (ns := ws) (i := ((q.1 : Nat) : Int)) (by omega) (by omega)
      have a2 := atI_lt (ns := ws) (i := ((q.2 : Nat) : Int)) (by omega) (by omega)
      rw [Int.toNat_natCast] at a1 a2
      have hS3 : SqT K H3 a (ws.map V.int) := ((s1.trans s2).seqT hS).but s3 hd2 (fun _ z => by cases z) (fun _ _ z => by cases z)
      have hlen3 := dueL_len ws ((pairsN ws.length).take m)
      rw [List.length_take] at hlen3
      refine ⟨pa, _, rfl, hq.but s3 hd2 (fun _ z => by cases z) (fun _ _ z => by cases z), rfl, _, _, rfl, _, _, rfl, rfl, ?_⟩
      refine ⟨_, rfl, _, rfl, a, _, _, _, rfl, rfl, hS3, a1, _, rfl, _, rfl, a, _, _, _, rfl, rfl, hS3, a2, rfl, _, rfl, ?_⟩
      rw [take_snoc hqj, dueL_snoc]
      by_cases e : ws.getD q.1 0 = ws.getD q.2 0
      · rw [if_pos e]
        refine iteNS (congrArg V.int e) ?_
        exact ⟨_, _, rfl, s3, hd3⟩
      · rw [if_neg e]
        refine ite2 (fun _ => ?_) (fun z => absurd (by simpa using fun z => e (V.int.inj z)) z)
        refine ⟨_, rfl, _, rfl, a, rfl, ⟨_, hS3⟩, lc_tup (xs := ws.map V.int) (fun i ys H4 => H4 = H3 ∧ ys = ((relab ws (ws.getD q.2 0) (ws.getD q.1 0)).take i).map V.int) (le_line (by rw [ltm]; omega)) ⟨rfl, rfl⟩
          (fun i ys H4 _ ⟨e, e2⟩ => ⟨by rw [e]; exact hS3, by rw [e2, ltm, List.length_take]; omega⟩) ?_ ?_⟩
        · rintro i y ys H4 hi ⟨rfl, rfl⟩
          obtain ⟨z, rfl, hz, hil⟩ := getI hi
          refine lcN ?_
          have hr : (relab ws (ws.getD q.2 0) (ws.getD q.1 0))[i]? = some (if z = ws.getD q.2 0 then ws.getD q.1 0 else z) := by unfold relab; rw [List.getElem?_map, hz]; rfl
          refine ⟨_, rfl, _, rfl, _, rfl, a, _, _, _, rfl, rfl, hS3, a2, rfl, _, rfl, ite2 (fun g => ⟨_, rfl, _, rfl, a, _, _, _, rfl, rfl, hS3, a1, rfl, ?_⟩) (fun g => ⟨_, rfl, rfl, ?_⟩)⟩
          · have g : z = ws.getD q.2 0 := V.int.inj (of_decide_eq_true g)
            rw [if_pos g] at hr
            rw [take_snoc hr, mapV]
          · have g : ¬ z = ws.getD q.2 0 := fun e => g (decide_eq_true (congrArg V.int e))
            rw [if_neg g] at hr
            rw [take_snoc hr, mapV]
        · rintro ys H4 ⟨rfl, rfl⟩ r hr
          rw [ltm, ← relab_length ws (ws.getD q.2 0) (ws.getD q.1 0), List.take_length]
          refine ⟨r, _, rfl, SqL.of upd_same, by rw [relab_length]; omega, fun t H5 _ s5 ht => ?_⟩
          have s45 := (Same.new (o := HO.lst ((relab ws (ws.getD q.2 0) (ws.getD q.1 0)).map V.int)) hr).trans s5
          have hd5 := s45 d _ hd3
          have hkey : H5 t = some (.tup (((mrg ws (ws.getD q.1 0) (ws.getD q.2 0)).map (Sum.inl : Int → Key)).map kV)) := by
            rw [List.map_map]; exact ht
          refine ⟨d, _, rfl, DPut.t hd5 hkey (lt_line (by rw [List.length_map]; omega)), ?_⟩
          refine ⟨_, _, rfl, (s3.same s45).put, ?_⟩
          rw [upd_same, put_rows, relab_length]
    · rintro σ H3 ⟨o2, o3, rfl, s3, hd3⟩
      rw [List.length_map, hpl, List.take_length] at hd3
      have S3 := s3.back (s1.trans s2) hd
      have hperm := join_due hw
      have hl36 := joinL_len hw
      have hdl := hperm.length_eq
      refine ⟨_, rfl, d, _, dueL ws (pairsN ws.length), rfl, hd3, by rw [List.map_map]; rfl, by omega, fun x hx => ?_, fun l qs yss hQ hp hup hl => ?_⟩
      · obtain ⟨q, _, _, rfl⟩ := (mem_dueL _ _ _).mp hx
        intro e
        have := mrg_length ws (ws.getD q.1 0) (ws.getD q.2 0)
        rw [e] at this
        simp at this; omega
      · exact k l qs yss _ (S3.free hl) (S3.new2 hl) upd_same (L2.Paired.mapP hQ fun a' x z => Same.new hl a' _ z) hp hup
theorem sc_law_pair_table : FnScope (["_law_ways", "_law_size", "_law_table", "_law_way_here", "_law_j", "_law_k"]) (["_law_ways"]) (defScope s_law_pair_table) := ⟨rfl, rfl, rfl, by decide +kernel, rfl, by decide +kernel, by decide +kernel⟩
set_option maxHeartbeats 4000000 in
theorem ok_law_pair_table {f : Addr} {fd : FuncData} (F : Fun K "_law_pair_table" "_law_pair_table" s_law_pair_table f fd) (B : Bs mg) (T : Gs mg) (mBadWay : mg "BadWay" = some (.ref CBadWay)) (qBadWay : PySem.W.excIn K CBadWay bmV "ValueError.__new__" = true)  (clSearch : Cls K CSearch) (nSearch_table : NoAttr K CSearch "table") (nSearch_outlook : NoAttr K CSearch "outlook") (nSearch_greatest : NoAttr K CSearch "greatest") (nSearch_leader : NoAttr K CSearch "leader") (c_law_pairs : Cal P w K mg base 1 "_law_pairs" [] (spPairs K)) : FnOk P w K mg base CX0 2 f fd ["_law_ways"] (spPairTab K) := by
  have sc := sc_law_pair_table
  refine F.ok sc (fun vs H Q E h => ?_) (fun cdv A outer s H vs Q E hr h => ?_)
  · obtain ⟨l, as, U, n, rfl, _⟩ := h; rfl
  · obtain ⟨l, as, U, n, rfl, hl, hU, hn, hz, k⟩ := h
    refine ⟨_, (pss_cons (ps_set (i := 1) sc.nd rfl (Or.inr rfl) (pe_callB (kc_len (K := K)) (by rfl) B.len PyProof.Rows.Boot.«len» (pa_cons (pe_ix (kix_list (K := K)) (pv 0) pe_int (fun _ _ => rfl)) pa_nil)))
      (pss_cons (ps_lc (i := 2) sc.nd rfl rfl (N' := ["_law_k", "_law_size"]) (M := [none, some 1]) (lcSc_of (by rfl)) rfl (pi_range1 rfl B.range (pa_cons (pv 1) pa_nil)) (fun _ _ _ _ _ => pg_name (i := 0) (show (["_law_k", "_law_size"] : List Str).Nodup by decide +kernel) rfl (Or.inl rfl) (.inr rfl)) (frm_name rfl) (fun _ _ _ _ _ => pts_nil) (fun _ _ _ _ _ => (pe_lcV (N' := ["_law_j"]) (M := [none]) (lcSc_of (by rfl)) rfl (pi_range1 rfl B.range (pa_cons (pv 1) pa_nil)) (fun _ _ _ _ _ => pg_name (i := 0) (show (["_law_j"] : List Str).Nodup by decide +kernel) rfl (Or.inl rfl) (.inr rfl)) (frm_name rfl) (fun _ _ _ _ _ => pts_nil) (fun _ _ _ _ _ => pe_int))))
      (pss_cons (ps_for PassesOwn.never rfl (kpi_list (K := K) (pv 0)) (pg_name (i := 3) sc.nd rfl (Or.inl rfl))
      (pss_one (ps_for PassesOwn.never rfl (kpi_list (K := K) (pe_cal c_law_pairs (hr.mono (by decide)) rfl (pa_cons (pv 1) pa_nil))) (pg_tup rfl (pgs_cons (pg_name (i := 4) sc.nd rfl (Or.inl rfl)) (pgs_cons (pg_name (i := 5) sc.nd rfl (Or.inl rfl)) pgs_nil)))
      (pss_one (ps_if (pt_cmpR op_eq (pe_ix (kix_tup (K := K)) (pv 3) (pv 4) (fun _ _ => rfl)) (pe_ix (kix_tup (K := K)) (pv 3) (pv 5) (fun _ _ => rfl)) (nomark _)) (pss_one (ps_augS (pe_ix (kix_list (K := K)) (pv 2) (pv 4) (fun _ _ => rfl)) (pv 5) (get_list (K := K)) pe_int ip_add set_list)) pss_nil)))))
      (pss_one (ps_ret (pv 2)))))), ?_⟩
    obtain ⟨n1, n9, hln⟩ := hn
    obtain ⟨z1, z50⟩ := hz
    have hal := hU.length
    have hU0 : U[0]? = some (U.getD 0 []) := by rw [List.getD_eq_getElem?_getD, List.getElem?_eq_getElem (by omega)]; rfl
    obtain ⟨r0, hr0, e0⟩ := paired_getR hU hU0
    have l0 : (U.getD 0 []).length = n := hln _ (List.mem_of_getElem? hU0)
    refine ⟨_, rfl, l, _, _, _, rfl, rfl, SqL.of hl, atI_ref (j := 0) e0, r0, _, rfl, .inr (SqT.of hr0), ?_⟩
    rw [ltm, l0]
    refine gN ?_
    try dsimp only
    refine nrm (σ' := [some (.ref l), some (.int (n : Int)), none, none, none, none]) rfl ?_
    refine seq_l ?_
    refine ⟨_, rfl, _, rfl, by omega, by omega, ?_⟩
    refine lc_range (lo := 0) (n := (n : Int).toNat) (fun i ys H2 => Same H H2 ∧ ∃ ts : List Addr, ys = ts.map V.ref ∧ ts.length = i ∧ ts.Nodup ∧ (∀ q ∈ ts, H q = none) ∧ LhAt H2 ts ((List.range i).map fun _ => (List.range n).map fun _ => (0 : Int))) (le_line (by omega)) ⟨Same.refl H, [], rfl, rfl, List.nodup_nil, fun q h => absurd h (by simp), .nil⟩ (fun i ys H2 _ h => by
      obtain ⟨_, ts, e, e2, _⟩ := h
      rw [e, List.length_map, e2]; exact Nat.le_refl _) ?_ ?_
    · rintro i ys H2 hi ⟨s2, ts, rfl, htl, hnd, hfr, hL⟩
      refine lcN ?_
      refine ⟨_, rfl, _, rfl, by omega, by omega, ?_⟩
      refine lc_range (lo := 0) (n := (n : Int).toNat) (fun j ys H3 => H3 = H2 ∧ ys = ((List.range j).map fun _ => (0 : Int)).map V.int) (le_line (by omega)) ⟨rfl, rfl⟩ (fun j ys H3 _ h => by rw [h.2, ltm, List.length_map, List.length_range]; exact Nat.le_refl _) ?_ ?_
      · rintro j ys H3 hj ⟨rfl, rfl⟩
        refine lcN ?_
        exact ⟨rfl, by rw [List.range_succ, List.map_append, List.map_append]; rfl⟩
      · rintro ys H3 ⟨rfl, rfl⟩ p hp
        have hpt : p ∉ ts := fun hm => by
          obtain ⟨j, hj, e⟩ := List.getElem_of_mem hm
          obtain ⟨r, hr', _⟩ := paired_getM hL (List.getElem?_eq_getElem hj)
          rw [e, hp] at hr'; cases hr'
        refine ⟨s2.new2 hp, ts ++ [p], by rw [List.map_append]; rfl, by rw [List.length_append, htl]; rfl, List.nodup_append.mpr ⟨hnd, by simp, fun a ha b hb e => hpt (by rw [← List.mem_singleton.mp hb, ← e]; exact ha)⟩, fun q hq => ?_, ?_⟩
        · rcases List.mem_append.mp hq with h | h
          · exact hfr q h
          · rw [List.mem_singleton.mp h]; exact s2.free hp
        · rw [List.range_succ, List.map_append]
          refine Paired.snoc (hL.sameH (Same.new hp)) ?_
          rw [upd_same, Int.toNat_natCast]
    rintro ys H2 ⟨s2, ts, rfl, htl, hnd, hfr, hL⟩ t ht
    rw [Int.toNat_natCast] at hL
    have s3 := s2.new2 (o := HO.lst (ts.map V.ref)) ht
    have ht3 : upd H2 t (HO.lst (ts.map V.ref)) t = some (.lst (ts.map V.ref)) := upd_same
    have hL3 : LhAt (upd H2 t (HO.lst (ts.map V.ref))) ts (tabF n fun _ => 0) := hL.sameH (Same.new ht)
    generalize upd H2 t (HO.lst (ts.map V.ref)) = H3 at s3 ht3 hL3
    try dsimp only
    refine nrm (σ' := [some (.ref l), some (.int (n : Int)), some (.ref t), none, none, none]) rfl ?_
    have apart : ∀ {Hx : Hp} {p r : Addr} {ps : List Addr} {g : Nat → Int}, Hx p = some (.lst (ps.map V.ref)) → Hx r = some (.lst (((List.range n).map g).map V.int)) → p ≠ r := fun {Hx p r ps g} h1 h2 e => by
      rw [e, h2] at h1
      obtain ⟨m, rfl⟩ : ∃ m, n = m + 1 := ⟨n - 1, by omega⟩
      rw [List.range_succ_eq_map] at h1
      cases ps with
      | nil => cases h1
      | cons a b => cases h1
    refine ⟨_, rfl, l, rfl, ⟨_, SqL.of (s3 _ _ hl)⟩, for_list (K := K) (a := l) (xs := as.map V.ref) (fun i σ H4 => ∃ (o3 o4 o5 : Option V) (f0 : Nat × Nat → Int), σ = [some (.ref l), some (.int (n : Int)), some (.ref t), o3, o4, o5] ∧ Same H H4 ∧ H4 t = some (.lst (ts.map V.ref)) ∧ LhAt H4 ts (tabF n f0) ∧ ∀ q ∈ pairsN n, f0 q = cntE (U.take i) q)
      ⟨none, none, none, fun _ => 0, rfl, s3, ht3, hL3, fun q _ => rfl⟩ (fun i σ H4 _ ⟨_, _, _, _, _, s, _⟩ => SqL.of (s _ _ hl)) ?_ ?_⟩
    · rintro i y σ H4 hi ⟨o3, o4, o5, f0, rfl, s4, ht4, hL4, hf4⟩
      obtain ⟨qw, rfl, hqw, hil⟩ := getRef hi
      obtain ⟨u, hu, hui⟩ := paired_getM hU hqw
      have ul := hln u (List.mem_of_getElem? hui)
      refine gN ?_
      try dsimp only
      refine nrm (σ' := [some (.ref l), some (.int (n : Int)), some (.ref t), some (.ref qw), o4, o5]) rfl ?_
      refine ⟨_, rfl, _, rfl, by omega, by omega, fun p ps H5 s5 hp5 hP => ?_⟩
      rw [Int.toNat_natCast] at hP
      have hpl := hP.length
      refine ⟨p, rfl, ⟨_, SqL.of hp5⟩, for_list (K := K) (a := p) (xs := ps.map V.ref) (fun m σ H6 => ∃ (o4 o5 : Option V) (f1 : Nat × Nat → Int), σ = [some (.ref l), some (.int (n : Int)), some (.ref t), some (.ref qw), o4, o5] ∧ Same H H6 ∧ H6 t = some (.lst (ts.map V.ref)) ∧ LhAt H6 ts (tabF n f1) ∧ H6 p = some (.lst (ps.map V.ref)) ∧ Paired (fun a (q : Nat × Nat) => SqT K H6 a [.int ((q.1 : Nat) : Int), .int ((q.2 : Nat) : Int)]) ps (pairsN n) ∧ ∀ q ∈ pairsN n, f1 q = cntE (U.take i) q + (if q ∈ (pairsN n).take m ∧ eqp u q = true then 1 else 0))
        ⟨o4, o5, f0, rfl, s4.trans s5, s5 _ _ ht4, hL4.sameH s5, hp5, hP, fun q hq => by rw [hf4 q hq]; simp⟩ (fun m σ H6 _ ⟨_, _, _, _, _, _, _, h, _⟩ => SqL.of h) ?_ ?_⟩
      · rintro m y σ H6 hm ⟨o4, o5, f1, rfl, s6, ht6, hL6, hp6, hP6, hf6⟩
        obtain ⟨pa, rfl, haj, _⟩ := getRef hm
        obtain ⟨q, hq, hqj⟩ := paired_getM hP6 haj
        have hqm := List.mem_of_getElem? hqj
        obtain ⟨q1, q2⟩ := pairsN_ok _ hqm
        obtain ⟨r, hr', hri⟩ := paired_getR hL6 (tabF_row f1 q1)
        have a1 := atI_nt (getD_at (R := u) (i := q.1) (by omega))
        have a2 := atI_nt (getD_at (R := u) (i := q.2) (by omega))
        have hu6 := s6 _ _ hu
        have hnt := not_in_take (pairsN_nodup n) hqj
        refine ⟨pa, _, rfl, hq, rfl, _, _, rfl, _, _, rfl, rfl, ?_⟩
        try dsimp only
        refine nrm (σ' := [some (.ref l), some (.int (n : Int)), some (.ref t), some (.ref qw), some (.int (q.1 : Int)), some (.int (q.2 : Int))]) rfl ?_
        refine if_N (b := eqp u q) (P := fun H' => H' = H6) (fun N hN => ?_) (fun g H' e => ?_) (fun g H' e => ?_)
        · refine ⟨_, rfl, _, rfl, qw, _, _, _, rfl, rfl, SqT.of hu6, a1, _, rfl, _, rfl, qw, _, _, _, rfl, rfl, SqT.of hu6, a2, rfl, _, rfl, ?_⟩
          rw [dInt]
          exact hN _ rfl
        · subst e
          refine ⟨_, rfl, _, rfl, t, _, _, _, rfl, rfl, SqL.of ht6, atI_ref hri, _, rfl, r, _, _, _, rfl, rfl, by omega, SqL.of hr', atI_nt (tabF_at (j := q.1) f1 q2), _, _, rfl, rfl, r, _, _, _, rfl, rfl, hr', ixN_pos (by omega) (by rw [ltm, List.length_map, List.length_range]; omega), ?_⟩
          rw [Int.toNat_natCast, ← List.map_set]
          have L' := lh_setQ (xs' := ((List.range n).map fun k => f1 (q.1, k)).set q.2 (f1 (q.1, q.2) + 1)) hL6 hnd hri
          rw [tabF_set] at L'
          refine ⟨_, _, _, rfl, s6.put (hfr r (List.mem_of_getElem? hri)), by rw [upd_ne (apart ht6 hr')]; exact ht6, L', by rw [upd_ne (apart hp6 hr')]; exact hp6, L2.Paired.mapP hP6 fun a' x z => z.put hr', fun q' hq' => ?_⟩
          rw [take_snoc hqj]
          by_cases e : q' = q
          · subst e
            have e2 := hf6 q' hqm
            rw [if_neg (fun z => hnt z.1)] at e2
            rw [if_pos rfl, if_pos ⟨List.mem_append.mpr (.inr List.mem_cons_self), g⟩, show f1 (q'.1, q'.2) = f1 q' from rfl, e2]; omega
          · rw [if_neg e, hf6 q' hq']
            congr 1
            by_cases e3 : q' ∈ (pairsN n).take m ∧ eqp u q' = true
            · rw [if_pos e3, if_pos ⟨List.mem_append.mpr (.inl e3.1), e3.2⟩]
            · rw [if_neg e3, if_neg (fun z => (List.mem_append.mp z.1).elim (fun h => e3 ⟨h, z.2⟩) (fun h => e (List.mem_singleton.mp h)))]
        · subst e
          refine ⟨_, _, f1, rfl, s6, ht6, hL6, hp6, hP6, fun q' hq' => ?_⟩
          rw [hf6 q' hq', take_snoc hqj]
          congr 1
          by_cases e3 : q' ∈ (pairsN n).take m ∧ eqp u q' = true
          · rw [if_pos e3, if_pos ⟨List.mem_append.mpr (.inl e3.1), e3.2⟩]
          · rw [if_neg e3, if_neg (fun z => (List.mem_append.mp z.1).elim (fun h => e3 ⟨h, z.2⟩) (fun h => by rw [List.mem_singleton.mp h, g] at z; cases z.2))]
      · rintro σ H6 ⟨o4, o5, f1, rfl, s6, ht6, hL6, hp6, hP6, hf6⟩
        refine ⟨_, _, _, f1, rfl, s6, ht6, hL6, fun q hq => ?_⟩
        rw [hf6 q hq, take_snoc hui, cntE_snoc, List.length_map, hpl, List.take_length]
        congr 1
        by_cases e : eqp u q = true
        · rw [if_pos ⟨hq, e⟩, if_pos e]
        · rw [if_neg (fun z => e z.2), if_neg e]
    · rintro σ H4 ⟨o3, o4, o5, f0, rfl, s4, ht4, hL4, hf4⟩
      exact ⟨_, rfl, k t ts f0 H4 s4 ht4 hL4 (fun q hq => by rw [hf4 q hq, List.length_map, hal, List.take_length])⟩
theorem sc_law_sum_with : FnScope (["_law_way_here", "_law_table", "_law_count", "_law_found", "_law_j", "_law_k", "_law_more"]) (["_law_way_here", "_law_table", "_law_count"]) (defScope s_law_sum_with) := ⟨rfl, rfl, rfl, by decide +kernel, rfl, by decide +kernel, by decide +kernel⟩
set_option maxHeartbeats 4000000 in
theorem ok_law_sum_with {f : Addr} {fd : FuncData} (F : Fun K "_law_sum_with" "_law_sum_with" s_law_sum_with f fd) (B : Bs mg) (T : Gs mg) (mBadWay : mg "BadWay" = some (.ref CBadWay)) (qBadWay : PySem.W.excIn K CBadWay bmV "ValueError.__new__" = true)  (clSearch : Cls K CSearch) (nSearch_table : NoAttr K CSearch "table") (nSearch_outlook : NoAttr K CSearch "outlook") (nSearch_greatest : NoAttr K CSearch "greatest") (nSearch_leader : NoAttr K CSearch "leader") (c_law_pairs : Cal P w K mg base 1 "_law_pairs" [] (spPairs K)) : FnOk P w K mg base CX0 2 f fd ["_law_way_here", "_law_table", "_law_count"] (spSumWith K) := by
  have sc := sc_law_sum_with
  refine F.ok sc (fun vs H Q E h => ?_) (fun cdv A outer s H vs Q E hr h => ?_)
  · obtain ⟨a, t, ts, ws, U, f0, rfl, _⟩ := h; rfl
  · obtain ⟨a, t, ts, ws, U, f0, rfl, hS, ht, hL, hw, hf, k⟩ := h
    refine ⟨_, (pss_cons (ps_set (i := 3) sc.nd rfl (Or.inl rfl) pe_int)
      (pss_cons (ps_for PassesOwn.never rfl (kpi_list (K := K) (pe_cal c_law_pairs (hr.mono (by decide)) rfl (pa_cons (pe_callB (kc_len (K := K)) (by rfl) B.len PyProof.Rows.Boot.«len» (pa_cons (pv 0) pa_nil)) pa_nil))) (pg_tup rfl (pgs_cons (pg_name (i := 4) sc.nd rfl (Or.inl rfl)) (pgs_cons (pg_name (i := 5) sc.nd rfl (Or.inl rfl)) pgs_nil)))
      (pss_cons (ps_set (i := 6) sc.nd rfl (Or.inl rfl) (pe_ix (kix_list (K := K)) (pe_ix (kix_list (K := K)) (pv 1) (pv 4) (fun _ _ => rfl)) (pv 5) (fun _ _ => rfl)))
      (pss_cons (ps_if (pt_cmpR op_ne (pe_ix (kix_tup (K := K)) (pv 0) (pv 4) (fun _ _ => rfl)) (pe_ix (kix_tup (K := K)) (pv 0) (pv 5) (fun _ _ => rfl)) (nomark _)) (pss_one (ps_set (i := 6) sc.nd rfl (Or.inl rfl) (pe_op op_sub (pv 2) (pv 6)))) pss_nil)
      (pss_one (ps_set (i := 3) sc.nd rfl (Or.inl rfl) (pe_op op_add (pv 3) (pv 6)))))))
      (pss_one (ps_ret (pv 3))))), ?_⟩
    obtain ⟨w1, w9, w0⟩ := isWay_iff.mp hw
    have hlp := pairsN_le ws.length
    have hlp' : ws.length * ws.length ≤ 9 * 9 := Nat.mul_le_mul w9 w9
    have htl := hL.length
    refine ⟨_, rfl, a, _, rfl, .inr hS, ?_⟩
    rw [ltm]
    refine ⟨_, rfl, by omega, by omega, fun p ps H2 s2 hp2 hP => ?_⟩
    rw [Int.toNat_natCast] at hP
    have hpl := hP.length
    refine ⟨p, rfl, ⟨_, SqL.of hp2⟩, for_list (K := K) (a := p) (xs := ps.map V.ref) (fun i σ H3 => ∃ (o4 o5 o6 : Option V), σ = [some (.ref a), some (.ref t), some (.int (U.length : Int)), some (.int (((pairsN ws.length).take i).map (pickE U ws)).sum), o4, o5, o6] ∧ H3 = H2)
      ⟨none, none, none, rfl, rfl⟩ (fun i σ H3 _ ⟨_, _, _, _, e⟩ => by rw [e]; exact SqL.of hp2) ?_ ?_⟩
    · rintro i y σ H3 hi ⟨o4, o5, o6, rfl, rfl⟩
      obtain ⟨pa, rfl, haj, _⟩ := getRef hi
      obtain ⟨q, hq, hqj⟩ := paired_getM hP haj
      have hqm := List.mem_of_getElem? hqj
      obtain ⟨q1, q2⟩ := pairsN_ok _ hqm
      obtain ⟨r, hr', hri⟩ := paired_getR hL (tabF_row f0 q1)
      have hr3 := s2 _ _ hr'
      have ef := hf q hqm
      have at1 := atI_nt (tabF_at (j := q.1) f0 q2)
      have a1 := atI_nt (getD_at (R := ws) (i := q.1) q1)
      have a2 := atI_nt (getD_at (R := ws) (i := q.2) q2)
      have hS3 := s2.seqT hS
      refine ⟨pa, _, rfl, hq, rfl, _, _, rfl, _, _, rfl, rfl, ?_⟩
      refine seq_a ?_
      refine ⟨_, rfl, _, rfl, t, _, _, _, rfl, rfl, SqL.of (s2 _ _ ht), atI_ref hri, _, rfl, r, _, _, _, rfl, rfl, SqL.of hr3, at1, ?_⟩
      rw [show f0 (q.1, q.2) = cntE U q from ef]
      try dsimp only
      refine nrm (σ' := [some (.ref a), some (.ref t), some (.int (U.length : Int)), some (.int (((pairsN ws.length).take i).map (pickE U ws)).sum), some (.int (q.1 : Int)), some (.int (q.2 : Int)), some (.int (cntE U q))]) rfl ?_
      refine seq_by2 (fun σ H' => σ = [some (.ref a), some (.ref t), some (.int (U.length : Int)), some (.int (((pairsN ws.length).take i).map (pickE U ws)).sum), some (.int (q.1 : Int)), some (.int (q.2 : Int)), some (.int (pickE U ws q))] ∧ H3 = H') (fun N hN => ?_) ?_
      · refine if_N (b := !(eqp ws q)) (P := fun H' => H' = H3) (fun N hN => ?_) (fun g H' e => ?_) (fun g H' e => ?_)
        · refine ⟨_, rfl, _, rfl, a, _, _, _, rfl, rfl, hS3, a1, _, rfl, _, rfl, a, _, _, _, rfl, rfl, hS3, a2, rfl, _, rfl, ?_⟩
          rw [dInt]
          exact hN _ rfl
        · subst e
          refine ⟨_, rfl, _, rfl, _, _, rfl, rfl, hN _ _ ⟨?_, rfl⟩⟩
          have e1 : pickE U ws q = (U.length : Int) - cntE U q := by unfold pickE; rw [nT g]; rfl
          rw [e1]; rfl
        · subst e
          refine hN _ _ ⟨?_, rfl⟩
          have e1 : pickE U ws q = cntE U q := by unfold pickE; rw [nF g]; rfl
          rw [e1]
      · rintro σ H' ⟨rfl, rfl⟩
        refine ⟨_, rfl, _, rfl, _, _, rfl, rfl, some (.int (q.1 : Int)), some (.int (q.2 : Int)), some (.int (pickE U ws q)), ?_, rfl⟩
        rw [map_take_snoc hqj, sum_snoc]; rfl
    · rintro σ H3 ⟨o4, o5, o6, rfl, rfl⟩
      rw [List.length_map, hpl, List.take_length, pick_sum]
      exact ⟨_, rfl, k _ s2⟩
theorem sc_law_put : FnScope (["_law_way_here", "_law_at", "_law_lot", "_law_row"]) (["_law_way_here", "_law_at", "_law_lot"]) (defScope s_law_put) := ⟨rfl, rfl, rfl, by decide +kernel, rfl, by decide +kernel, by decide +kernel⟩
set_option maxHeartbeats 4000000 in
theorem ok_law_put {f : Addr} {fd : FuncData} (F : Fun K "_law_put" "_law_put" s_law_put f fd) (B : Bs mg) (T : Gs mg) (mBadWay : mg "BadWay" = some (.ref CBadWay)) (qBadWay : PySem.W.excIn K CBadWay bmV "ValueError.__new__" = true)  (clSearch : Cls K CSearch) (nSearch_table : NoAttr K CSearch "table") (nSearch_outlook : NoAttr K CSearch "outlook") (nSearch_greatest : NoAttr K CSearch "greatest") (nSearch_leader : NoAttr K CSearch "leader") (c_law_number_row : Cal P w K mg base 1 "_law_number_row" [] (spNumRow K)) : FnOk P w K mg base CX0 2 f fd ["_law_way_here", "_law_at", "_law_lot"] (spPutW K) := by
  have sc := sc_law_put
  refine F.ok sc (fun vs H Q E h => ?_) (fun cdv A outer s H vs Q E hr h => ?_)
  · obtain ⟨a, i, z, ws, rfl, _⟩ := h; rfl
  · obtain ⟨a, i, z, ws, rfl, hS, hw, hi, k⟩ := h
    refine ⟨_, (pss_cons (ps_set (i := 3) sc.nd rfl (Or.inl rfl) (pe_callTy (kc_list (K := K)) (by rfl) B.list PyProof.Rows.Boot.«list» (pa_cons (pv 0) pa_nil)))
      (pss_cons (ps_asg (pv 2) (pg_sub (pv 3) (pv 1) set_list))
      (pss_one (ps_ret (pe_cal c_law_number_row (hr.mono (by decide)) rfl (pa_cons (pv 3) pa_nil)))))), ?_⟩
    obtain ⟨w1, w9, w0⟩ := isWay_iff.mp hw
    refine ⟨_, rfl, a, _, rfl, .inr hS, fun l hl => ?_⟩
    have s1 := Same.new (o := HO.lst (ws.map V.int)) hl
    have hl1 : upd H l (HO.lst (ws.map V.int)) l = some (.lst (ws.map V.int)) := upd_same
    generalize upd H l (HO.lst (ws.map V.int)) = H1 at s1 hl1
    obtain ⟨m, rfl⟩ : ∃ m : Nat, i = (m : Int) := ⟨i.toNat, by omega⟩
    refine ⟨_, rfl, _, rfl, _, rfl, l, _, _, _, rfl, rfl, hl1, ixN_pos (by omega) (by rw [ltm]; omega), ?_⟩
    rw [Int.toNat_natCast, ← List.map_set]
    refine ⟨_, rfl, l, ws.set m z, rfl, SqL.of upd_same, by rw [List.length_set]; omega, fun p H2 _ s2 hp2 => ?_⟩
    exact k p _ H2 ((s1.put hl).trans s2) hp2 (numRow_isWay (by rw [List.length_set]; exact w1) (by rw [List.length_set]; exact w9)) (by rw [numRow_length, List.length_set])
theorem sc_law_near_ways : FnScope (["_law_way_here", "_law_cell_here", "_law_found", "_law_top", "_law_k", "_law_lot", "_law_more", "_law_row", "_law_one", "_law_at", "_law_turn", "_law_picks", "_law_half", "_law_marks"]) (["_law_way_here", "_law_cell_here"]) (defScope s_law_near_ways) := ⟨rfl, rfl, rfl, by decide +kernel, rfl, by decide +kernel, by decide +kernel⟩
set_option maxHeartbeats 4000000 in
theorem ok_law_near_ways {f : Addr} {fd : FuncData} (F : Fun K "_law_near_ways" "_law_near_ways" s_law_near_ways f fd) (B : Bs mg) (T : Gs mg) (mBadWay : mg "BadWay" = some (.ref CBadWay)) (qBadWay : PySem.W.excIn K CBadWay bmV "ValueError.__new__" = true)  (clSearch : Cls K CSearch) (nSearch_table : NoAttr K CSearch "table") (nSearch_outlook : NoAttr K CSearch "outlook") (nSearch_greatest : NoAttr K CSearch "greatest") (nSearch_leader : NoAttr K CSearch "leader") (c_law_draw : Cal P w K mg base 1 "_law_draw" [] (spDraw K)) (c_law_joinings : Cal P w K mg base 3 "_law_joinings" [] (spLJoinsN K)) (c_law_lots : Cal P w K mg base 1 "_law_lots" [] (spLLots K)) (c_law_number_row : Cal P w K mg base 1 "_law_number_row" [] (spNumRow K)) (c_law_put : Cal P w K mg base 2 "_law_put" [] (spPutW K)) : FnOk P w K mg base CX0 4 f fd ["_law_way_here", "_law_cell_here"] (spNearW K) := by
  have sc := sc_law_near_ways
  refine F.ok sc (fun vs H Q E h => ?_) (fun cdv A outer s H vs Q E hr h => ?_)
  · obtain ⟨a, c, ws, rfl, _⟩ := h; rfl
  · obtain ⟨a, c, ws, rfl, hS, hw, k⟩ := h
    refine ⟨_, (pss_cons (ps_set (i := 2) sc.nd rfl (Or.inl rfl) (pe_cal c_law_joinings (hr.mono (by decide)) rfl (pa_cons (pv 0) pa_nil)))
      (pss_cons (ps_set (i := 3) sc.nd rfl (Or.inl rfl) (pe_op op_add (pe_callB (kc_max (K := K)) (by rfl) B.max PyProof.Rows.Boot.«max» (pa_cons (pv 0) pa_nil)) pe_int))
      (pss_cons (ps_for PassesOwn.never rfl (pi_range1 rfl B.range (pa_cons (pe_callB (kc_len (K := K)) (by rfl) B.len PyProof.Rows.Boot.«len» (pa_cons (pv 0) pa_nil)) pa_nil)) (pg_name (i := 4) sc.nd rfl (Or.inl rfl))
      (pss_one (ps_for PassesOwn.never rfl (pi_range1 rfl B.range (pa_cons (pv 3) pa_nil)) (pg_name (i := 5) sc.nd rfl (Or.inr rfl))
      (pss_one (ps_expr (pe_bm PySem.F.plainAttrs_list PySem.F.slot_list_append PySem.F.type_list_append mt_append (pv 2) (pa_cons (pe_cal c_law_put (hr.mono (by decide)) rfl (pa_cons (pv 0) (pa_cons (pv 4) (pa_cons (pv 5) pa_nil)))) pa_nil)))))))
      (pss_cons (ps_set (i := 6) sc.nd rfl (Or.inl rfl) (pe_callTy (kc_list (K := K)) (by rfl) B.list PyProof.Rows.Boot.«list» (pa_cons (pv 2) pa_nil)))
      (pss_cons (ps_set (i := 7) sc.nd rfl (Or.inr rfl) (pe_cal c_law_draw (hr.mono (by decide)) rfl (pa_cons (pv 1) (pa_cons (pe_lst (pa_cons pe_int (pa_cons pe_int (pa_cons pe_int (pa_cons pe_int (pa_cons pe_int (pa_cons pe_int pa_nil))))))) pa_nil))))
      (pss_cons (ps_for PassesOwn.never rfl (kpi_list (K := K) (pv 6)) (pg_name (i := 8) sc.nd rfl (Or.inl rfl))
      (pss_cons (ps_set (i := 9) sc.nd rfl (Or.inl rfl) (pe_op op_mod (pe_ix (kix_list (K := K)) (pv 7) pe_int (fun _ _ => rfl)) (pe_callB (kc_len (K := K)) (by rfl) B.len PyProof.Rows.Boot.«len» (pa_cons (pv 0) pa_nil))))
      (pss_one (ps_expr (pe_bm PySem.F.plainAttrs_list PySem.F.slot_list_append PySem.F.type_list_append mt_append (pv 2) (pa_cons (pe_cal c_law_put (hr.mono (by decide)) rfl (pa_cons (pv 8) (pa_cons (pv 9) (pa_cons (pe_op op_mod (pe_ix (kix_list (K := K)) (pv 7) pe_int (fun _ _ => rfl)) (pv 3)) pa_nil)))) pa_nil))))))
      (pss_cons (ps_for PassesOwn.never rfl (kpi_list (K := K) (pe_cal c_law_lots (hr.mono (by decide)) rfl (pa_cons (pv 0) pa_nil))) (pg_name (i := 5) sc.nd rfl (Or.inr rfl))
      (pss_one (ps_for PassesOwn.never rfl (pi_rangeW rfl B.range (pa_cons pe_int (pa_cons (pe_op op_mulW pe_int (pe_callB (kc_len (K := K)) (by rfl) B.len PyProof.Rows.Boot.«len» (pa_cons (pv 5) pa_nil))) (pa_cons pe_int pa_nil)))) (pg_name (i := 10) sc.nd rfl (Or.inr rfl))
      (pss_cons (ps_lc (i := 11) sc.nd rfl rfl (N' := ["_law_k", "_law_turn", "_law_row"]) (M := [none, some 10, some 7]) (lcSc_of (by rfl)) rfl (pi_range1 rfl B.range (pa_cons (pe_callB (kc_len (K := K)) (by rfl) B.len PyProof.Rows.Boot.«len» (pa_cons (pv 5) pa_nil)) pa_nil)) (fun _ _ _ _ _ => pg_name (i := 0) (show (["_law_k", "_law_turn", "_law_row"] : List Str).Nodup by decide +kernel) rfl (Or.inl rfl) (.inr rfl)) (frm_name rfl) (fun _ _ _ _ _ => pts_one (pt_cmpR op_eq (pe_op op_mod (pe_op op_add (pe_op op_mulW (pv 0) (pv 1)) (pe_ix (kix_list (K := K)) (pv 2) pe_int (fun _ _ => rfl))) (pe_op op_add (pe_ix (kix_list (K := K)) (pv 2) pe_int (fun _ _ => rfl)) pe_int)) pe_int (nomark _))) (fun _ _ _ _ _ => (pv 0)))
      (pss_cons (ps_set (i := 12) sc.nd rfl (Or.inr rfl) (pe_lc (N' := ["_law_k", "_law_lot"]) (M := [none, some 5]) (lcSc_of (by rfl)) rfl (kpi_list (K := K) (pv 11)) (fun _ _ _ _ _ => pg_name (i := 0) (show (["_law_k", "_law_lot"] : List Str).Nodup by decide +kernel) rfl (Or.inl rfl) (.inr rfl)) (frm_name rfl) (fun _ _ _ _ _ => pts_nil) (fun _ _ _ _ _ => (pe_ix (kix_list (K := K)) (pv 1) (pv 0) (fun _ _ => rfl)))))
      (pss_cons (ps_lc (i := 13) sc.nd rfl rfl (N' := ["_law_k", "_law_half", "_law_way_here"]) (M := [none, some 12, some 0]) (lcSc_of (by rfl)) rfl (pi_range1 rfl B.range (pa_cons (pe_callB (kc_len (K := K)) (by rfl) B.len PyProof.Rows.Boot.«len» (pa_cons (pv 0) pa_nil)) pa_nil)) (fun _ _ _ _ _ => pg_name (i := 0) (show (["_law_k", "_law_half", "_law_way_here"] : List Str).Nodup by decide +kernel) rfl (Or.inl rfl) (.inr rfl)) (frm_name rfl) (fun _ _ _ _ _ => pts_nil) (fun _ _ _ _ _ => (pe_ifExp (pt_cmpR (kop_in (K := K)) (pv 0) (pv 1) rfl) (pe_un un_neg pe_int) (pe_ix (kix_tup (K := K)) (pv 2) (pv 0) (fun _ _ => rfl)))))
      (pss_one (ps_expr (pe_bm PySem.F.plainAttrs_list PySem.F.slot_list_append PySem.F.type_list_append mt_append (pv 2) (pa_cons (pe_cal c_law_number_row (hr.mono (by decide)) rfl (pa_cons (pv 13) pa_nil)) pa_nil))))))))))
      (pss_one (ps_ret (pv 2)))))))))), ?_⟩
    obtain ⟨w1, w9, w0⟩ := isWay_iff.mp hw
    have wne : ws ≠ [] := fun e => by rw [e] at w1; simp at w1
    obtain ⟨fp1, fp2⟩ := fresh_pos w0 wne
    have ffl := fresh_le ws
    refine seq_a ?_
    refine ⟨_, rfl, a, ws, rfl, hS, hw, fun p ps R H1 hpn s1 hp1 hR hperm hup => ?_⟩
    have hRb : R.length ≤ 81 := by
      rw [hperm.length_eq]
      have q1 := dueL_len ws (pairsN ws.length)
      have q2 := pairsN_le ws.length
      have q3 : ws.length * ws.length ≤ 9 * 9 := Nat.mul_le_mul w9 w9
      omega
    have N1 : NwAt H1 H1 p ws.length ps R 81 := ⟨FrP.of (Same.refl _), hp1, hR, fun r hr => due_ok hw r (hperm.mem_iff.mp hr), hRb⟩
    have hS1 := s1.seqT hS
    try dsimp only
    refine nrm (σ' := [some (.ref a), some (.int c), some (.ref p), none, none, none, none, none, none, none, none, none, none, none]) rfl ?_
    refine seq_a ?_
    refine ⟨_, rfl, a, ws, rfl, .inr hS1, wne, fun m hm => ⟨_, _, rfl, rfl, ?_⟩⟩
    have hmu := hm.uniq fp2
    obtain ⟨tp, htp⟩ : ∃ tp : Nat, m + 2 = (tp : Int) := ⟨(m + 2).toNat, by omega⟩
    have tb : 2 ≤ tp ∧ tp ≤ 10 := by omega
    dsimp only
    rw [htp]
    refine nrm (σ' := [some (.ref a), some (.int c), some (.ref p), some (.int (tp : Int)), none, none, none, none, none, none, none, none, none, none]) rfl ?_
    -- one censer elsewhere
    refine seq_by2 (fun σ HL => ∃ (o4 o5 : Option V) (ps : List Addr) (R : List (List Int)), σ = [some (.ref a), some (.int c), some (.ref p), some (.int (tp : Int)), o4, o5, none, none, none, none, none, none, none, none] ∧ NwAt H1 HL p ws.length ps R 181) (fun N hN => ?_) ?_
    · refine ⟨_, rfl, a, _, rfl, .inr hS1, ?_⟩
      rw [ltm]
      refine ⟨_, rfl, by omega, by omega, for_range (lo := 0) (n := (ws.length : Int).toNat) (fun i σ H2 => ∃ (o4 o5 : Option V) (ps : List Addr) (R : List (List Int)), σ = [some (.ref a), some (.int c), some (.ref p), some (.int (tp : Int)), o4, o5, none, none, none, none, none, none, none, none] ∧ NwAt H1 H2 p ws.length ps R (81 + 10 * i)) ⟨none, none, ps, R, rfl, N1⟩ ?_ (fun σ H2 ⟨o4, o5, ps, R, e, h⟩ => hN σ H2 ⟨o4, o5, ps, R, e, h.le (by omega)⟩)⟩
      rintro i σ H2 hi ⟨o4, o5, ps, R, rfl, N2⟩
      refine gN ?_
      try dsimp only
      refine nrm (σ' := [some (.ref a), some (.int c), some (.ref p), some (.int (tp : Int)), some (.int (0 + (i : Int))), o5, none, none, none, none, none, none, none, none]) rfl ?_
      refine ⟨_, rfl, _, rfl, by omega, by omega, for_range (lo := 0) (n := (tp : Int).toNat) (fun j σ H3 => ∃ (o5 : Option V) (ps : List Addr) (R : List (List Int)), σ = [some (.ref a), some (.int c), some (.ref p), some (.int (tp : Int)), some (.int (0 + (i : Int))), o5, none, none, none, none, none, none, none, none] ∧ NwAt H1 H3 p ws.length ps R (81 + 10 * i + j)) ⟨o5, ps, R, rfl, N2⟩ ?_ (fun σ H3 ⟨o5, ps, R, e, h⟩ => ⟨_, o5, ps, R, e, h.le (by omega)⟩)⟩
      rintro j σ H3 hj ⟨o5, ps, R, rfl, N3⟩
      refine gN ?_
      refine ⟨_, rfl, .inl ⟨rfl, _, SqL.of N3.hp⟩, _, rfl, _, rfl, _, rfl, a, _, _, ws, rfl, hS1.frL hp1 N3.fr, hw, ⟨by omega, by omega⟩, fun w us H4 s4 hw4 usw usl => ?_⟩
      have hlen := N3.len
      refine ⟨p, _, _, rfl, rfl, s4 _ _ N3.hp, lt_line (by rw [List.length_map]; omega), ?_⟩
      exact ⟨_, _, _, rfl, N3.app s4 hw4 ⟨usw, usl⟩⟩
    rintro σ H2 ⟨o4, o5, ps2, R2, rfl, N2⟩
    -- two of them
    refine seq_a ?_
    refine ⟨_, rfl, p, _, rfl, .inl (SqL.of N2.hp), fun mo hmo => ?_⟩
    have n3 := Same.new (o := HO.lst (ps2.map V.ref)) hmo
    have hmo3 : upd H2 mo (HO.lst (ps2.map V.ref)) mo = some (.lst (ps2.map V.ref)) := upd_same
    have npm : p ≠ mo := ne_of_none N2.hp hmo
    have N3 := N2.same n3
    generalize upd H2 mo (HO.lst (ps2.map V.ref)) = H3 at n3 hmo3 N3
    try dsimp only
    refine nrm (σ' := [some (.ref a), some (.int c), some (.ref p), some (.int (tp : Int)), o4, o5, some (.ref mo), none, none, none, none, none, none, none]) rfl ?_
    refine seq_a ?_
    refine ⟨_, rfl, le_line (by simp), fun q1 hq1 => ⟨c, q1, [9, 10, 5, 16, 9, 10], rfl, SqL.of upd_same, lim_ok (by decide +kernel), by decide, fun row rs H5 hrn s5 hrow hD => ?_⟩⟩
    have n4 := Same.new (o := HO.lst [V.int 9, V.int 10, V.int 5, V.int 16, V.int 9, V.int 10]) hq1
    have npr : p ≠ row := ne_of_none (n4 _ _ N3.hp) hrn
    have s5 := n4.trans s5
    obtain ⟨r0, ⟨a0, b0⟩, e0⟩ := paired_getM hD (show ([9, 10, 5, 16, 9, 10] : List Int)[0]? = some 9 from rfl)
    obtain ⟨r1, ⟨a1, b1⟩, e1⟩ := paired_getM hD (show ([9, 10, 5, 16, 9, 10] : List Int)[1]? = some 10 from rfl)
    obtain ⟨r2, ⟨a2, b2⟩, e2⟩ := paired_getM hD (show ([9, 10, 5, 16, 9, 10] : List Int)[2]? = some 5 from rfl)
    obtain ⟨r3, ⟨a3, b3⟩, e3⟩ := paired_getM hD (show ([9, 10, 5, 16, 9, 10] : List Int)[3]? = some 16 from rfl)
    have N5 := N3.same s5
    have hmo5 := s5 _ _ hmo3
    have fr15 := N5.fr
    have hS5 := hS1.frL hp1 fr15
    have B5 := N5.rebase
    have hp5 := N5.hp
    have hlen2 := N2.len
    try dsimp only
    refine nrm (σ' := [some (.ref a), some (.int c), some (.ref p), some (.int (tp : Int)), o4, o5, some (.ref mo), some (.ref row), none, none, none, none, none, none]) rfl ?_
    refine seq_by2 (fun σ HL => ∃ (o8 o9 : Option V) (ps : List Addr) (R : List (List Int)), σ = [some (.ref a), some (.int c), some (.ref p), some (.int (tp : Int)), o4, o5, some (.ref mo), some (.ref row), o8, o9, none, none, none, none] ∧ NwAt H5 HL p ws.length ps R 362) (fun N hN => ?_) ?_
    · refine ⟨_, rfl, mo, rfl, ⟨_, SqL.of hmo5⟩, for_list (K := K) (a := mo) (xs := ps2.map V.ref) (fun i σ H6 => ∃ (o8 o9 : Option V) (ps : List Addr) (R : List (List Int)), σ = [some (.ref a), some (.int c), some (.ref p), some (.int (tp : Int)), o4, o5, some (.ref mo), some (.ref row), o8, o9, none, none, none, none] ∧ NwAt H5 H6 p ws.length ps R (181 + i)) ⟨none, none, ps2, R2, rfl, B5⟩ (fun i σ H6 _ ⟨_, _, _, _, _, h⟩ => SqL.of (h.fr _ _ hmo5 npm.symm)) ?_ (fun σ H6 ⟨o8, o9, ps, R, e, h⟩ => hN σ H6 ⟨o8, o9, ps, R, e, h.le (by rw [List.length_map]; omega)⟩)⟩
      rintro i y σ H6 hi ⟨o8, o9, ps, R, rfl, N6⟩
      obtain ⟨q, rfl, hq, hil⟩ := getRef hi
      obtain ⟨u, hu, hui⟩ := paired_getM B5.hR hq
      have oku := B5.ok u (List.mem_of_getElem? hui)
      have hrow6 := N6.fr _ _ hrow npr.symm
      have hqp : q ≠ p := fun e => by rw [e, hp5] at hu; cases hu
      have hu6 := N6.fr _ _ hu hqp
      refine gN ?_
      try dsimp only
      refine nrm (σ' := [some (.ref a), some (.int c), some (.ref p), some (.int (tp : Int)), o4, o5, some (.ref mo), some (.ref row), some (.ref q), o9, none, none, none, none]) rfl ?_
      refine seq_a ?_
      refine ⟨_, rfl, row, _, _, _, rfl, rfl, SqL.of hrow6, atI_nt e0, _, rfl, a, _, rfl, .inr (hS5.frL hp5 N6.fr), ?_⟩
      rw [ltm]
      refine ⟨_, _, rfl, rfl, by show (0 : Int) < _; omega, ?_⟩
      obtain ⟨k1, hk1, hk1l⟩ := emodN r0 (show 0 < ws.length by omega)
      dsimp only
      rw [hk1]
      refine nrm (σ' := [some (.ref a), some (.int c), some (.ref p), some (.int (tp : Int)), o4, o5, some (.ref mo), some (.ref row), some (.ref q), some (.int (k1 : Int)), none, none, none, none]) rfl ?_
      refine ⟨_, rfl, .inl ⟨rfl, _, SqL.of N6.hp⟩, _, rfl, _, rfl, _, rfl, row, _, _, _, rfl, rfl, SqL.of hrow6, atI_nt e1, _, rfl, _, _, rfl, rfl, by show (0 : Int) < _; omega, q, _, _, u, rfl, SqT.of hu6, oku.1, ⟨by omega, by omega⟩, fun w us H7 s7 hw7 usw usl => ?_⟩
      have hlen := N6.len
      refine ⟨p, _, _, rfl, rfl, s7 _ _ N6.hp, lt_line (by rw [List.length_map]; omega), ?_⟩
      exact ⟨_, _, _, _, rfl, N6.app s7 hw7 ⟨usw, by rw [usl, oku.2]⟩⟩
    rintro σ H6 ⟨o8, o9, ps6, R6, rfl, N6⟩
    -- partings
    have hS6 := hS5.frL hp5 N6.fr
    have hrow6 := N6.fr _ _ hrow npr.symm
    refine seq_by2 (fun σ HL => ∃ (o4 o5 o10 o11 o12 o13 : Option V) (ps : List Addr) (R : List (List Int)), σ = [some (.ref a), some (.int c), some (.ref p), some (.int (tp : Int)), o4, o5, some (.ref mo), some (.ref row), o8, o9, o10, o11, o12, o13] ∧ NwAt H6 HL p ws.length ps R 1000) (fun N hN => ?_) ?_
    · refine ⟨_, rfl, a, ws, rfl, hS6, hw, fun lp qs H7 s7 hlp hql hqs => ?_⟩
      have f67 : FrP H6 H7 p := FrP.of s7
      have B7 := (N6.same s7).rebase
      have hp7 := B7.hp
      have hS7 := s7.seqT hS6
      have hrow7 := s7 _ _ hrow6
      have hlotne : ∀ k : Nat, k < qs.length → lotL ws (k : Int) ws.length ≠ [] := fun k hk e => by
        have h1 := lotL_length ws (k : Int) ws.length
        rw [e] at h1
        exact lotN_ne hw (k := k) (by omega) (List.length_eq_zero_iff.mp h1.symm)
      have hqp : ∀ (k : Nat) q, qs[k]? = some q → q ≠ p := fun k q hk e => by
        have h := hqs k q hk
        rw [e, hp7] at h
        have hne := hlotne k (List.getElem?_eq_some_iff.mp hk).1
        cases hl : lotL ws (k : Int) ws.length with
        | nil => exact hne hl
        | cons x r =>
          rw [hl] at h
          cases ps6 with
          | nil => cases h
          | cons y z => cases h
      have hlpp : lp ≠ p := fun e => by
        rw [e, hp7] at hlp
        have hm : ps6.map V.ref = qs.map V.ref := HO.lst.inj (Option.some.inj hlp)
        have h0 : 0 < qs.length := by omega
        have hq0 : qs[0]? = some qs[0] := List.getElem?_eq_getElem h0
        have h2 : (ps6.map V.ref)[0]? = some (V.ref qs[0]) := by rw [hm, List.getElem?_map, hq0]; rfl
        obtain ⟨q', e', hq', _⟩ := getRef h2
        cases e'
        obtain ⟨u, hu, _⟩ := paired_getM B7.hR hq'
        have h3 := hqs 0 _ hq0
        rw [hu] at h3; cases h3
      refine ⟨lp, rfl, ⟨_, SqL.of hlp⟩, for_list (K := K) (a := lp) (xs := qs.map V.ref) (fun i σ H8 => ∃ (o4 o5 o10 o11 o12 o13 : Option V) (ps : List Addr) (R : List (List Int)), σ = [some (.ref a), some (.int c), some (.ref p), some (.int (tp : Int)), o4, o5, some (.ref mo), some (.ref row), o8, o9, o10, o11, o12, o13] ∧ NwAt H7 H8 p ws.length ps R (362 + 9 * i)) ⟨o4, o5, none, none, none, none, ps6, R6, rfl, B7⟩ (fun i σ H8 _ ⟨_, _, _, _, _, _, _, _, _, h⟩ => SqL.of (h.fr _ _ hlp hlpp)) ?_ (fun σ H8 ⟨o4, o5, o10, o11, o12, o13, ps, R, e, h⟩ => hN σ H8 ⟨o4, o5, o10, o11, o12, o13, ps, R, e, (h.before f67).le (by rw [List.length_map]; omega)⟩)⟩
      rintro i y σ H8 hi ⟨o4, o5, o10, o11, o12, o13, ps, R, rfl, N8⟩
      obtain ⟨q, rfl, hq, hil⟩ := getRef hi
      have hq7 := hqs i q hq
      have hqq := hqp i q hq
      have hll : (lotL ws (i : Int) ws.length).length ≤ 9 := by
        rw [lotL_length]; exact Nat.le_trans (lotN_length_le ..) w9
      generalize lotL ws (i : Int) ws.length = lot at hq7 hll
      have hq8 := N8.fr _ _ hq7 hqq
      refine gN ?_
      try dsimp only
      refine nrm (σ' := [some (.ref a), some (.int c), some (.ref p), some (.int (tp : Int)), o4, some (.ref q), some (.ref mo), some (.ref row), o8, o9, o10, o11, o12, o13]) rfl ?_
      refine ⟨_, rfl, q, _, rfl, .inl (SqL.of hq8), ?_⟩
      rw [ltm]
      refine ⟨_, _, rfl, rfl, IntMulOk.of_left (intBits_le_64 (by decide) (by decide)), _, _, rfl, ⟨by decide, by decide, by omega, by omega⟩, for_it (n := ((2 * (lot.length : Int) - 1 + 1) / 2).toNat) (fun t σ H9 => ∃ (o4 o10 o11 o12 o13 : Option V) (ps : List Addr) (R : List (List Int)), σ = [some (.ref a), some (.int c), some (.ref p), some (.int (tp : Int)), o4, some (.ref q), some (.ref mo), some (.ref row), o8, o9, o10, o11, o12, o13] ∧ NwAt H7 H9 p ws.length ps R (362 + 9 * i + t)) ⟨o4, o10, o11, o12, o13, ps, R, rfl, N8⟩ (fun t σ H9 h _ => h) (fun σ H9 _ => Nat.le_refl _) ?_ (fun σ H9 ⟨o4, o10, o11, o12, o13, ps, R, e, h⟩ => ⟨o4, _, o10, o11, o12, o13, ps, R, e, h.le (by omega)⟩)⟩
      rintro t x σ H9 H9' ht ⟨o4, o10, o11, o12, o13, ps, R, rfl, N9⟩ ⟨rfl, rfl⟩
      have hq9 := N9.fr _ _ hq7 hqq
      have hrow9 := N9.fr _ _ hrow7 npr.symm
      have hS9 := hS7.frL hp7 N9.fr
      refine gN ?_
      try dsimp only
      refine nrm (σ' := [some (.ref a), some (.int c), some (.ref p), some (.int (tp : Int)), o4, some (.ref q), some (.ref mo), some (.ref row), o8, o9, some (.int (1 + (t : Int) * 2)), o11, o12, o13]) rfl ?_
      -- picks
      refine seq_l ?_
      refine ⟨_, rfl, q, _, rfl, .inl (SqL.of hq9), ?_⟩
      rw [ltm]
      refine ⟨_, rfl, by omega, by omega, ?_⟩
      refine lc_range (lo := 0) (n := ((lot.length : Nat) : Int).toNat) (fun b ys HA => HA = H9' ∧ ∃ Pk : List Int, ys = Pk.map V.int ∧ Pk.length ≤ b ∧ ∀ x ∈ Pk, 0 ≤ x ∧ x < (lot.length : Int)) (le_line (by omega)) ⟨rfl, [], rfl, Nat.le_refl _, fun x h => absurd h (by simp)⟩ (fun b ys HA _ h => by
        obtain ⟨_, Pk, e, e2, _⟩ := h
        rw [e, ltm]; exact e2) ?_ ?_
      · rintro b ys HA hb ⟨rfl, Pk, rfl, hPl, hPx⟩
        refine gN ?_
        refine ⟨_, rfl, _, rfl, _, _, rfl, rfl, IntMulOk.of_left (intBits_le_64 (by omega) (by omega)), _, rfl, row, _, _, _, rfl, rfl, SqL.of hrow9, atI_nt e3, _, _, rfl, rfl, _, rfl, row, _, _, _, rfl, rfl, SqL.of hrow9, atI_nt e2, _, _, rfl, rfl, _, _, rfl, rfl, by show (0 : Int) < _; omega, rfl, _, rfl, ?_⟩
        refine ite2 (fun g => ⟨_, rfl, rfl, Pk ++ [0 + (b : Int)], mapV, by rw [List.length_append, List.length_singleton]; omega, fun x hx => ?_⟩) (fun g => ⟨rfl, Pk, rfl, by omega, hPx⟩)
        rcases List.mem_append.mp hx with h | h
        · exact hPx x h
        · rw [List.mem_singleton.mp h]; omega
      rintro ys HA ⟨rfl, Pk, rfl, hPl, hPx⟩ pk hpk
      have nA := Same.new (o := HO.lst (Pk.map V.int)) hpk
      have hpkA : upd HA pk (HO.lst (Pk.map V.int)) pk = some (.lst (Pk.map V.int)) := upd_same
      generalize upd HA pk (HO.lst (Pk.map V.int)) = HB at nA hpkA
      try dsimp only
      refine nrm (σ' := [some (.ref a), some (.int c), some (.ref p), some (.int (tp : Int)), o4, some (.ref q), some (.ref mo), some (.ref row), o8, o9, some (.int (1 + (t : Int) * 2)), some (.ref pk), o12, o13]) rfl ?_
      -- half
      refine seq_a ?_
      refine ⟨_, rfl, pk, rfl, ⟨_, SqL.of hpkA⟩, lc_list (xs := Pk.map V.int) (fun b ys HC => HC = HB ∧ ∃ Hf : List Int, ys = Hf.map V.int ∧ Hf.length = b) (le_line (by rw [ltm]; omega)) ⟨rfl, [], rfl, rfl⟩
        (fun b ys HC _ h => by
          obtain ⟨e, Hf, e1, e2⟩ := h
          exact ⟨by rw [e]; exact SqL.of hpkA, by rw [e1, ltm, e2]; exact Nat.le_refl _⟩) ?_ ?_⟩
      · rintro b y ys HC hb ⟨rfl, Hf, rfl, hHl⟩
        obtain ⟨z, rfl, hz, _⟩ := getI hb
        obtain ⟨z0, z1⟩ := hPx z (List.mem_of_getElem? hz)
        refine lcN ?_
        exact ⟨_, rfl, _, rfl, q, _, _, _, rfl, rfl, SqL.of (nA _ _ hq9), atI_lt (ns := lot) (i := z) z0 (by omega), rfl, Hf ++ [_], mapV, by rw [List.length_append, hHl]; rfl⟩
      rintro ys HC ⟨rfl, Hf, rfl, hHl⟩ hf hhf
      have nC := nA.new2 (o := HO.lst (Hf.map V.int)) hhf
      have hhfC : upd HC hf (HO.lst (Hf.map V.int)) hf = some (.lst (Hf.map V.int)) := upd_same
      generalize upd HC hf (HO.lst (Hf.map V.int)) = HD at nC hhfC
      try dsimp only
      refine nrm (σ' := [some (.ref a), some (.int c), some (.ref p), some (.int (tp : Int)), o4, some (.ref q), some (.ref mo), some (.ref row), o8, o9, some (.int (1 + (t : Int) * 2)), some (.ref pk), some (.ref hf), o13]) rfl ?_
      -- marks
      refine seq_l ?_
      have hSD := nC.seqT hS9
      refine ⟨_, rfl, a, _, rfl, .inr hSD, ?_⟩
      rw [ltm]
      refine ⟨_, rfl, by omega, by omega, ?_⟩
      refine lc_range (lo := 0) (n := ((ws.length : Nat) : Int).toNat) (fun b ys HE => HE = HD ∧ ∃ Mk : List Int, ys = Mk.map V.int ∧ Mk.length = b) (le_line (by omega)) ⟨rfl, [], rfl, rfl⟩ (fun b ys HE _ h => by
        obtain ⟨_, Mk, e, e2⟩ := h
        rw [e, ltm, e2]; exact Nat.le_refl _) ?_ ?_
      · rintro b ys HE hb ⟨rfl, Mk, rfl, hMl⟩
        refine lcN ?_
        have at1 := atI_intZ (i := (0 : Int) + (b : Int)) (by omega) (getD_at (R := ws) (i := b) (by omega))
        refine ⟨_, rfl, _, rfl, hf, _, rfl, .inl (SqL.of hhfC), rfl, by rw [List.all_map]; exact List.all_eq_true.mpr fun _ _ => rfl, _, rfl, ?_⟩
        exact ite2 (fun g => ⟨_, rfl, rfl, Mk ++ [_], mapV, by rw [List.length_append, hMl]; rfl⟩) (fun g => ⟨_, rfl, _, rfl, a, _, _, _, rfl, rfl, hSD, at1, rfl, Mk ++ [_], mapV, by rw [List.length_append, hMl]; rfl⟩)
      rintro ys HE ⟨rfl, Mk, rfl, hMl⟩ mk hmk
      rw [Int.toNat_natCast] at hMl
      have nE := nC.new2 (o := HO.lst (Mk.map V.int)) hmk
      have hmkE : upd HE mk (HO.lst (Mk.map V.int)) mk = some (.lst (Mk.map V.int)) := upd_same
      generalize upd HE mk (HO.lst (Mk.map V.int)) = HF at nE hmkE
      try dsimp only
      refine nrm (σ' := [some (.ref a), some (.int c), some (.ref p), some (.int (tp : Int)), o4, some (.ref q), some (.ref mo), some (.ref row), o8, o9, some (.int (1 + (t : Int) * 2)), some (.ref pk), some (.ref hf), some (.ref mk)]) rfl ?_
      refine ⟨_, rfl, .inl ⟨rfl, _, SqL.of (nE _ _ N9.hp)⟩, _, rfl, mk, Mk, rfl, SqL.of hmkE, by omega, fun w HG _ sG hwG => ?_⟩
      have hlen := N9.len
      refine ⟨p, _, _, rfl, rfl, sG _ _ (nE _ _ N9.hp), lt_line (by rw [List.length_map]; omega), ?_⟩
      exact ⟨_, _, _, _, _, _, _, rfl, N9.app (nE.trans sG) hwG ⟨numRow_isWay (by omega) (by omega), by rw [numRow_length, hMl]⟩⟩
    rintro σ HZ ⟨o4', o5', o10, o11, o12, o13, psZ, RZ, rfl, NZ⟩
    have frZ : FrP H1 HZ p := fr15.trans (N6.fr.trans NZ.fr)
    exact ⟨_, rfl, k p psZ RZ HZ (fun x u e => frZ x u (s1 x u e) (ne_of_none e hpn)) NZ.hp NZ.hR NZ.ok NZ.hb⟩
theorem sc_law_first_best : FnScope (["_law_told", "_law_ways", "_law_others", "_law_table", "_law_top", "_law_one", "_law_there"]) (["_law_told", "_law_ways", "_law_others"]) (defScope s_law_first_best) := ⟨rfl, rfl, rfl, by decide +kernel, rfl, by decide +kernel, by decide +kernel⟩
set_option maxHeartbeats 4000000 in
theorem ok_law_first_best {f : Addr} {fd : FuncData} (F : Fun K "_law_first_best" "_law_first_best" s_law_first_best f fd) (B : Bs mg) (T : Gs mg) (mBadWay : mg "BadWay" = some (.ref CBadWay)) (qBadWay : PySem.W.excIn K CBadWay bmV "ValueError.__new__" = true)  (clSearch : Cls K CSearch) (nSearch_table : NoAttr K CSearch "table") (nSearch_outlook : NoAttr K CSearch "outlook") (nSearch_greatest : NoAttr K CSearch "greatest") (nSearch_leader : NoAttr K CSearch "leader") (c_law_pair_table : Cal P w K mg base 2 "_law_pair_table" [] (spPairTab K)) (c_law_sum_with : Cal P w K mg base 2 "_law_sum_with" [] (spSumWith K)) (c_law_way_ok : Cal P w K mg base 2 "_law_way_ok" [] (spWayOkS K)) : FnOk P w K mg base CX0 3 f fd ["_law_told", "_law_ways", "_law_others"] (spFirstBest K) := by
  have sc := sc_law_first_best
  refine F.ok sc (fun vs H Q E h => ?_) (fun cdv A outer s H vs Q E hr h => ?_)
  · obtain ⟨fp, l, o, as, ps, U, R, L, rfl, _⟩ := h; rfl
  · obtain ⟨fp, l, o, as, ps, U, R, L, rfl, hf, hLw, hl, hU, hok, hz, ho, hR, hokR, hbest, k⟩ := h
    refine ⟨_, (pss_cons (ps_if (pt_not (pt_val (pe_cal c_law_way_ok (hr.mono (by decide)) rfl (pa_cons (pv 0) (pa_cons (pe_callB (kc_len (K := K)) (by rfl) B.len PyProof.Rows.Boot.«len» (pa_cons (pe_ix (kix_list (K := K)) (pv 1) pe_int (fun _ _ => rfl)) pa_nil)) pa_nil))))) (pss_one (ps_ret pe_bl)) pss_nil)
      (pss_cons (ps_set (i := 3) sc.nd rfl (Or.inl rfl) (pe_cal c_law_pair_table (hr.mono (by decide)) rfl (pa_cons (pv 1) pa_nil)))
      (pss_cons (ps_set (i := 4) sc.nd rfl (Or.inl rfl) (pe_cal c_law_sum_with (hr.mono (by decide)) rfl (pa_cons (pv 0) (pa_cons (pv 3) (pa_cons (pe_callB (kc_len (K := K)) (by rfl) B.len PyProof.Rows.Boot.«len» (pa_cons (pv 1) pa_nil)) pa_nil)))))
      (pss_cons (ps_for PassesOwn.never rfl (kpi_list (K := K) (pv 2)) (pg_name (i := 5) sc.nd rfl (Or.inl rfl))
      (pss_cons (ps_set (i := 6) sc.nd rfl (Or.inl rfl) (pe_cal c_law_sum_with (hr.mono (by decide)) rfl (pa_cons (pv 5) (pa_cons (pv 3) (pa_cons (pe_callB (kc_len (K := K)) (by rfl) B.len PyProof.Rows.Boot.«len» (pa_cons (pv 1) pa_nil)) pa_nil)))))
      (pss_one (ps_if (PW.pt (pw_or (pt_cmpR op_gt (pv 6) (pv 4) (nomark _)) (pw_or1 (PW.pt (pw_and (pt_cmpR op_eq (pv 6) (pv 4) (nomark _)) (pw_and1 (pt_cmpR (kop_ltT (K := K) hr.units0) (pv 5) (pv 0) (nomark _)))))))) (pss_one (ps_ret pe_bl)) pss_nil))))
      (pss_one (ps_ret pe_bl)))))), ?_⟩
    obtain ⟨w1, w9, w0⟩ := isWay_iff.mp hLw
    obtain ⟨z1, z50⟩ := hz
    have hal := hU.length
    have hU0 : U[0]? = some (U.getD 0 []) := by rw [List.getD_eq_getElem?_getD, List.getElem?_eq_getElem (by omega)]; rfl
    obtain ⟨r0, hr0, e0⟩ := paired_getR hU hU0
    have l0 := (hok _ (List.mem_of_getElem? hU0)).2
    refine seq_ifN (b := false) (P := Same H) (fun N hN => ?_) (fun g => absurd g (by decide)) (fun _ H1 s1 => ?_)
    · refine ⟨_, rfl, _, rfl, l, _, _, _, rfl, rfl, SqL.of hl, atI_ref (j := 0) e0, r0, _, rfl, .inr (SqT.of hr0), ?_⟩
      rw [ltm, l0]
      refine ⟨fp, L, _, rfl, hf, by omega, fun H1 s1 => ⟨_, rfl, ?_⟩⟩
      have e6 : (decide ((L.length : Int) = (L.length : Int)) && rowOk L) = true := by
        rw [decide_eq_true rfl, ← way_rowOk, hLw]; rfl
      rw [e6]
      exact hN _ s1
    refine seq_a ?_
    refine ⟨_, rfl, l, as, U, L.length, rfl, s1 _ _ hl, tu_same s1 hU, ⟨w1, w9, fun u hu => (hok u hu).2⟩, ⟨z1, z50⟩, fun t ts f0 H2 s2 ht2 hL2 hf2 => ?_⟩
    have s2 := s1.trans s2
    try dsimp only
    refine nrm (σ' := [some (.ref fp), some (.ref l), some (.ref o), some (.ref t), none, none, none]) rfl ?_
    refine seq_a ?_
    refine ⟨_, rfl, _, rfl, _, rfl, l, _, rfl, .inl (SqL.of (s2 _ _ hl)), ?_⟩
    rw [List.length_map, hal]
    refine ⟨fp, t, ts, L, U, f0, rfl, s2.seqT hf, ht2, hL2, hLw, hf2, fun H3 s3 => ?_⟩
    have ht3 := s3 _ _ ht2
    have hL3 := hL2.sameH s3
    have s3 := s2.trans s3
    try dsimp only
    refine nrm (σ' := [some (.ref fp), some (.ref l), some (.ref o), some (.ref t), some (.int (sumA U L)), none, none]) rfl ?_
    refine ⟨_, rfl, o, rfl, ⟨_, SqL.of (s3 _ _ ho)⟩, for_list (K := K) (a := o) (xs := ps.map V.ref) (fun i σ H4 => ∃ o5 o6 : Option V, σ = [some (.ref fp), some (.ref l), some (.ref o), some (.ref t), some (.int (sumA U L)), o5, o6] ∧ Same H3 H4)
      ⟨none, none, rfl, Same.refl _⟩ (fun i σ H4 _ ⟨_, _, _, s⟩ => SqL.of ((s3.trans s) _ _ ho)) ?_ ?_⟩
    · rintro i y σ H4 hi ⟨o5, o6, rfl, s4⟩
      obtain ⟨q, rfl, hq, _⟩ := getRef hi
      obtain ⟨u, hu, hui⟩ := paired_getM hR hq
      have oku := hokR u (List.mem_of_getElem? hui)
      obtain ⟨u1, u9, ug⟩ := isWay_iff.mp oku.1
      have s34 := s3.trans s4
      refine gN ?_
      try dsimp only
      refine nrm (σ' := [some (.ref fp), some (.ref l), some (.ref o), some (.ref t), some (.int (sumA U L)), some (.ref q), o6]) rfl ?_
      refine seq_a ?_
      refine ⟨_, rfl, _, rfl, _, rfl, l, _, rfl, .inl (SqL.of (s34 _ _ hl)), ?_⟩
      rw [List.length_map, hal]
      refine ⟨q, t, ts, u, U, f0, rfl, s34.seqT hu, s4 _ _ ht3, by rw [oku.2]; exact hL3.sameH s4, oku.1, by rw [oku.2]; exact hf2, fun H5 s5 => ?_⟩
      try dsimp only
      refine nrm (σ' := [some (.ref fp), some (.ref l), some (.ref o), some (.ref t), some (.int (sumA U L)), some (.ref q), some (.int (sumA U u))]) rfl ?_
      obtain ⟨nb1, nb2⟩ := hbest u ug oku.2
      refine if_N (b := false) (P := fun H' => H' = H5) (fun N hN => ?_) (fun g => absurd g (by decide)) (fun _ H' e => ⟨_, _, rfl, by rw [e]; exact s4.trans s5⟩)
      refine ⟨_, rfl, _, rfl, _, _, rfl, rfl, _, rfl, iteDF nb1 ⟨_, rfl, _, rfl, rfl, _, rfl, ?_⟩⟩
      rw [dInt]
      refine ite2 (fun g => ?_) (fun g => hN _ rfl)
      refine ⟨_, rfl, _, rfl, q, fp, u, L, rfl, rfl, (s34.trans s5).seqT hu, (s34.trans s5).seqT hf, _, rfl, ?_⟩
      rw [nb2 (of_decide_eq_true g)]
      exact hN _ rfl
    · rintro σ H4 ⟨o5, o6, rfl, s4⟩
      exact k _ (s3.trans s4)
theorem sclaw : FnScope (["_law_script", "_law_row", "_law_count", "_law_ways", "_law_part", "_law_told"]) (["_law_script"]) (defScope slaw) := ⟨rfl, rfl, rfl, by decide +kernel, rfl, by decide +kernel, by decide +kernel⟩
set_option maxHeartbeats 4000000 in
theorem oklaw {f : Addr} {fd : FuncData} (F : Fun K "law" "law" slaw f fd) (B : Bs mg) (T : Gs mg) (mBadWay : mg "BadWay" = some (.ref CBadWay)) (qBadWay : PySem.W.excIn K CBadWay bmV "ValueError.__new__" = true)  (clSearch : Cls K CSearch) (nSearch_table : NoAttr K CSearch "table") (nSearch_outlook : NoAttr K CSearch "outlook") (nSearch_greatest : NoAttr K CSearch "greatest") (nSearch_leader : NoAttr K CSearch "leader") (c_law_all : Cal P w K mg base 1 "_law_all" [] (spAllW K)) (c_law_cell : Cal P w K mg base 1 "_law_cell" [] (spCell K)) (c_law_draw : Cal P w K mg base 1 "_law_draw" [] (spDraw K)) (c_law_first_best : Cal P w K mg base 3 "_law_first_best" [] (spFirstBest K)) (c_law_many : Cal P w K mg base 1 "_law_many" [] (spMany K)) (c_law_near_ways : Cal P w K mg base 4 "_law_near_ways" [] (spNearW K)) (c_law_way : Cal P w K mg base 2 "_law_way" [] (spWay K)) (c_law_way_ok : Cal P w K mg base 2 "_law_way_ok" [] (spWayOkS K)) (ccouncil : CalE P w K mg base 14 "council" [] (spCouncilE K CBadWay)) : FnOk P w K mg base CX0 20 f fd ["_law_script"] (spLaw K) := by
  have sc := sclaw
  refine F.ok sc (fun vs H Q E h => ?_) (fun cdv A outer s H vs Q E hr h => ?_)
  · obtain ⟨a, ns, rfl, _⟩ := h; rfl
  · obtain ⟨a, ns, rfl, hS, hlen, k⟩ := h
    refine ⟨_, (pss_cons (ps_set (i := 1) sc.nd rfl (Or.inr rfl) (pe_cal c_law_draw (hr.mono (by decide)) rfl (pa_cons (pe_cal c_law_cell (hr.mono (by decide)) rfl (pa_cons (pv 0) (pa_cons pe_int pa_nil))) (pa_cons (pe_lst (pa_cons pe_int (pa_cons pe_int (pa_cons pe_int (pa_cons pe_int pa_nil))))) pa_nil))))
      (pss_cons (ps_set (i := 2) sc.nd rfl (Or.inl rfl) (pe_op op_add pe_int (pe_callB kc_min2 (by rfl) B.min PyProof.Rows.Boot.«min» (pa_cons (pe_ix (kix_list (K := K)) (pv 1) pe_int (fun _ _ => rfl)) (pa_cons (pe_cal c_law_many (hr.mono (by decide)) rfl (pa_cons (pv 0) (pa_cons pe_int pa_nil))) pa_nil)))))
      (pss_cons (ps_lc (i := 3) sc.nd rfl rfl (N' := ["_law_k", "_law_script", "_law_row"]) (M := [none, some 0, some 1]) (lcSc_of (by rfl)) rfl (pi_range2 rfl B.range (pa_cons pe_int (pa_cons (pv 2) pa_nil))) (fun _ _ _ _ _ => pg_name (i := 0) (show (["_law_k", "_law_script", "_law_row"] : List Str).Nodup by decide +kernel) rfl (Or.inl rfl) (.inr rfl)) (frm_name rfl) (fun _ _ _ _ _ => pts_nil) (fun _ _ _ _ _ => (pe_cal c_law_way (hr.mono (by decide)) rfl (pa_cons (pe_cal c_law_cell (hr.mono (by decide)) rfl (pa_cons (pv 1) (pa_cons (pv 0) pa_nil))) (pa_cons (pe_op op_add (pe_ix (kix_list (K := K)) (pv 2) pe_int (fun _ _ => rfl)) pe_int) pa_nil)))))
      (pss_cons (ps_for PassesOwn.never rfl (pi_range2 rfl B.range (pa_cons pe_int (pa_cons (pe_op op_add (pe_callB (kc_len (K := K)) (by rfl) B.len PyProof.Rows.Boot.«len» (pa_cons (pv 3) pa_nil)) pe_int) pa_nil))) (pg_name (i := 4) sc.nd rfl (Or.inl rfl))
      (pss_one (ps_if (pt_not (pt_val (pe_cal c_law_first_best (hr.mono (by decide)) rfl (pa_cons (pe_calE ccouncil (hr.mono (by decide)) rfl passE0 (pa_cons (pe_slice (ksl_list (K := K)) (pv 3) po_none (po_some (pv 4))) pa_nil)) (pa_cons (pe_slice (ksl_list (K := K)) (pv 3) po_none (po_some (pv 4))) (pa_cons (pe_cal c_law_all (hr.mono (by decide)) rfl (pa_cons (pe_op op_add (pe_ix (kix_list (K := K)) (pv 1) pe_int (fun _ _ => rfl)) pe_int) pa_nil)) pa_nil)))))) (pss_one (ps_ret pe_bl)) pss_nil)))
      (pss_cons (ps_lc (i := 3) sc.nd rfl rfl (N' := ["_law_k", "_law_script", "_law_row"]) (M := [none, some 0, some 1]) (lcSc_of (by rfl)) rfl (pi_range2 rfl B.range (pa_cons pe_int (pa_cons (pv 2) pa_nil))) (fun _ _ _ _ _ => pg_name (i := 0) (show (["_law_k", "_law_script", "_law_row"] : List Str).Nodup by decide +kernel) rfl (Or.inl rfl) (.inr rfl)) (frm_name rfl) (fun _ _ _ _ _ => pts_nil) (fun _ _ _ _ _ => (pe_cal c_law_way (hr.mono (by decide)) rfl (pa_cons (pe_op op_fdivW (pe_cal c_law_cell (hr.mono (by decide)) rfl (pa_cons (pv 1) (pa_cons (pv 0) pa_nil))) pe_int) (pa_cons (pe_op op_add (pe_ix (kix_list (K := K)) (pv 2) pe_int (fun _ _ => rfl)) pe_int) pa_nil)))))
      (pss_cons (ps_if (pt_not (pt_val (pe_cal c_law_first_best (hr.mono (by decide)) rfl (pa_cons (pe_calE ccouncil (hr.mono (by decide)) rfl passE0 (pa_cons (pe_callTy (kc_list (K := K)) (by rfl) B.list PyProof.Rows.Boot.«list» (pa_cons (pv 3) pa_nil)) pa_nil)) (pa_cons (pv 3) (pa_cons (pe_cal c_law_all (hr.mono (by decide)) rfl (pa_cons (pe_op op_add (pe_ix (kix_list (K := K)) (pv 1) pe_int (fun _ _ => rfl)) pe_int) pa_nil)) pa_nil)))))) (pss_one (ps_ret pe_bl)) pss_nil)
      (pss_cons (ps_lc (i := 3) sc.nd rfl rfl (N' := ["_law_k", "_law_script", "_law_row"]) (M := [none, some 0, some 1]) (lcSc_of (by rfl)) rfl (pi_range2 rfl B.range (pa_cons pe_int (pa_cons (pv 2) pa_nil))) (fun _ _ _ _ _ => pg_name (i := 0) (show (["_law_k", "_law_script", "_law_row"] : List Str).Nodup by decide +kernel) rfl (Or.inl rfl) (.inr rfl)) (frm_name rfl) (fun _ _ _ _ _ => pts_nil) (fun _ _ _ _ _ => (pe_cal c_law_way (hr.mono (by decide)) rfl (pa_cons (pe_op op_fdivW (pe_cal c_law_cell (hr.mono (by decide)) rfl (pa_cons (pv 1) (pa_cons (pv 0) pa_nil))) pe_int) (pa_cons (pe_op op_add (pe_ix (kix_list (K := K)) (pv 2) pe_int (fun _ _ => rfl)) pe_int) pa_nil)))))
      (pss_cons (ps_set (i := 5) sc.nd rfl (Or.inl rfl) (pe_calE ccouncil (hr.mono (by decide)) rfl passE0 (pa_cons (pe_callTy (kc_list (K := K)) (by rfl) B.list PyProof.Rows.Boot.«list» (pa_cons (pv 3) pa_nil)) pa_nil)))
      (pss_cons (ps_if (pt_not (pt_val (pe_cal c_law_way_ok (hr.mono (by decide)) rfl (pa_cons (pv 5) (pa_cons (pe_op op_add (pe_ix (kix_list (K := K)) (pv 1) pe_int (fun _ _ => rfl)) pe_int) pa_nil))))) (pss_one (ps_ret pe_bl)) pss_nil)
      (pss_one (ps_ret (pe_cal c_law_first_best (hr.mono (by decide)) rfl (pa_cons (pv 5) (pa_cons (pv 3) (pa_cons (pe_op op_cat (pv 3) (pe_cal c_law_near_ways (hr.mono (by decide)) rfl (pa_cons (pv 5) (pa_cons (pe_cal c_law_cell (hr.mono (by decide)) rfl (pa_cons (pv 0) (pa_cons pe_int pa_nil))) pa_nil)))) pa_nil))))))))))))))), ?_⟩
    refine seq_a ?_
    refine ⟨_, rfl, a, ns, _, rfl, hS, by omega, by omega, by omega, fun cell => ?_⟩
    refine ⟨le_line (by simp), fun q1 hq1 => ⟨cell, q1, [5, 9, 2, 2], rfl, SqL.of upd_same, lim_ok (by decide +kernel), by decide, fun row rs H1 _ s1 hrow hD => ?_⟩⟩
    have s1 := (Same.new (o := HO.lst [V.int 5, V.int 9, V.int 2, V.int 2]) hq1).trans s1
    obtain ⟨r0, ⟨a0, b0⟩, e0⟩ := paired_getM hD (show ([5, 9, 2, 2] : List Int)[0]? = some 5 from rfl)
    obtain ⟨r1, ⟨a1, b1⟩, e1⟩ := paired_getM hD (show ([5, 9, 2, 2] : List Int)[1]? = some 9 from rfl)
    obtain ⟨r2, ⟨a2, b2⟩, e2⟩ := paired_getM hD (show ([5, 9, 2, 2] : List Int)[2]? = some 2 from rfl)
    obtain ⟨r3, ⟨a3, b3⟩, e3⟩ := paired_getM hD (show ([5, 9, 2, 2] : List Int)[3]? = some 2 from rfl)
    try dsimp only
    refine nrm (σ' := [some (.ref a), some (.ref row), none, none, none, none]) rfl ?_
    refine seq_a ?_
    refine ⟨_, rfl, row, _, _, _, rfl, rfl, SqL.of hrow, atI_nt e1, _, rfl, a, ns, 5, rfl, s1.seq hS, fun z hz0 hz1 => ⟨_, _, rfl, _, _, rfl, rfl, ?_⟩⟩
    have hz2 : 0 ≤ (if z < r1 then z else r1) ∧ (if z < r1 then z else r1) ≤ 8 := by split <;> omega
    generalize (if z < r1 then z else r1) = z2 at hz2
    obtain ⟨ct, hct⟩ : ∃ ct : Nat, 2 + z2 = (ct : Int) := ⟨(2 + z2).toNat, by omega⟩
    dsimp only
    rw [hct]
    refine nrm (σ' := [some (.ref a), some (.ref row), some (.int (ct : Int)), none, none, none]) rfl ?_
    obtain ⟨n, hn⟩ : ∃ n : Nat, r0 + 1 = (n : Int) := ⟨(r0 + 1).toNat, by omega⟩
    refine seq_l ?_
    refine ⟨_, rfl, _, _, rfl, ⟨by decide, by decide, by omega, by omega⟩, ?_⟩
    refine lc_range (lo := 1) (n := ((ct : Int) - 1).toNat) (fun i ys HX => Same H1 HX ∧ ∃ (as : List Addr) (U : List (List Int)), ys = as.map V.ref ∧ as.length = i ∧ TuAt HX as U ∧ ∀ u ∈ U, isWay u = true ∧ u.length = n) (le_line (by omega)) ⟨Same.refl _, [], [], rfl, rfl, .nil, fun u h => absurd h (by simp)⟩ (fun i ys HX _ h => by
      obtain ⟨_, as, _, e, e2, _⟩ := h
      rw [e, List.length_map, e2]; exact Nat.le_refl _) ?_ ?_
    · rintro i ys HX hi ⟨sX, as, U, rfl, hal, hU, hok⟩
      refine lcN ?_
      refine ⟨_, rfl, _, rfl, a, ns, _, rfl, ((Same.refl H1).trans sX).seq (s1.seq hS), by omega, by omega, by omega, fun c2 => ⟨_, rfl, row, _, _, _, rfl, rfl, SqL.of (((Same.refl H1).trans sX) _ _ hrow), atI_nt e0, _, _, rfl, rfl, _, _, rfl, by omega, by omega, fun wa ws HY _ sY hwY hwl hww => ?_⟩⟩
      refine ⟨sX.trans sY, as ++ [wa], U ++ [ws], by rw [List.map_append]; rfl, by rw [List.length_append, hal]; rfl, Paired.snoc (tu_same sY hU) hwY, fun u hu => ?_⟩
      rcases List.mem_append.mp hu with hu | hu
      · exact hok u hu
      · rw [List.mem_singleton.mp hu]; exact ⟨hww, by omega⟩
    rintro ys HX ⟨sX, as2, U2, rfl, hal2, hU2, hok2⟩ wl2 hwlx
    have hUl2 := hU2.length
    have s2 := (Same.refl H1).trans (sX.new2 (o := HO.lst (as2.map V.ref)) hwlx)
    have hU2 := tu_same (Same.new (o := HO.lst (as2.map V.ref)) hwlx) hU2
    have hwl2 : upd HX wl2 (HO.lst (as2.map V.ref)) wl2 = some (.lst (as2.map V.ref)) := upd_same
    generalize upd HX wl2 (HO.lst (as2.map V.ref)) = H2 at s2 hU2 hwl2
    try dsimp only
    refine nrm (σ' := [some (.ref a), some (.ref row), some (.int (ct : Int)), some (.ref wl2), none, none]) rfl ?_
    -- each first part
    refine seq_by2 (fun σ HL => ∃ o4 : Option V, σ = [some (.ref a), some (.ref row), some (.int (ct : Int)), some (.ref wl2), o4, none] ∧ Same H2 HL) (fun N hN => ?_) ?_
    · refine ⟨_, rfl, wl2, _, rfl, .inl (SqL.of hwl2), ?_⟩
      rw [List.length_map]
      refine ⟨_, _, rfl, rfl, _, _, rfl, ⟨by decide, by decide, by omega, by omega⟩, for_range (lo := 1) (n := ((as2.length : Int) + 1 - 1).toNat) (fun i σ HL => ∃ o4 : Option V, σ = [some (.ref a), some (.ref row), some (.int (ct : Int)), some (.ref wl2), o4, none] ∧ Same H2 HL) ⟨none, rfl, Same.refl _⟩ ?_ (fun σ HL h => hN σ HL h)⟩
      rintro i σ H3 hi ⟨o4, rfl, s3⟩
      have hil : i < as2.length := by omega
      refine gN ?_
      refine nrm (σ' := [some (.ref a), some (.ref row), some (.int (ct : Int)), some (.ref wl2), some (.int ((i + 1 : Nat) : Int)), none]) (by rw [show (1 : Int) + (i : Int) = ((i + 1 : Nat) : Int) by omega]; rfl) ?_
      have hUt := paired_takeQ (i + 1) hU2
      have hokt : ∀ u ∈ U2.take (i + 1), isWay u = true ∧ u.length = n := fun u hu => hok2 u (List.mem_of_mem_take hu)
      have hlt : (U2.take (i + 1)).length = i + 1 := by rw [List.length_take]; omega
      generalize U2.take (i + 1) = Ut at hUt hokt hlt
      have hg0 := getD0_len (by omega) hokt
      refine if_N (b := false) (P := Same H3) (fun N hN => ?_) (fun g => absurd g (by decide)) (fun _ H' s' => ⟨_, rfl, s3.trans s'⟩)
      refine ⟨_, rfl, _, rfl, _, rfl, wl2, _, rfl, SqL.of (s3 _ _ hwl2), fun c1 hc1 => ?_⟩
      rw [cut_take, ← List.map_take]
      have s4 := Same.new (o := HO.lst ((as2.take (i + 1)).map V.ref)) hc1
      have hc14 : upd H3 c1 (HO.lst ((as2.take (i + 1)).map V.ref)) c1 = some (.lst ((as2.take (i + 1)).map V.ref)) := upd_same
      generalize upd H3 c1 (HO.lst ((as2.take (i + 1)).map V.ref)) = H4 at s4 hc14
      have s34 := s3.trans s4
      refine ⟨c1, as2.take (i + 1), Ut, rfl, hc14, tu_same s34 hUt, fun u hu => (hokt u hu).1, by omega, fun _ _ fp L H5 s5 hfp hLw hLl hbest => ?_, fun hx => ?_⟩
      rotate_left
      · rcases hx with h | ⟨u, hu, h⟩
        · exact absurd h (len_ne (by omega))
        · exact absurd (by rw [(hokt u hu).2, hg0]) h
      rw [hg0] at hLl hbest
      have s35 := s34.trans s5
      refine ⟨_, rfl, _, rfl, _, rfl, wl2, _, rfl, SqL.of (s35 _ _ hwl2), fun c2 hc2 => ?_⟩
      rw [cut_take, ← List.map_take]
      have s6 := Same.new (o := HO.lst ((as2.take (i + 1)).map V.ref)) hc2
      have hc26 : upd H5 c2 (HO.lst ((as2.take (i + 1)).map V.ref)) c2 = some (.lst ((as2.take (i + 1)).map V.ref)) := upd_same
      generalize upd H5 c2 (HO.lst ((as2.take (i + 1)).map V.ref)) = H6 at s6 hc26
      have s36 := s35.trans s6
      refine ⟨_, rfl, row, _, _, _, rfl, rfl, SqL.of ((s2.trans s36) _ _ hrow), atI_nt e0, _, _, rfl, rfl, _, rfl, by omega, by omega, fun pa pas RA H7 s7 hpa hRA hokA hlA => ?_⟩
      refine ⟨fp, c2, pa, as2.take (i + 1), pas, Ut, RA, L, rfl, (s6.trans s7).seqT hfp, isWay_iff.mpr ⟨by omega, by omega, hLw⟩, s7 _ _ hc26, tu_same (s36.trans s7) hUt, fun u hu => ⟨(hokt u hu).1, by rw [(hokt u hu).2, hLl]⟩, ⟨by omega, by omega⟩, hpa, hRA, fun r hr => ⟨(hokA r hr).1, by have := (hokA r hr).2; omega⟩, fun w h1 h2 => hbest w h1 (by omega), fun H8 s8 => ⟨_, rfl, hN _ ((((s4.trans s5).trans s6).trans s7).trans s8)⟩⟩
    rintro σ H3 ⟨o4, rfl, s3⟩
    -- six or seven
    have s3 := s2.trans s3
    obtain ⟨n', hn'⟩ : ∃ n' : Nat, r2 + 6 = (n' : Int) := ⟨(r2 + 6).toNat, by omega⟩
    refine seq_l ?_
    refine ⟨_, rfl, _, _, rfl, ⟨by decide, by decide, by omega, by omega⟩, ?_⟩
    refine lc_range (lo := 1) (n := ((ct : Int) - 1).toNat) (fun i ys HX => Same H3 HX ∧ ∃ (as : List Addr) (U : List (List Int)), ys = as.map V.ref ∧ as.length = i ∧ TuAt HX as U ∧ ∀ u ∈ U, isWay u = true ∧ u.length = n') (le_line (by omega)) ⟨Same.refl _, [], [], rfl, rfl, .nil, fun u h => absurd h (by simp)⟩ (fun i ys HX _ h => by
      obtain ⟨_, as, _, e, e2, _⟩ := h
      rw [e, List.length_map, e2]; exact Nat.le_refl _) ?_ ?_
    · rintro i ys HX hi ⟨sX, as, U, rfl, hal, hU, hok⟩
      refine lcN ?_
      refine ⟨_, rfl, _, rfl, a, ns, _, rfl, (s3.trans sX).seq (s1.seq hS), by omega, by omega, by omega, fun c2 => ⟨_, _, rfl, rfl, ⟨by decide, by decide +kernel⟩, _, rfl, row, _, _, _, rfl, rfl, SqL.of ((s3.trans sX) _ _ hrow), atI_nt e2, _, _, rfl, rfl, _, _, rfl, by omega, by omega, fun wa ws HY _ sY hwY hwl hww => ?_⟩⟩
      refine ⟨sX.trans sY, as ++ [wa], U ++ [ws], by rw [List.map_append]; rfl, by rw [List.length_append, hal]; rfl, Paired.snoc (tu_same sY hU) hwY, fun u hu => ?_⟩
      rcases List.mem_append.mp hu with hu | hu
      · exact hok u hu
      · rw [List.mem_singleton.mp hu]; exact ⟨hww, by omega⟩
    rintro ys HX ⟨sX, as4, U4, rfl, hal4, hU4, hok4⟩ wl4 hwlx
    have hUl4 := hU4.length
    have s4 := s3.trans (sX.new2 (o := HO.lst (as4.map V.ref)) hwlx)
    have hU4 := tu_same (Same.new (o := HO.lst (as4.map V.ref)) hwlx) hU4
    have hwl4 : upd HX wl4 (HO.lst (as4.map V.ref)) wl4 = some (.lst (as4.map V.ref)) := upd_same
    generalize upd HX wl4 (HO.lst (as4.map V.ref)) = H4 at s4 hU4 hwl4
    try dsimp only
    refine nrm (σ' := [some (.ref a), some (.ref row), some (.int (ct : Int)), some (.ref wl4), o4, none]) rfl ?_
    have hg4 := getD0_len (by omega) hok4
    refine seq_ifN (b := false) (P := Same H4) (fun N hN => ?_) (fun g => absurd g (by decide)) (fun _ H5 s5 => ?_)
    · refine ⟨_, rfl, wl4, _, rfl, .inl (SqL.of hwl4), fun c1 hc1 => ?_⟩
      have s5 := Same.new (o := HO.lst (as4.map V.ref)) hc1
      have hc15 : upd H4 c1 (HO.lst (as4.map V.ref)) c1 = some (.lst (as4.map V.ref)) := upd_same
      generalize upd H4 c1 (HO.lst (as4.map V.ref)) = H5 at s5 hc15
      refine ⟨c1, as4, U4, rfl, hc15, tu_same s5 hU4, fun u hu => (hok4 u hu).1, by omega, fun _ _ fp L H6 s6 hfp hLw hLl hbest => ?_, fun hx => ?_⟩
      rotate_left
      · rcases hx with h | ⟨u, hu, h⟩
        · exact absurd h (len_ne (by omega))
        · exact absurd (by rw [(hok4 u hu).2, hg4]) h
      rw [hg4] at hLl hbest
      have s46 := s5.trans s6
      refine ⟨_, rfl, _, rfl, row, _, _, _, rfl, rfl, SqL.of ((s4.trans s46) _ _ hrow), atI_nt e2, _, _, rfl, rfl, _, rfl, by omega, by omega, fun pa pas RA H7 s7 hpa hRA hokA hlA => ?_⟩
      have s47 := s46.trans s7
      refine ⟨fp, wl4, pa, as4, pas, U4, RA, L, rfl, s7.seqT hfp, isWay_iff.mpr ⟨by omega, by omega, hLw⟩, s47 _ _ hwl4, tu_same s47 hU4, fun u hu => ⟨(hok4 u hu).1, by rw [(hok4 u hu).2, hLl]⟩, ⟨by omega, by omega⟩, hpa, hRA, fun r hr => ⟨(hokA r hr).1, by have := (hokA r hr).2; omega⟩, fun w h1 h2 => hbest w h1 (by omega), fun H8 s8 => ⟨_, rfl, hN _ (s47.trans s8)⟩⟩
    -- eight or nine
    have s5 := s4.trans s5
    obtain ⟨n'', hn''⟩ : ∃ n'' : Nat, r3 + 8 = (n'' : Int) := ⟨(r3 + 8).toNat, by omega⟩
    refine seq_l ?_
    refine ⟨_, rfl, _, _, rfl, ⟨by decide, by decide, by omega, by omega⟩, ?_⟩
    refine lc_range (lo := 1) (n := ((ct : Int) - 1).toNat) (fun i ys HX => Same H5 HX ∧ ∃ (as : List Addr) (U : List (List Int)), ys = as.map V.ref ∧ as.length = i ∧ TuAt HX as U ∧ ∀ u ∈ U, isWay u = true ∧ u.length = n'') (le_line (by omega)) ⟨Same.refl _, [], [], rfl, rfl, .nil, fun u h => absurd h (by simp)⟩ (fun i ys HX _ h => by
      obtain ⟨_, as, _, e, e2, _⟩ := h
      rw [e, List.length_map, e2]; exact Nat.le_refl _) ?_ ?_
    · rintro i ys HX hi ⟨sX, as, U, rfl, hal, hU, hok⟩
      refine lcN ?_
      refine ⟨_, rfl, _, rfl, a, ns, _, rfl, (s5.trans sX).seq (s1.seq hS), by omega, by omega, by omega, fun c2 => ⟨_, _, rfl, rfl, ⟨by decide, by decide +kernel⟩, _, rfl, row, _, _, _, rfl, rfl, SqL.of ((s5.trans sX) _ _ hrow), atI_nt e3, _, _, rfl, rfl, _, _, rfl, by omega, by omega, fun wa ws HY _ sY hwY hwl hww => ?_⟩⟩
      refine ⟨sX.trans sY, as ++ [wa], U ++ [ws], by rw [List.map_append]; rfl, by rw [List.length_append, hal]; rfl, Paired.snoc (tu_same sY hU) hwY, fun u hu => ?_⟩
      rcases List.mem_append.mp hu with hu | hu
      · exact hok u hu
      · rw [List.mem_singleton.mp hu]; exact ⟨hww, by omega⟩
    rintro ys HX ⟨sX, as6, U6, rfl, hal6, hU6, hok6⟩ wl6 hwlx
    have hUl6 := hU6.length
    have s6 := s5.trans (sX.new2 (o := HO.lst (as6.map V.ref)) hwlx)
    have hU6 := tu_same (Same.new (o := HO.lst (as6.map V.ref)) hwlx) hU6
    have hwl6 : upd HX wl6 (HO.lst (as6.map V.ref)) wl6 = some (.lst (as6.map V.ref)) := upd_same
    generalize upd HX wl6 (HO.lst (as6.map V.ref)) = H6 at s6 hU6 hwl6
    try dsimp only
    refine nrm (σ' := [some (.ref a), some (.ref row), some (.int (ct : Int)), some (.ref wl6), o4, none]) rfl ?_
    have hg6 := getD0_len (by omega) hok6
    refine seq_a ?_
    refine ⟨_, rfl, wl6, _, rfl, .inl (SqL.of hwl6), fun c1 hc1 => ?_⟩
    have s7 := Same.new (o := HO.lst (as6.map V.ref)) hc1
    have hc17 : upd H6 c1 (HO.lst (as6.map V.ref)) c1 = some (.lst (as6.map V.ref)) := upd_same
    generalize upd H6 c1 (HO.lst (as6.map V.ref)) = H7 at s7 hc17
    refine ⟨c1, as6, U6, rfl, hc17, tu_same s7 hU6, fun u hu => (hok6 u hu).1, by omega, fun _ _ fp L H8 s8 hfp hLw hLl hbest => ?_, fun hx => ?_⟩
    rotate_left
    · rcases hx with h | ⟨u, hu, h⟩
      · exact absurd h (len_ne (by omega))
      · exact absurd (by rw [(hok6 u hu).2, hg6]) h
    rw [hg6] at hLl hbest
    have hLway : isWay L = true := isWay_iff.mpr ⟨by omega, by omega, hLw⟩
    have s68 := s7.trans s8
    try dsimp only
    refine nrm (σ' := [some (.ref a), some (.ref row), some (.int (ct : Int)), some (.ref wl6), o4, some (.ref fp)]) rfl ?_
    refine seq_ifN (b := false) (P := Same H8) (fun N hN => ?_) (fun g => absurd g (by decide)) (fun _ H9 s9 => ?_)
    · refine ⟨_, rfl, _, rfl, row, _, _, _, rfl, rfl, SqL.of ((s6.trans s68) _ _ hrow), atI_nt e3, _, _, rfl, rfl, fp, L, _, rfl, hfp, by omega, fun H9 s9 => ⟨_, rfl, ?_⟩⟩
      have e6 : (decide ((L.length : Int) = r3 + 8) && rowOk L) = true := by
        rw [decide_eq_true (by omega), ← way_rowOk, hLway]; rfl
      rw [e6]
      exact hN _ s9
    have s69 := s68.trans s9
    have hfp9 := s9.seqT hfp
    refine ⟨_, rfl, _, rfl, _, rfl, _, rfl, _, rfl, a, ns, _, rfl, (s6.trans s69).seq (s1.seq hS), by omega, by omega, by omega, fun c9 => ?_⟩
    refine ⟨fp, c9, L, rfl, hfp9, hLway, fun pn pns RN H10 s10 hpn hRN hokN hlN => ?_⟩
    have s610 := s69.trans s10
    have hRl := hRN.length
    refine ⟨wl6, pn, _, _, rfl, rfl, s610 _ _ hwl6, hpn, le_line (by rw [List.length_map, List.length_map]; omega), fun ql hql => ?_⟩
    have s11 := Same.new (o := HO.lst (as6.map V.ref ++ pns.map V.ref)) hql
    have s611 := s610.trans s11
    refine ⟨fp, wl6, ql, as6, as6 ++ pns, U6, U6 ++ RN, L, rfl, (s10.trans s11).seqT hfp9, hLway, s611 _ _ hwl6, tu_same s611 hU6, fun u hu => ⟨(hok6 u hu).1, by rw [(hok6 u hu).2, hLl]⟩, ⟨by omega, by omega⟩, by rw [upd_same, List.map_append], ts_of (paired_app (tu_same s611 hU6) (tu_same s11 hRN)), fun r hr => ?_, fun w h1 h2 => hbest w h1 (by omega), fun H12 _ => k H12⟩
    rcases List.mem_append.mp hr with h | h
    · exact ⟨(hok6 r h).1, by rw [(hok6 r h).2, hLl]⟩
    · exact hokN r h
end
set_option maxHeartbeats 4000000 in
theorem all_mk {l : PySem.W.OpenLaw} {w : World} {K : PySem.W.Frag} {h : Heap} {mg : Str → Option Value} {fa : Addr} (X : K.In h) (G : h.Ns mainGlobals mg) (hfa : mg "law" = some (.ref fa))
    {f1 : Addr} {od1 an1 : Option Addr} {sl1 : Array (Option Value)} {oc1 kV1 dc1 pm1 cd1 ct1 : Value} {f2 : Addr} {od2 an2 : Option Addr} {sl2 : Array (Option Value)} {oc2 kV2 dc2 pm2 cd2 ct2 : Value} {f3 : Addr} {od3 an3 : Option Addr} {sl3 : Array (Option Value)} {oc3 kV3 dc3 pm3 cd3 ct3 : Value} {f4 : Addr} {od4 an4 : Option Addr} {sl4 : Array (Option Value)} {oc4 kV4 dc4 pm4 cd4 ct4 : Value} {f5 : Addr} {od5 an5 : Option Addr} {sl5 : Array (Option Value)} {oc5 kV5 dc5 pm5 cd5 ct5 : Value} {f6 : Addr} {od6 an6 : Option Addr} {sl6 : Array (Option Value)} {oc6 kV6 dc6 pm6 cd6 ct6 : Value} {f7 : Addr} {od7 an7 : Option Addr} {sl7 : Array (Option Value)} {oc7 kV7 dc7 pm7 cd7 ct7 : Value} {f8 : Addr} {od8 an8 : Option Addr} {sl8 : Array (Option Value)} {oc8 kV8 dc8 pm8 cd8 ct8 : Value} {f9 : Addr} {od9 an9 : Option Addr} {sl9 : Array (Option Value)} {oc9 kV9 dc9 pm9 cd9 ct9 : Value} {f10 : Addr} {od10 an10 : Option Addr} {sl10 : Array (Option Value)} {oc10 kV10 dc10 pm10 cd10 ct10 : Value} {f11 : Addr} {od11 an11 : Option Addr} {sl11 : Array (Option Value)} {oc11 kV11 dc11 pm11 cd11 ct11 : Value} {f12 : Addr} {od12 an12 : Option Addr} {sl12 : Array (Option Value)} {oc12 kV12 dc12 pm12 cd12 ct12 : Value} {f13 : Addr} {od13 an13 : Option Addr} {sl13 : Array (Option Value)} {oc13 kV13 dc13 pm13 cd13 ct13 : Value} {f14 : Addr} {od14 an14 : Option Addr} {sl14 : Array (Option Value)} {oc14 kV14 dc14 pm14 cd14 ct14 : Value} {f15 : Addr} {od15 an15 : Option Addr} {sl15 : Array (Option Value)} {oc15 kV15 dc15 pm15 cd15 ct15 : Value} {f16 : Addr} {od16 an16 : Option Addr} {sl16 : Array (Option Value)} {oc16 kV16 dc16 pm16 cd16 ct16 : Value} {f17 : Addr} {od17 an17 : Option Addr} {sl17 : Array (Option Value)} {oc17 kV17 dc17 pm17 cd17 ct17 : Value} {f18 : Addr} {od18 an18 : Option Addr} {sl18 : Array (Option Value)} {oc18 kV18 dc18 pm18 cd18 ct18 : Value} {f19 : Addr} {od19 an19 : Option Addr} {sl19 : Array (Option Value)} {oc19 kV19 dc19 pm19 cd19 ct19 : Value} {f20 : Addr} {od20 an20 : Option Addr} {sl20 : Array (Option Value)} {oc20 kV20 dc20 pm20 cd20 ct20 : Value} {f21 : Addr} {od21 an21 : Option Addr} {sl21 : Array (Option Value)} {oc21 kV21 dc21 pm21 cd21 ct21 : Value} {f22 : Addr} {od22 an22 : Option Addr} {sl22 : Array (Option Value)} {oc22 kV22 dc22 pm22 cd22 ct22 : Value} {f23 : Addr} {od23 an23 : Option Addr} {sl23 : Array (Option Value)} {oc23 kV23 dc23 pm23 cd23 ct23 : Value} {f24 : Addr} {od24 an24 : Option Addr} {sl24 : Array (Option Value)} {oc24 kV24 dc24 pm24 cd24 ct24 : Value} {f25 : Addr} {od25 an25 : Option Addr} {sl25 : Array (Option Value)} {oc25 kV25 dc25 pm25 cd25 ct25 : Value} {tg0 : Tok} {CBadWay : Addr} {CSearch : Addr}
    (a1 : PySem.W.nsIn K mainGlobals "_law_draw" = some (some (.ref f1)))
    (l1 : K.lookup f1 = some ⟨oc1, od1, .func (PySem.W.fnOf "_law_draw" "_law_draw" (defArgs s_law_draw) (defBody s_law_draw) (defScope s_law_draw) .none kV1 dc1 pm1 an1 cd1 ct1), sl1⟩)
    (c1 : PySem.W.codeIn K cd1 "_law_draw" = true) (k1 : PySem.W.keepIn K (.ref f1) = true)
    (a2 : PySem.W.nsIn K mainGlobals "_law_cell" = some (some (.ref f2)))
    (l2 : K.lookup f2 = some ⟨oc2, od2, .func (PySem.W.fnOf "_law_cell" "_law_cell" (defArgs s_law_cell) (defBody s_law_cell) (defScope s_law_cell) .none kV2 dc2 pm2 an2 cd2 ct2), sl2⟩)
    (c2 : PySem.W.codeIn K cd2 "_law_cell" = true) (k2 : PySem.W.keepIn K (.ref f2) = true)
    (a3 : PySem.W.nsIn K mainGlobals "_law_many" = some (some (.ref f3)))
    (l3 : K.lookup f3 = some ⟨oc3, od3, .func (PySem.W.fnOf "_law_many" "_law_many" (defArgs s_law_many) (defBody s_law_many) (defScope s_law_many) .none kV3 dc3 pm3 an3 cd3 ct3), sl3⟩)
    (c3 : PySem.W.codeIn K cd3 "_law_many" = true) (k3 : PySem.W.keepIn K (.ref f3) = true)
    (a4 : PySem.W.nsIn K mainGlobals "is_way" = some (some (.ref f4)))
    (l4 : K.lookup f4 = some ⟨oc4, od4, .func (PySem.W.fnOf "is_way" "is_way" (defArgs sis_way) (defBody sis_way) (defScope sis_way) .none kV4 dc4 pm4 an4 cd4 ct4), sl4⟩)
    (c4 : PySem.W.codeIn K cd4 "is_way" = true) (k4 : PySem.W.keepIn K (.ref f4) = true)
    (a5 : PySem.W.nsIn K mainGlobals "check_way" = some (some (.ref f5)))
    (l5 : K.lookup f5 = some ⟨oc5, od5, .func (PySem.W.fnOf "check_way" "check_way" (defArgs scheck_way) (defBody scheck_way) (defScope scheck_way) .none kV5 dc5 pm5 an5 cd5 ct5), sl5⟩)
    (c5 : PySem.W.codeIn K cd5 "check_way" = true) (k5 : PySem.W.keepIn K (.ref f5) = true)
    (a6 : PySem.W.nsIn K mainGlobals "check_way_of" = some (some (.ref f6)))
    (l6 : K.lookup f6 = some ⟨oc6, od6, .func (PySem.W.fnOf "check_way_of" "check_way_of" (defArgs scheck_way_of) (defBody scheck_way_of) (defScope scheck_way_of) .none kV6 dc6 pm6 an6 cd6 ct6), sl6⟩)
    (c6 : PySem.W.codeIn K cd6 "check_way_of" = true) (k6 : PySem.W.keepIn K (.ref f6) = true)
    (a7 : PySem.W.nsIn K mainGlobals "gains" = some (some (.ref f7)))
    (l7 : K.lookup f7 = some ⟨oc7, od7, .func (PySem.W.fnOf "gains" "gains" (defArgs sgains) (defBody sgains) (defScope sgains) .none kV7 dc7 pm7 an7 cd7 ct7), sl7⟩)
    (c7 : PySem.W.codeIn K cd7 "gains" = true) (k7 : PySem.W.keepIn K (.ref f7) = true)
    (a8 : PySem.W.findIn K (.ref CSearch) "__init__" = some (some (.ref f8))) (i8 : PySem.W.isFn K (.ref f8) = true)
    (l8 : K.lookup f8 = some ⟨oc8, od8, .func (PySem.W.fnOf "__init__" "Search.__init__" (defArgs sSearch___init__) (defBody sSearch___init__) (defScope sSearch___init__) .none kV8 dc8 pm8 an8 cd8 ct8), sl8⟩)
    (c8 : PySem.W.codeIn K cd8 "Search.__init__" = true) (k8 : PySem.W.keepIn K (.ref f8) = true)
    (a9 : PySem.W.findIn K (.ref CSearch) "follow" = some (some (.ref f9))) (i9 : PySem.W.isFn K (.ref f9) = true)
    (l9 : K.lookup f9 = some ⟨oc9, od9, .func (PySem.W.fnOf "follow" "Search.follow" (defArgs sSearch_follow) (defBody sSearch_follow) (defScope sSearch_follow) .none kV9 dc9 pm9 an9 cd9 ct9), sl9⟩)
    (c9 : PySem.W.codeIn K cd9 "Search.follow" = true) (k9 : PySem.W.keepIn K (.ref f9) = true)
    (a10 : PySem.W.nsIn K mainGlobals "council" = some (some (.ref f10)))
    (l10 : K.lookup f10 = some ⟨oc10, od10, .func (PySem.W.fnOf "council" "council" (defArgs scouncil) (defBody scouncil) (defScope scouncil) .none kV10 dc10 pm10 an10 cd10 ct10), sl10⟩)
    (c10 : PySem.W.codeIn K cd10 "council" = true) (k10 : PySem.W.keepIn K (.ref f10) = true)
    (a11 : PySem.W.nsIn K mainGlobals "_law_num" = some (some (.ref f11)))
    (l11 : K.lookup f11 = some ⟨oc11, od11, .func (PySem.W.fnOf "_law_num" "_law_num" (defArgs s_law_num) (defBody s_law_num) (defScope s_law_num) .none kV11 dc11 pm11 an11 cd11 ct11), sl11⟩)
    (c11 : PySem.W.codeIn K cd11 "_law_num" = true) (k11 : PySem.W.keepIn K (.ref f11) = true)
    (a12 : PySem.W.nsIn K mainGlobals "_law_row_ok" = some (some (.ref f12)))
    (l12 : K.lookup f12 = some ⟨oc12, od12, .func (PySem.W.fnOf "_law_row_ok" "_law_row_ok" (defArgs s_law_row_ok) (defBody s_law_row_ok) (defScope s_law_row_ok) .none kV12 dc12 pm12 an12 cd12 ct12), sl12⟩)
    (c12 : PySem.W.codeIn K cd12 "_law_row_ok" = true) (k12 : PySem.W.keepIn K (.ref f12) = true)
    (a13 : PySem.W.nsIn K mainGlobals "_law_way_ok" = some (some (.ref f13)))
    (l13 : K.lookup f13 = some ⟨oc13, od13, .func (PySem.W.fnOf "_law_way_ok" "_law_way_ok" (defArgs s_law_way_ok) (defBody s_law_way_ok) (defScope s_law_way_ok) .none kV13 dc13 pm13 an13 cd13 ct13), sl13⟩)
    (c13 : PySem.W.codeIn K cd13 "_law_way_ok" = true) (k13 : PySem.W.keepIn K (.ref f13) = true)
    (a14 : PySem.W.nsIn K mainGlobals "_law_way" = some (some (.ref f14)))
    (l14 : K.lookup f14 = some ⟨oc14, od14, .func (PySem.W.fnOf "_law_way" "_law_way" (defArgs s_law_way) (defBody s_law_way) (defScope s_law_way) .none kV14 dc14 pm14 an14 cd14 ct14), sl14⟩)
    (c14 : PySem.W.codeIn K cd14 "_law_way" = true) (k14 : PySem.W.keepIn K (.ref f14) = true)
    (a15 : PySem.W.nsIn K mainGlobals "_law_pairs" = some (some (.ref f15)))
    (l15 : K.lookup f15 = some ⟨oc15, od15, .func (PySem.W.fnOf "_law_pairs" "_law_pairs" (defArgs s_law_pairs) (defBody s_law_pairs) (defScope s_law_pairs) .none kV15 dc15 pm15 an15 cd15 ct15), sl15⟩)
    (c15 : PySem.W.codeIn K cd15 "_law_pairs" = true) (k15 : PySem.W.keepIn K (.ref f15) = true)
    (a16 : PySem.W.nsIn K mainGlobals "_law_all" = some (some (.ref f16)))
    (l16 : K.lookup f16 = some ⟨oc16, od16, .func (PySem.W.fnOf "_law_all" "_law_all" (defArgs s_law_all) (defBody s_law_all) (defScope s_law_all) .none kV16 dc16 pm16 an16 cd16 ct16), sl16⟩)
    (c16 : PySem.W.codeIn K cd16 "_law_all" = true) (k16 : PySem.W.keepIn K (.ref f16) = true)
    (a17 : PySem.W.nsIn K mainGlobals "_law_number_row" = some (some (.ref f17)))
    (l17 : K.lookup f17 = some ⟨oc17, od17, .func (PySem.W.fnOf "_law_number_row" "_law_number_row" (defArgs s_law_number_row) (defBody s_law_number_row) (defScope s_law_number_row) .none kV17 dc17 pm17 an17 cd17 ct17), sl17⟩)
    (c17 : PySem.W.codeIn K cd17 "_law_number_row" = true) (k17 : PySem.W.keepIn K (.ref f17) = true)
    (a18 : PySem.W.nsIn K mainGlobals "_law_lots" = some (some (.ref f18)))
    (l18 : K.lookup f18 = some ⟨oc18, od18, .func (PySem.W.fnOf "_law_lots" "_law_lots" (defArgs s_law_lots) (defBody s_law_lots) (defScope s_law_lots) .none kV18 dc18 pm18 an18 cd18 ct18), sl18⟩)
    (c18 : PySem.W.codeIn K cd18 "_law_lots" = true) (k18 : PySem.W.keepIn K (.ref f18) = true)
    (a19 : PySem.W.nsIn K mainGlobals "_law_joinings" = some (some (.ref f19)))
    (l19 : K.lookup f19 = some ⟨oc19, od19, .func (PySem.W.fnOf "_law_joinings" "_law_joinings" (defArgs s_law_joinings) (defBody s_law_joinings) (defScope s_law_joinings) .none kV19 dc19 pm19 an19 cd19 ct19), sl19⟩)
    (c19 : PySem.W.codeIn K cd19 "_law_joinings" = true) (k19 : PySem.W.keepIn K (.ref f19) = true)
    (a20 : PySem.W.nsIn K mainGlobals "_law_pair_table" = some (some (.ref f20)))
    (l20 : K.lookup f20 = some ⟨oc20, od20, .func (PySem.W.fnOf "_law_pair_table" "_law_pair_table" (defArgs s_law_pair_table) (defBody s_law_pair_table) (defScope s_law_pair_table) .none kV20 dc20 pm20 an20 cd20 ct20), sl20⟩)
    (c20 : PySem.W.codeIn K cd20 "_law_pair_table" = true) (k20 : PySem.W.keepIn K (.ref f20) = true)
    (a21 : PySem.W.nsIn K mainGlobals "_law_sum_with" = some (some (.ref f21)))
    (l21 : K.lookup f21 = some ⟨oc21, od21, .func (PySem.W.fnOf "_law_sum_with" "_law_sum_with" (defArgs s_law_sum_with) (defBody s_law_sum_with) (defScope s_law_sum_with) .none kV21 dc21 pm21 an21 cd21 ct21), sl21⟩)
    (c21 : PySem.W.codeIn K cd21 "_law_sum_with" = true) (k21 : PySem.W.keepIn K (.ref f21) = true)
    (a22 : PySem.W.nsIn K mainGlobals "_law_put" = some (some (.ref f22)))
    (l22 : K.lookup f22 = some ⟨oc22, od22, .func (PySem.W.fnOf "_law_put" "_law_put" (defArgs s_law_put) (defBody s_law_put) (defScope s_law_put) .none kV22 dc22 pm22 an22 cd22 ct22), sl22⟩)
    (c22 : PySem.W.codeIn K cd22 "_law_put" = true) (k22 : PySem.W.keepIn K (.ref f22) = true)
    (a23 : PySem.W.nsIn K mainGlobals "_law_near_ways" = some (some (.ref f23)))
    (l23 : K.lookup f23 = some ⟨oc23, od23, .func (PySem.W.fnOf "_law_near_ways" "_law_near_ways" (defArgs s_law_near_ways) (defBody s_law_near_ways) (defScope s_law_near_ways) .none kV23 dc23 pm23 an23 cd23 ct23), sl23⟩)
    (c23 : PySem.W.codeIn K cd23 "_law_near_ways" = true) (k23 : PySem.W.keepIn K (.ref f23) = true)
    (a24 : PySem.W.nsIn K mainGlobals "_law_first_best" = some (some (.ref f24)))
    (l24 : K.lookup f24 = some ⟨oc24, od24, .func (PySem.W.fnOf "_law_first_best" "_law_first_best" (defArgs s_law_first_best) (defBody s_law_first_best) (defScope s_law_first_best) .none kV24 dc24 pm24 an24 cd24 ct24), sl24⟩)
    (c24 : PySem.W.codeIn K cd24 "_law_first_best" = true) (k24 : PySem.W.keepIn K (.ref f24) = true)
    (a25 : PySem.W.nsIn K mainGlobals "law" = some (some (.ref f25)))
    (l25 : K.lookup f25 = some ⟨oc25, od25, .func (PySem.W.fnOf "law" "law" (defArgs slaw) (defBody slaw) (defScope slaw) .none kV25 dc25 pm25 an25 cd25 ct25), sl25⟩)
    (c25 : PySem.W.codeIn K cd25 "law" = true) (k25 : PySem.W.keepIn K (.ref f25) = true)
    (z0 : PySem.W.nsIn K mainGlobals "all" = some none)
    (z1 : PySem.W.nsIn K mainGlobals "bool" = some none)
    (z2 : PySem.W.nsIn K mainGlobals "int" = some none)
    (z3 : PySem.W.nsIn K mainGlobals "isinstance" = some none)
    (z4 : PySem.W.nsIn K mainGlobals "len" = some none)
    (z5 : PySem.W.nsIn K mainGlobals "list" = some none)
    (z6 : PySem.W.nsIn K mainGlobals "max" = some none)
    (z7 : PySem.W.nsIn K mainGlobals "min" = some none)
    (z8 : PySem.W.nsIn K mainGlobals "range" = some none)
    (z9 : PySem.W.nsIn K mainGlobals "sorted" = some none)
    (z10 : PySem.W.nsIn K mainGlobals "sum" = some none)
    (z11 : PySem.W.nsIn K mainGlobals "tuple" = some none)
    (z12 : PySem.W.nsIn K mainGlobals "zip" = some none)
    (mc0 : PySem.W.nsIn K mainGlobals "MOST_CENSERS" = some (some (.int 9 tg0)))
    (xmBadWay : PySem.W.nsIn K mainGlobals "BadWay" = some (some (.ref CBadWay))) (xqBadWay : PySem.W.excIn K CBadWay bmV "ValueError.__new__" = true)
    (oaSearch : PySem.W.nsIn K mainGlobals "Search" = some (some (.ref CSearch))) (opSearch : PySem.W.plainGet K CSearch Str.empty = true) (ohSearch : PySem.W.hasDictIn K CSearch = true) (ooSearch : PySem.W.plainOver K CSearch = true) (osSearch : PySem.W.findIn K (.ref CSearch) "__setattr__" = some (some (.builtin "object.__setattr__"))) (okSearch : PySem.W.makesIn K CSearch = true) (ocSearch : PySem.W.keepIn K (.ref CSearch) = true)
    (onSearch_table : PySem.W.findIn K (.ref CSearch) "table" = some none)
    (onSearch_outlook : PySem.W.findIn K (.ref CSearch) "outlook" = some none)
    (onSearch_greatest : PySem.W.findIn K (.ref CSearch) "greatest" = some none)
    (onSearch_leader : PySem.W.findIn K (.ref CSearch) "leader" = some none) :
    ∃ fd : FuncData, (∀ (s : Shared) (v : Value), BindsTo s fd ⟨[v], []⟩ [("_law_script", v)]) ∧ ∀ base : Heap, K.In base → base.Ns mainGlobals mg → FnOk l.prog w K mg base CX0 20 fa fd ["_law_script"] (spLaw K) := by
  have e := hfa.symm.trans (PySem.W.mg_of X G a25)
  cases e
  have B : Bs mg := ⟨PySem.W.mg_none_of X G z0, PySem.W.mg_none_of X G z1, PySem.W.mg_none_of X G z2, PySem.W.mg_none_of X G z3, PySem.W.mg_none_of X G z4, PySem.W.mg_none_of X G z5, PySem.W.mg_none_of X G z6, PySem.W.mg_none_of X G z7, PySem.W.mg_none_of X G z8, PySem.W.mg_none_of X G z9, PySem.W.mg_none_of X G z10, PySem.W.mg_none_of X G z11, PySem.W.mg_none_of X G z12⟩
  have T : Gs mg := ⟨trivial, ⟨_, PySem.W.mg_of X G mc0⟩⟩
  have mBadWay := PySem.W.mg_of X G xmBadWay
  have clSearch : Cls K CSearch := ⟨opSearch, ohSearch, ooSearch, osSearch⟩
  refine ⟨PySem.W.fnOf "law" "law" (defArgs slaw) (defBody slaw) (defScope slaw) .none kV25 dc25 pm25 an25 cd25 ct25, fun s v => .of_eq rfl, fun base _ _ => ?_⟩
  have F1 := fun_mk (st := s_law_draw) l1 c1 k1
  have C1 : Cal l.prog w K mg base 1 "_law_draw" [] (spDraw K) := F1.cal (ok_law_draw F1 B T mBadWay xqBadWay  clSearch onSearch_table onSearch_outlook onSearch_greatest onSearch_leader ) (PySem.W.mg_of X G a1) (fun _ _ _ _ _ _ us hl => match us, hl with | [_, _], _ => rfl)
  have F2 := fun_mk (st := s_law_cell) l2 c2 k2
  have C2 : Cal l.prog w K mg base 1 "_law_cell" [] (spCell K) := F2.cal (ok_law_cell F2 B T mBadWay xqBadWay  clSearch onSearch_table onSearch_outlook onSearch_greatest onSearch_leader ) (PySem.W.mg_of X G a2) (fun _ _ _ _ _ _ us hl => match us, hl with | [_, _], _ => rfl)
  have F3 := fun_mk (st := s_law_many) l3 c3 k3
  have C3 : Cal l.prog w K mg base 1 "_law_many" [] (spMany K) := F3.cal (ok_law_many F3 B T mBadWay xqBadWay  clSearch onSearch_table onSearch_outlook onSearch_greatest onSearch_leader ) (PySem.W.mg_of X G a3) (fun _ _ _ _ _ _ us hl => match us, hl with | [_, _], _ => rfl)
  have F4 := fun_mk (st := sis_way) l4 c4 k4
  have C4 : Cal l.prog w K mg base 1 "is_way" [] (spIsWay K) := F4.cal (okis_way F4 B T mBadWay xqBadWay  clSearch onSearch_table onSearch_outlook onSearch_greatest onSearch_leader ) (PySem.W.mg_of X G a4) (fun _ _ _ _ _ _ us hl => match us, hl with | [_], _ => rfl)
  have F5 := fun_mk (st := scheck_way) l5 c5 k5
  have C5 : Cal l.prog w K mg base 2 "check_way" [] (spCheckWay K) := F5.cal (okcheck_way F5 B T mBadWay xqBadWay  clSearch onSearch_table onSearch_outlook onSearch_greatest onSearch_leader C4) (PySem.W.mg_of X G a5) (fun _ _ _ _ _ _ us hl => match us, hl with | [_], _ => rfl)
  have F6 := fun_mk (st := scheck_way_of) l6 c6 k6
  have C6 : CalE l.prog w K mg base 3 "check_way_of" [] (spCheckOfE K CBadWay) := F6.calE (okcheck_way_of F6 B T mBadWay xqBadWay  clSearch onSearch_table onSearch_outlook onSearch_greatest onSearch_leader C5) (PySem.W.mg_of X G a6) (fun _ _ _ _ _ _ us hl => match us, hl with | [_, _], _ => rfl)
  have F7 := fun_mk (st := sgains) l7 c7 k7
  have C7 : Cal l.prog w K mg base 1 "gains" [] (spGains K) := F7.cal (okgains F7 B T mBadWay xqBadWay  clSearch onSearch_table onSearch_outlook onSearch_greatest onSearch_leader ) (PySem.W.mg_of X G a7) (fun _ _ _ _ _ _ us hl => match us, hl with | [_], _ => rfl)
  have F8 := fun_mk (st := sSearch___init__) l8 c8 k8
  have b8 := F8.binds (ps := ["self", "table"]) fun _ _ _ _ _ _ us hl => match us, hl with | [_, _], _ => rfl
  have C8 : CalK l.prog w K mg base CSearch 1 "Search" (spSInit K CSearch) := ⟨f8, _, _, okSearch___init__ F8 B T mBadWay xqBadWay  clSearch onSearch_table onSearch_outlook onSearch_greatest onSearch_leader , ⟨okSearch, a8, i8, ocSearch⟩, PySem.W.mg_of X G oaSearch, b8⟩
  have F9 := fun_mk (st := sSearch_follow) l9 c9 k9
  have b9 := F9.binds (ps := ["self", "row", "total"]) fun _ _ _ _ _ _ us hl => match us, hl with | [_, _, _], _ => rfl
  have R9 : ∀ dd : Nat, CalM l.prog w K mg base CSearch (1 + dd) "follow" (spFollow K CSearch dd) := fun dd => by
    induction dd with
    | zero => exact ⟨f9, _, ["self", "row", "total"], ⟨fun _ _ _ _ h => absurd h.1 (by decide), fun _ _ _ _ _ _ _ _ _ _ _ _ _ h => absurd h.1 (by decide)⟩, ⟨a9, i9, k9⟩, b9⟩
    | succ dd ih => exact ⟨f9, _, ["self", "row", "total"], okSearch_follow F9 B T mBadWay xqBadWay  clSearch onSearch_table onSearch_outlook onSearch_greatest onSearch_leader ih, ⟨a9, i9, k9⟩, b9⟩
  have C9 := R9 11
  have F10 := fun_mk (st := scouncil) l10 c10 k10
  have C10 : CalE l.prog w K mg base 14 "council" [] (spCouncilE K CBadWay) := F10.calE (okcouncil F10 B T mBadWay xqBadWay  clSearch onSearch_table onSearch_outlook onSearch_greatest onSearch_leader C8 C9 C5 C6 C7) (PySem.W.mg_of X G a10) (fun _ _ _ _ _ _ us hl => match us, hl with | [_], _ => rfl)
  have F11 := fun_mk (st := s_law_num) l11 c11 k11
  have C11 : Cal l.prog w K mg base 1 "_law_num" [] spNum := F11.cal (ok_law_num F11 B T mBadWay xqBadWay  clSearch onSearch_table onSearch_outlook onSearch_greatest onSearch_leader ) (PySem.W.mg_of X G a11) (fun _ _ _ _ _ _ us hl => match us, hl with | [_], _ => rfl)
  have F12 := fun_mk (st := s_law_row_ok) l12 c12 k12
  have C12 : Cal l.prog w K mg base 1 "_law_row_ok" [] (spRowOk K) := F12.cal (ok_law_row_ok F12 B T mBadWay xqBadWay  clSearch onSearch_table onSearch_outlook onSearch_greatest onSearch_leader ) (PySem.W.mg_of X G a12) (fun _ _ _ _ _ _ us hl => match us, hl with | [_], _ => rfl)
  have F13 := fun_mk (st := s_law_way_ok) l13 c13 k13
  have C13 : Cal l.prog w K mg base 2 "_law_way_ok" [] (spWayOkS K) := F13.cal (ok_law_way_ok F13 B T mBadWay xqBadWay  clSearch onSearch_table onSearch_outlook onSearch_greatest onSearch_leader C11 C12) (PySem.W.mg_of X G a13) (fun _ _ _ _ _ _ us hl => match us, hl with | [_, _], _ => rfl)
  have F14 := fun_mk (st := s_law_way) l14 c14 k14
  have C14 : Cal l.prog w K mg base 2 "_law_way" [] (spWay K) := F14.cal (ok_law_way F14 B T mBadWay xqBadWay  clSearch onSearch_table onSearch_outlook onSearch_greatest onSearch_leader C1) (PySem.W.mg_of X G a14) (fun _ _ _ _ _ _ us hl => match us, hl with | [_, _], _ => rfl)
  have F15 := fun_mk (st := s_law_pairs) l15 c15 k15
  have C15 : Cal l.prog w K mg base 1 "_law_pairs" [] (spPairs K) := F15.cal (ok_law_pairs F15 B T mBadWay xqBadWay  clSearch onSearch_table onSearch_outlook onSearch_greatest onSearch_leader ) (PySem.W.mg_of X G a15) (fun _ _ _ _ _ _ us hl => match us, hl with | [_], _ => rfl)
  have F16 := fun_mk (st := s_law_all) l16 c16 k16
  have C16 : Cal l.prog w K mg base 1 "_law_all" [] (spAllW K) := F16.cal (ok_law_all F16 B T mBadWay xqBadWay  clSearch onSearch_table onSearch_outlook onSearch_greatest onSearch_leader ) (PySem.W.mg_of X G a16) (fun _ _ _ _ _ _ us hl => match us, hl with | [_], _ => rfl)
  have F17 := fun_mk (st := s_law_number_row) l17 c17 k17
  have C17 : Cal l.prog w K mg base 1 "_law_number_row" [] (spNumRow K) := F17.cal (ok_law_number_row F17 B T mBadWay xqBadWay  clSearch onSearch_table onSearch_outlook onSearch_greatest onSearch_leader ) (PySem.W.mg_of X G a17) (fun _ _ _ _ _ _ us hl => match us, hl with | [_], _ => rfl)
  have F18 := fun_mk (st := s_law_lots) l18 c18 k18
  have C18 : Cal l.prog w K mg base 1 "_law_lots" [] (spLLots K) := F18.cal (ok_law_lots F18 B T mBadWay xqBadWay  clSearch onSearch_table onSearch_outlook onSearch_greatest onSearch_leader ) (PySem.W.mg_of X G a18) (fun _ _ _ _ _ _ us hl => match us, hl with | [_], _ => rfl)
  have F19 := fun_mk (st := s_law_joinings) l19 c19 k19
  have C19 : Cal l.prog w K mg base 3 "_law_joinings" [] (spLJoinsN K) := F19.cal (ok_law_joinings F19 B T mBadWay xqBadWay  clSearch onSearch_table onSearch_outlook onSearch_greatest onSearch_leader C17 C15) (PySem.W.mg_of X G a19) (fun _ _ _ _ _ _ us hl => match us, hl with | [_], _ => rfl)
  have F20 := fun_mk (st := s_law_pair_table) l20 c20 k20
  have C20 : Cal l.prog w K mg base 2 "_law_pair_table" [] (spPairTab K) := F20.cal (ok_law_pair_table F20 B T mBadWay xqBadWay  clSearch onSearch_table onSearch_outlook onSearch_greatest onSearch_leader C15) (PySem.W.mg_of X G a20) (fun _ _ _ _ _ _ us hl => match us, hl with | [_], _ => rfl)
  have F21 := fun_mk (st := s_law_sum_with) l21 c21 k21
  have C21 : Cal l.prog w K mg base 2 "_law_sum_with" [] (spSumWith K) := F21.cal (ok_law_sum_with F21 B T mBadWay xqBadWay  clSearch onSearch_table onSearch_outlook onSearch_greatest onSearch_leader C15) (PySem.W.mg_of X G a21) (fun _ _ _ _ _ _ us hl => match us, hl with | [_, _, _], _ => rfl)
  have F22 := fun_mk (st := s_law_put) l22 c22 k22
  have C22 : Cal l.prog w K mg base 2 "_law_put" [] (spPutW K) := F22.cal (ok_law_put F22 B T mBadWay xqBadWay  clSearch onSearch_table onSearch_outlook onSearch_greatest onSearch_leader C17) (PySem.W.mg_of X G a22) (fun _ _ _ _ _ _ us hl => match us, hl with | [_, _, _], _ => rfl)
  have F23 := fun_mk (st := s_law_near_ways) l23 c23 k23
  have C23 : Cal l.prog w K mg base 4 "_law_near_ways" [] (spNearW K) := F23.cal (ok_law_near_ways F23 B T mBadWay xqBadWay  clSearch onSearch_table onSearch_outlook onSearch_greatest onSearch_leader C1 C19 C18 C17 C22) (PySem.W.mg_of X G a23) (fun _ _ _ _ _ _ us hl => match us, hl with | [_, _], _ => rfl)
  have F24 := fun_mk (st := s_law_first_best) l24 c24 k24
  have C24 : Cal l.prog w K mg base 3 "_law_first_best" [] (spFirstBest K) := F24.cal (ok_law_first_best F24 B T mBadWay xqBadWay  clSearch onSearch_table onSearch_outlook onSearch_greatest onSearch_leader C20 C21 C13) (PySem.W.mg_of X G a24) (fun _ _ _ _ _ _ us hl => match us, hl with | [_, _, _], _ => rfl)
  have F25 := fun_mk (st := slaw) l25 c25 k25
  exact oklaw F25 B T mBadWay xqBadWay  clSearch onSearch_table onSearch_outlook onSearch_greatest onSearch_leader C16 C2 C1 C24 C3 C23 C14 C13 C10
theorem walk {l : PySem.W.OpenLaw} {q : Program} {loose : List Str} {XP : (Str → Option Value) → Heap → Prop} {YP : World → Heap → Prop} {d : DefRec} {K : Params → PySem.W.Frag} (hn : l.most = some 63) (hdf : d.params.defaults = [])
    (hY : ∀ (w : World) (h : Heap), YP w h → (K w.params).In h)
    (F : ∀ (w : World) (mg : Str → Option Value) (fa : Addr) (h : Heap), (K w.params).In h → h.Ns mainGlobals mg → mg d.name = some (.ref fa) →
      ∃ fd : FuncData, (∀ (s : Shared) (u : Value), BindsTo s fd ⟨[u], []⟩ [("_law_script", u)]) ∧ ∀ base : Heap, (K w.params).In base → base.Ns mainGlobals mg → FnOk l.prog w (K w.params) mg base CX0 20 fa fd ["_law_script"] (spLaw (K w.params))) :
    PySem.W.WalkO q loose XP YP l.row.toRowW d [] (fun f vs => PySem.call f vs) :=
  L2.walk_of (n := 63) (k := 20) (x := "_law_script") (CX := fun _ => CX0) (sp := fun w => spLaw (K w.params)) hn (by decide) hdf ⟨rfl, by decide, by decide⟩ hY F (fun _ _ a ns hl _ hS => ⟨a, ns, rfl, hS, hl, fun _ => rfl⟩) fun _ _ _ _ _ z => z
end Lw
open PySem PySem.W PyProof.Rows
set_option maxRecDepth 100000 in
set_option maxHeartbeats 0 in
theorem PySem.Challenge.cw_censers_k49_whole_councils_of_all_ways_holds : PySem.Challenge.rw_censers_k49_whole_councils_of_all_ways.Holds := by
  w_on; o_law; k_head; (case hw => w_witness2)
  k_fill
  refine Lw.walk (l := PySem.Challenge.rw_censers_k49_whole_councils_of_all_ways) rfl rfl (fun w h Y => PySem.W.kIn_of Y) ?F
  case F =>
    intro w mg fa h KX G hmg
    refine' Lw.all_mk KX G hmg ?a1 ?l1 ?c1 ?k1 ?a2 ?l2 ?c2 ?k2 ?a3 ?l3 ?c3 ?k3 ?a4 ?l4 ?c4 ?k4 ?a5 ?l5 ?c5 ?k5 ?a6 ?l6 ?c6 ?k6 ?a7 ?l7 ?c7 ?k7 ?a8 ?i8 ?l8 ?c8 ?k8 ?a9 ?i9 ?l9 ?c9 ?k9 ?a10 ?l10 ?c10 ?k10 ?a11 ?l11 ?c11 ?k11 ?a12 ?l12 ?c12 ?k12 ?a13 ?l13 ?c13 ?k13 ?a14 ?l14 ?c14 ?k14 ?a15 ?l15 ?c15 ?k15 ?a16 ?l16 ?c16 ?k16 ?a17 ?l17 ?c17 ?k17 ?a18 ?l18 ?c18 ?k18 ?a19 ?l19 ?c19 ?k19 ?a20 ?l20 ?c20 ?k20 ?a21 ?l21 ?c21 ?k21 ?a22 ?l22 ?c22 ?k22 ?a23 ?l23 ?c23 ?k23 ?a24 ?l24 ?c24 ?k24 ?a25 ?l25 ?c25 ?k25 ?z0 ?z1 ?z2 ?z3 ?z4 ?z5 ?z6 ?z7 ?z8 ?z9 ?z10 ?z11 ?z12 ?mc0 ?xmBadWay ?xqBadWay ?oaSearch ?opSearch ?ohSearch ?ooSearch ?osSearch ?okSearch ?ocSearch ?onSearch_table ?onSearch_outlook ?onSearch_greatest ?onSearch_leader
    (case oaSearch => k_is)
    (case a1 => k_is)
    (case l1 => k_is)
    (case c1 => k_is)
    (case k1 => k_is)
    (case a2 => k_is)
    (case l2 => k_is)
    (case c2 => k_is)
    (case k2 => k_is)
    (case a3 => k_is)
    (case l3 => k_is)
    (case c3 => k_is)
    (case k3 => k_is)
    (case a4 => k_is)
    (case l4 => k_is)
    (case c4 => k_is)
    (case k4 => k_is)
    (case a5 => k_is)
    (case l5 => k_is)
    (case c5 => k_is)
    (case k5 => k_is)
    (case a6 => k_is)
    (case l6 => k_is)
    (case c6 => k_is)
    (case k6 => k_is)
    (case a7 => k_is)
    (case l7 => k_is)
    (case c7 => k_is)
    (case k7 => k_is)
    (case a8 => k_is)
    (case i8 => k_is)
    (case l8 => k_is)
    (case c8 => k_is)
    (case k8 => k_is)
    (case a9 => k_is)
    (case i9 => k_is)
    (case l9 => k_is)
    (case c9 => k_is)
    (case k9 => k_is)
    (case a10 => k_is)
    (case l10 => k_is)
    (case c10 => k_is)
    (case k10 => k_is)
    (case a11 => k_is)
    (case l11 => k_is)
    (case c11 => k_is)
    (case k11 => k_is)
    (case a12 => k_is)
    (case l12 => k_is)
    (case c12 => k_is)
    (case k12 => k_is)
    (case a13 => k_is)
    (case l13 => k_is)
    (case c13 => k_is)
    (case k13 => k_is)
    (case a14 => k_is)
    (case l14 => k_is)
    (case c14 => k_is)
    (case k14 => k_is)
    (case a15 => k_is)
    (case l15 => k_is)
    (case c15 => k_is)
    (case k15 => k_is)
    (case a16 => k_is)
    (case l16 => k_is)
    (case c16 => k_is)
    (case k16 => k_is)
    (case a17 => k_is)
    (case l17 => k_is)
    (case c17 => k_is)
    (case k17 => k_is)
    (case a18 => k_is)
    (case l18 => k_is)
    (case c18 => k_is)
    (case k18 => k_is)
    (case a19 => k_is)
    (case l19 => k_is)
    (case c19 => k_is)
    (case k19 => k_is)
    (case a20 => k_is)
    (case l20 => k_is)
    (case c20 => k_is)
    (case k20 => k_is)
    (case a21 => k_is)
    (case l21 => k_is)
    (case c21 => k_is)
    (case k21 => k_is)
    (case a22 => k_is)
    (case l22 => k_is)
    (case c22 => k_is)
    (case k22 => k_is)
    (case a23 => k_is)
    (case l23 => k_is)
    (case c23 => k_is)
    (case k23 => k_is)
    (case a24 => k_is)
    (case l24 => k_is)
    (case c24 => k_is)
    (case k24 => k_is)
    (case a25 => k_is)
    (case l25 => k_is)
    (case c25 => k_is)
    (case k25 => k_is)
    (case z0 => k_is)
    (case z1 => k_is)
    (case z2 => k_is)
    (case z3 => k_is)
    (case z4 => k_is)
    (case z5 => k_is)
    (case z6 => k_is)
    (case z7 => k_is)
    (case z8 => k_is)
    (case z9 => k_is)
    (case z10 => k_is)
    (case z11 => k_is)
    (case z12 => k_is)
    (case mc0 => k_is)
    (case xmBadWay => k_is)
    (case xqBadWay => k_exc)
    (case opSearch => k_is)
    (case ohSearch => k_is)
    (case ooSearch => k_is)
    (case osSearch => k_is)
    (case okSearch => k_is)
    (case ocSearch => k_is)
    (case onSearch_table => k_is)
    (case onSearch_outlook => k_is)
    (case onSearch_greatest => k_is)
    (case onSearch_leader => k_is)
