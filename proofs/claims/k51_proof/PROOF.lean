import PyProof.Rows.All
import Wide.All
import OpenK.AllK
import Wide.FinOn
import Lean
import PyProof.EqAt
import PyProof.EqKinds
import PyProof.TupleCall
import KE.KSortTup
import KE.KRevSl
import KE.KDictSum
import PyProof.NeKinds
import PyProof.Rows.Range3
import PyProof.Rows.SetFrom
import PyProof.Rows.StrItems
import PyProof.StrWalks
import PyProof.EnumMake
import PyProof.FString5
import PyProof.Conv_int_bool
import PyProof.DictStraight
import PyProof.StrLawsIn
import PyProof.Rows.RuleN_abs
import PyProof.Rows.CallKwBuiltin
import PyProof.MinMaxWalk
import PyProof.IsiH_list
import PyProof.AttrMiss
import KE.KDictOf
import PyProof.DictList
import PyProof.TupleIter
import PyProof.Rows.CountFlat
import PyProof.Rows.RuleB_mul
import PyProof.CompFree
import PyProof.DictItemsLoops
import KE.KSortKey
import KE.KDictList
import PySem.Challenge.RW_censers_k51_listeners_come_and_go
set_option Elab.async false
set_option linter.all false
set_option maxRecDepth 100000
namespace L2
open PySem PySem.Spec PyProof.Rows
abbrev Key := Sum Int Str
def keyIs : Key → Value → Bool
  | .inl k, v => Value.isInt k v
  | .inr x, v => Value.isStrOf x v
def keyH (w : World) : Key → Int
  | .inl k => hashInt k
  | .inr x => hashStr w x
theorem keyIs_shape : ∀ {k : Key} {v : Value}, keyIs k v = true → (∃ i t, k = Sum.inl i ∧ v = Value.int i t) ∨ (∃ x t, k = Sum.inr x ∧ v = Value.str x t)
  | .inl i, v, h => by
    obtain ⟨t, e⟩ := Value.isInt_shape (k := i) (v := v) h
    exact .inl ⟨i, t, rfl, e⟩
  | .inr x, v, h => by
    obtain ⟨t, e⟩ := Value.isStrOf_shape (x := x) (v := v) h
    exact .inr ⟨x, t, rfl, e⟩
theorem keyIs_int (i : Int) (t : Tok) : keyIs (.inl i) (.int i t) = true := by simp [keyIs, Value.isInt]
theorem keyIs_str (x : Str) (t : Tok) : keyIs (.inr x) (.str x t) = true := by simp [keyIs, Value.isStrOf]
theorem key_ll (a b : Int) : decide ((Sum.inl a : Key) = Sum.inl b) = (a == b) := by
  by_cases e : a = b
  · subst e; simp
  · have h : ¬ (Sum.inl a : Key) = Sum.inl b := fun q => e (Sum.inl.inj q)
    rw [decide_eq_false h]
    exact (beq_eq_false_iff_ne.mpr e).symm
theorem key_rr (a b : Str) : decide ((Sum.inr a : Key) = Sum.inr b) = decide (a = b) := by
  by_cases e : a = b
  · subst e; simp
  · have h : ¬ (Sum.inr a : Key) = Sum.inr b := fun q => e (Sum.inr.inj q)
    rw [decide_eq_false h, decide_eq_false e]
theorem key_lr (a : Int) (b : Str) : decide ((Sum.inl a : Key) = Sum.inr b) = false := decide_eq_false (fun q => nomatch q)
theorem key_rl (a : Str) (b : Int) : decide ((Sum.inr a : Key) = Sum.inl b) = false := decide_eq_false (fun q => nomatch q)
def mixKind (prog : Program) (w : World) : PySem.KeyKind prog w Key where
  is := keyIs
  hash := keyH w
  inj := fun v a b ha hb => by
    rcases keyIs_shape ha with ⟨i, t, rfl, rfl⟩ | ⟨x, t, rfl, rfl⟩
    · rcases keyIs_shape hb with ⟨j, u, rfl, e⟩ | ⟨y, u, rfl, e⟩
      · injection e with e1 _; rw [e1]
      · exact nomatch e
    · rcases keyIs_shape hb with ⟨j, u, rfl, e⟩ | ⟨y, u, rfl, e⟩
      · exact nomatch e
      · injection e with e1 _; rw [e1]
  byValue := fun k v h => by
    rcases keyIs_shape h with ⟨i, t, rfl, rfl⟩ | ⟨x, t, rfl, rfl⟩ <;> rfl
  pyHash := fun hv h => by
    rcases keyIs_shape hv with ⟨i, t, rfl, rfl⟩ | ⟨x, t, rfl, rfl⟩
    · exact wpAny_pyHash_int h
    · exact wpAny_pyHash_str h
  eqBool := fun hu hv h => by
    rcases keyIs_shape hu with ⟨i, t, rfl, rfl⟩ | ⟨x, t, rfl, rfl⟩
    · rcases keyIs_shape hv with ⟨j, u, rfl, rfl⟩ | ⟨y, u, rfl, rfl⟩
      · rw [key_ll] at h; exact wpAny_eqBool_int h
      · rw [key_lr] at h; exact SeqAt.EqAt.int_str i t y u _ _ _ _ h
    · rcases keyIs_shape hv with ⟨j, u, rfl, rfl⟩ | ⟨y, u, rfl, rfl⟩
      · rw [key_rl] at h; exact SeqAt.EqAt.str_int x t j u _ _ _ _ h
      · rw [key_rr] at h; exact wpAny_eqBool_str h
  «strs» := fun k x t v h => by
    rcases keyIs_shape h with ⟨i, u, rfl, e⟩ | ⟨y, u, rfl, e⟩
    · exact nomatch e
    · injection e with e1 _
      subst e1
      cases v <;> rfl
theorem mixKind_int (prog : Program) (w : World) (i : Int) (t : Tok) : (mixKind prog w).is (.inl i) (.int i t) = true := keyIs_int i t
theorem mixKind_str (prog : Program) (w : World) (x : Str) (t : Tok) : (mixKind prog w).is (.inr x) (.str x t) = true := keyIs_str x t
end L2
namespace L2
open PySem PySem.Spec PyProof.Rows
inductive V where
  | non | bl (b : Bool) | int (i : Int) | str (x : Str) | byt (b : Array UInt8) | flt (b : UInt64) | ref (a : Addr) | ty (n : String)
  deriving DecidableEq
def RelV : V → Value → Prop
  | .non, u => u = Value.none
  | .bl b, u => u = Value.bool b
  | .int i, u => ∃ t, u = Value.int i t
  | .str x, u => ∃ t, u = Value.str x t
  | .byt b, u => ∃ t, u = Value.bytes b t
  | .flt b, u => ∃ t, u = Value.float b t
  | .ref a, u => u = Value.ref a
  | .ty n, u => u = Value.type n
abbrev Vals : List V → List Value → Prop := Paired RelV
theorem Vals.length {xs : List V} {us : List Value} (r : Vals xs us) : xs.length = us.length := Paired.length r
theorem Vals.get : ∀ {xs : List V} {us : List Value} {i : Nat} {x : V}, Vals xs us → xs[i]? = some x → ∃ u, us[i]? = some u ∧ RelV x u
  | _, _, _, _, .nil, e => by simp at e
  | _, _, 0, _, .cons r _, e => by simp at e; subst e; exact ⟨_, rfl, r⟩
  | _, _, i + 1, x, .cons _ t, e => by
    obtain ⟨u, h1, h2⟩ := Vals.get (i := i) (x := x) t (by simpa using e)
    exact ⟨u, by simpa using h1, h2⟩
theorem Vals.set {x : V} {u : Value} (r : RelV x u) : ∀ {xs : List V} {us : List Value} (i : Nat), Vals xs us → Vals (xs.set i x) (us.set i u)
  | _, _, _, .nil => .nil
  | _, _, 0, .cons _ t => .cons r t
  | _, _, i + 1, .cons q t => .cons q (Vals.set r i t)
theorem Vals.append : ∀ {xs ys : List V} {us ws : List Value}, Vals xs us → Vals ys ws → Vals (xs ++ ys) (us ++ ws)
  | _, _, _, _, .nil, s => s
  | _, _, _, _, .cons r t, s => .cons r (Vals.append t s)
theorem Vals.take : ∀ {xs : List V} {us : List Value} (n : Nat), Vals xs us → Vals (xs.take n) (us.take n)
  | _, _, 0, _ => .nil
  | _, _, _ + 1, .nil => .nil
  | _, _, n + 1, .cons r t => .cons r (Vals.take n t)
theorem Vals.drop : ∀ {xs : List V} {us : List Value} (n : Nat), Vals xs us → Vals (xs.drop n) (us.drop n)
  | _, _, 0, r => r
  | _, _, _ + 1, .nil => .nil
  | _, _, n + 1, .cons _ t => Vals.drop n t
def RelO : Option V → Option Value → Prop
  | some v, some u => RelV v u
  | none, none => True
  | _, _ => False
def KV {κ : Type} : List (κ × V) → List (κ × Value) → Prop := Paired fun (p : κ × V) (q : κ × Value) => p.1 = q.1 ∧ RelV p.2 q.2
def kV : Key → V
  | .inl i => .int i
  | .inr x => .str x
inductive HO where
  /-- a list -/
  | lst (xs : List V)
  /-- a tuple (never changes) -/
  | tup (xs : List V)
  /-- a dict whose keys are ints and texts; one whose keys are tuples of ints and texts (the empty one is both) -/
  | dK (kvs : List (Key × V)) | dT (kvs : List (List Key × V))
  /-- a set of ints: its members, its size -/
  | set (S : Int → Bool) (n : Nat)
  /-- an instance of the class at C, its dict at dx, its attributes -/
  | ins (C dx : Addr) (fs : List (Str × V))
  /-- the dict of the instance at x -/
  | own (x : Addr)
  /-- the dict of an exception -/
  | xd (fs : List (Str × V))
  /-- a bound method, f of x -/
  | met (f x : Addr)
  /-- a range object lo, lo + 1, .. below hi -/
  | rng (lo hi : Int)
  /-- a thing that is known to the object (the script; a dict while a loop walks it): read, never written while it is so -/
  | frz (o : Obj) (u : HO)
  /-- a code object's table -/
  | tbl (ps : Array Value)
  /-- any other thing, by what is true of its one object (a def of one's own: SetO a S n := HO.ext fun h => ..) -/
  | ext (φ : Heap → Prop)
abbrev Hp := Addr → Option HO
def upd (H : Hp) (a : Addr) (o : HO) : Hp := fun b => if b = a then some o else H b
theorem upd_same {H : Hp} {a : Addr} {o : HO} : upd H a o a = some o := by unfold upd; rw [if_pos rfl]
theorem upd_ne {H : Hp} {a b : Addr} {o : HO} (h : b ≠ a) : upd H a o b = H b := by unfold upd; rw [if_neg h]
theorem ne_of {H : Hp} {a b : Addr} {o u : HO} (h : H a = some o) (h' : H b = some u) (d : o ≠ u) : a ≠ b := by
  intro e; subst e; rw [h] at h'; exact d (Option.some.inj h')
theorem ne_of_none {H : Hp} {a b : Addr} {o : HO} (h : H a = some o) (h' : H b = none) : a ≠ b := by
  intro e; subst e; rw [h] at h'; cases h'
section
variable (P : Program) (w : World)
def ObjOk (H : Hp) (h : Heap) (a : Addr) : HO → Prop
  | .lst xs => xs.length ≤ sizeLine ∧ ∃ (its : List Value) (n : Nat), Vals xs its ∧ h.get? a = some { cls := .type "list", data := .seq its.toArray n }
  | .tup xs => xs.length ≤ sizeLine ∧ ∃ its : List Value, Vals xs its ∧ IsTup h a its.toArray
  | .dK kvs => kvs.length ≤ sizeLine ∧ (a == sysModules) = false ∧ ∃ vs, KV kvs vs ∧ h.DictOf (mixKind P w) a vs
  | .dT kvs => kvs.length ≤ sizeLine ∧ (a == sysModules) = false ∧ ∃ xs : List (List Key × Addr × Value),
      Paired (fun (p : List Key × V) (q : List Key × Addr × Value) => p.1 = q.1 ∧ H q.2.1 = some (.tup (p.1.map kV)) ∧ RelV p.2 q.2.2) kvs xs ∧
      ∃ o es ep, h.get? a = some o ∧ o.ExactDict ∧ o.data = .dict es ep ∧ es.toList = xs.map (entryOfKey (tupleKind (mixKind P w))) ∧ (xs.map (·.1)).Nodup
  | .set S n => h.SetOf (intKind P w) a S n
  | .ins C dx fs => H dx = some (.own a) ∧ fs.length ≤ 1000 ∧ dx ≠ a ∧ h.get? a = some (PySem.W.instObj C dx) ∧
      ∃ mA, h.Ns1 dx mA ∧ (∀ f, RelO (fs.lookup f) (mA f)) ∧ PySem.Within mA (fs.map (·.1))
  | .own _ => ∃ o, h.get? a = some o
  | .xd fs => ∃ mA, h.Ns1 a mA ∧ ∀ f, RelO (fs.lookup f) (mA f)
  | .rng lo hi => ∃ t u v, h.get? a = some { cls := .type "range", data := .fields #[.int lo t, .int hi u, .int 1 v] }
  | .frz o u => h.get? a = some o ∧ ObjOk H h a u
  | .tbl ps => h.get? a = some { cls := .none, data := .fields ps }
  | .met f x => h.get? a = some (PySem.W.methodObj (.ref f) (.ref x))
  | .ext φ => φ h ∧ (∃ o, h.get? a = some o) ∧ ∀ h1 h2 : Heap, φ h1 → (∀ o, h1.get? a = some o → h2.get? a = some o) → φ h2
def HOk (H : Hp) (h : Heap) : Prop := ∀ a o, H a = some o → ObjOk P w H h a o
end
section
variable {P : Program} {w : World} {H H' : Hp} {h h' : Heap} {a : Addr} {o : HO}
theorem ObjOk.lt (x : ObjOk P w H h a o) : a < h.objs.size := by
  cases o with
  | lst xs => obtain ⟨_, _, _, _, e⟩ := x; exact Heap.lt_size e
  | tup xs => obtain ⟨_, _, _, p⟩ := x; exact p.lt
  | dK kvs => obtain ⟨_, _, _, _, o, _, _, e, _⟩ := x; exact Heap.lt_size e
  | dT kvs => obtain ⟨_, _, _, _, o, _, _, e, _⟩ := x; exact Heap.lt_size e
  | set S n => obtain ⟨o, _, _, _, e, _⟩ := x; exact Heap.lt_size e
  | ins C dx fs => obtain ⟨_, _, _, e, _⟩ := x; exact Heap.lt_size e
  | own y => obtain ⟨_, e⟩ := x; exact Heap.lt_size e
  | xd fs => obtain ⟨_, ⟨_, _, _, e, _⟩, _⟩ := x; exact Heap.lt_size e
  | rng lo hi => obtain ⟨_, _, _, e⟩ := x; exact Heap.lt_size e
  | frz ob u => obtain ⟨e, _⟩ := x; exact Heap.lt_size e
  | tbl ps => exact Heap.lt_size (show h.get? a = some _ from x)
  | met f y => exact Heap.lt_size (show h.get? a = some _ from x)
  | ext φ => obtain ⟨_, ⟨_, e⟩, _⟩ := x; exact Heap.lt_size e
theorem Paired.mapP {α β : Type} {F G : α → β → Prop} : ∀ {l₁ : List α} {l₂ : List β}, Paired F l₁ l₂ → (∀ a b, F a b → G a b) → Paired G l₁ l₂
  | _, _, .nil, _ => .nil
  | _, _, .cons r t, f => .cons (f _ _ r) (Paired.mapP t f)
theorem ObjOk.stay (x : ObjOk P w H h a o) (k : ∀ b u, (b = a ∨ H b = some (.own a)) → h.get? b = some u → h'.get? b = some u)
    (ho : ∀ b, H b = some (.own a) → H' b = some (.own a)) (ht : ∀ b xs, H b = some (.tup xs) → H' b = some (.tup xs)) : ObjOk P w H' h' a o := by
  induction o with
  | lst xs => obtain ⟨z, its, n, r, e⟩ := x; exact ⟨z, its, n, r, k _ _ (.inl rfl) e⟩
  | tup xs => obtain ⟨z, its, r, ob, e, c⟩ := x; exact ⟨z, its, r, ob, k _ _ (.inl rfl) e, c⟩
  | dK kvs => obtain ⟨z, y, vs, r, ob, es, ep, e, c⟩ := x; exact ⟨z, y, vs, r, ob, es, ep, k _ _ (.inl rfl) e, c⟩
  | dT kvs =>
    obtain ⟨z, y, xs, r, ob, es, ep, e, c⟩ := x
    exact ⟨z, y, xs, Paired.mapP r fun p q z => ⟨z.1, ht _ _ z.2.1, z.2.2⟩, ob, es, ep, k _ _ (.inl rfl) e, c⟩
  | set S n => obtain ⟨ob, es, ep, t, e, c⟩ := x; exact ⟨ob, es, ep, t, k _ _ (.inl rfl) e, c⟩
  | ins C dx fs =>
    obtain ⟨d, z, ne, e, mA, ⟨od, es, ep, e2, c⟩, r⟩ := x
    exact ⟨ho _ d, z, ne, k _ _ (.inl rfl) e, mA, ⟨od, es, ep, k _ _ (.inr d) e2, c⟩, r⟩
  | own y => obtain ⟨ob, e⟩ := x; exact ⟨ob, k _ _ (.inl rfl) e⟩
  | xd fs => obtain ⟨mA, ⟨od, es, ep, e, c⟩, r⟩ := x; exact ⟨mA, ⟨od, es, ep, k _ _ (.inl rfl) e, c⟩, r⟩
  | rng lo hi => obtain ⟨t, u, v, e⟩ := x; exact ⟨t, u, v, k _ _ (.inl rfl) e⟩
  | frz ob u ih => obtain ⟨e, q⟩ := x; exact ⟨k _ _ (.inl rfl) e, ih q⟩
  | tbl ps =>
    have e : h.get? a = some { cls := .none, data := .fields ps } := x
    show h'.get? a = some { cls := .none, data := .fields ps }
    exact k a _ (.inl rfl) e
  | met f y =>
    have e : h.get? a = some (PySem.W.methodObj (.ref f) (.ref y)) := x
    show h'.get? a = some (PySem.W.methodObj (.ref f) (.ref y))
    exact k a _ (.inl rfl) e
  | ext φ => obtain ⟨p, ⟨o, e⟩, st⟩ := x; exact ⟨st _ _ p fun o q => k _ _ (.inl rfl) q, ⟨o, k _ _ (.inl rfl) e⟩, st⟩
theorem HOk.lt (x : HOk P w H h) (e : H a = some o) : a < h.objs.size := (x a o e).lt
theorem HOk.fresh (x : HOk P w H h) (e : h.objs.size ≤ a) : H a = none := by
  cases q : H a with
  | none => rfl
  | some u => exact absurd (Nat.lt_of_lt_of_le (x.lt q) e) (Nat.lt_irrefl _)
theorem HOk.kept (x : HOk P w H h) (k : ∀ b u, h.get? b = some u → h'.get? b = some u) : HOk P w H h' := fun a o e =>
  (x a o e).stay (fun b u _ q => k b u q) (fun _ q => q) fun _ _ q => q
theorem HOk.laid (x : HOk P w H h) (k : ∀ b u, h.get? b = some u → h'.get? b = some u) (hp : h.objs.size ≤ a) (new : ObjOk P w (upd H a o) h' a o) : HOk P w (upd H a o) h' := fun b u e => by
  have hn := x.fresh hp
  by_cases hb : b = a
  · subst hb; rw [upd_same] at e; cases e; exact new
  · rw [upd_ne hb] at e
    exact (x b u e).stay (fun c v _ q => k c v q) (fun c q => by rw [upd_ne (ne_of_none q hn)]; exact q) fun c xs q => by rw [upd_ne (ne_of_none q hn)]; exact q
end
def Rd (H : Hp) (a : Addr) (u : HO) : Prop := H a = some u ∨ ∃ o, H a = some (.frz o u)
theorem Rd.ok {P : Program} {w : World} {H : Hp} {h : Heap} {a : Addr} {u : HO} (r : Rd H a u) (x : HOk P w H h) : ObjOk P w H h a u := by
  rcases r with r | ⟨o, r⟩
  · exact x a u r
  · obtain ⟨_, q⟩ := x a _ r
    exact q
def Mut : Option HO → Prop
  | some (.lst _) => True
  | some (.dK _) => True
  | some (.dT _) => True
  | some (.set _ _) => True
  | some (.ins _ _ _) => True
  | some (.ext _) => True
  | _ => False
section
variable {P : Program} {w : World} {H : Hp} {h h' : Heap} {x e : Addr} {o' : HO}
theorem HOk.write (ok : HOk P w H h) (mu : Mut (H x)) (he : e = x ∨ H e = some (.own x)) (k : ∀ b u, b ≠ e → h.get? b = some u → h'.get? b = some u) (heo : ∃ u, h'.get? e = some u)
    (new : ObjOk P w (upd H x o') h' x o') : HOk P w (upd H x o') h' := fun b u q => by
  have nown : ∀ c y, H c = some (.own y) → c ≠ x := fun c y r z => by subst z; rw [r] at mu; exact mu
  have ntup : ∀ c xs, H c = some (.tup xs) → c ≠ x := fun c xs r z => by subst z; rw [r] at mu; exact mu
  by_cases hb : b = x
  · subst hb; rw [upd_same] at q; cases q; exact new
  · rw [upd_ne hb] at q
    by_cases hbe : b = e
    · have q' : H b = some (.own x) := by
        rcases he with z | z
        · exact absurd (hbe.trans z) hb
        · rw [hbe]; exact z
      rw [q] at q'; cases q'
      obtain ⟨v, hv⟩ := heo
      exact ⟨v, by rw [hbe]; exact hv⟩
    · refine (ok b u q).stay (fun c v hc r => k c v ?_ r) (fun c r => by rw [upd_ne (nown c b r)]; exact r) fun c xs r => by rw [upd_ne (ntup c xs r)]; exact r
      rcases hc with rfl | hc
      · exact hbe
      · rintro rfl
        rcases he with z | z
        · exact nown c b hc z
        · rw [hc] at z; cases z; exact hb rfl
end
structure Un (fs ex : List Addr) (H H' : Hp) (h h' : Heap) : Prop where
  keep : ∀ b o, h.get? b = some o → H b = none → b ∉ fs → b ∉ ex → h'.get? b = some o
  slot : ∀ b o, h.get? b = some o → H b = none → b ∈ fs → b ∉ ex → ∃ sl, h'.get? b = some { o with slots := sl }
  free : ∀ b o, h.get? b = some o → H b = none → b ∉ ex → H' b = none
  there : ∀ b o, h.get? b = some o → b ∉ ex → ∃ o', h'.get? b = some o'
  tups : ∀ b xs, H b = some (.tup xs) → H' b = some (.tup xs)
  frzs : ∀ b o u, H b = some (.frz o u) → H' b = some (.frz o u)
  tbls : ∀ b ps, H b = some (.tbl ps) → ∃ more, H' b = some (.tbl (ps ++ more))
section
variable {fs fs' ex ex' : List Addr} {H H1 H2 : Hp} {h h1 h2 h' : Heap} {a x e : Addr} {o : HO}
theorem Un.any (u : Un fs ex H H1 h h1) {b : Addr} {ob : Obj} (q : h.get? b = some ob) (n : H b = none) (hx : b ∉ ex) : ∃ sl, h1.get? b = some { ob with slots := sl } := by
  by_cases hb : b ∈ fs
  · exact u.slot b ob q n hb hx
  · exact ⟨ob.slots, u.keep b ob q n hb hx⟩
theorem Un.kept (k : ∀ b u, h.get? b = some u → h'.get? b = some u) : Un fs ex H H h h' :=
  ⟨fun b ob q _ _ _ => k b ob q, fun b ob q _ _ _ => ⟨ob.slots, k b ob q⟩, fun _ _ _ n _ => n, fun b ob q _ => ⟨ob, k b ob q⟩, fun _ _ q => q, fun _ _ _ q => q, fun _ ps q => ⟨#[], by rw [q]; simp⟩⟩
theorem Un.refl : Un fs ex H H h h := Un.kept fun _ _ q => q
theorem Un.laid (k : ∀ b u, h.get? b = some u → h'.get? b = some u) (hp : h.objs.size ≤ a) (hn : H a = none) : Un fs ex H (upd H a o) h h' where
  keep := fun b u q _ _ _ => k b u q
  slot := fun b u q _ _ _ => ⟨u.slots, k b u q⟩
  free := fun b u q n _ => by rw [upd_ne (Nat.ne_of_lt (Nat.lt_of_lt_of_le (Heap.lt_size q) hp))]; exact n
  there := fun b u q _ => ⟨u, k b u q⟩
  tups := fun b xs q => by rw [upd_ne (ne_of_none q hn)]; exact q
  frzs := fun b u xs q => by rw [upd_ne (ne_of_none q hn)]; exact q
  tbls := fun b ps q => ⟨#[], by rw [upd_ne (ne_of_none q hn), q]; simp⟩
theorem Un.write (mu : Mut (H x)) (he : e = x ∨ H e = some (.own x)) (k : ∀ b u, b ≠ e → h.get? b = some u → h'.get? b = some u) (heo : ∃ u, h'.get? e = some u) : Un fs ex H (upd H x o) h h' := by
  have hx : ∀ b, H b = none → b ≠ x := fun b n z => by subst z; rw [n] at mu; exact mu
  have hb : ∀ b, H b = none → b ≠ e := fun b n z => by
    subst z
    rcases he with r | r
    · exact hx b n r
    · rw [n] at r; cases r
  have hm : ∀ b u, H b = some u → ¬ Mut (some u) → b ≠ x := fun b u q nm z => by subst z; rw [q] at mu; exact nm mu
  refine ⟨fun b u q n _ _ => k b u (hb b n) q, fun b u q n _ _ => ⟨u.slots, k b u (hb b n) q⟩, fun b u q n _ => by rw [upd_ne (hx b n)]; exact n, fun b u q _ => ?_,
    fun b xs q => by rw [upd_ne (hm b _ q fun z => z)]; exact q, fun b u xs q => by rw [upd_ne (hm b _ q fun z => z)]; exact q, fun b ps q => ⟨#[], by rw [upd_ne (hm b _ q fun z => z), q]; simp⟩⟩
  by_cases hbe : b = e
  · subst hbe; exact heo
  · exact ⟨u, k b u hbe q⟩
end
def trk (h : Heap) (H : Hp) : List Addr := (List.range h.objs.size).filter fun a => (H a).isSome
def hidT (h : Heap) (H : Hp) : Heap := PySem.W.hideAll h (trk h H)
theorem hidT_size (h : Heap) (H : Hp) : (hidT h H).objs.size = h.objs.size := PySem.W.hideAll_size _ _
theorem hidT_get {h : Heap} {H : Hp} {b : Addr} {o : Obj} (e : h.get? b = some o) (n : H b = none) : (hidT h H).get? b = some o :=
  PySem.W.hideAll_get _ e fun hm => by
    have q : (H b).isSome = true := (List.mem_filter.mp hm).2
    rw [n] at q; simp at q
theorem of_hidT {h : Heap} {H : Hp} {b : Addr} {o : Obj} (e : (hidT h H).get? b = some o) : h.get? b = some o ∧ H b = none := by
  have e' : h.get? b = some o := PySem.W.of_hideAll (trk h H) e
  refine ⟨e', ?_⟩
  cases q : H b with
  | none => rfl
  | some x =>
    have hm : b ∈ trk h H := List.mem_filter.mpr ⟨List.mem_range.mpr (Heap.lt_size e'), by simp [q]⟩
    have z : (hidT h H).get? b = none := PySem.W.hideAll_none (trk h H) hm
    rw [z] at e; cases e
def allNews (g h : Heap) (L : Addr) : List (Addr × Obj) := (List.range h.objs.size).filterMap fun a => if a = L ∨ (g.get? a).isSome = true then none else (h.get? a).map fun o => (a, o)
def rest (g h : Heap) (L d : Addr) : List (Addr × Obj) := (allNews g h L).filter fun p => decide (p.1 ≠ d)
end L2
namespace L2
open PySem PySem.Spec PyProof.Rows
structure Mod (K : PySem.W.Frag) (mg : Str → Option Value) (base : Heap) : Prop where
  kin : K.In base
  glob : base.Ns mainGlobals mg
  blt : ∃ mb, base.Ns builtinsNs mb ∧ ∀ x : Str, x ≠ "__name__" → mb x = bootBuiltins x
  nolimit : base.NoLimit
structure Cx where
  prog : Program
  w : World
  K : PySem.W.Frag
  mg : Str → Option Value
  base : Heap
  A : Around
  N : List Str
  s₀ : Shared
  H₀ : Hp
  env : Env
  outer : List Env
  stack : List Env
  ex : List Addr
  fn : Str → Bool
  calm : Bool
  pn : List (Addr × Obj)
  xe : Value → Shared → Prop
def frs (l : List Env) : List Addr := l.filterMap (·.frame)
abbrev Cx.fs (X : Cx) : List Addr := frs X.outer
def Vis (sc : Scope) (x : Str) : Prop := sc.names.lookup x = some .local ∨ sc.names.lookup x = some .cell ∨ sc.names.lookup x = some .free
def Loc (sc : Scope) (x : Str) : Prop := sc.names.lookup x = some .local ∨ sc.names.lookup x = some .cell
def Look (env : Env) (h : Heap) (m : Str → Option Value) (x : Str) (u : Value) : Prop :=
  (env.kindOf x = some .local ∧ m x = some u) ∨ ((env.kindOf x = some .cell ∨ env.kindOf x = some .free) ∧ ∃ c, env.cells.lookup x = some c ∧ h.IsCell c (some u))
structure Cx.Ok (X : Cx) : Prop where
  mod : Mod X.K X.mg X.base
  kind : X.env.scope.kind = .function
  glob : X.env.globals = mainGlobals
  blt : X.env.builtins = builtinsNs
  above : X.s₀.heap.objs.size ≤ X.env.locals
  inj : ∀ x y c, X.env.cells.lookup x = some c → X.env.cells.lookup y = some c → x = y
  has : ∀ x, (X.env.kindOf x = some .cell ∨ X.env.kindOf x = some .free) → ∃ c, X.env.cells.lookup x = some c
  cab : ∀ x c, X.fn x = true → X.env.cells.lookup x = some c → X.s₀.heap.objs.size ≤ c
  hd : X.calm = true → X.A.handled = none
  frames : X.A.frames = some X.stack
  stk : X.stack = X.outer ∨ (X.stack = X.env :: X.outer ∧ X.env.frame = some X.env.locals)
  exf : ∀ b ∈ X.ex, b ≠ X.env.locals ∧ ∀ x c, X.env.cells.lookup x = some c → c ≠ b
  bs : ∀ b o, X.base.get? b = some o → X.s₀.heap.get? b = some o ∧ X.H₀ b = none
  bsz : X.base.objs.size ≤ X.s₀.heap.objs.size
  noex : ∀ b o, X.base.get? b = some o → b ∉ X.ex
  exfs : ∀ b ∈ X.ex, b ∉ X.fs
  funs : X.s₀.heap.FunFrames X.base X.outer
  frf : ∀ b ∈ X.fs, X.H₀ b = none
structure Inv (X : Cx) (pins : List (Addr × Obj)) (σ : List (Option V)) (H : Hp) (s : Shared) : Prop where
  ok : X.Ok
  os : s.os = X.s₀.os
  bare : AllBare s.gens
  base : Un X.fs X.ex X.H₀ H X.s₀.heap s.heap
  loc : ∃ m, s.heap.Ns X.env.locals m ∧ ∀ (i : Nat) (x : Str) (v : V), X.N[i]? = some x → σ[i]? = some (some v) → Vis X.env.scope x → ∃ u, RelV v u ∧ Look X.env s.heap m x u
  cell : ∀ x c, X.env.cells.lookup x = some c → ∃ v, s.heap.IsCell c v
  free : H X.env.locals = none
  freeC : ∀ x c, X.env.cells.lookup x = some c → H c = none
  pin : ∀ p ∈ X.pn ++ pins, s.heap.get? p.1 = some p.2 ∧ H p.1 = none ∧ p.1 ≠ X.env.locals ∧ p.1 ∉ X.fs ∧ ∀ v, p.2.data ≠ .cell v
  hok : HOk X.prog X.w H s.heap
  len : σ.length = X.N.length
section
variable {X : Cx} {pins : List (Addr × Obj)} {σ : List (Option V)} {H H' : Hp} {s : Shared} {h' : Heap}
theorem Cx.Ok.nofr (ok : X.Ok) {b : Addr} {o : Obj} (e : X.base.get? b = some o) : b ∉ X.fs := fun hb => by
  have := (ok.funs.mem hb).1
  rw [e] at this; cases this
theorem Inv.bs (I : Inv X pins σ H s) : ∀ b o, X.base.get? b = some o → s.heap.get? b = some o ∧ H b = none := fun b o e =>
  ⟨I.base.keep b o (I.ok.bs b o e).1 (I.ok.bs b o e).2 (I.ok.nofr e) (I.ok.noex b o e), I.base.free b o (I.ok.bs b o e).1 (I.ok.bs b o e).2 (I.ok.noex b o e)⟩
theorem Inv.bk (I : Inv X pins σ H s) : ∀ b o, X.base.get? b = some o → s.heap.get? b = some o := fun b o e => (I.bs b o e).1
theorem Inv.mod (I : Inv X pins σ H s) : Mod X.K X.mg X.base := I.ok.mod
theorem Inv.kIn (I : Inv X pins σ H s) : X.K.In s.heap := I.ok.mod.kin.keeps I.bk
theorem Inv.nolimit (I : Inv X pins σ H s) : s.heap.NoLimit := I.ok.mod.nolimit.keeps I.bk
theorem Inv.fr (I : Inv X pins σ H s) : ∃ m, Fr X.base X.env.locals s.heap m :=
  let ⟨m, hn, _⟩ := I.loc
  ⟨m, hn, I.bk, Nat.le_trans I.ok.bsz I.ok.above⟩
theorem Inv.lt (I : Inv X pins σ H s) : X.env.locals < s.heap.objs.size := let ⟨_, hn, _⟩ := I.loc; hn.lt
theorem Inv.sz (I : Inv X pins σ H s) : X.s₀.heap.objs.size ≤ s.heap.objs.size := Nat.le_trans I.ok.above (Nat.le_of_lt I.lt)
theorem Inv.nofs (I : Inv X pins σ H s) {a : Addr} (h : s.heap.objs.size ≤ a) : a ∉ X.fs := fun hb => by
  obtain ⟨_, o, ho, _⟩ := I.ok.funs.mem hb
  exact absurd (Nat.lt_of_lt_of_le (Heap.lt_size ho) (Nat.le_trans I.sz h)) (Nat.lt_irrefl _)
theorem Inv.cne (I : Inv X pins σ H s) : ∀ x c, X.env.cells.lookup x = some c → c ≠ X.env.locals := fun x c e z => by
  obtain ⟨v, o, ho, hd⟩ := I.cell x c e
  obtain ⟨m, ⟨o', es, ep, ho', hd', _⟩, _⟩ := I.loc
  rw [z, ho'] at ho; cases ho; rw [hd'] at hd; cases hd
theorem Inv.funs (I : Inv X pins σ H s) : s.heap.FunFrames X.base X.outer := by
  have all : ∀ (l : List Env), (∀ b ∈ frs l, b ∈ X.fs) → X.s₀.heap.FunFrames X.base l → s.heap.FunFrames X.base l := by
    intro l
    induction l with
    | nil => intro _ _; trivial
    | cons env r ih =>
      intro hs hl
      obtain ⟨hk, ⟨L, o, hf, hn, ho, hd⟩, hr⟩ := hl
      have hL : L ∈ X.fs := hs L (by unfold frs; rw [List.filterMap_cons, hf]; exact List.mem_cons_self)
      obtain ⟨sl, e⟩ := I.base.slot L o ho (I.ok.frf L hL) hL fun z => I.ok.exfs L z hL
      exact ⟨hk, ⟨L, _, hf, hn, e, hd⟩, ih (fun b hb => hs b (by unfold frs; rw [List.filterMap_cons, hf]; exact List.mem_cons_of_mem _ hb)) hr⟩
  exact all X.outer (fun _ hb => hb) I.ok.funs
theorem Inv.stack (I : Inv X pins σ H s) : s.heap.FunFrames X.base X.stack := by
  rcases I.ok.stk with e | ⟨e, hf⟩
  · rw [e]; exact I.funs
  · rw [e]
    obtain ⟨m, hn, _⟩ := I.loc
    refine .cons (by rw [I.ok.kind]; decide) hf hn ?_ I.funs
    exact Heap.get?_none_of_le (Nat.le_trans I.ok.bsz I.ok.above)
theorem Inv.stkSub (I : Inv X pins σ H s) : ∀ b ∈ frs X.stack, b ∈ X.env.locals :: X.fs := fun b hb => by
  rcases I.ok.stk with e | ⟨e, hf⟩
  · rw [e] at hb; exact List.mem_cons_of_mem _ hb
  · rw [e] at hb
    unfold frs at hb
    rw [List.filterMap_cons, hf] at hb
    exact hb
theorem Inv.stkFree (I : Inv X pins σ H s) : ∀ b ∈ frs X.stack, H b = none := fun b hb => by
  rcases List.mem_cons.mp (I.stkSub b hb) with e | hb
  · rw [e]; exact I.free
  · obtain ⟨_, o, ho, _⟩ := I.ok.funs.mem hb
    exact I.base.free b o ho (I.ok.frf b hb) fun z => I.ok.exfs b z hb
theorem Inv.step {g' : Array GenState} {t' : Nat} {d' : Drawn} {ch : List Addr} (I : Inv X pins σ H s)
    (hch : ∀ b ∈ ch, (b ∈ X.ex ∨ X.s₀.heap.objs.size ≤ b) ∧ b ≠ X.env.locals ∧ (∀ x c, X.env.cells.lookup x = some c → c ≠ b) ∧ ∀ p ∈ X.pn ++ pins, p.1 ≠ b)
    (keep : ∀ b o, b ≠ X.env.locals → b ∉ X.fs → b ∉ ch → s.heap.get? b = some o → H b = none → h'.get? b = some o)
    (slot : ∀ b o, b ≠ X.env.locals → b ∈ X.fs → b ∉ ch → s.heap.get? b = some o → H b = none → ∃ sl, h'.get? b = some { o with slots := sl }) (free : ∀ b o, b ∉ ch → s.heap.get? b = some o → H b = none → H' b = none)
    (there : ∀ b o, b ∉ ch → s.heap.get? b = some o → ∃ o', h'.get? b = some o')
    (tups : ∀ b xs, H b = some (.tup xs) → H' b = some (.tup xs)) (frzs : ∀ b o u, H b = some (.frz o u) → H' b = some (.frz o u)) (tbls : ∀ b ps, H b = some (.tbl ps) → ∃ more, H' b = some (.tbl (ps ++ more)))
    (ns : ∀ m, s.heap.Ns X.env.locals m → h'.Ns X.env.locals m) (hok : HOk X.prog X.w H' h') (hg : AllBare g') :
    Inv X pins σ H' { s with heap := h', gens := g', drawn := d', toks := t' } := by
  have neL : ∀ b o, X.s₀.heap.get? b = some o → b ≠ X.env.locals := fun b o e => Nat.ne_of_lt (Nat.lt_of_lt_of_le (Heap.lt_size e) I.ok.above)
  have neC : ∀ b o, X.s₀.heap.get? b = some o → b ∉ X.ex → b ∉ ch := fun b o e hx hb => by
    rcases (hch b hb).1 with z | z
    · exact hx z
    · exact absurd (Nat.lt_of_lt_of_le (Heap.lt_size e) z) (Nat.lt_irrefl _)
  have cellK : ∀ x c, X.env.cells.lookup x = some c → ∀ v, s.heap.IsCell c v → h'.IsCell c v := fun x c e v ⟨o, ho, hd⟩ => by
    have nch : c ∉ ch := fun z => (hch c z).2.2.1 x c e rfl
    by_cases hc : c ∈ X.fs
    · obtain ⟨sl, q⟩ := slot c o (I.cne x c e) hc nch ho (I.freeC x c e)
      exact ⟨_, q, hd⟩
    · exact ⟨o, keep c o (I.cne x c e) hc nch ho (I.freeC x c e), hd⟩
  refine ⟨I.ok, I.os, hg, ⟨fun b o e n hb hx => ?_, fun b o e n hb hx => ?_, fun b o e n hx => ?_, fun b o e hx => ?_, fun b xs e => tups b xs (I.base.tups b xs e), fun b o xs e => frzs b o xs (I.base.frzs b o xs e), fun b ps e => ?_⟩, ?_, fun x c e => ?_, ?_, fun x c e => ?_, fun p hp => ?_, hok, I.len⟩
  · exact keep b o (neL b o e) hb (neC b o e hx) (I.base.keep b o e n hb hx) (I.base.free b o e n hx)
  · obtain ⟨sl, e1⟩ := I.base.slot b o e n hb hx
    obtain ⟨sl', e2⟩ := slot b _ (neL b o e) hb (neC b o e hx) e1 (I.base.free b o e n hx)
    exact ⟨sl', e2⟩
  · obtain ⟨o', e1⟩ := I.base.there b o e hx
    exact free b o' (neC b o e hx) e1 (I.base.free b o e n hx)
  · obtain ⟨o', e1⟩ := I.base.there b o e hx
    exact there b o' (neC b o e hx) e1
  · obtain ⟨m1, e1⟩ := I.base.tbls b ps e
    obtain ⟨m2, e2⟩ := tbls b _ e1
    exact ⟨m1 ++ m2, by rw [e2, Array.append_assoc]⟩
  · obtain ⟨m, hn, hl⟩ := I.loc
    refine ⟨m, ns m hn, fun i x v e1 e2 e3 => ?_⟩
    obtain ⟨u, r, l⟩ := hl i x v e1 e2 e3
    refine ⟨u, r, ?_⟩
    rcases l with l | ⟨k, c, e, z⟩
    · exact .inl l
    · exact .inr ⟨k, c, e, cellK x c e _ z⟩
  · obtain ⟨v, z⟩ := I.cell x c e
    exact ⟨v, cellK x c e v z⟩
  · obtain ⟨m, ⟨o, _, _, ho, _⟩, _⟩ := I.loc
    exact free _ o (fun z => (hch _ z).2.1 rfl) ho I.free
  · obtain ⟨v, o, ho, hd⟩ := I.cell x c e
    exact free c o (fun z => (hch c z).2.2.1 x c e rfl) ho (I.freeC x c e)
  · obtain ⟨e, n, ne, nf, d⟩ := I.pin p hp
    have nch : p.1 ∉ ch := fun z => (hch p.1 z).2.2.2 p hp rfl
    exact ⟨keep p.1 p.2 ne nf nch e n, free p.1 p.2 nch e n, ne, nf, d⟩
theorem Inv.un {t' : Nat} (I : Inv X pins σ H s) (u : Un X.fs [] H H' s.heap h') (hok : HOk X.prog X.w H' h') : Inv X pins σ H' { s with heap := h', toks := t' } := by
  obtain ⟨m, ⟨o, es, ep, ho, r⟩, _⟩ := id I.loc
  obtain ⟨sl, hL⟩ := u.any ho I.free (by simp)
  exact I.step (g' := s.gens) (d' := s.drawn) (ch := []) (fun _ z => nomatch z) (fun b o _ hb _ e n => u.keep b o e n hb (by simp)) (fun b o _ hb _ e n => u.slot b o e n hb (by simp)) (fun b o _ e n => u.free b o e n (by simp)) (fun b o _ e => u.there b o e (by simp)) u.tups u.frzs u.tbls (fun m' hm => by
    obtain ⟨o', es', ep', ho', r'⟩ := hm
    rw [ho] at ho'; cases ho'
    exact ⟨_, es', ep', hL, r'⟩) hok I.bare
theorem Inv.call {g' : Array GenState} {t' : Nat} {d' : Drawn} {ch : List Addr} (I : Inv X pins σ H s) (u : Un (frs X.stack) ch H H' s.heap h') (hok : HOk X.prog X.w H' h') (hg : AllBare g')
    (hch : ∀ b ∈ ch, (b ∈ X.ex ∨ X.s₀.heap.objs.size ≤ b) ∧ b ≠ X.env.locals ∧ (∀ x c, X.env.cells.lookup x = some c → c ≠ b) ∧ ∀ p ∈ X.pn ++ pins, p.1 ≠ b) :
    Inv X pins σ H' { s with heap := h', gens := g', drawn := d', toks := t' } := by
  obtain ⟨m, ⟨o, es, ep, ho, r⟩, _⟩ := id I.loc
  obtain ⟨sl, hL⟩ := u.any ho I.free fun z => (hch _ z).2.1 rfl
  exact I.step (ch := ch) hch (fun b o hL hb hc e n => u.keep b o e n (fun z => (List.mem_cons.mp (I.stkSub b z)).elim hL hb) hc) (fun b o _ _ hc e n => u.any e n hc) (fun b o hc e n => u.free b o e n hc) (fun b o hc e => u.there b o e hc) u.tups u.frzs u.tbls (fun m' hm => by
    obtain ⟨o', es', ep', ho', r'⟩ := hm
    rw [ho] at ho'; cases ho'
    exact ⟨_, es', ep', hL, r'⟩) hok hg
theorem Inv.turned {t' : Nat} {it : Addr} (I : Inv X pins σ H s) (k : ∀ b o, b ≠ it → s.heap.get? b = some o → h'.get? b = some o) (hn : H it = none) (hL : it ≠ X.env.locals)
    (h1 : it ∈ X.ex ∨ X.s₀.heap.objs.size ≤ it) (h2 : ∀ x c, X.env.cells.lookup x = some c → c ≠ it) (h3 : ∀ p ∈ X.pn ++ pins, p.1 ≠ it) : Inv X pins σ H { s with heap := h', toks := t' } := by
  have nit : ∀ b u, H b = some u → b ≠ it := fun b u e z => by rw [z, hn] at e; cases e
  refine I.step (g' := s.gens) (d' := s.drawn) (ch := [it]) (fun b hb => ?_) (fun b o _ _ hc e _ => k b o (fun z => hc (by simp [z])) e) (fun b o _ _ hc e _ => ⟨o.slots, k b o (fun z => hc (by simp [z])) e⟩) (fun _ _ _ _ n => n)
    (fun b o hc e => ⟨o, k b o (fun z => hc (by simp [z])) e⟩) (fun _ _ e => e) (fun _ _ _ e => e) (fun b ps e => ⟨#[], by rw [e]; simp⟩) (fun m hm => ?_) (fun b u e => ?_) I.bare
  · have e : b = it := by simpa using hb
    subst e
    exact ⟨h1, hL, h2, h3⟩
  · obtain ⟨o, es, ep, ho, r⟩ := hm
    exact ⟨o, es, ep, k _ o (Ne.symm hL) ho, r⟩
  · refine (I.hok b u e).stay (fun c v hc q => k c v ?_ q) (fun _ q => q) fun _ _ q => q
    rcases hc with z | z
    · rw [z]; exact nit b u e
    · exact nit c _ z
theorem Inv.tok (I : Inv X pins σ H s) (t : Nat) : Inv X pins σ H { s with toks := t } := I.un (h' := s.heap) (t' := t) Un.refl I.hok
theorem Inv.kept {t' : Nat} (I : Inv X pins σ H s) (k : ∀ b u, s.heap.get? b = some u → h'.get? b = some u) : Inv X pins σ H { s with heap := h', toks := t' } := I.un (Un.kept k) (I.hok.kept k)
theorem Inv.laid {a : Addr} {o : HO} {t' : Nat} (I : Inv X pins σ H s) (k : ∀ b u, s.heap.get? b = some u → h'.get? b = some u) (hp : s.heap.objs.size ≤ a) (new : ObjOk X.prog X.w (upd H a o) h' a o) :
    Inv X pins σ (upd H a o) { s with heap := h', toks := t' } := I.un (Un.laid k hp (I.hok.fresh hp)) (I.hok.laid k hp new)
theorem Inv.write {x e : Addr} {o : HO} {t' : Nat} (I : Inv X pins σ H s) (mu : Mut (H x)) (he : e = x ∨ H e = some (.own x)) (k : ∀ b u, b ≠ e → s.heap.get? b = some u → h'.get? b = some u) (heo : ∃ u, h'.get? e = some u)
    (new : ObjOk X.prog X.w (upd H x o) h' x o) : Inv X pins σ (upd H x o) { s with heap := h', toks := t' } := I.un (Un.write mu he k heo) (I.hok.write mu he k heo new)
theorem Inv.weak {σ' : List (Option V)} (I : Inv X pins σ H s) (hl : σ'.length = σ.length) (w : ∀ (i : Nat) v, σ'[i]? = some (some v) → σ[i]? = some (some v)) : Inv X pins σ' H s :=
  ⟨I.ok, I.os, I.bare, I.base, let ⟨m, hn, hl'⟩ := I.loc; ⟨m, hn, fun i x v e1 e2 e3 => hl' i x v e1 (w i v e2) e3⟩, I.cell, I.free, I.freeC, I.pin, I.hok, hl.trans I.len⟩
theorem Inv.pins_of {pins' : List (Addr × Obj)} (I : Inv X pins σ H s) (h : ∀ p ∈ pins', s.heap.get? p.1 = some p.2 ∧ H p.1 = none ∧ p.1 ≠ X.env.locals ∧ p.1 ∉ X.fs ∧ ∀ v, p.2.data ≠ .cell v) : Inv X pins' σ H s :=
  ⟨I.ok, I.os, I.bare, I.base, I.loc, I.cell, I.free, I.freeC, fun p hp => (List.mem_append.mp hp).elim (fun z => I.pin p (List.mem_append_left _ z)) (h p), I.hok, I.len⟩
theorem nodup_ix {N : List Str} (hN : N.Nodup) {i j : Nat} {x : Str} (a : N[i]? = some x) (b : N[j]? = some x) : i = j := by
  obtain ⟨h1, e1⟩ := List.getElem?_eq_some_iff.mp a
  obtain ⟨h2, e2⟩ := List.getElem?_eq_some_iff.mp b
  exact (List.getElem_inj hN).mp (e1.trans e2.symm)
theorem store_ok2 {M : Model} {A : Around} {E : Value → Shared → Prop} {i : Nat} {x : Str} {v : V} {u : Value} {Q : Unit → Shared → Prop} (I : Inv X pins σ H s) (hN : X.N.Nodup) (hi : X.N[i]? = some x) (hx : Loc X.env.scope x) (r : RelV v u)
    (h : ∀ s', Inv X pins (σ.set i (some v)) H s' → (∃ a, Heap.SameBut a s.heap s'.heap ∧ (a = X.env.locals ∨ X.env.cells.lookup x = some a)) → Q () s') (hf : X.fn x = true ∨ X.env.scope.names.lookup x = some .local := by first | exact .inl rfl | exact .inr rfl | assumption) : wpAny M A (storeName X.env x u) Q E s := by
  obtain ⟨m, hn, hl⟩ := id I.loc
  have hcls : (X.env.scope.kind == .class || (X.env.scope.kind == .module && X.env.locals != X.env.globals)) = false := by rw [I.ok.kind]; rfl
  have hiσ : i < σ.length := by rw [I.len]; exact (List.getElem?_eq_some_iff.mp hi).1
  have cne := I.cne
  have tracked : ∀ {a : Addr} {h' : Heap}, (∃ o, s.heap.get? a = some o ∧ H a = none) → Heap.SameBut a s.heap h' → HOk X.prog X.w H h' := fun {a h'} ha hs b ob e => by
    obtain ⟨_, _, hfree⟩ := ha
    refine (I.hok b ob e).stay (fun c w' hc q => (hs.2 c ?_).trans q) (fun _ q => q) fun _ _ q => q
    rintro rfl
    rcases hc with rfl | hc
    · rw [hfree] at e; cases e
    · rw [hfree] at hc; cases hc
  rcases hx with hk | hk
  · refine wpAny_storeName_local hk hn (fun h' hn' hs => ?_) hcls
    obtain ⟨oL, _, _, hoL, _⟩ := id hn
    refine h _ ⟨I.ok, I.os, I.bare, ⟨fun b o e n hb hx => ?_, fun b o e n hb hx => ?_, I.base.free, fun b o e hx => ?_, I.base.tups, I.base.frzs, I.base.tbls⟩, ⟨_, hn', fun j y v' e1 e2 e3 => ?_⟩, fun y c e => ?_, I.free, I.freeC, fun p hp => ?_, tracked ⟨oL, hoL, I.free⟩ hs, by simpa using I.len⟩ ⟨_, hs, .inl rfl⟩
    · exact (hs.2 b (Nat.ne_of_lt (Nat.lt_of_lt_of_le (Heap.lt_size e) I.ok.above))).trans (I.base.keep b o e n hb hx)
    · obtain ⟨sl, e1⟩ := I.base.slot b o e n hb hx
      exact ⟨sl, (hs.2 b (Nat.ne_of_lt (Nat.lt_of_lt_of_le (Heap.lt_size e) I.ok.above))).trans e1⟩
    · obtain ⟨o', e1⟩ := I.base.there b o e hx
      exact ⟨o', (hs.2 b (Nat.ne_of_lt (Nat.lt_of_lt_of_le (Heap.lt_size e) I.ok.above))).trans e1⟩
    · by_cases hj : j = i
      · subst hj
        rw [hi] at e1; cases e1
        rw [List.getElem?_set_self hiσ] at e2
        cases e2
        exact ⟨u, r, .inl ⟨hk, by simp⟩⟩
      · rw [List.getElem?_set_ne (Ne.symm hj)] at e2
        obtain ⟨u', r', q⟩ := hl j y v' e1 e2 e3
        refine ⟨u', r', ?_⟩
        rcases q with ⟨k, e⟩ | ⟨k, c, e, z⟩
        · refine .inl ⟨k, ?_⟩
          have : y ≠ x := fun e => hj (nodup_ix hN e1 (e ▸ hi))
          simp [this, e]
        · exact .inr ⟨k, c, e, z.sameBut hs (cne y c e)⟩
    · obtain ⟨w', z⟩ := I.cell y c e
      exact ⟨w', z.sameBut hs (cne y c e)⟩
    · obtain ⟨e, n, ne, nf, d⟩ := I.pin p hp
      exact ⟨(hs.2 p.1 ne).trans e, n, ne, nf, d⟩
  · have hfn : X.fn x = true := by
      rcases hf with z | z
      · exact z
      · rw [z] at hk; cases hk
    obtain ⟨c, hc⟩ := I.ok.has x (.inl hk)
    obtain ⟨w', z⟩ := I.cell x c hc
    refine wpAny_storeName_cell I.ok.kind hk hc z (fun h' hc' hs => ?_)
    obtain ⟨oc, hoc, hocd⟩ := id z
    refine h { s with heap := h' } ⟨I.ok, I.os, I.bare, ⟨fun b o e n hb hx => ?_, fun b o e n hb hx => ?_, I.base.free, fun b o e hx => ?_, I.base.tups, I.base.frzs, I.base.tbls⟩, ⟨m, hn.sameBut hs (Ne.symm (cne x c hc)), fun j y v' e1 e2 e3 => ?_⟩, fun y c' e => ?_, I.free, I.freeC, fun p hp => ?_, tracked ⟨oc, hoc, I.freeC x c hc⟩ hs, by simpa using I.len⟩ ⟨c, hs, .inr hc⟩
    · exact (hs.2 b (Nat.ne_of_lt (Nat.lt_of_lt_of_le (Heap.lt_size e) (I.ok.cab x c hfn hc)))).trans (I.base.keep b o e n hb hx)
    · obtain ⟨sl, e1⟩ := I.base.slot b o e n hb hx
      exact ⟨sl, (hs.2 b (Nat.ne_of_lt (Nat.lt_of_lt_of_le (Heap.lt_size e) (I.ok.cab x c hfn hc)))).trans e1⟩
    · obtain ⟨o', e1⟩ := I.base.there b o e hx
      exact ⟨o', (hs.2 b (Nat.ne_of_lt (Nat.lt_of_lt_of_le (Heap.lt_size e) (I.ok.cab x c hfn hc)))).trans e1⟩
    · by_cases hj : j = i
      · subst hj
        rw [hi] at e1; cases e1
        rw [List.getElem?_set_self hiσ] at e2
        cases e2
        exact ⟨u, r, .inr ⟨.inl hk, c, hc, hc'⟩⟩
      · rw [List.getElem?_set_ne (Ne.symm hj)] at e2
        obtain ⟨u', r', q⟩ := hl j y v' e1 e2 e3
        refine ⟨u', r', ?_⟩
        rcases q with q | ⟨k, c', e, z'⟩
        · exact .inl q
        · refine .inr ⟨k, c', e, z'.sameBut hs ?_⟩
          rintro rfl
          exact hj (nodup_ix hN e1 (I.ok.inj _ _ _ e hc ▸ hi))
    · by_cases hcc : c' = c
      · subst hcc; exact ⟨_, hc'⟩
      · obtain ⟨w2, z2⟩ := I.cell y c' e
        exact ⟨w2, z2.sameBut hs hcc⟩
    · obtain ⟨e, n, ne, nf, d⟩ := I.pin p hp
      refine ⟨(hs.2 p.1 ?_).trans e, n, ne, nf, d⟩
      intro q
      rw [q, hoc] at e
      have q' : oc = p.2 := Option.some.inj e
      exact d w' (by rw [← q']; exact hocd)
theorem store_ok {M : Model} {A : Around} {E : Value → Shared → Prop} {i : Nat} {x : Str} {v : V} {u : Value} {Q : Unit → Shared → Prop} (I : Inv X pins σ H s) (hN : X.N.Nodup) (hi : X.N[i]? = some x) (hx : Loc X.env.scope x) (r : RelV v u)
    (h : ∀ s', Inv X pins (σ.set i (some v)) H s' → Q () s') (hf : X.fn x = true ∨ X.env.scope.names.lookup x = some .local := by first | exact .inl rfl | exact .inr rfl | assumption) : wpAny M A (storeName X.env x u) Q E s :=
  store_ok2 I hN hi hx r (fun s' I' _ => h s' I') hf
theorem Inv.call' {s' : Shared} {ch : List Addr} (I : Inv X pins σ H s) (ho : s'.os = s.os) (u : Un (frs X.stack) ch H H' s.heap s'.heap) (hok : HOk X.prog X.w H' s'.heap) (hg : AllBare s'.gens)
    (hch : ∀ b ∈ ch, (b ∈ X.ex ∨ X.s₀.heap.objs.size ≤ b) ∧ b ≠ X.env.locals ∧ (∀ x c, X.env.cells.lookup x = some c → c ≠ b) ∧ ∀ p ∈ X.pn ++ pins, p.1 ≠ b) : Inv X pins σ H' s' := by
  obtain ⟨h', g', d', t', o'⟩ := s'
  have e : o' = s.os := ho
  subst e
  exact I.call (g' := g') (t' := t') (d' := d') u hok hg hch
end
abbrev XK := Value → Option Addr → Hp → Prop
abbrev St := List (Option V)
abbrev VK := V → Hp → Prop
abbrev TE := St → Hp → VK → Prop
abbrev TT := St → Hp → (Bool → Hp → Prop) → Prop
abbrev TA := St → Hp → (List V → Hp → Prop) → Prop
structure Ends where
  nx : St → Hp → Prop
  rt : VK
  bk : St → Hp → Prop := fun _ _ => False
  ct : St → Hp → Prop := fun _ _ => False
abbrev TS := Ends → St → Hp → Prop
def EP (X : Cx) (pins : List (Addr × Obj)) (σ : St) (Q : VK) (u : Value) (s' : Shared) : Prop := ∃ v H', Inv X pins σ H' s' ∧ RelV v u ∧ Q v H'
def TP (X : Cx) (pins : List (Addr × Obj)) (σ : St) (Q : Bool → Hp → Prop) (b : Bool) (s' : Shared) : Prop := ∃ H', Inv X pins σ H' s' ∧ Q b H'
def AP (X : Cx) (pins : List (Addr × Obj)) (σ : St) (Q : List V → Hp → Prop) (us : List Value) (s' : Shared) : Prop := ∃ vs H', Inv X pins σ H' s' ∧ Vals vs us ∧ Q vs H'
def SP (X : Cx) (pins : List (Addr × Obj)) (D : Ends) (f : Flow) (s' : Shared) : Prop :=
  match f with
  | .next => ∃ σ' H', Inv X pins σ' H' s' ∧ D.nx σ' H'
  | .brk => ∃ σ' H', Inv X pins σ' H' s' ∧ D.bk σ' H'
  | .cont => ∃ σ' H', Inv X pins σ' H' s' ∧ D.ct σ' H'
  | .ret u => ∃ v σ' H', Inv X pins σ' H' s' ∧ RelV v u ∧ D.rt v H'
def PE (X : Cx) (e : Expr) (t : TE) : Prop :=
  ∀ (pins : List (Addr × Obj)) (s : Shared) (σ : St) (H : Hp) (Q : VK), Inv X pins σ H s → t σ H Q → wpAny (model X.prog X.w) X.A (eval e X.env) (EP X pins σ Q) X.xe s
def PT (X : Cx) (e : Expr) (t : TT) : Prop :=
  ∀ (pins : List (Addr × Obj)) (s : Shared) (σ : St) (H : Hp) (Q : Bool → Hp → Prop), Inv X pins σ H s → t σ H Q → wpAny (model X.prog X.w) X.A (isTrue e X.env (eval e X.env)) (TP X pins σ Q) X.xe s
def PW (X : Cx) (e : Expr) (t : TT) : Prop :=
  ∀ (whole : Sem Value) (pins : List (Addr × Obj)) (s : Shared) (σ : St) (H : Hp) (Q : Bool → Hp → Prop), Inv X pins σ H s → t σ H Q → wpAny (model X.prog X.w) X.A (isTrue e X.env whole) (TP X pins σ Q) X.xe s
theorem PW.pt {X : Cx} {e : Expr} {t : TT} (h : PW X e t) : PT X e t := h _
def PA (X : Cx) (es : List Expr) (t : TA) : Prop :=
  ∀ (pos : Pos) (pins : List (Addr × Obj)) (s : Shared) (σ : St) (H : Hp) (Q : List V → Hp → Prop), Inv X pins σ H s → t σ H Q → wpAny (model X.prog X.w) X.A (spliced (backTo pos (starEach es X.env))) (AP X pins σ Q) X.xe s
def PS (X : Cx) (st : Stmt) (t : TS) : Prop :=
  ∀ (pins : List (Addr × Obj)) (s : Shared) (σ : St) (H : Hp) (D : Ends), Inv X pins σ H s → t D σ H → wpAny (model X.prog X.w) X.A (exec st X.env) (SP X pins D) X.xe s
def PSs (X : Cx) (st : List Stmt) (t : TS) : Prop :=
  ∀ (pins : List (Addr × Obj)) (s : Shared) (σ : St) (H : Hp) (D : Ends), Inv X pins σ H s → t D σ H → wpAny (model X.prog X.w) X.A (execs st X.env) (SP X pins D) X.xe s
theorem thn {α : Type} {t : Sem α} {Q Q' : α → Shared → Prop} {M : Model} {A : Around} {E : Value → Shared → Prop} {s : Shared} (h : wpAny M A t Q E s) (hQ : ∀ a s, Q a s → Q' a s) : wpAny M A t Q' E s := wpAny_mono h hQ fun _ _ x => x
end L2
namespace L2
open PySem PySem.Spec PyProof.Rows
section
variable {X : Cx}
theorem bin {a b : Expr} {ta tb : TE} (ha : PE X a ta) (hb : PE X b tb) {pins : List (Addr × Obj)} {s : Shared} {σ : St} {H : Hp} {R : V → V → Hp → Prop} (I : Inv X pins σ H s) (h : ta σ H fun x H1 => tb σ H1 fun y H2 => R x y H2)
    {α : Type} {Q : α → Shared → Prop} {f : Value → Value → Sem α}
    (hf : ∀ v u s2 x y H2, Inv X pins σ H2 s2 → RelV x v → RelV y u → R x y H2 → wpAny (model X.prog X.w) X.A (f v u) Q X.xe s2) :
    wpAny (model X.prog X.w) X.A (eval a X.env) (fun v s₁ => wpAny (model X.prog X.w) X.A (eval b X.env) (fun u s₂ => wpAny (model X.prog X.w) X.A (f v u) Q X.xe s₂) X.xe s₁) X.xe s := by
  refine thn (ha pins s σ H _ I h) fun v s1 ⟨x, H1, I1, r1, q1⟩ => ?_
  refine thn (hb pins s1 σ H1 _ I1 q1) fun u s2 ⟨y, H2, I2, r2, q2⟩ => ?_
  exact hf v u s2 x y H2 I2 r1 r2 q2
def tVar (i : Nat) : TE := fun σ H Q => ∃ v, σ[i]? = some (some v) ∧ Q v H
def tC (v : V) : TE := fun _ H Q => Q v H
theorem pe_var {i : Nat} {x : Str} {pos : Pos} (hN : X.N[i]? = some x) (hv : Vis X.env.scope x) (hd : (x == ("__debug__" : Str)) = false := by decide) (hcd : (x == ("__classdict__" : Str)) = false := by decide) : PE X (.Name x pos) (tVar i) := by
  intro pins s σ H Q I h
  obtain ⟨v, e, h⟩ := h
  obtain ⟨m, hn, hl⟩ := I.loc
  obtain ⟨u, r, l⟩ := hl i x v hN e hv
  have fin : EP X pins σ Q u s := ⟨v, H, I, r, h⟩
  rcases l with ⟨hk, hm⟩ | ⟨hk, c, hc, hcell⟩
  · exact wpAny_Name (wpAny_loadName_local I.ok.kind hk hn hm fin) hd
  · rcases hk with hk | hk
    · exact wpAny_Name (wpAny_loadName_cell I.ok.kind hk hc hcell fin) hd
    · exact wpAny_Name (wpAny_loadName_free I.ok.kind hk hc hcell fin hcd) hd
theorem pe_int {i j pos} : PE X (.Constant (.int i) j pos) (tC (.int i)) := fun _ _ _ H _ I h => wpAny_Constant_int ⟨.int i, H, I.tok _, ⟨_, rfl⟩, h⟩
theorem pe_bl {b j pos} : PE X (.Constant (.bool b) j pos) (tC (.bl b)) := fun _ _ _ H _ I h => Constant_bool ⟨.bl b, H, I, rfl, h⟩
theorem pe_non {j pos} : PE X (.Constant .none j pos) (tC .non) := fun _ _ _ H _ I h => Constant_none ⟨.non, H, I, rfl, h⟩
theorem pe_str {x j pos} : PE X (.Constant (.str x) j pos) (tC (.str x)) := fun _ _ _ H _ I h => Calls.Constant_str ⟨.str x, H, I.tok _, ⟨_, rfl⟩, h⟩
def Gl (X : Cx) (x : Str) : Prop := X.env.kindOf x = some .globalImplicit
theorem ld_glob {E : Value → Shared → Prop} {pins : List (Addr × Obj)} {s : Shared} {σ : St} {H : Hp} {x : Str} {u : Value} {pos : Pos} {Q : Value → Shared → Prop} (I : Inv X pins σ H s) (hg : Gl X x) (hm : X.mg x = some u) (h : Q u s)
    (hd : (x == ("__debug__" : Str)) = false := by decide) : wpAny (model X.prog X.w) X.A (eval (.Name x pos) X.env) Q E s :=
  Calls.Name_function_global I.ok.kind hg (Calls.loadGlobal_global (by rw [I.ok.glob]; exact I.mod.glob.keeps I.bk) hm h) hd
theorem ld_blt {E : Value → Shared → Prop} {pins : List (Addr × Obj)} {s : Shared} {σ : St} {H : Hp} {x : Str} {u : Value} {pos : Pos} {Q : Value → Shared → Prop} (I : Inv X pins σ H s) (hg : Gl X x) (hm : X.mg x = none) (hv : bootBuiltins x = some u) (h : Q u s)
    (hn : x ≠ "__name__" := by decide) (hd : (x == ("__debug__" : Str)) = false := by decide) : wpAny (model X.prog X.w) X.A (eval (.Name x pos) X.env) Q E s := by
  obtain ⟨mb, h1, h2⟩ := I.mod.blt
  exact Calls.Name_function_global I.ok.kind hg (Calls.loadGlobal_builtin (by rw [I.ok.glob]; exact I.mod.glob.keeps I.bk) hm (by rw [I.ok.blt]; exact h1.keeps I.bk) ((h2 x hn).trans hv) h) hd
theorem pe_glob {x : Str} {v : V} {u : Value} {pos : Pos} (hg : Gl X x) (hm : X.mg x = some u) (r : RelV v u) (hd : (x == ("__debug__" : Str)) = false := by decide) : PE X (.Name x pos) (tC v) :=
  fun _ _ _ H _ I h => ld_glob I hg hm ⟨v, H, I, r, h⟩ hd
theorem pe_bltn {x : Str} {v : V} {u : Value} {pos : Pos} (hg : Gl X x) (hm : X.mg x = none) (hv : bootBuiltins x = some u) (r : RelV v u) (hn : x ≠ "__name__" := by decide) (hd : (x == ("__debug__" : Str)) = false := by decide) : PE X (.Name x pos) (tC v) :=
  fun _ _ _ H _ I h => ld_blt I hg hm hv ⟨v, H, I, r, h⟩ hn hd
variable {a b : Expr} {ta tb : TE} {pos : Pos}
def PC (X : Cx) (op : CmpOp) (a b : Expr) (t : TE) : Prop :=
  ∀ (pins : List (Addr × Obj)) (s : Shared) (σ : St) (H : Hp) (Q : VK), Inv X pins σ H s → t σ H Q →
    wpAny (model X.prog X.w) X.A (eval a X.env) (fun v s₁ => wpAny (model X.prog X.w) X.A (eval b X.env) (fun u s₂ => wpAny (model X.prog X.w) X.A (compareOp op v u) (EP X pins σ Q) X.xe s₂) X.xe s₁) X.xe s
theorem nobehind (b : Expr) {op : CmpOp} (h : op ≠ .In) (h2 : op ≠ .NotIn) : behindInMarks op b = false := by
  have e1 : (op == CmpOp.In) = false := by cases op <;> first | rfl | exact absurd rfl h
  have e2 : (op == CmpOp.NotIn) = false := by cases op <;> first | rfl | exact absurd rfl h2
  cases b <;> simp [behindInMarks, e1, e2]
def tB (t : TE) : TT := fun σ H Q => t σ H fun x H1 => ∃ c, x = .bl c ∧ Q c H1
theorem pt_cmp {op : CmpOp} {t : TE} (h : PC X op a b t) (h1 : behindInMarks op b = false := by first | exact nobehind _ (by decide) (by decide) | rfl) : PT X (.Compare a [op] [b] pos) (tB t) := by
  intro pins s σ H Q I hw
  refine wpAny_isTrue_Compare1 (thn (h pins s σ H _ I hw) fun v s1 h1 => thn h1 fun u s2 h2 => thn h2 fun c s3 ⟨x, H1, I1, r1, q1⟩ => ?_) h1
  obtain ⟨d, rfl, q⟩ := q1
  cases r1
  exact wpAny_truthy_bool ⟨H1, I1, q⟩
theorem pt_val {e : Expr} {t : TE} (h : PE X e t) (he : ∀ whole, isTrue e X.env whole = (do let v ← whole; standAt e.pos; holding [v] (truthy v)) := by intro _; rfl) : PT X e (tB t) := by
  intro pins s σ H Q I hw
  refine isTrue_plain (thn (h pins s σ H _ I hw) fun v s1 ⟨x, H1, I1, r1, q1⟩ => ?_) (he _)
  obtain ⟨d, rfl, q⟩ := q1
  cases r1
  exact wpAny_truthy_bool ⟨H1, I1, q⟩
variable {tA tB' : TT} {rest : List Expr}
def tAnd (t u : TT) : TT := fun σ H Q => t σ H fun c H1 => if c = true then u σ H1 Q else Q false H1
def tOr (t u : TT) : TT := fun σ H Q => t σ H fun c H1 => if c = true then Q true H1 else u σ H1 Q
def tNot (t : TT) : TT := fun σ H Q => t σ H fun c H1 => Q (!c) H1
theorem pw_and1 (ha : PT X a tA) : PW X (.BoolOp .And [a] pos) tA := by
  intro wh pins s σ H Q I h
  refine isTrue_and (thn (ha pins s σ H Q I h) fun c s1 e => ?_)
  cases c with
  | true => exact isTrue_and_nil e
  | false => exact e
theorem pw_or1 (ha : PT X a tA) : PW X (.BoolOp .Or [a] pos) tA := by
  intro wh pins s σ H Q I h
  refine isTrue_or (thn (ha pins s σ H Q I h) fun c s1 e => ?_)
  cases c with
  | false => exact isTrue_or_nil e
  | true => exact e
theorem pw_and (ha : PT X a tA) (hb : PW X (.BoolOp .And (b :: rest) pos) tB') : PW X (.BoolOp .And (a :: b :: rest) pos) (tAnd tA tB') := by
  intro wh pins s σ H Q I h
  refine isTrue_and (thn (ha pins s σ H _ I h) fun c s1 ⟨H1, I1, q1⟩ => ?_)
  cases c with
  | true => exact hb wh pins s1 σ H1 Q I1 q1
  | false => exact ⟨H1, I1, q1⟩
theorem pw_or (ha : PT X a tA) (hb : PW X (.BoolOp .Or (b :: rest) pos) tB') : PW X (.BoolOp .Or (a :: b :: rest) pos) (tOr tA tB') := by
  intro wh pins s σ H Q I h
  refine isTrue_or (thn (ha pins s σ H _ I h) fun c s1 ⟨H1, I1, q1⟩ => ?_)
  cases c with
  | true => exact ⟨H1, I1, q1⟩
  | false => exact hb wh pins s1 σ H1 Q I1 q1
theorem pt_not (ha : PT X a tA) : PT X (.UnaryOp .Not a pos) (tNot tA) := by
  intro pins s σ H Q I h
  exact isTrue_not (ha pins s σ H (fun c H1 => Q (!c) H1) I h)
def tAndV (ta tb : TE) : TE := fun σ H Q => ta σ H fun x H1 => ∃ c, x = .bl c ∧ if c = true then tb σ H1 Q else Q (.bl false) H1
def tNotV (ta : TE) : TE := fun σ H Q => ta σ H fun x H1 => ∃ c, x = .bl c ∧ Q (.bl (!c)) H1
theorem pe_one {op} {t : TE} (h : PE X a t) : PE X (.BoolOp op [a] pos) t := fun pins s σ H Q I hw => BoolOp_one (h pins s σ H Q I hw)
theorem pe_and (ha : PE X a ta) (hb : PE X (.BoolOp .And (b :: rest) pos) tb) : PE X (.BoolOp .And (a :: b :: rest) pos) (tAndV ta tb) := by
  intro pins s σ H Q I h
  refine BoolOp_and (thn (ha pins s σ H _ I h) fun v s1 ⟨x, H1, I1, r1, q1⟩ => ?_)
  obtain ⟨c, rfl, q1⟩ := q1
  cases r1
  refine wpAny_truthy_bool ?_
  cases c with
  | true => exact hb pins s1 σ H1 Q I1 q1
  | false => exact ⟨.bl false, H1, I1, rfl, q1⟩
theorem pe_not (ha : PE X a ta) : PE X (.UnaryOp .Not a pos) (tNotV ta) := by
  intro pins s σ H Q I h
  refine UnaryOp_ (thn (ha pins s σ H _ I h) fun v s1 ⟨x, H1, I1, r1, q1⟩ => ?_)
  obtain ⟨c, rfl, q1⟩ := q1
  cases r1
  exact not_of (wpAny_truthy_bool ⟨.bl (!c), H1, I1, rfl, q1⟩)
def tIf (t : TT) (ta tb : TE) : TE := fun σ H Q => t σ H fun c H1 => if c = true then ta σ H1 Q else tb σ H1 Q
theorem pe_ifExp {c : Expr} (hc : PT X c tA) (ha : PE X a ta) (hb : PE X b tb) : PE X (.IfExp c a b pos) (tIf tA ta tb) := by
  intro pins s σ H Q I h
  refine wpAny_IfExp (thn (hc pins s σ H _ I h) fun d s1 ⟨H1, I1, q1⟩ => ?_)
  cases d with
  | true => exact ha pins s1 σ H1 Q I1 q1
  | false => exact hb pins s1 σ H1 Q I1 q1
end
end L2
namespace L2
open PySem PySem.Spec PyProof.Rows
def SqL (K : PySem.W.Frag) (H : Hp) (a : Addr) (xs : List V) : Prop :=
  Rd H a (.lst xs) ∨
    ∃ (o : Obj) (its : Array Value) (n : Nat), K.lookup a = some o ∧ o.cls = .type "list" ∧ o.dict = none ∧ o.data = .seq its n ∧ its.size ≤ sizeLine ∧ Vals xs its.toList
def SqT (K : PySem.W.Frag) (H : Hp) (a : Addr) (xs : List V) : Prop :=
  Rd H a (.tup xs) ∨
    ∃ (o : Obj) (its : Array Value) (n : Nat), K.lookup a = some o ∧ o.cls = .type "tuple" ∧ o.data = .seq its n ∧ its.size ≤ sizeLine ∧ Vals xs its.toList
def absV : Value → Option V
  | .none => some .non
  | .bool b => some (.bl b)
  | .int i _ => some (.int i)
  | .str x _ => some (.str x)
  | .bytes b _ => some (.byt b)
  | .float b _ => some (.flt b)
  | .ref a => some (.ref a)
  | .type n => some (.ty n)
  | _ => none
theorem RelV.abs {x : V} {u : Value} (r : RelV x u) : absV u = some x := by
  cases x with
  | non => cases r; rfl
  | bl _ => cases r; rfl
  | int _ => obtain ⟨t, rfl⟩ := r; rfl
  | str _ => obtain ⟨t, rfl⟩ := r; rfl
  | byt _ => obtain ⟨t, rfl⟩ := r; rfl
  | flt _ => obtain ⟨t, rfl⟩ := r; rfl
  | ref _ => cases r; rfl
  | ty _ => cases r; rfl
theorem RelV.inj {x y : V} {u : Value} (r : RelV x u) (q : RelV y u) : x = y := Option.some.inj (r.abs.symm.trans q.abs)
theorem Vals.inj : ∀ {xs ys : List V} {us : List Value}, Vals xs us → Vals ys us → xs = ys
  | _, _, _, .nil, .nil => rfl
  | _, _, _, .cons r t, .cons r' t' => by rw [r.inj r', Vals.inj t t']
section
variable {X : Cx} {pins : List (Addr × Obj)} {σ : St} {H : Hp} {s : Shared} {a : Addr} {xs ys : List V}
theorem SqL.of {K : PySem.W.Frag} (h : H a = some (.lst xs)) : SqL K H a xs := .inl (.inl h)
theorem SqT.of {K : PySem.W.Frag} (h : H a = some (.tup xs)) : SqT K H a xs := .inl (.inl h)
theorem Inv.list (I : Inv X pins σ H s) (h : SqL X.K H a xs) : ∃ its : List Value, Vals xs its ∧ PlainL s.heap a its.toArray ∧ xs.length ≤ sizeLine := by
  rcases h with h | ⟨o, its, n, hk, hc, hd, hs, hz, r⟩
  · obtain ⟨z, its, n, r, e⟩ := h.ok I.hok
    exact ⟨its, r, ⟨_, n, e, rfl, rfl, rfl⟩, z⟩
  · refine ⟨its.toList, r, ⟨o, n, I.kIn a o hk, hc, hd, by simpa using hs⟩, ?_⟩
    have e := r.length
    simp only [Array.length_toList] at e
    omega
theorem Inv.tuple (I : Inv X pins σ H s) (h : SqT X.K H a xs) : ∃ its : List Value, Vals xs its ∧ IsTup s.heap a its.toArray ∧ xs.length ≤ sizeLine := by
  rcases h with h | ⟨o, its, n, hk, hc, hs, hz, r⟩
  · obtain ⟨z, its, r, p⟩ := h.ok I.hok
    exact ⟨its, r, p, z⟩
  · refine ⟨its.toList, r, ⟨o, I.kIn a o hk, hc, n, by simpa using hs⟩, ?_⟩
    have e := r.length
    simp only [Array.length_toList] at e
    omega
theorem Inv.list_inj (I : Inv X pins σ H s) (h : SqL X.K H a xs) (h' : SqL X.K H a ys) : xs = ys := by
  obtain ⟨its, r, ⟨o, n, e, _, _, d⟩, _⟩ := I.list h
  obtain ⟨its', r', ⟨o', n', e', _, _, d'⟩, _⟩ := I.list h'
  rw [e] at e'; cases e'
  rw [d] at d'
  injection d' with d1 _
  have : its = its' := by simpa using congrArg Array.toList d1
  subst this
  exact r.inj r'
theorem Inv.tuple_inj (I : Inv X pins σ H s) (h : SqT X.K H a xs) (h' : SqT X.K H a ys) : xs = ys := by
  obtain ⟨its, r, ⟨o, e, _, n, d⟩, _⟩ := I.tuple h
  obtain ⟨its', r', ⟨o', e', _, n', d'⟩, _⟩ := I.tuple h'
  rw [e] at e'; cases e'
  rw [d] at d'
  injection d' with d1 _
  have : its = its' := by simpa using congrArg Array.toList d1
  subst this
  exact r.inj r'
end
abbrev Cx.wish (X : Cx) (E : Value → Shared → Prop) : Cx := { X with xe := E }
abbrev Cx.nox (X : Cx) : Cx := X.wish fun _ _ => False
theorem Cx.Ok.wish {X : Cx} (ok : X.Ok) (E : Value → Shared → Prop) : (X.wish E).Ok :=
  ⟨ok.mod, ok.kind, ok.glob, ok.blt, ok.above, ok.inj, ok.has, ok.cab, ok.hd, ok.frames, ok.stk, ok.exf, ok.bs, ok.bsz, ok.noex, ok.exfs, ok.funs, ok.frf⟩
theorem Cx.Ok.unwish {X : Cx} {E : Value → Shared → Prop} (ok : (X.wish E).Ok) : X.Ok :=
  ⟨ok.mod, ok.kind, ok.glob, ok.blt, ok.above, ok.inj, ok.has, ok.cab, ok.hd, ok.frames, ok.stk, ok.exf, ok.bs, ok.bsz, ok.noex, ok.exfs, ok.funs, ok.frf⟩
section
variable {X : Cx} {pins : List (Addr × Obj)} {σ : St} {H : Hp} {s : Shared} {E : Value → Shared → Prop}
theorem Inv.wish (I : Inv X pins σ H s) (E : Value → Shared → Prop) : Inv (X.wish E) pins σ H s := ⟨I.ok.wish E, I.os, I.bare, I.base, I.loc, I.cell, I.free, I.freeC, I.pin, I.hok, I.len⟩
theorem Inv.unwish (I : Inv (X.wish E) pins σ H s) : Inv X pins σ H s := ⟨I.ok.unwish, I.os, I.bare, I.base, I.loc, I.cell, I.free, I.freeC, I.pin, I.hok, I.len⟩
theorem SP.unwish {D : Ends} {f : Flow} {s' : Shared} (h : SP (X.wish E) pins D f s') : SP X pins D f s' := by
  cases f with
  | next => obtain ⟨σ', H', I, q⟩ := h; exact ⟨σ', H', I.unwish, q⟩
  | brk => obtain ⟨σ', H', I, q⟩ := h; exact ⟨σ', H', I.unwish, q⟩
  | cont => obtain ⟨σ', H', I, q⟩ := h; exact ⟨σ', H', I.unwish, q⟩
  | ret u => obtain ⟨v, σ', H', I, r, q⟩ := h; exact ⟨v, σ', H', I.unwish, r, q⟩
theorem PSs.nox {st : List Stmt} {t : TS} (h : PSs X.nox st t) : PSs X st t := fun pins s σ H D I hw =>
  wpAny_mono (h pins s σ H D (I.wish _) hw) (fun _ _ q => q.unwish) fun _ _ z => False.elim z
end
section
variable {X : Cx} {st : Stmt} {rest : List Stmt} {t u : TS} {e : Expr} {te : TE} {pos : Pos}
def tNext : TS := fun D σ H => D.nx σ H
def tSeq (t u : TS) : TS := fun D σ H => t { D with nx := u D } σ H
theorem pss_nil : PSs X [] tNext := fun _ _ σ H _ I h => wpAny_execs_nil ⟨σ, H, I, h⟩
theorem pss_cons (h1 : PS X st t) (h2 : PSs X rest u) : PSs X (st :: rest) (tSeq t u) := by
  intro pins s σ H D I h
  refine wpAny_execs_cons (thn (h1 pins s σ H { D with nx := u D } I h) fun f s1 q => ?_)
  cases f with
  | next =>
    obtain ⟨σ', H', I', q⟩ := q
    exact h2 pins s1 σ' H' D I' q
  | ret v => exact q
  | brk => exact q
  | cont => exact q
theorem pss_one (h1 : PS X st t) : PSs X [st] t := by
  intro pins s σ H D I h
  refine wpAny_execs_cons (thn (h1 pins s σ H D I h) fun f s1 q => ?_)
  cases f with
  | next => exact wpAny_execs_nil q
  | ret v => exact q
  | brk => exact q
  | cont => exact q
theorem Inv.quiet {pins : List (Addr × Obj)} {σ : St} {H : Hp} {s : Shared} (I : Inv X pins σ H s) : interactive X.env = false := by simp [interactive, I.ok.kind]
def tDrop (te : TE) : TS := fun D σ H => te σ H fun _ H1 => D.nx σ H1
theorem ps_expr (he : PE X e te) (hs : swapsWith e none pos.line X.env = pure false := by rfl) : PS X (.Expr e pos) (tDrop te) := by
  intro pins s σ H D I h
  exact wpAny_Expr_any (thn (he pins s σ H _ I h) fun v s1 ⟨x, H1, I1, r1, q1⟩ => ⟨σ, H1, I1, q1⟩) I.quiet hs
def tRet (te : TE) : TS := fun D σ H => te σ H D.rt
theorem ps_ret (he : PE X e te) : PS X (.Return (some e) pos) (tRet te) := by
  intro pins s σ H D I h
  exact wpAny_Return_some (thn (he pins s σ H _ I h) fun v s1 ⟨x, H1, I1, r1, q1⟩ => ⟨x, σ, H1, I1, r1, q1⟩)
def tIfS (c : TT) (t u : TS) : TS := fun D σ H => c σ H fun b H1 => if b = true then t D σ H1 else u D σ H1
theorem ps_if {c : Expr} {a b : List Stmt} {tc : TT} (hc : PT X c tc) (ha : PSs X a t) (hb : PSs X b u) : PS X (.If c a b pos) (tIfS tc t u) := by
  intro pins s σ H D I h
  refine wpAny_If (thn (hc pins s σ H _ I h) fun d s1 ⟨H1, I1, q1⟩ => ?_)
  cases d with
  | true => exact ha pins s1 σ H1 D I1 q1
  | false => exact hb pins s1 σ H1 D I1 q1
def tNever : TS := fun _ _ _ => False
theorem pss_never {sts : List Stmt} : PSs X sts tNever := fun _ _ _ _ _ _ h => h.elim
end
abbrev TG := V → St → Hp → (St → Hp → Prop) → Prop
abbrev TGs := List V → St → Hp → (St → Hp → Prop) → Prop
def PG (X : Cx) (target : Expr) (t : TG) : Prop :=
  ∀ (pins : List (Addr × Obj)) (s : Shared) (σ : St) (H : Hp) (v : V) (u : Value) (Q : St → Hp → Prop), Inv X pins σ H s → RelV v u → t v σ H Q →
    wpAny (model X.prog X.w) X.A (assign target X.env u) (fun _ s' => ∃ σ' H', Inv X pins σ' H' s' ∧ Q σ' H') X.xe s
def PGs (X : Cx) (ts : List Expr) (t : TGs) : Prop :=
  ∀ (pins : List (Addr × Obj)) (s : Shared) (σ : St) (H : Hp) (vs : List V) (us : List Value) (Q : St → Hp → Prop), Inv X pins σ H s → Vals vs us → t vs σ H Q →
    wpAny (model X.prog X.w) X.A (assignInOrder ((assignEach ts X.env).map (·.2)) us) (fun _ s' => ∃ σ' H', Inv X pins σ' H' s' ∧ Q σ' H') X.xe s
abbrev TSet := V → V → V → Hp → (Hp → Prop) → Prop
def PSet (X : Cx) (t : TSet) : Prop :=
  ∀ (pins : List (Addr × Obj)) (s : Shared) (σ : St) (H : Hp) (o i v : V) (ov iv u : Value) (Q : Hp → Prop), Inv X pins σ H s → RelV o ov → RelV i iv → RelV v u → t o i v H Q →
    wpAny (model X.prog X.w) X.A (setItem ov iv u) (fun _ s' => ∃ H', Inv X pins σ H' s' ∧ Q H') X.xe s
section
variable {X : Cx} {pos : Pos}
def gName (i : Nat) : TG := fun v σ H Q => Q (σ.set i (some v)) H
theorem pg_name {i : Nat} {x : Str} (hN : X.N.Nodup) (hi : X.N[i]? = some x) (hx : Loc X.env.scope x) (hf : X.fn x = true ∨ X.env.scope.names.lookup x = some .local := by first | exact .inl rfl | exact .inr rfl | assumption) : PG X (.Name x pos) (gName i) := by
  intro pins s σ H v u Q I r h
  exact wpAny_assign_Name (store_ok I hN hi hx r (fun s' I' => ⟨_, H, I', h⟩) hf)
def gNil : TGs := fun vs σ H Q => vs = [] ∧ Q σ H
def gCons (t : TG) (u : TGs) : TGs := fun vs σ H Q => ∃ v r, vs = v :: r ∧ t v σ H fun σ' H' => u r σ' H' Q
theorem pgs_nil : PGs X [] gNil := by
  intro pins s σ H vs us Q I r h
  obtain ⟨e, h⟩ := h
  subst e
  cases r
  exact assignInOrder_nil ⟨σ, H, I, h⟩
theorem pgs_cons {e : Expr} {es : List Expr} {t : TG} {u : TGs} (h1 : PG X e t) (h2 : PGs X es u)
    (hs : (assignEach (e :: es) X.env).map (·.2) = assign e X.env :: (assignEach es X.env).map (·.2) := by rfl) : PGs X (e :: es) (gCons t u) := by
  intro pins s σ H vs us Q I r h
  obtain ⟨v, vr, e1, h⟩ := h
  subst e1
  cases r with
  | cons r rr =>
    rw [hs]
    refine assignInOrder_cons (thn (h1 pins s σ H _ _ _ I r h) fun _ s1 ⟨σ1, H1, I1, q1⟩ => ?_)
    exact h2 pins s1 σ1 H1 _ _ Q I1 rr q1
def gTup (K : PySem.W.Frag) (n : Nat) (t : TGs) : TG := fun v σ H Q => ∃ a xs, v = .ref a ∧ SqT K H a xs ∧ xs.length = n ∧ t xs σ H Q
theorem pg_tup {es : List Expr} {k : Nat} {t : TGs} {n : Nat} (hc : X.calm = true) (h : PGs X es t)
    (hn : (assignEach es X.env).length = n := by rfl) (hst : (assignEach es X.env).findIdx? (·.1) = none := by rfl) : PG X (.Tuple es k pos) (gTup X.K n t) := by
  intro pins s σ H v u Q I r hw
  obtain ⟨a, xs, e1, hq, hl, hw⟩ := hw
  subst e1
  cases r
  obtain ⟨its, rv, ht, hz⟩ := I.tuple hq
  refine assign_Tuple_tuple (I.ok.hd hc) ht (by simp [hn, ← hl, rv.length]) hst fun h' hx => ?_
  have I1 : Inv X pins σ H { s with heap := h' } := I.kept (t' := s.toks) fun b o e => hx b o (Nat.ne_of_lt (Heap.lt_size e)) e
  exact h pins _ σ H xs _ Q I1 (by simpa using rv) hw
def gSub (to ti : TE) (t : TSet) : TG := fun v σ H Q => to σ H fun o H1 => ti σ H1 fun i H2 => t o i v H2 fun H3 => Q σ H3
theorem pg_sub {o i : Expr} {to ti : TE} {t : TSet} (ho : PE X o to) (hi : PE X i ti) (hs : PSet X t)
    (ha : ∀ v, assign (.Subscript o i pos) X.env v = (do
      let ov ← holding [v] (eval o X.env)
      let iv ← holding [v, ov] (eval i X.env)
      standAt pos
      holding [v, ov, iv] (setItem ov iv v)
      release [v, ov, iv] []) := by intro _; rfl) : PG X (.Subscript o i pos) (gSub to ti t) := by
  intro pins s σ H v u Q I r h
  rw [ha]
  refine wpAny_bind (wpAny_holding (thn (ho pins s σ H _ I h) fun ov s1 ⟨x, H1, I1, r1, q1⟩ => ?_))
  refine wpAny_bind (wpAny_holding (thn (hi pins s1 σ H1 _ I1 q1) fun iv s2 ⟨y, H2, I2, r2, q2⟩ => ?_))
  refine wpAny_bind (wpAny_standAt (wpAny_bind (wpAny_holding (thn (hs pins s2 σ H2 x y v ov iv u _ I2 r1 r2 r q2) fun _ s3 ⟨H3, I3, q3⟩ => ?_))))
  exact wpAny_release ⟨σ, H3, I3, q3⟩
def tAsg (te : TE) (g : TG) : TS := fun D σ H => te σ H fun x H1 => g x σ H1 D.nx
theorem ps_asg {tg e : Expr} {te : TE} {g : TG} (he : PE X e te) (hg : PG X tg g) (hs : swapsWithSole [tg] e pos.line X.env = pure false := by rfl) (hw : swappedStores [tg] e X.env = pure none := by rfl)
    (h1 : (assignEach [tg] X.env).map (·.2) = [assign tg X.env] := by rfl) : PS X (.Assign [tg] e pos) (tAsg te g) := by
  intro pins s σ H D I h
  refine wpAny_Assign_stores (thn (he pins s σ H _ I h) fun v s1 ⟨x, H1, I1, r1, q1⟩ => ?_) hs hw
  rw [h1]
  exact thn (hg pins s1 σ H1 x v _ I1 r1 q1) fun _ s2 q => q
theorem ps_set {i : Nat} {x : Str} {e : Expr} {te : TE} {pos' : Pos} (hN : X.N.Nodup) (hi : X.N[i]? = some x) (hx : Loc X.env.scope x) (he : PE X e te) (hs : swapsWith e (some (.Name x pos')) pos.line X.env = pure false := by rfl) (hf : X.fn x = true ∨ X.env.scope.names.lookup x = some .local := by first | exact .inl rfl | exact .inr rfl | assumption) :
    PS X (.Assign [.Name x pos'] e pos) (tAsg te (gName i)) := by
  intro pins s σ H D I h
  refine wpAny_Assign_Name (thn (he pins s σ H _ I h) fun v s1 ⟨y, H1, I1, r1, q1⟩ => ?_) hs
  exact store_ok I1 hN hi hx r1 (fun s2 I2 => ⟨_, H1, I2, q1⟩) hf
end
section
variable {X : Cx} {pos : Pos}
end
structure It where
  go : Nat → Hp → Prop
  yld : Nat → Hp → V → Hp → Prop
  stop : Nat → Hp → Prop
def FpOk (X : Cx) (pins : List (Addr × Obj)) (H : Hp) (b : Addr) : Prop :=
  H b = none ∧ b ≠ X.env.locals ∧ b ∉ X.fs ∧ (b ∈ X.ex ∨ X.s₀.heap.objs.size ≤ b) ∧ (∀ x c, X.env.cells.lookup x = some c → c ≠ b) ∧ ∀ p ∈ X.pn ++ pins, p.1 ≠ b
theorem Inv.fpOk {X : Cx} {pins : List (Addr × Obj)} {σ : St} {H H' : Hp} {s : Shared} {b : Addr} (I : Inv X pins σ H s) (hb : s.heap.objs.size ≤ b) (hn : H' b = none) : FpOk X pins H' b := by
  refine ⟨hn, Nat.ne_of_gt (Nat.lt_of_lt_of_le I.lt hb), I.nofs hb, .inr (Nat.le_trans I.sz hb), fun x c e z => ?_, fun p hp z => ?_⟩
  · obtain ⟨v, q⟩ := I.cell x c e
    exact absurd (Nat.lt_of_lt_of_le q.lt (by rw [z]; exact hb)) (Nat.lt_irrefl _)
  · exact absurd (Nat.lt_of_lt_of_le (Heap.lt_size (I.pin p hp).1) (by rw [z]; exact hb)) (Nat.lt_irrefl _)
structure Turn (P : Program) (w : World) (K : PySem.W.Frag) (tg : Expr) (J : It) (fp : List Addr) (it : Addr) (tn : Nat → Heap → Prop) : Prop where
  mem : it ∈ fp
  obj : ∀ i h, tn i h → ∀ b ∈ fp, ∃ o, h.get? b = some o ∧ ∀ v, o.data ≠ .cell v
  keep : ∀ i h h', tn i h → (∀ b ∈ fp, ∀ o, h.get? b = some o → h'.get? b = some o) → tn i h'
  item : ∀ (X : Cx), X.prog = P → X.w = w → X.K = K → X.calm = true → ∀ (i : Nat) (pins : List (Addr × Obj)) (s : Shared) (σ : St) (H : Hp) (E : Value → Shared → Prop), Inv X pins σ H s → (∀ b ∈ fp, FpOk X pins H b) → tn i s.heap → J.go i H →
    wpAny (model P w) X.A (pyNext (.ref it)) (fun r s1 => ∃ u, r = some u ∧
      wpAny (model P w) X.A (letOwnedTupleGo tg (.ref it) u) (fun _ s2 => ∃ x H', Inv X pins σ H' s2 ∧ RelV x u ∧ J.yld i H x H' ∧ tn (i + 1) s2.heap ∧ ∀ b ∈ fp, H' b = none) E s1) E s
  done : ∀ (X : Cx), X.prog = P → X.w = w → X.K = K → X.calm = true → ∀ (i : Nat) (pins : List (Addr × Obj)) (s : Shared) (σ : St) (H : Hp) (E : Value → Shared → Prop), Inv X pins σ H s → (∀ b ∈ fp, FpOk X pins H b) → tn i s.heap → J.stop i H →
    wpAny (model P w) X.A (pyNext (.ref it)) (fun r s1 => r = none ∧ Inv X pins σ H s1) E s
  self : ∀ (A : Around) (i : Nat) (s : Shared) (Q : Value → Shared → Prop) (E : Value → Shared → Prop), tn i s.heap → Q (.ref it) s → wpAny (model P w) A (pyIter (.ref it)) Q E s
abbrev TI := St → Hp → (It → Hp → Prop) → Prop
def PIE (X : Cx) (pins : List (Addr × Obj)) (σ : St) (tg : Expr) (R : It → Hp → Prop) (itv : Value) (s2 : Shared) : Prop :=
  ∃ (it : Addr) (fp : List Addr) (tn : Nat → Heap → Prop) (J : It) (H' : Hp), itv = .ref it ∧ Inv X pins σ H' s2 ∧ Turn X.prog X.w X.K tg J fp it tn ∧ tn 0 s2.heap ∧ (∀ b ∈ fp, FpOk X pins H' b) ∧ R J H'
def PI (X : Cx) (tg iter : Expr) (wi : TI) : Prop :=
  ∀ (pins : List (Addr × Obj)) (s : Shared) (σ : St) (H : Hp) (R : It → Hp → Prop), Inv X pins σ H s → wi σ H R →
    wpAny (model X.prog X.w) X.A (eval iter X.env) (fun v s1 => wpAny (model X.prog X.w) X.A (pyIter v) (PIE X pins σ tg R) X.xe s1) X.xe s
theorem go_of {M : Model} {A : Around} {E : Value → Shared → Prop} {s : Shared} {tg : Expr} {it : Addr} {u : Value} {o : Obj} {n : String} {vs : Array Value} {Q : Unit → Shared → Prop} (ho : s.heap.get? it = some o) (hc : o.cls = .type n) (hd : o.data = .fields vs)
    (hn : ["enumerate", "zip", "dict_itemiterator", "dict_reverseitemiterator", "odict_iterator", "itertools.zip_longest", "itertools.pairwise"].contains n = false) (hQ : Q () s) : wpAny M A (letOwnedTupleGo tg (.ref it) u) Q E s := by
  unfold letOwnedTupleGo
  cases tg <;> first
    | exact wpAny_pure hQ
    | (cases u <;> first
        | exact wpAny_pure hQ
        | (refine wpAny_bind (wpAny_load ho ?_)
           rw [hc, hd]
           show wpAny M A (if (["enumerate", "zip", "dict_itemiterator", "dict_reverseitemiterator", "odict_iterator", "itertools.zip_longest", "itertools.pairwise"].contains n && vs[0]? == some (rawInt _)) = true then _ else _) Q E s
           rw [if_neg (by intro h; rw [hn, Bool.false_and] at h; cases h)]
           exact wpAny_pure hQ))
def Itl (K : PySem.W.Frag) (a : Addr) : It :=
  ⟨fun i H => ∃ xs x, SqL K H a xs ∧ xs[i]? = some x, fun i H x H' => H' = H ∧ ∀ xs, SqL K H a xs → xs[i]? = some x, fun i H => ∃ xs, SqL K H a xs ∧ xs.length ≤ i⟩
def Itr (lo : Int) (n : Nat) : It := ⟨fun i _ => i < n, fun i H x H' => H' = H ∧ x = .int (lo + i), fun i _ => n ≤ i⟩
theorem turn_list {P : Program} {w : World} {K : PySem.W.Frag} {tg : Expr} (a it : Addr) : Turn P w K tg (Itl K a) [it] it (fun i h => h.IsListIter it a i) where
  mem := by simp
  obj := fun i h st b hb => by
    have e : b = it := by simpa using hb
    subst e
    obtain ⟨o, e, c, d⟩ := st
    exact ⟨o, e, fun v z => by rw [d] at z; cases z⟩
  keep := fun i h h' st k => st.at fun o e => k it (by simp) o e
  item := by
    intro X hP hw hK hc i pins s σ H E I hf st hg
    subst hP hw hK
    obtain ⟨xs, x, hq, hx⟩ := hg
    obtain ⟨its, rv, p, hz⟩ := I.list hq
    obtain ⟨u, hu, ru⟩ := rv.get hx
    obtain ⟨f0, f1, f2, f3, f4, f5⟩ := hf it (by simp)
    refine wpAny_pyNext_list_item st p.isList (x := u) (by simpa using hu) fun h' st' sb => ?_
    have I1 : Inv X pins σ H { s with heap := h' } := I.turned (t' := s.toks) (fun b o hb e => (sb.2 b hb).trans e) f0 f1 f3 f4 f5
    obtain ⟨o, e, c, d⟩ := id st'
    exact ⟨u, rfl, go_of (s := { s with heap := h' }) e c d (by decide) ⟨x, H, I1, ru, ⟨rfl, fun ys hy => by rw [I.list_inj hy hq]; exact hx⟩, st', fun b hb => (hf b hb).1⟩⟩
  done := by
    intro X hP hw hK hc i pins s σ H E I hf st hg
    subst hP hw hK
    obtain ⟨xs, hq, hx⟩ := hg
    obtain ⟨its, rv, p, hz⟩ := I.list hq
    obtain ⟨f0, f1, f2, f3, f4, f5⟩ := hf it (by simp)
    have hl := rv.length
    exact wpAny_pyNext_list_end (I.ok.hd hc) st p.isList (by simp; omega) fun h' eb => ⟨rfl, I.turned (t' := s.toks) (fun b o hb e => eb b o hb e) f0 f1 f3 f4 f5⟩
  self := fun _ _ _ _ _ st h => wpAny_pyIter_listiter st h
theorem turn_range {P : Program} {w : World} {K : PySem.W.Frag} {tg : Expr} (it : Addr) (lo : Int) (n : Nat) : Turn P w K tg (Itr lo n) [it] it (fun i h => IsRangeIter h it (lo + (i : Nat) * 1) ((n : Int) - (i : Nat)) 1) where
  mem := by simp
  obj := fun i h st b hb => by
    have e : b = it := by simpa using hb
    subst e
    exact ⟨_, st, fun v z => by
      have z' : Data.fields _ = Data.cell v := z
      cases z'⟩
  keep := fun i h h' st k => k it (by simp) _ st
  item := by
    intro X hP hw hK hc i pins s σ H E I hf st hg
    subst hP hw hK
    obtain ⟨f0, f1, f2, f3, f4, f5⟩ := hf it (by simp)
    have W := Walks.range (prog := X.prog) (w := X.w) (I.ok.hd hc) it lo 1 n
    refine W.item i s _ _ hg st fun v h' tk hv st' kk => ?_
    obtain ⟨t, rfl⟩ := hv
    have I1 : Inv X pins σ H { s with heap := h', toks := tk } := I.turned (fun b o hb e => kk b o (by simpa using hb) e) f0 f1 f3 f4 f5
    refine ⟨_, rfl, go_of (s := { s with heap := h', toks := tk }) (n := "range_iterator") st' rfl rfl (by decide) ⟨.int (lo + i), H, I1, ⟨t, ?_⟩, ⟨rfl, rfl⟩, st', fun b hb => (hf b hb).1⟩⟩
    rw [Int.mul_one]
  done := by
    intro X hP hw hK hc i pins s σ H E I hf st hg
    subst hP hw hK
    obtain ⟨f0, f1, f2, f3, f4, f5⟩ := hf it (by simp)
    exact wpAny_pyNext_range_end (I.ok.hd hc) st (by have : n ≤ i := hg; omega) fun h' eb => ⟨rfl, I.turned (t' := s.toks) (fun b o hb e => eb b o hb e) f0 f1 f3 f4 f5⟩
  self := fun _ _ _ _ _ st h => wpAny_pyIter_rangeiter st h
end L2
namespace L2
open PySem PySem.Spec PyProof.Rows
section
variable {X : Cx} {tg : Expr}
def iList (K : PySem.W.Frag) (tl : TE) : TI := fun σ H R => tl σ H fun x H1 => ∃ a, x = .ref a ∧ (∃ xs, SqL K H1 a xs) ∧ R (Itl K a) H1
theorem pi_list {l : Expr} {tl : TE} (hl : PE X l tl) : PI X tg l (iList X.K tl) := by
  intro pins s σ H R I h
  refine thn (hl pins s σ H _ I h) fun v s1 ⟨x, H1, I1, r1, q1⟩ => ?_
  obtain ⟨a, e, ⟨xs, hq⟩, q⟩ := q1
  subst e
  cases r1
  obtain ⟨its, rv, p, hz⟩ := I1.list hq
  refine wpAny_pyIter_list p.isList ?_
  refine ⟨s1.heap.objs.size, [s1.heap.objs.size], _, _, H1, rfl, I1.kept (t' := s1.toks) fun b o e => Heap.get?_push_of_some _ e, turn_list a _, ⟨_, Heap.get?_push_size _ rfl, rfl, rfl⟩, fun b hb => ?_, q⟩
  have e : b = s1.heap.objs.size := by simpa using hb
  subst e
  exact I1.fpOk (Nat.le_refl _) (I1.hok.fresh (Nat.le_refl _))
theorem range_it {pins : List (Addr × Obj)} {σ : St} {H : Hp} {s : Shared} {R : It → Hp → Prop} {E : Value → Shared → Prop} {lo hi : Int} {t u v : Tok} {tk : Nat} (I : Inv X pins σ H s) (h1 : -(2 ^ 62) ≤ lo) (h2 : lo < 2 ^ 62) (h3 : -(2 ^ 62) ≤ hi) (h4 : hi < 2 ^ 62)
    (q : R (Itr lo (hi - lo).toNat) H) : wpAny (model X.prog X.w) X.A (pyIter (.ref s.heap.objs.size)) (PIE X pins σ tg R) E { s with heap := s.heap.push { cls := .type "range", data := .fields #[.int lo t, .int hi u, .int 1 v] }, toks := tk } := by
  refine wpAny_pyIter_range (IsRange.new ..) (small_one h1 h2 h3 h4) ?_
  have I1 : Inv X pins σ H { s with heap := s.heap.push { cls := .type "range", data := .fields #[.int lo t, .int hi u, .int 1 v] }, toks := tk } := I.kept fun b o e => Heap.get?_push_of_some _ e
  refine ⟨(s.heap.push { cls := .type "range", data := .fields #[.int lo t, .int hi u, .int 1 v] }).objs.size, [(s.heap.push { cls := .type "range", data := .fields #[.int lo t, .int hi u, .int 1 v] }).objs.size], _, _, H, rfl,
    I1.kept (t' := tk) fun b o e => Heap.get?_push_of_some _ e, turn_range _ lo (hi - lo).toNat, ?_, fun b hb => ?_, q⟩
  · have e1 : lo + ((0 : Nat) : Int) * 1 = lo := by simp
    have e2 : (((hi - lo).toNat : Nat) : Int) - ((0 : Nat) : Int) = Builtin.Range.rangeSize lo hi 1 := by rw [rangeSize_one]; split <;> omega
    show IsRangeIter _ _ (lo + ((0 : Nat) : Int) * 1) ((((hi - lo).toNat : Nat) : Int) - ((0 : Nat) : Int)) 1
    rw [e1, e2]
    exact Heap.get?_push_size _ rfl
  · have e : b = (s.heap.push { cls := .type "range", data := .fields #[.int lo t, .int hi u, .int 1 v] }).objs.size := by simpa using hb
    subst e
    exact I1.fpOk (Nat.le_refl _) (I1.hok.fresh (Nat.le_refl _))
def iRng1 (ta : TA) : TI := fun σ H R => ta σ H fun vs H1 => ∃ j : Int, vs = [.int j] ∧ -(2 ^ 62) ≤ j ∧ j < 2 ^ 62 ∧ R (Itr 0 j.toNat) H1
def iRng2 (ta : TA) : TI := fun σ H R => ta σ H fun vs H1 => ∃ i j : Int, vs = [.int i, .int j] ∧ (-(2 ^ 62) ≤ i ∧ i < 2 ^ 62 ∧ -(2 ^ 62) ≤ j ∧ j < 2 ^ 62) ∧ R (Itr i (j - i).toNat) H1
theorem pi_range1 {a : Expr} {ta : TA} {p pos : Pos} (hg : Gl X "range") (hm : X.mg "range" = none) (ha : PA X [a] ta) (hs : starEach [a] X.env = [(false, eval a X.env)] := by rfl) : PI X tg (.Call (.Name "range" p) [a] [] pos) (iRng1 ta) := by
  intro pins s σ H R I h
  refine Call_ (ld_blt I hg hm boot_range (PyProof.Rows.callWith_type1 (thn (ha pos pins s σ H _ I h) fun us s1 ⟨vs, H1, I1, r1, q1⟩ => ?_) hs rfl))
  obtain ⟨j, e, q1, q2, q⟩ := q1
  subst e
  cases r1 with
  | cons r rr =>
    cases rr
    obtain ⟨t, rfl⟩ := r
    exact call_range_1 (range_it I1 (by omega) (by omega) q1 q2 (by simpa using q))
theorem pi_range2 {a b : Expr} {ta : TA} {p pos : Pos} (hg : Gl X "range") (hm : X.mg "range" = none) (ha : PA X [a, b] ta) (hs : starEach [a, b] X.env = [(false, eval a X.env), (false, eval b X.env)] := by rfl) (hs2 : starEach [b] X.env = [(false, eval b X.env)] := by rfl) :
    PI X tg (.Call (.Name "range" p) [a, b] [] pos) (iRng2 ta) := by
  intro pins s σ H R I h
  refine Call_ (ld_blt I hg hm boot_range (PyProof.Rows.callWith_type1 (thn (ha pos pins s σ H _ I h) fun us s1 ⟨vs, H1, I1, r1, q1⟩ => ?_) (by rw [hs, hs2]) (by rw [hs2]; rfl)))
  obtain ⟨i, j, e, ⟨q1, q2, q3, q4⟩, q⟩ := q1
  subst e
  cases r1 with
  | cons r rr =>
    cases rr with
    | cons r' rr =>
      cases rr
      obtain ⟨t, rfl⟩ := r
      obtain ⟨t', rfl⟩ := r'
      exact call_range_2 (range_it I1 q1 q2 q3 q4 q)
def tFor (wi : TI) (g : TG) (tb : TS) : TS := fun D σ H => wi σ H fun J H1 => ∃ W : Nat → Nat → St → Hp → Prop, (∃ m, W 0 m σ H1) ∧ ∀ i m σ H, W i m σ H →
  (J.stop i H ∧ D.nx σ H) ∨ (J.go i H ∧ ∃ N : St → Hp → Prop, (∀ σ' H', N σ' H' → ∃ m', m' < m ∧ W (i + 1) m' σ' H') ∧ ∀ x H', J.yld i H x H' → g x σ H' fun σ2 H2 => tb { D with nx := N, ct := N, bk := D.nx } σ2 H2)
def pinsAt (fp : List Addr) (h : Heap) : List (Addr × Obj) := fp.filterMap fun b => (h.get? b).map fun o => (b, o)
theorem mem_pinsAt {fp : List Addr} {h : Heap} {b : Addr} {o : Obj} (hb : b ∈ fp) (e : h.get? b = some o) : (b, o) ∈ pinsAt fp h := List.mem_filterMap.mpr ⟨b, hb, by rw [e]; rfl⟩
theorem of_pinsAt {fp : List Addr} {h : Heap} {p : Addr × Obj} (hp : p ∈ pinsAt fp h) : p.1 ∈ fp ∧ h.get? p.1 = some p.2 := by
  obtain ⟨b, hb, e⟩ := List.mem_filterMap.mp hp
  cases q : h.get? b with
  | none => rw [q] at e; cases e
  | some o =>
    rw [q] at e
    have e' : (b, o) = p := Option.some.inj e
    subst e'
    exact ⟨hb, q⟩
theorem Inv.pinned {pins : List (Addr × Obj)} {σ : St} {H : Hp} {s : Shared} {fp : List Addr} (I : Inv X pins σ H s) (hf : ∀ b ∈ fp, FpOk X pins H b) (ho : ∀ b ∈ fp, ∃ o, s.heap.get? b = some o ∧ ∀ v, o.data ≠ .cell v) : Inv X (pins ++ pinsAt fp s.heap) σ H s :=
  I.pins_of fun p hp => (List.mem_append.mp hp).elim (fun z => I.pin p (List.mem_append_right _ z)) fun z => by
    obtain ⟨hb, e⟩ := of_pinsAt z
    obtain ⟨f0, f1, f2, _⟩ := hf p.1 hb
    obtain ⟨o, e', d⟩ := ho p.1 hb
    rw [e] at e'; cases e'
    exact ⟨e, f0, f1, f2, d⟩
theorem Inv.unpinned {pins pl : List (Addr × Obj)} {σ : St} {H : Hp} {s : Shared} (I : Inv X (pins ++ pl) σ H s) : Inv X pins σ H s := I.pins_of fun p hp => I.pin p (List.mem_append_right _ (List.mem_append_left _ hp))
theorem ps_for {iter : Expr} {body : List Stmt} {wi : TI} {g : TG} {tb : TS} {pos : Pos} (hp : PassesOwn (model X.prog X.w) X.A X.env X.xe) (hc : X.calm = true) (hi : PI X tg iter wi) (hg : PG X tg g) (hb : PSs X body tb)
    (hs : ∀ x, foldedSetIterable iter X.env x = pure x := by intro _; rfl) : PS X (.For tg iter body [] pos) (tFor wi g tb) := by
  intro pins s σ H D I h
  refine wpAny_For (thn (hi pins s σ H _ I h) fun v s1 h1 => thn h1 fun itv s2 h2 => ?_) hs
  obtain ⟨it, fp, tn, J, H2, e, I2, T, st2, f2, W, ⟨m0, w0⟩, turn⟩ := h2
  subst e
  -- what stays true of the iterator's objects through the loop
  have stat : ∀ {H' : Hp}, (∀ b ∈ fp, H' b = none) → ∀ b ∈ fp, FpOk X pins H' b := fun hn b hb => ⟨hn b hb, (f2 b hb).2⟩
  refine codeAny_forLoop_any (fun n s' => ∃ i σ' H', Inv X pins σ' H' s' ∧ tn i s'.heap ∧ (∀ b ∈ fp, H' b = none) ∧ W i n σ' H') ?_ m0 ⟨0, σ, H2, I2, st2, fun b hb => (f2 b hb).1, w0⟩
  rintro n s3 ⟨i, σ3, H3, I3, st3, fr3, w3⟩
  rcases turn i n σ3 H3 w3 with ⟨stop, qn⟩ | ⟨go, N, hN, step⟩
  · refine wpAny_passesOwn hp (thn (T.done X rfl rfl rfl hc i pins s3 σ3 H3 X.xe I3 (stat fr3) st3 stop) fun r s4 ⟨hr, I4⟩ => ?_)
    subst hr
    exact wpAny_execs_nil ⟨σ3, H3, I4, qn⟩
  · refine wpAny_passesOwn hp (thn (T.item X rfl rfl rfl hc i pins s3 σ3 H3 X.xe I3 (stat fr3) st3 go) fun r s4 ⟨u, hr, h4⟩ => ?_)
    subst hr
    refine wpAny_passesOwn hp (thn h4 fun _ s5 ⟨x, H5, I5, r5, y5, st5, fr5⟩ => ?_)
    have I5' := I5.pinned (stat fr5) (T.obj _ _ st5)
    refine wpAny_passesOwn hp (thn (hg _ s5 σ3 H5 x u _ I5' r5 (step x H5 y5)) fun _ s6 ⟨σ6, H6, I6, q6⟩ => ?_)
    refine wpAny_passesOwn hp (thn (hb _ s6 σ6 H6 _ I6 q6) fun f s7 q7 => ?_)
    have again : ∀ {σ7 : St} {H7 : Hp}, Inv X (pins ++ pinsAt fp s5.heap) σ7 H7 s7 → N σ7 H7 → ∃ m, m < n ∧ ∃ i σ' H', Inv X pins σ' H' s7 ∧ tn i s7.heap ∧ (∀ b ∈ fp, H' b = none) ∧ W i m σ' H' := fun {σ7 H7} I7 n7 => by
      obtain ⟨m', hm, w7⟩ := hN σ7 H7 n7
      refine ⟨m', hm, i + 1, σ7, H7, I7.unpinned, T.keep _ _ _ st5 fun b hb o e => (I7.pin (b, o) (List.mem_append_right _ (List.mem_append_right _ (mem_pinsAt hb e)))).1, fun b hb => ?_, w7⟩
      obtain ⟨o, e, d⟩ := T.obj _ _ st5 b hb
      exact (I7.pin (b, o) (List.mem_append_right _ (List.mem_append_right _ (mem_pinsAt hb e)))).2.1
    cases f with
    | next => obtain ⟨σ7, H7, I7, n7⟩ := q7; exact again I7 n7
    | cont => obtain ⟨σ7, H7, I7, n7⟩ := q7; exact again I7 n7
    | brk => obtain ⟨σ7, H7, I7, q7⟩ := q7; exact ⟨σ7, H7, I7.unpinned, q7⟩
    | ret v => obtain ⟨x7, σ7, H7, I7, r7, q7⟩ := q7; exact ⟨x7, σ7, H7, I7.unpinned, r7, q7⟩
end
theorem for_list {K : PySem.W.Frag} {a : Addr} {xs : List V} {g : TG} {tb : TS} {D : Ends} {σ : St} {H : Hp} (Pv : Nat → St → Hp → Prop) (h0 : Pv 0 σ H) (hl : ∀ i σ H, i ≤ xs.length → Pv i σ H → SqL K H a xs)
    (hs : ∀ i x σ H, xs[i]? = some x → Pv i σ H → g x σ H fun σ2 H2 => tb { D with nx := Pv (i + 1), ct := Pv (i + 1), bk := D.nx } σ2 H2) (hd : ∀ σ H, Pv xs.length σ H → D.nx σ H) :
    ∃ W : Nat → Nat → St → Hp → Prop, (∃ m, W 0 m σ H) ∧ ∀ i m σ H, W i m σ H →
      ((Itl K a).stop i H ∧ D.nx σ H) ∨ ((Itl K a).go i H ∧ ∃ N : St → Hp → Prop, (∀ σ' H', N σ' H' → ∃ m', m' < m ∧ W (i + 1) m' σ' H') ∧ ∀ x H', (Itl K a).yld i H x H' → g x σ H' fun σ2 H2 => tb { D with nx := N, ct := N, bk := D.nx } σ2 H2) := by
  refine ⟨fun i m σ H => m = xs.length - i ∧ i ≤ xs.length ∧ Pv i σ H, ⟨xs.length, by simp, Nat.zero_le _, h0⟩, ?_⟩
  rintro i m σ H ⟨rfl, hi, p⟩
  have q := hl i σ H hi p
  by_cases hlt : i < xs.length
  · refine .inr ⟨⟨xs, xs[i], q, by simp [hlt]⟩, Pv (i + 1), fun σ' H' p' => ⟨xs.length - (i + 1), by omega, rfl, hlt, p'⟩, fun x H' y => ?_⟩
    obtain ⟨e, y⟩ := y
    subst e
    exact hs i x σ _ (y xs q) p
  · have e : i = xs.length := by omega
    subst e
    exact .inl ⟨⟨xs, q, Nat.le_refl _⟩, hd σ H p⟩
theorem for_range {lo : Int} {n : Nat} {g : TG} {tb : TS} {D : Ends} {σ : St} {H : Hp} (Pv : Nat → St → Hp → Prop) (h0 : Pv 0 σ H)
    (hs : ∀ i σ H, i < n → Pv i σ H → g (.int (lo + i)) σ H fun σ2 H2 => tb { D with nx := Pv (i + 1), ct := Pv (i + 1), bk := D.nx } σ2 H2) (hd : ∀ σ H, Pv n σ H → D.nx σ H) :
    ∃ W : Nat → Nat → St → Hp → Prop, (∃ m, W 0 m σ H) ∧ ∀ i m σ H, W i m σ H →
      ((Itr lo n).stop i H ∧ D.nx σ H) ∨ ((Itr lo n).go i H ∧ ∃ N : St → Hp → Prop, (∀ σ' H', N σ' H' → ∃ m', m' < m ∧ W (i + 1) m' σ' H') ∧ ∀ x H', (Itr lo n).yld i H x H' → g x σ H' fun σ2 H2 => tb { D with nx := N, ct := N, bk := D.nx } σ2 H2) := by
  refine ⟨fun i m σ H => m = n - i ∧ i ≤ n ∧ Pv i σ H, ⟨n, by simp, Nat.zero_le _, h0⟩, ?_⟩
  rintro i m σ H ⟨rfl, hi, p⟩
  by_cases hlt : i < n
  · refine .inr ⟨hlt, Pv (i + 1), fun σ' H' p' => ⟨n - (i + 1), by omega, rfl, hlt, p'⟩, fun x H' y => ?_⟩
    obtain ⟨e, y⟩ := y
    subst e y
    exact hs i σ _ hlt p
  · have e : i = n := by omega
    subst e
    exact .inl ⟨Nat.le_refl _, hd σ H p⟩
end L2
namespace L2
open PySem PySem.Spec PyProof.Rows
abbrev R2 := V → V → Hp → VK → Prop
def OpR (X : Cx) (f : Value → Value → Sem Value) (r : R2) : Prop :=
  ∀ (pins : List (Addr × Obj)) (s : Shared) (σ : St) (H : Hp) (x y : V) (v u : Value) (Q : VK), Inv X pins σ H s → RelV x v → RelV y u → r x y H Q →
    wpAny (model X.prog X.w) X.A (f v u) (EP X pins σ Q) X.xe s
def UnR (X : Cx) (f : Value → Sem Value) (r : V → Hp → VK → Prop) : Prop :=
  ∀ (pins : List (Addr × Obj)) (s : Shared) (σ : St) (H : Hp) (x : V) (v : Value) (Q : VK), Inv X pins σ H s → RelV x v → r x H Q →
    wpAny (model X.prog X.w) X.A (f v) (EP X pins σ Q) X.xe s
def CallR (X : Cx) (f : Value) (r : List V → Hp → VK → Prop) : Prop :=
  ∀ (pins : List (Addr × Obj)) (s : Shared) (σ : St) (H : Hp) (xs : List V) (us : List Value) (Q : VK), Inv X pins σ H s → Vals xs us → r xs H Q →
    wpAny (model X.prog X.w) X.A (call f us) (EP X pins σ Q) X.xe s
def tOp (r : R2) (ta tb : TE) : TE := fun σ H Q => ta σ H fun x H1 => tb σ H1 fun y H2 => r x y H2 Q
def tUn (r : V → Hp → VK → Prop) (ta : TE) : TE := fun σ H Q => ta σ H fun x H1 => r x H1 Q
def rI (C : Int → Int → Prop) (g : Int → Int → V) : R2 := fun x y H Q => ∃ i j, x = .int i ∧ y = .int j ∧ C i j ∧ Q (g i j) H
def rI0 (g : Int → Int → V) : R2 := fun x y H Q => ∃ i j, x = .int i ∧ y = .int j ∧ Q (g i j) H
def rU (g : Int → V) : V → Hp → VK → Prop := fun x H Q => ∃ i, x = .int i ∧ Q (g i) H
section
variable {X : Cx} {a b c : Expr} {ta tb tc : TE} {pos : Pos}
theorem binT (ha : PE X a ta) (hb : PE X b tb) {pins : List (Addr × Obj)} {s : Shared} {σ : St} {H : Hp} {R : V → V → Hp → Prop} (I : Inv X pins σ H s)
    (h : ta σ H fun x H1 => tb σ H1 fun y H2 => R x y H2) {Q : Value → Shared → Prop} {f : Value → Value → Sem Value}
    (hf : ∀ v u s2 x y H2, Inv X pins σ H2 s2 → RelV x v → RelV y u → R x y H2 → wpAny (model X.prog X.w) X.A (f v u) Q X.xe s2) :
    wpAny (model X.prog X.w) X.A (eval a X.env) (fun v s₁ => wpAny (model X.prog X.w) X.A (eval b X.env) (fun u s₂ => wpAny (model X.prog X.w) X.A (f v u) Q X.xe s₂) X.xe s₁) X.xe s := by
  refine thn (ha pins s σ H _ I h) fun v s1 ⟨x, H1, I1, r1, q1⟩ => ?_
  refine thn (hb pins s1 σ H1 _ I1 q1) fun u s2 ⟨y, H2, I2, r2, q2⟩ => ?_
  exact hf v u s2 x y H2 I2 r1 r2 q2
theorem pe_op {op : Operator} {r : R2} (ho : OpR X (binaryOp op) r) (ha : PE X a ta) (hb : PE X b tb) : PE X (.BinOp a op b pos) (tOp r ta tb) := by
  intro pins s σ H Q I h
  exact wpAny_BinOp (binT ha hb I h fun v u s2 x y H2 I2 rx ry q => ho pins s2 σ H2 x y v u Q I2 rx ry q)
theorem pe_un {op : UnaryOp} {r : V → Hp → VK → Prop} (ho : UnR X (unaryOp op) r) (ha : PE X a ta) : PE X (.UnaryOp op a pos) (tUn r ta) := by
  intro pins s σ H Q I h
  exact UnaryOp_ (thn (ha pins s σ H _ I h) fun v s1 ⟨x, H1, I1, r1, q1⟩ => ho pins s1 σ H1 x v Q I1 r1 q1)
theorem opI {f : Value → Value → Sem Value} {C : Int → Int → Prop} {g : Int → Int → Int}
    (rule : ∀ (i j : Int) (t u : Tok) (s : Shared) (Q : Value → Shared → Prop) (E : Value → Shared → Prop), C i j → Q (.int (g i j) s.toks) { s with toks := s.toks + 1 } → wpAny (model X.prog X.w) X.A (f (.int i t) (.int j u)) Q E s) :
    OpR X f (rI C fun i j => .int (g i j)) := by
  intro pins s σ H x y v u Q I rx ry h
  obtain ⟨i, j, rfl, rfl, hc, q⟩ := h
  obtain ⟨t, rfl⟩ := rx
  obtain ⟨t', rfl⟩ := ry
  exact rule i j t t' s _ _ hc ⟨.int (g i j), H, I.tok _, ⟨_, rfl⟩, q⟩
theorem opI0 {f : Value → Value → Sem Value} {g : Int → Int → Int}
    (rule : ∀ (i j : Int) (t u : Tok) (s : Shared) (Q : Value → Shared → Prop) (E : Value → Shared → Prop), Q (.int (g i j) s.toks) { s with toks := s.toks + 1 } → wpAny (model X.prog X.w) X.A (f (.int i t) (.int j u)) Q E s) :
    OpR X f (rI0 fun i j => .int (g i j)) := by
  intro pins s σ H x y v u Q I rx ry h
  obtain ⟨i, j, rfl, rfl, q⟩ := h
  obtain ⟨t, rfl⟩ := rx
  obtain ⟨t', rfl⟩ := ry
  exact rule i j t t' s _ _ ⟨.int (g i j), H, I.tok _, ⟨_, rfl⟩, q⟩
theorem opB0 {f : Value → Value → Sem Value} {g : Int → Int → Bool}
    (rule : ∀ (i j : Int) (t u : Tok) (s : Shared) (Q : Value → Shared → Prop) (E : Value → Shared → Prop), Q (.bool (g i j)) s → wpAny (model X.prog X.w) X.A (f (.int i t) (.int j u)) Q E s) :
    OpR X f (rI0 fun i j => .bl (g i j)) := by
  intro pins s σ H x y v u Q I rx ry h
  obtain ⟨i, j, rfl, rfl, q⟩ := h
  obtain ⟨t, rfl⟩ := rx
  obtain ⟨t', rfl⟩ := ry
  exact rule i j t t' s _ _ ⟨.bl (g i j), H, I, rfl, q⟩
def CPow (i j : Int) : Prop := 0 ≤ j ∧ j ≤ 1000000 ∧ i.natAbs < 2 ^ 64
def CMul (i j : Int) : Prop := (-(2 ^ 64) < i ∧ i < 2 ^ 64) ∨ (-(2 ^ 64) < j ∧ j < 2 ^ 64)
theorem CMul.ok {i j : Int} (h : CMul i j) : IntMulOk i j := by
  rcases h with ⟨h1, h2⟩ | ⟨h1, h2⟩
  · exact .of_left (intBits_le_64 h1 h2)
  · exact .of_right (intBits_le_64 h1 h2)
theorem op_add : OpR X (binaryOp .Add) (rI0 fun i j => .int (i + j)) := opI0 fun _ _ _ _ _ _ _ q => add_int q
theorem op_sub : OpR X (binaryOp .Sub) (rI0 fun i j => .int (i - j)) := opI0 fun _ _ _ _ _ _ _ q => sub_int q
theorem op_mod : OpR X (binaryOp .Mod) (rI (fun _ j => 0 < j) fun i j => .int (i % j)) := opI fun i j _ _ _ _ _ hc q => by
  have h1 : (0 : Int) < j := hc
  exact mod_int' (by omega) (by rw [Int.fmod_eq_emod_of_nonneg i (by omega)]; exact q)
theorem op_pow : OpR X (binaryOp .Pow) (rI CPow fun i j => .int (i ^ j.toNat)) := opI fun _ _ _ _ _ _ _ hc q => pow_int_small hc.1 hc.2.1 hc.2.2 q
theorem unI {f : Value → Sem Value} {g : Int → Int}
    (rule : ∀ (i : Int) (t : Tok) (s : Shared) (Q : Value → Shared → Prop) (E : Value → Shared → Prop), Q (.int (g i) s.toks) { s with toks := s.toks + 1 } → wpAny (model X.prog X.w) X.A (f (.int i t)) Q E s) :
    UnR X f (rU fun i => .int (g i)) := by
  intro pins s σ H x v Q I rx h
  obtain ⟨i, rfl, q⟩ := h
  obtain ⟨t, rfl⟩ := rx
  exact rule i t s _ _ ⟨.int (g i), H, I.tok _, ⟨_, rfl⟩, q⟩
theorem un_neg : UnR X (unaryOp .USub) (rU fun i => .int (-i)) := unI fun _ _ _ _ _ q => neg_int q
end
def scal : V → V → Bool
  | .non, .non => true | .non, .int _ => true | .int _, .non => true | .non, .bl _ => true | .bl _, .non => true | .non, .str _ => true | .str _, .non => true
  | .int _, .int _ => true | .bl _, .bl _ => true | .str _, .str _ => true | .byt _, .byt _ => true
  | .int _, .str _ => true | .str _, .int _ => true | .bl _, .str _ => true | .str _, .bl _ => true
  | _, _ => false
def rEq : R2 := fun x y H Q => scal x y = true ∧ Q (.bl (decide (x = y))) H
def rNe : R2 := fun x y H Q => scal x y = true ∧ Q (.bl (!decide (x = y))) H
theorem dec_int {i j : Int} : decide (V.int i = V.int j) = (i == j) := by
  rw [Bool.eq_iff_iff]
  simp
theorem dec_bl {i j : Bool} : decide (V.bl i = V.bl j) = (i == j) := by
  rw [Bool.eq_iff_iff]
  simp
theorem dec_str {i j : Str} : decide (V.str i = V.str j) = (i == j) := by
  rw [Bool.eq_iff_iff]
  simp
theorem dec_byt {i j : Array UInt8} : decide (V.byt i = V.byt j) = (i.toList == j.toList) := by
  rw [Bool.eq_iff_iff]
  cases i
  cases j
  simp
section
variable {X : Cx} {a b c : Expr} {ta tb tc : TE} {pos : Pos}
theorem fin_bl {pins : List (Addr × Obj)} {σ : St} {H : Hp} {s : Shared} {Q : VK} {k k' : Bool} (I : Inv X pins σ H s) (q : Q (.bl k) H) (e : k = k') : EP X pins σ Q (.bool k') s := by
  subst e
  exact ⟨.bl k, H, I, rfl, q⟩
theorem op_eq : OpR X (compareOp .Eq) rEq := by
  intro pins s σ H x y v u Q I rx ry h
  obtain ⟨hs, q⟩ := h
  cases x with
  | non =>
    cases rx
    cases y with
    | non => cases ry; exact PySem.EqNone.eq_none_none (fin_bl I q (by simp))
    | bl j => cases ry; exact PySem.EqNone.eq_none_bool (fin_bl I q (by simp))
    | int j => obtain ⟨t', rfl⟩ := ry; exact PySem.EqNone.eq_none_int (fin_bl I q (by simp))
    | str j => obtain ⟨t', rfl⟩ := ry; exact PySem.EqNone.eq_none_str (fin_bl I q (by simp))
    | _ => exact absurd (show false = true from hs) Bool.false_ne_true
  | bl i =>
    cases rx
    cases y with
    | non => cases ry; exact PySem.EqNone.eq_bool_none (fin_bl I q (by simp))
    | bl j => cases ry; exact eq_bool (fin_bl I q dec_bl)
    | str j => obtain ⟨t', rfl⟩ := ry; exact PySem.EqMixed.eq_bool_str (fin_bl I q (by simp))
    | _ => exact absurd (show false = true from hs) Bool.false_ne_true
  | int i =>
    obtain ⟨t, rfl⟩ := rx
    cases y with
    | non => cases ry; exact PySem.EqNone.eq_int_none (fin_bl I q (by simp))
    | int j => obtain ⟨t', rfl⟩ := ry; exact eq_int (fin_bl I q dec_int)
    | str j => obtain ⟨t', rfl⟩ := ry; exact PySem.EqMixed.eq_int_str (fin_bl I q (by simp))
    | _ => exact absurd (show false = true from hs) Bool.false_ne_true
  | str i =>
    obtain ⟨t, rfl⟩ := rx
    cases y with
    | non => cases ry; exact PySem.EqNone.eq_str_none (fin_bl I q (by simp))
    | bl j => cases ry; exact PySem.EqMixed.eq_str_bool (fin_bl I q (by simp))
    | int j => obtain ⟨t', rfl⟩ := ry; exact PySem.EqMixed.eq_str_int (fin_bl I q (by simp))
    | str j => obtain ⟨t', rfl⟩ := ry; exact eq_str (fin_bl I q dec_str)
    | _ => exact absurd (show false = true from hs) Bool.false_ne_true
  | byt i =>
    obtain ⟨t, rfl⟩ := rx
    cases y with
    | byt j => obtain ⟨t', rfl⟩ := ry; exact PySem.W.eq_bytes (fin_bl I q dec_byt)
    | _ => exact absurd (show false = true from hs) Bool.false_ne_true
  | _ => cases y <;> exact absurd (show false = true from hs) Bool.false_ne_true
theorem op_ne : OpR X (compareOp .NotEq) rNe := by
  intro pins s σ H x y v u Q I rx ry h
  obtain ⟨hs, q⟩ := h
  cases x with
  | non =>
    cases rx
    cases y with
    | non => cases ry; exact PySem.EqNone.ne_none_none (fin_bl I q (by simp))
    | bl j => cases ry; exact PySem.EqNone.ne_none_bool (fin_bl I q (by simp))
    | int j => obtain ⟨t', rfl⟩ := ry; exact PySem.EqNone.ne_none_int (fin_bl I q (by simp))
    | str j => obtain ⟨t', rfl⟩ := ry; exact PySem.EqNone.ne_none_str (fin_bl I q (by simp))
    | _ => exact absurd (show false = true from hs) Bool.false_ne_true
  | bl i =>
    cases rx
    cases y with
    | non => cases ry; exact PySem.EqNone.ne_bool_none (fin_bl I q (by simp))
    | bl j => cases ry; exact ne_bool (fin_bl I q (congrArg not dec_bl))
    | str j => obtain ⟨t', rfl⟩ := ry; exact PySem.EqMixed.ne_bool_str (fin_bl I q (by simp))
    | _ => exact absurd (show false = true from hs) Bool.false_ne_true
  | int i =>
    obtain ⟨t, rfl⟩ := rx
    cases y with
    | non => cases ry; exact PySem.EqNone.ne_int_none (fin_bl I q (by simp))
    | int j => obtain ⟨t', rfl⟩ := ry; exact ne_int (fin_bl I q (congrArg not dec_int))
    | str j => obtain ⟨t', rfl⟩ := ry; exact PySem.EqMixed.ne_int_str (fin_bl I q (by simp))
    | _ => exact absurd (show false = true from hs) Bool.false_ne_true
  | str i =>
    obtain ⟨t, rfl⟩ := rx
    cases y with
    | non => cases ry; exact PySem.EqNone.ne_str_none (fin_bl I q (by simp))
    | bl j => cases ry; exact PySem.EqMixed.ne_str_bool (fin_bl I q (by simp))
    | int j => obtain ⟨t', rfl⟩ := ry; exact PySem.EqMixed.ne_str_int (fin_bl I q (by simp))
    | str j => obtain ⟨t', rfl⟩ := ry; exact ne_str (fin_bl I q (congrArg not dec_str))
    | _ => exact absurd (show false = true from hs) Bool.false_ne_true
  | byt i =>
    obtain ⟨t, rfl⟩ := rx
    cases y with
    | byt j => obtain ⟨t', rfl⟩ := ry; exact PySem.W.ne_bytes (fin_bl I q (congrArg not dec_byt))
    | _ => exact absurd (show false = true from hs) Bool.false_ne_true
  | _ => cases y <;> exact absurd (show false = true from hs) Bool.false_ne_true
theorem op_lt : OpR X (compareOp .Lt) (rI0 fun i j => .bl (decide (i < j))) := opB0 fun _ _ _ _ _ _ _ q => lt_int q
theorem op_le : OpR X (compareOp .LtE) (rI0 fun i j => .bl (decide (i ≤ j))) := opB0 fun _ _ _ _ _ _ _ q => le_int q
theorem op_gt : OpR X (compareOp .Gt) (rI0 fun i j => .bl (decide (j < i))) := opB0 fun _ _ _ _ _ _ _ q => gt_int q
theorem op_ge : OpR X (compareOp .GtE) (rI0 fun i j => .bl (decide (j ≤ i))) := opB0 fun _ _ _ _ _ _ _ q => ge_int q
theorem op_isN : OpR X (compareOp .Is) (fun x y H Q => y = .non ∧ Q (.bl (decide (x = .non))) H) := by
  intro pins s σ H x y v u Q I rx ry h
  obtain ⟨rfl, q⟩ := h
  cases ry
  refine is_none_gen (fin_bl I q ?_)
  cases x <;> first
    | (cases rx; rfl)
    | (obtain ⟨t, rfl⟩ := rx; rfl)
theorem nomark (b : Expr) {op : CmpOp} (h : op ≠ .In := by decide) (h2 : op ≠ .NotIn := by decide) : behindInMarks op b = false := by
  have e1 : (op == CmpOp.In) = false := by cases op <;> first | rfl | exact absurd rfl h
  have e2 : (op == CmpOp.NotIn) = false := by cases op <;> first | rfl | exact absurd rfl h2
  cases b <;> simp [behindInMarks, e1, e2]
theorem pe_cmpR {op : CmpOp} {r : R2} (ho : OpR X (compareOp op) r) (ha : PE X a ta) (hb : PE X b tb) (hm : behindInMarks op b = false) : PE X (.Compare a [op] [b] pos) (tOp r ta tb) := by
  intro pins s σ H Q I h
  exact wpAny_Compare1 (binT ha hb I h fun v u s2 x y H2 I2 rx ry q => ho pins s2 σ H2 x y v u Q I2 rx ry q) hm
def tTest (t : TE) : TT := fun σ H Q => t σ H fun x H' => ∃ k, x = .bl k ∧ Q k H'
theorem pt_cmpR {op : CmpOp} {r : R2} (ho : OpR X (compareOp op) r) (ha : PE X a ta) (hb : PE X b tb) (hm : behindInMarks op b = false) : PT X (.Compare a [op] [b] pos) (tTest (tOp r ta tb)) := by
  intro pins s σ H Q I h
  refine wpAny_isTrue_Compare1 (thn (ha pins s σ H _ I h) fun v s1 ⟨x, H1, I1, r1, q1⟩ => thn (hb pins s1 σ H1 _ I1 q1) fun u s2 ⟨y, H2, I2, r2, q2⟩ =>
    thn (ho pins s2 σ H2 x y v u _ I2 r1 r2 q2) fun c s3 ⟨z, H3, I3, r3, k, e, q3⟩ => ?_) hm
  subst e
  cases r3
  exact wpAny_truthy_bool ⟨H3, I3, q3⟩
def tChain (r r' : R2) (ta tb tc : TE) : TE := fun σ H Q => ta σ H fun x H1 => tb σ H1 fun y H2 => r x y H2 fun z H3 => ∃ k, z = .bl k ∧
  (if k = true then tc σ H3 fun w' H4 => r' y w' H4 Q else Q (.bl false) H3)
theorem pe_chain {op op' : CmpOp} {r r' : R2} (ho : OpR X (compareOp op) r) (ho' : OpR X (compareOp op') r') (ha : PE X a ta) (hb : PE X b tb) (hc : PE X c tc)
    (hm : lastMarks [op, op'] [b, c] = false := by with_unfolding_all rfl) : PE X (.Compare a [op, op'] [b, c] pos) (tChain r r' ta tb tc) := by
  intro pins s σ H Q I h
  refine Compare_chain (thn (ha pins s σ H _ I h) fun v s1 ⟨x, H1, I1, r1, q1⟩ => chain_link (thn (hb pins s1 σ H1 _ I1 q1) fun u s2 ⟨y, H2, I2, r2, q2⟩ =>
    thn (ho pins s2 σ H2 x y v u _ I2 r1 r2 q2) fun d s3 ⟨z, H3, I3, r3, k, e, q3⟩ => ?_)) hm
  subst e
  cases r3
  refine wpAny_truthy_bool ?_
  cases k with
  | false => exact ite_ff ⟨.bl false, H3, I3, rfl, q3⟩
  | true => exact ite_tt (chain_last (thn (hc pins s3 σ H3 _ I3 q3) fun w' s4 ⟨z', H4, I4, r4, q4⟩ => ho' pins s4 σ H4 y z' u w' Q I4 r2 r4 q4))
theorem pt_chain {op op' : CmpOp} {r r' : R2} (ho : OpR X (compareOp op) r) (ho' : OpR X (compareOp op') r') (ha : PE X a ta) (hb : PE X b tb) (hc : PE X c tc)
    (hm : lastMarks [op, op'] [b, c] = false := by with_unfolding_all rfl) : PT X (.Compare a [op, op'] [b, c] pos) (tTest (tChain r r' ta tb tc)) := by
  intro pins s σ H Q I h
  refine isTrue_chain (thn (ha pins s σ H _ I h) fun v s1 ⟨x, H1, I1, r1, q1⟩ => test_link (thn (hb pins s1 σ H1 _ I1 q1) fun u s2 ⟨y, H2, I2, r2, q2⟩ =>
    thn (ho pins s2 σ H2 x y v u _ I2 r1 r2 q2) fun d s3 ⟨z, H3, I3, r3, k, e, q3⟩ => ?_)) hm
  subst e
  cases r3
  refine wpAny_truthy_bool ?_
  cases k with
  | false =>
    obtain ⟨k', e', q'⟩ := q3
    cases e'
    exact ite_ff ⟨H3, I3, q'⟩
  | true =>
    refine ite_tt (test_last (thn (hc pins s3 σ H3 _ I3 q3) fun w' s4 ⟨z', H4, I4, r4, q4⟩ => thn (ho' pins s4 σ H4 y z' u w' _ I4 r2 r4 q4) fun d' s5 ⟨z2, H5, I5, r5, k2, e2, q5⟩ => ?_))
    subst e2
    cases r5
    exact wpAny_truthy_bool ⟨H5, I5, q5⟩
theorem line63 : (sizeLine : Nat) < 2 ^ 63 := by rw [sizeLine_eq]; decide
theorem op_add_str : OpR X (binaryOp .Add) (fun x y H Q => ∃ i j, x = .str i ∧ y = .str j ∧ i.length + j.length ≤ sizeLine ∧ Q (.str (i ++ j)) H) := by
  intro pins s σ H x y v u Q I rx ry h
  obtain ⟨i, j, rfl, rfl, hz, q⟩ := h
  obtain ⟨t, rfl⟩ := rx
  obtain ⟨t', rfl⟩ := ry
  exact add_str (fun t' tk => ⟨.str (i ++ j), H, I.tok _, ⟨_, rfl⟩, q⟩) hz
theorem vals1 {x : V} {us : List Value} (r : Vals [x] us) : ∃ u, us = [u] ∧ RelV x u := by
  cases r with
  | cons r1 r2 => cases r2; exact ⟨_, rfl, r1⟩
theorem vals2 {x y : V} {us : List Value} (r : Vals [x, y] us) : ∃ u w', us = [u, w'] ∧ RelV x u ∧ RelV y w' := by
  cases r with
  | cons r1 r2 =>
    cases r2 with
    | cons r3 r4 => cases r4; exact ⟨_, _, rfl, r1, r3⟩
theorem call_max2 (hc : X.calm = true) : CallR X (.builtin "max") (fun xs H Q => ∃ i j, xs = [.int i, .int j] ∧ Q (.int (if j > i then j else i)) H) := by
  intro pins s σ H xs us Q I r h
  obtain ⟨i, j, rfl, q⟩ := h
  obtain ⟨u, w', rfl, ⟨t, rfl⟩, ⟨t', rfl⟩⟩ := vals2 r
  refine max_two_ints (I.ok.hd hc) fun h' tk k => ⟨_, H, I.kept k, ?_, q⟩
  by_cases hj : j > i
  · rw [if_pos hj, if_pos hj]; exact ⟨_, rfl⟩
  · rw [if_neg hj, if_neg hj]; exact ⟨_, rfl⟩
theorem call_min2 (hc : X.calm = true) : CallR X (.builtin "min") (fun xs H Q => ∃ i j, xs = [.int i, .int j] ∧ Q (.int (if j < i then j else i)) H) := by
  intro pins s σ H xs us Q I r h
  obtain ⟨i, j, rfl, q⟩ := h
  obtain ⟨u, w', rfl, ⟨t, rfl⟩, ⟨t', rfl⟩⟩ := vals2 r
  refine min_two_ints (I.ok.hd hc) fun h' tk k => ⟨_, H, I.kept k, ?_, q⟩
  by_cases hj : j < i
  · rw [if_pos hj, if_pos hj]; exact ⟨_, rfl⟩
  · rw [if_neg hj, if_neg hj]; exact ⟨_, rfl⟩
end
end L2
namespace L2
open PySem PySem.Spec PyProof.Rows
structure ObjM (h : Heap) (x dx C : Addr) (mA : Str → Option Value) : Prop where
  obj : h.get? x = some (PySem.W.instObj C dx)
  ns : h.Ns1 dx mA
  ne : dx ≠ x
theorem lookIn_ns {h : Heap} {dx : Addr} {mA : Str → Option Value} (n : h.Ns1 dx mA) : ∃ od, h.get? dx = some od ∧ ∀ name, PySem.W.lookIn name od = some (mA name) := by
  obtain ⟨o, es, ep, ho, hd, hk, _, hm⟩ := n
  refine ⟨o, ho, fun name => ?_⟩
  have e := hm name
  unfold nsFind findBy at e
  rw [← Array.find?_toList] at e
  unfold PySem.W.lookIn
  rw [hd]
  dsimp only
  split
  · rename_i y q
    rw [q] at e
    exact congrArg some e
  · rename_i q
    rw [q] at e
    have a : es.toList.any (·.refKey) = false := by
      rw [List.any_eq_false]
      intro y hy
      obtain ⟨z, t, hkey⟩ := hk y (Array.mem_toList_iff.mp hy)
      simp [DictEntry.refKey, hkey]
    have a' : ¬ es.toList.any (·.refKey) = true := by rw [a]; exact Bool.false_ne_true
    rw [if_neg a']
    exact congrArg some e
theorem ObjM.look {h : Heap} {x dx C : Addr} {mA : Str → Option Value} (I : ObjM h x dx C mA) : ∃ od, PySem.W.InstAt h x (PySem.W.instObj C dx) C (some od) ∧ ∀ name, PySem.W.lookIn name od = some (mA name) :=
  let ⟨od, ho, hl⟩ := lookIn_ns I.ns
  ⟨od, ⟨I.obj, rfl, rfl, ho⟩, hl⟩
section
variable {prog : Program} {w : World} {A : Around} {E : Value → Shared → Prop} {s : Shared} {K : PySem.W.Frag} {x dx C f : Addr} {mA : Str → Option Value} {name : Str} {v : Value}
theorem get_map {expr : Bool} {Q : Value → Shared → Prop} (X : K.In s.heap) (I : ObjM s.heap x dx C mA) (hg : PySem.W.plainGet K C name = true) (hh : PySem.W.hasDictIn K C = true)
    (ha : PySem.W.findIn K (.ref C) name = some none) (hv : mA name = some v) (hv' : PySem.W.handedIn v = true) (h : Q v { s with toks := s.toks + 1 }) :
    wpAny (model prog w) A (getAttr (.ref x) name expr) Q E s := by
  obtain ⟨od, J, hl⟩ := I.look
  exact PySem.W.get_value X J (PySem.W.plainGet_of hg).1 (PySem.W.findObj_own hh ha rfl (by rw [hl, hv])) hv' h
theorem get_meth {pl : Sem Bool} {Q : Value × List Value → Shared → Prop} (X : K.In s.heap) (I : ObjM s.heap x dx C mA) (hg : PySem.W.plainGet K C name = true)
    (hf : PySem.W.findIn K (.ref C) name = some (some (.ref f))) (ht : PySem.W.isFn K (.ref f) = true) (hv : mA name = none) (h : Q (.ref f, [.ref x]) s) :
    wpAny (model prog w) A (getMethod (.ref x) name pl) Q E s := by
  obtain ⟨od, J, hl⟩ := I.look
  exact PySem.W.method_fn X J (PySem.W.plainGet_of hg).1 (PySem.W.plainGet_of hg).2 hf (beq_iff_eq.mp ht) (by show (PySem.W.lookIn name od).map (·.isSome) = some false; rw [hl, hv]; rfl) h
theorem set_map {ns : List Str} {Q : Unit → Shared → Prop} (X : K.In s.heap) (I : ObjM s.heap x dx C mA)
    (hs : PySem.W.findIn K (.ref C) "__setattr__" = some (some (.builtin "object.__setattr__"))) (hp : PySem.W.plainOver K C = true) (ht : PySem.W.takerIn K C name = some none) (hh : PySem.W.hasDictIn K C = true)
    (hw : PySem.Within mA ns) (hsz : ns.length ≤ sizeLine)
    (h : ∀ h', ObjM h' x dx C (fun y => if y = name then some v else mA y) → Heap.SameBut dx s.heap h' → Q () { s with heap := h', toks := s.toks + 2 }) :
    wpAny (model prog w) A (setAttr (.ref x) name v) Q E s := by
  obtain ⟨od, J, hl⟩ := I.look
  refine PySem.W.set_plain X J hs (PySem.W.osa_open (s := { s with toks := s.toks + 1 }) (r := none) X J hp ht fun b => ?_)
  obtain ⟨cd, hc, hd'⟩ := PySem.W.any_some hh
  have hx : s.heap.get? x = some ⟨.ref C, some dx, .plain, #[]⟩ := I.obj
  refine wpAny_bind (wpAny_pure (wpAny_bind (wpAny_bind (wpAny_loadPart hx (wpAny_bind (PySem.W.Looks.here (s := { s with toks := s.toks + 1 }) (PySem.W.looks_clsIn X hc) ?_))))))
  rw [hd']
  refine wpAny_pure (a := some dx) (wpAny_bind (wpAny_pure (wpAny_bind ?_)))
  refine wpAny_nsSet1 (s := { s with toks := s.toks + 1 }) I.ns fun h' hn2 hs2 => ?_
  obtain ⟨oD, esD, epD, hoD, hdD, hcD⟩ := hn2.count (PySem.Within.cons name v hw)
  refine wpAny_bind (wpAny_lookBehind hoD (by rw [hdD]; exact pastItsLine_dict (Nat.le_trans hcD (by rw [List.length_cons]; omega))) ?_)
  exact wpAny_pure (h _ ⟨(hs2.2 _ (Ne.symm I.ne)).trans I.obj, hn2, I.ne⟩ hs2)
theorem make_map {R : Result → Shared → Prop} {vs : List Value} {kw : List (Str × Value)} (X : K.In s.heap) (hm : PySem.W.makesIn K C = true)
    (hi : PySem.W.findIn K (.ref C) "__init__" = some (some (.ref f))) (hf : PySem.W.typeIn K (.ref f) = some (.type "function"))
    (h : codeAny (model prog w) (A.under (.builtin "type.__call__" ⟨.ref C :: vs, kw⟩)) (.call (.ref f) ⟨.ref (s.heap.objs.size + 1) :: vs, kw⟩) (PySem.W.InitBack (s.heap.objs.size + 1) R)
      { s with heap := (s.heap.push PySem.W.emptyDict).push (PySem.W.instObj C s.heap.objs.size) }) :
    codeAny (model prog w) A (.call (.ref C) ⟨vs, kw⟩) R s := by
  obtain ⟨hh, g, d, t, os⟩ := s
  exact PySem.W.make_core (PySem.W.makes_of X hm) (PySem.W.looks_findIn X hi) (fun self => PySem.W.bind_fn X self hf) (.inl rfl) h
end
def putF (f : Str) (v : V) : List (Str × V) → List (Str × V)
  | [] => [(f, v)]
  | (g, x) :: r => if g = f then (g, v) :: r else (g, x) :: putF f v r
theorem lookup_putF (f g : Str) (v : V) : ∀ fs : List (Str × V), (putF f v fs).lookup g = if g = f then some v else fs.lookup g
  | [] => by
    show List.lookup g [(f, v)] = _
    by_cases h : g = f
    · have hb : (g == f) = true := beq_iff_eq.mpr h
      simp only [List.lookup, hb, if_pos h]
    · have hb : (g == f) = false := beq_eq_false_iff_ne.mpr h
      simp only [List.lookup, hb, if_neg h]
  | (k, x) :: r => by
    have ih := lookup_putF f g v r
    rw [show putF f v ((k, x) :: r) = (if k = f then (k, v) :: r else (k, x) :: putF f v r) from rfl]
    by_cases hk : k = f
    · rw [if_pos hk]
      by_cases h : g = k
      · have hb : (g == k) = true := beq_iff_eq.mpr h
        simp only [List.lookup, hb, if_pos (h.trans hk)]
      · have hb : (g == k) = false := beq_eq_false_iff_ne.mpr h
        simp only [List.lookup, hb, if_neg (fun e : g = f => h (e.trans hk.symm))]
    · rw [if_neg hk]
      by_cases h : g = k
      · have hb : (g == k) = true := beq_iff_eq.mpr h
        simp only [List.lookup, hb, if_neg (fun e : g = f => hk (h.symm.trans e))]
      · have hb : (g == k) = false := beq_eq_false_iff_ne.mpr h
        simp only [List.lookup, hb]
        exact ih
theorem keys_putF (f : Str) (v : V) : ∀ fs : List (Str × V), f ∈ (putF f v fs).map (·.1) ∧ ∀ g, g ∈ fs.map (·.1) → g ∈ (putF f v fs).map (·.1)
  | [] => ⟨by simp [putF], fun g h => by simp at h⟩
  | (k, x) :: r => by
    obtain ⟨i1, i2⟩ := keys_putF f v r
    rw [show putF f v ((k, x) :: r) = (if k = f then (k, v) :: r else (k, x) :: putF f v r) from rfl]
    by_cases hk : k = f
    · rw [if_pos hk]
      subst hk
      exact ⟨by simp, fun g h => by simpa using h⟩
    · rw [if_neg hk]
      refine ⟨?_, fun g h => ?_⟩
      · rw [List.map_cons]
        exact List.mem_cons_of_mem _ i1
      · rw [List.map_cons] at h ⊢
        rcases List.mem_cons.mp h with e | e
        · exact List.mem_cons.mpr (.inl e)
        · exact List.mem_cons_of_mem _ (i2 g e)
theorem length_putF (f : Str) (v : V) : ∀ fs : List (Str × V), (putF f v fs).length ≤ fs.length + 1
  | [] => by simp [putF]
  | (k, x) :: r => by
    have ih := length_putF f v r
    rw [show putF f v ((k, x) :: r) = (if k = f then (k, v) :: r else (k, x) :: putF f v r) from rfl]
    by_cases hk : k = f
    · rw [if_pos hk, List.length_cons, List.length_cons]; omega
    · rw [if_neg hk, List.length_cons, List.length_cons]; omega
theorem RelO.some_of {v : V} {o : Option Value} (r : RelO (some v) o) : ∃ u, o = some u ∧ RelV v u := by
  cases o with
  | none => exact (show False from r).elim
  | some u => exact ⟨u, rfl, r⟩
theorem RelO.none_of {o : Option Value} (r : RelO none o) : o = none := by
  cases o with
  | none => rfl
  | some u => exact (show False from r).elim
theorem handed_of {v : V} {u : Value} (r : RelV v u) : PySem.W.handedIn u = true := by
  cases v with
  | non => cases (show u = Value.none from r); rfl
  | bl b => cases (show u = Value.bool b from r); rfl
  | int i => obtain ⟨t, e⟩ := (show ∃ t, u = Value.int i t from r); cases e; rfl
  | str x => obtain ⟨t, e⟩ := (show ∃ t, u = Value.str x t from r); cases e; rfl
  | byt b => obtain ⟨t, e⟩ := (show ∃ t, u = Value.bytes b t from r); cases e; rfl
  | flt b => obtain ⟨t, e⟩ := (show ∃ t, u = Value.float b t from r); cases e; rfl
  | ref a => cases (show u = Value.ref a from r); rfl
  | ty n => cases (show u = Value.type n from r); rfl
section
variable {P : Program} {w : World} {H H' : Hp} {h h' : Heap} {a C dx : Addr} {fs fs' : List (Str × V)}
theorem ins_get (hok : HOk P w H h) (e : H a = some (.ins C dx fs)) : ∃ mA, ObjM h a dx C mA ∧ (∀ f, RelO (fs.lookup f) (mA f)) ∧ PySem.Within mA (fs.map (·.1)) ∧ fs.length ≤ 1000 ∧ H dx = some (.own a) := by
  obtain ⟨d, z, ne, ob, mA, n, r, q⟩ := (show ObjOk P w H h a (.ins C dx fs) from hok a _ e)
  exact ⟨mA, ⟨ob, n, ne⟩, r, q, z, d⟩
end
structure Cls (K : PySem.W.Frag) (C : Addr) : Prop where
  pg : PySem.W.plainGet K C Str.empty = true
  hd : PySem.W.hasDictIn K C = true
  po : PySem.W.plainOver K C = true
  sa : PySem.W.findIn K (.ref C) "__setattr__" = some (some (.builtin "object.__setattr__"))
theorem Cls.get {K : PySem.W.Frag} {C : Addr} (c : Cls K C) (f : Str) : PySem.W.plainGet K C f = true := c.pg
def NoAttr (K : PySem.W.Frag) (C : Addr) (f : Str) : Prop := PySem.W.findIn K (.ref C) f = some none
theorem NoAttr.taker {K : PySem.W.Frag} {C : Addr} {f : Str} (n : NoAttr K C f) : PySem.W.takerIn K C f = some none := by
  unfold PySem.W.takerIn
  rw [show PySem.W.findIn K (.ref C) f = some none from n]
  rfl
structure Meth (K : PySem.W.Frag) (C : Addr) (m : Str) (f : Addr) : Prop where
  at_ : PySem.W.findIn K (.ref C) m = some (some (.ref f))
  fn : PySem.W.isFn K (.ref f) = true
  kp : PySem.W.keepIn K (.ref f) = true
section
variable {X : Cx} {pins : List (Addr × Obj)} {σ : St} {H : Hp} {s : Shared} {a C dx : Addr} {fs : List (Str × V)} {f : Str} {v : V} {A : Around} {E : Value → Shared → Prop}
theorem getattr_ok {b : Bool} {Q : Value → Shared → Prop} (I : Inv X pins σ H s) (e : H a = some (.ins C dx fs)) (c : Cls X.K C) (n : NoAttr X.K C f) (l : fs.lookup f = some v)
    (h : ∀ u s', Inv X pins σ H s' → RelV v u → Q u s') : wpAny (model X.prog X.w) A (getAttr (.ref a) f b) Q E s := by
  obtain ⟨mA, O, r, _, _, _⟩ := ins_get I.hok e
  obtain ⟨u, hu, ru⟩ := RelO.some_of (v := v) (o := mA f) (by rw [← l]; exact r f)
  exact get_map I.kIn O (c.get f) c.hd n hu (handed_of ru) (h u _ (I.tok _) ru)
theorem getmeth_ok {m : Str} {g : Addr} {pl : Sem Bool} {Q : Value × List Value → Shared → Prop} (I : Inv X pins σ H s) (e : H a = some (.ins C dx fs)) (c : Cls X.K C) (k : Meth X.K C m g) (l : fs.lookup m = none)
    (h : Q (.ref g, [.ref a]) s) : wpAny (model X.prog X.w) A (getMethod (.ref a) m pl) Q E s := by
  obtain ⟨mA, O, r, _, _, _⟩ := ins_get I.hok e
  have hn : mA m = none := RelO.none_of (by rw [← l]; exact r m)
  exact get_meth I.kIn O (c.get m) k.at_ k.fn hn h
theorem setattr_ok {y : V} {u : Value} {Q : Unit → Shared → Prop} (I : Inv X pins σ H s) (e : H a = some (.ins C dx fs)) (c : Cls X.K C) (n : NoAttr X.K C f) (hl : fs.length < 1000) (ry : RelV y u)
    (h : ∀ s', Inv X pins σ (upd H a (.ins C dx (putF f y fs))) s' → Q () s') : wpAny (model X.prog X.w) A (setAttr (.ref a) f u) Q E s := by
  obtain ⟨mA, O, r, wi, _, ho⟩ := ins_get I.hok e
  have hz : (fs.map (·.1)).length ≤ sizeLine := by rw [List.length_map, sizeLine_eq]; omega
  refine set_map I.kIn O c.sa c.po n.taker c.hd wi hz fun h' O' sb => h _ ?_
  have hd : ∃ o, h'.get? dx = some o := let ⟨o, _, _, e', _⟩ := O'.ns; ⟨o, e'⟩
  refine I.write (x := a) (e := dx) (by rw [e]; exact True.intro) (.inr ho) (fun b q hb z => (sb.2 b hb).trans z) hd ?_
  refine ⟨by rw [upd_ne O.ne]; exact ho, ?_, O.ne, O'.obj, _, O'.ns, fun g => ?_, fun g hg => ?_⟩
  · have := length_putF f y fs; omega
  · show RelO ((putF f y fs).lookup g) (if g = f then some u else mA g)
    rw [lookup_putF]
    by_cases q : g = f
    · rw [if_pos q, if_pos q]; exact ry
    · rw [if_neg q, if_neg q]; exact r g
  · by_cases q : g = f
    · rw [q]; exact (keys_putF f y fs).1
    · refine (keys_putF f y fs).2 g (wi g fun z => hg ?_)
      show (if g = f then some u else mA g) = none
      rw [if_neg q]; exact z
theorem Inv.made (I : Inv X pins σ H s) : Inv X pins σ (upd (upd H s.heap.objs.size (.own (s.heap.objs.size + 1))) (s.heap.objs.size + 1) (.ins C s.heap.objs.size []))
    { s with heap := (s.heap.push PySem.W.emptyDict).push (PySem.W.instObj C s.heap.objs.size) } := by
  have e1 : (s.heap.push PySem.W.emptyDict).get? s.heap.objs.size = some PySem.W.emptyDict := Heap.get?_push_size s.heap rfl
  have e2 : ((s.heap.push PySem.W.emptyDict).push (PySem.W.instObj C s.heap.objs.size)).get? (s.heap.objs.size + 1) = some (PySem.W.instObj C s.heap.objs.size) := by
    have := Heap.get?_push_size (s.heap.push PySem.W.emptyDict) (o := PySem.W.instObj C s.heap.objs.size) rfl
    rwa [Heap.size_push] at this
  have e3 : (s.heap.push PySem.W.emptyDict).Ns s.heap.objs.size (fun _ => none) := ⟨PySem.W.emptyDict, #[], _, e1, rfl, (fun e he => absurd he (by simp)), fun _ => rfl⟩
  have I1 := I.laid (a := s.heap.objs.size) (o := .own (s.heap.objs.size + 1)) (h' := s.heap.push PySem.W.emptyDict) (t' := s.toks) (fun b u q => Heap.get?_push_of_some _ q) (Nat.le_refl _) ⟨_, e1⟩
  refine I1.laid (a := s.heap.objs.size + 1) (o := .ins C s.heap.objs.size []) (t' := s.toks) (fun b u q => Heap.get?_push_of_some _ q) (Nat.le_of_eq (Heap.size_push _ _)) ?_
  have ne : s.heap.objs.size ≠ s.heap.objs.size + 1 := Nat.ne_of_lt (Nat.lt_succ_self _)
  refine ⟨by rw [upd_ne ne, upd_same], Nat.zero_le _, ne, e2, fun _ => none, (Heap.Ns1.of_empty e3).at fun o q => Heap.get?_push_of_some _ q, fun _ => True.intro, fun y hy => absurd rfl hy⟩
theorem attr_of {prog : Program} {w : World} {env : Env} {e : Expr} {f : Str} {pos : Pos} {s : Shared} {Q : Value → Shared → Prop} (hb : attributeBase e f env (eval e env) = eval e env)
    (h : wpAny (model prog w) A (eval e env) (fun o s₁ => wpAny (model prog w) A (getAttr o f true) Q E s₁) E s) : wpAny (model prog w) A (eval (.Attribute e f pos) env) Q E s :=
  Attribute_any_ h (by rw [arm_eval_Attribute, hb])
end
def tFld (K : PySem.W.Frag) (ta : TE) (f : Str) : TE := fun σ H Q => ta σ H fun x H1 => ∃ a C dx fs v, x = .ref a ∧ H1 a = some (.ins C dx fs) ∧ Cls K C ∧ NoAttr K C f ∧ fs.lookup f = some v ∧ Q v H1
def sFld (K : PySem.W.Frag) (ta tv : TE) (f : Str) : TS := fun D σ H => tv σ H fun y H1 => ta σ H1 fun x H2 => ∃ a C dx fs, x = .ref a ∧ H2 a = some (.ins C dx fs) ∧ Cls K C ∧ NoAttr K C f ∧ fs.length < 1000 ∧
  D.nx σ (upd H2 a (.ins C dx (putF f y fs)))
section
variable {X : Cx} {o e value : Expr} {f : Str} {pos pos' tpos : Pos} {ta tv : TE}
theorem pe_fld (he : PE X e ta) (hb : attributeBase e f X.env (eval e X.env) = eval e X.env) : PE X (.Attribute e f pos) (tFld X.K ta f) := by
  intro pins s σ H Q I h
  refine attr_of hb (thn (he pins s σ H _ I h) fun u s1 ⟨x, H1, I1, rx, a, C, dx, fs, v, ex, ea, c, n, l, q⟩ => ?_)
  subst ex
  obtain rfl : u = Value.ref a := rx
  exact getattr_ok I1 ea c n l fun u' s2 I2 ru => ⟨v, H1, I2, ru, q⟩
theorem ps_fld (ha : PE X o ta) (hv : PE X value tv) (hs : swapsWith value (some (.Attribute o f pos')) pos.line X.env = pure false) : PS X (.Assign [.Attribute o f pos'] value pos) (sFld X.K ta tv f) := by
  intro pins s σ H D I h
  refine plainObj_wpAny_Assign_Attribute (thn (hv pins s σ H _ I h) fun u s1 ⟨y, H1, I1, ry, q⟩ => thn (ha pins s1 σ H1 _ I1 q) fun ov s2 ⟨x, H2, I2, rx, a, C, dx, fs, ex, ea, c, n, l, q2⟩ => ?_) hs
  subst ex
  obtain rfl : ov = Value.ref a := rx
  exact setattr_ok I2 ea c n l ry fun s3 I3 => ⟨σ, _, I3, q2⟩
theorem methcall_of {pl : Sem Bool} {m : Str} {apos : Pos} {args : List Expr} {pins : List (Addr × Obj)} {s : Shared} {σ : St} {H : Hp} {Q : Value → Shared → Prop} {te : TE} (he : PE X e te) (I : Inv X pins σ H s)
    (h : te σ H fun x H1 => ∃ a C dx fs g, x = .ref a ∧ H1 a = some (.ins C dx fs) ∧ Cls X.K C ∧ Meth X.K C m g ∧ fs.lookup m = none ∧
      ∀ s1, Inv X pins σ H1 s1 → wpAny (model X.prog X.w) X.A (callWith pos (.ref g) [.ref a] (backTo pos (starEach args X.env)) (backToKw pos (keywordEach [] X.env))) Q X.xe s1)
    (ht : eval (.Call (.Attribute e m apos) args [] pos) X.env = (do
      let ov ← eval e X.env
      standAt apos.atName
      let (f, first) ← holding [ov] (getMethod ov m pl)
      callWith pos f first (backTo pos (starEach args X.env)) (backToKw pos (keywordEach [] X.env)))) :
    wpAny (model X.prog X.w) X.A (eval (.Call (.Attribute e m apos) args [] pos) X.env) Q X.xe s := by
  refine PySem.W.methodCall_KW (pl := pl) (thn (he pins s σ H _ I h) fun u s1 ⟨x, H1, I1, rx, a, C, dx, fs, g, ex, ea, c, k, l, q⟩ => ?_) ht
  subst ex
  obtain rfl : u = Value.ref a := rx
  exact getmeth_ok I1 ea c k l (q s1 I1)
end
section
variable {X : Cx} {pins : List (Addr × Obj)} {σ : St} {H : Hp} {s : Shared} {A : Around} {E : Value → Shared → Prop} {Q : Value → Shared → Prop} {c : Value} {b : Bool}
inductive TyOf (K : PySem.W.Frag) (H : Hp) : V → Value → Prop where
  | non : TyOf K H .non (.type "NoneType")
  | bl (x : Bool) : TyOf K H (.bl x) (.type "bool")
  | int (i : Int) : TyOf K H (.int i) (.type "int")
  | str (x : Str) : TyOf K H (.str x) (.type "str")
  | flt (x : UInt64) : TyOf K H (.flt x) (.type "float")
  | lst {a : Addr} {xs : List V} (e : H a = some (.lst xs)) : TyOf K H (.ref a) (.type "list")
  | frz {a : Addr} {o : Obj} {xs : List V} (e : H a = some (.frz o (.lst xs))) : TyOf K H (.ref a) (.type "list")
  | tup {a : Addr} {xs : List V} (e : H a = some (.tup xs)) : TyOf K H (.ref a) (.type "tuple")
  | dK {a : Addr} {kvs : List (Key × V)} (e : H a = some (.dK kvs)) : TyOf K H (.ref a) (.type "dict")
  | dT {a : Addr} {kvs : List (List Key × V)} (e : H a = some (.dT kvs)) : TyOf K H (.ref a) (.type "dict")
  | ins {a C dx : Addr} {fs : List (Str × V)} (e : H a = some (.ins C dx fs)) (cl : Cls K C) (ha : PySem.W.findIn K (.ref C) "__class__" = some (some (.builtin "object.__class__")))
      (hn : PySem.W.specialIn K (.builtin "object.__class__") "__get__" = some (some (.builtin "getset_descriptor.__get__"))) (htk : PySem.W.takesIn K (.builtin "object.__class__") = some true)
      (hm : PySem.W.mroIn K C (.type "object") = some true) : TyOf K H (.ref a) (.ref C)
theorem isinst_ok {x : V} {u t : Value} (I : Inv X pins σ H s) (rx : RelV x u) (ty : TyOf X.K H x t) (e : PySem.W.kitOne X.K t c = some b) (h : ∀ tk, Q (.bool b) { s with toks := tk }) :
    wpAny (model X.prog X.w) A (call (.builtin "isinstance") [u, c]) Q E s := by
  cases ty with
  | non => cases (show u = Value.none from rx); exact PySem.W.kia_one PySem.W.kitx_none I.kIn True.intro e (fun z => nomatch z) h
  | bl y => cases (show u = Value.bool y from rx); exact PySem.W.kia_one PySem.W.kitx_bool I.kIn True.intro e (fun z => nomatch z) h
  | int i => obtain ⟨t, q⟩ := (show ∃ t, u = Value.int i t from rx); cases q; exact PySem.W.kia_one PySem.W.kitx_int I.kIn True.intro e (fun z => nomatch z) h
  | str y => obtain ⟨t, q⟩ := (show ∃ t, u = Value.str y t from rx); cases q; exact PySem.W.kia_one PySem.W.kitx_str I.kIn True.intro e (fun z => nomatch z) h
  | flt y => obtain ⟨t, q⟩ := (show ∃ t, u = Value.float y t from rx); cases q; exact PySem.W.kia_one PySem.W.kitx_float I.kIn True.intro e (fun z => nomatch z) h
  | @lst a xs ea =>
    cases (show u = Value.ref a from rx)
    obtain ⟨_, _, n, _, h1⟩ := (show ObjOk X.prog X.w H s.heap a (.lst xs) from I.hok a _ ea)
    exact PySem.W.kia_one PySem.W.kitx_list I.kIn ⟨_, h1, rfl⟩ e (fun z => nomatch z) h
  | @frz a ob xs ea =>
    cases (show u = Value.ref a from rx)
    obtain ⟨_, _, _, n, _, h1⟩ := (show ObjOk X.prog X.w H s.heap a (.frz ob (.lst xs)) from I.hok a _ ea)
    exact PySem.W.kia_one PySem.W.kitx_list I.kIn ⟨_, h1, rfl⟩ e (fun z => nomatch z) h
  | @tup a xs ea =>
    cases (show u = Value.ref a from rx)
    obtain ⟨_, _, _, p⟩ := (show ObjOk X.prog X.w H s.heap a (.tup xs) from I.hok a _ ea)
    obtain ⟨o, h1, h2, _⟩ := p
    exact PySem.W.kia_one PySem.W.kitx_tuple I.kIn ⟨o, h1, h2⟩ e (fun z => nomatch z) h
  | @dK a kvs ea =>
    cases (show u = Value.ref a from rx)
    obtain ⟨_, _, vs, _, p⟩ := (show ObjOk X.prog X.w H s.heap a (.dK kvs) from I.hok a _ ea)
    obtain ⟨o, es, ep, h1, h2, _⟩ := p
    exact PySem.W.kia_one PySem.W.kitx_dict I.kIn ⟨o, h1, h2.1⟩ e (fun z => nomatch z) h
  | @dT a kvs ea =>
    cases (show u = Value.ref a from rx)
    obtain ⟨_, _, xs, _, o, es, ep, h1, h2, _⟩ := (show ObjOk X.prog X.w H s.heap a (.dT kvs) from I.hok a _ ea)
    exact PySem.W.kia_one PySem.W.kitx_dict I.kIn ⟨o, h1, h2.1⟩ e (fun z => nomatch z) h
  | @ins a C dx fs ea cl ha hn htk hm =>
    cases (show u = Value.ref a from rx)
    obtain ⟨mA, O, _⟩ := ins_get I.hok ea
    obtain ⟨od, J, _⟩ := O.look
    exact PySem.W.kia_one (PySem.W.kitx_own (cl.get _) cl.hd ha hn htk hm) I.kIn J e (fun z => nomatch z) h
end
end L2
namespace L2
open PySem PySem.Spec PyProof.Rows
structure Room (k : Nat) (A : Around) : Prop where
  hd : A.handled = none
  dp : A.depth + 3 * k + 5 < recursionLimit
  un : A.units + 16 * k + 200 < cLine
theorem Room.mono {j k : Nat} {A : Around} (r : Room k A) (h : j ≤ k) : Room j A := ⟨r.hd, by have := r.dp; omega, by have := r.un; omega⟩
theorem Room.deeper {k : Nat} {A : Around} (r : Room (k + 1) A) (env : Env) : Room k (A.deeper env) :=
  ⟨r.hd, by have := r.dp; show A.depth + 1 + 3 * k + 5 < _; omega, by have := r.un; show A.units + 3 + 16 * k + 200 < _; omega⟩
theorem Room.in1 {k : Nat} {A : Around} (r : Room (k + 1) A) : Room k A.in1 :=
  ⟨r.hd, by have := r.dp; show A.depth + 3 * k + 5 < _; omega, by have := r.un; show A.units + 1 + 16 * k + 200 < _; omega⟩
theorem make_depth {A : Around} {C : Addr} {us : List Value} {kw : List (Str × Value)} : (A.under (.builtin "type.__call__" ⟨.ref C :: us, kw⟩)).depth = A.depth + 1 := by
  first | rfl | simp [Around.under, Code.weight, Code.isCreation, Code.isGuard, Code.isCaller, Code.frames, Code.isFrame, guardIds]
theorem make_units {A : Around} {C : Addr} {us : List Value} {kw : List (Str × Value)} : (A.under (.builtin "type.__call__" ⟨.ref C :: us, kw⟩)).units = A.units + 1 := by
  first | rfl | simp [Around.under, Code.cUnits, Code.frames, Code.isFrame]
theorem Room.make {k : Nat} {A : Around} (r : Room (k + 1) A) (C : Addr) (us : List Value) (kw : List (Str × Value)) : Room k (A.under (.builtin "type.__call__" ⟨.ref C :: us, kw⟩)) :=
  ⟨r.hd, by have := r.dp; rw [make_depth]; omega, by have := r.un; rw [make_units]; omega⟩
theorem Room.depth {k : Nat} {A : Around} (r : Room k A) : A.depth < recursionLimit := by have := r.dp; omega
theorem Room.units {k : Nat} {A : Around} (r : Room k A) : A.units + 64 < cLine := by have := r.un; omega
theorem Room.units0 {k : Nat} {A : Around} (r : Room k A) : A.units < cLine := by have := r.un; omega
def tNil : TA := fun _ H Q => Q [] H
def tCons (ta : TE) (tr : TA) : TA := fun σ H Q => ta σ H fun x H1 => tr σ H1 fun xs H2 => Q (x :: xs) H2
section
variable {X : Cx} {e : Expr} {es : List Expr} {te : TE} {t : TA} {pos : Pos}
theorem pa_nil : PA X [] tNil := fun _ _ _ _ H Q I h => Calls.spliced_nil ⟨[], H, I, .nil, h⟩
theorem pa_cons (ha : PE X e te) (hr : PA X es t) (hs : starEach (e :: es) X.env = (false, eval e X.env) :: starEach es X.env := by rfl) : PA X (e :: es) (tCons te t) := by
  intro pos pins s σ H Q I h
  rw [hs]
  show wpAny _ _ (spliced ((false, eval e X.env) :: backTo pos (starEach es X.env))) _ _ s
  refine Calls.spliced_cons (thn (ha pins s σ H _ I h) fun u s1 ⟨x, H1, I1, r1, q1⟩ => ?_)
  exact thn (hr pos pins s1 σ H1 _ I1 q1) fun us s2 ⟨xs, H2, I2, r2, q2⟩ => ⟨x :: xs, H2, I2, .cons r1 r2, q2⟩
def tTup (t : TA) : TE := fun σ H Q => t σ H fun xs H1 => xs.length ≤ sizeLine ∧ ∀ p, H1 p = none → Q (.ref p) (upd H1 p (.tup xs))
def tLst (t : TA) : TE := fun σ H Q => t σ H fun xs H1 => xs.length ≤ sizeLine ∧ ∀ p, H1 p = none → Q (.ref p) (upd H1 p (.lst xs))
theorem pe_tup {x1} (h : PA X es t) : PE X (.Tuple es x1 pos) (tTup t) := by
  intro pins s σ H Q I hq
  refine wpAny_Tuple_spliced (thn (h pos pins s σ H _ I hq) fun us s1 ⟨xs, H1, I1, r, z, q⟩ => ⟨by rw [← r.length]; exact z, ?_⟩)
  have hf : H1 s1.heap.objs.size = none := I1.hok.fresh (Nat.le_refl _)
  refine ⟨.ref s1.heap.objs.size, upd H1 s1.heap.objs.size (.tup xs), I1.laid (t' := s1.toks) (fun b u e => Heap.get?_push_of_some _ e) (Nat.le_refl _) ?_, rfl, q _ hf⟩
  exact ⟨z, us, r, ⟨_, Heap.get?_push_size _ rfl, rfl, _, rfl⟩⟩
theorem pe_lst (h : PA X es t) : PE X (.List es pos) (tLst t) := by
  intro pins s σ H Q I hq
  refine wpAny_List_spliced (thn (h pos pins s σ H _ I hq) fun us s1 ⟨xs, H1, I1, r, z, q⟩ => ⟨by rw [← r.length]; exact z, ?_⟩)
  have hf : H1 s1.heap.objs.size = none := I1.hok.fresh (Nat.le_refl _)
  refine ⟨.ref s1.heap.objs.size, upd H1 s1.heap.objs.size (.lst xs), I1.laid (t' := s1.toks) (fun b u e => Heap.get?_push_of_some _ e) (Nat.le_refl _) ?_, rfl, q _ hf⟩
  exact ⟨z, us, 0, r, Heap.get?_push_size _ rfl⟩
end
abbrev Sp := List V → Hp → VK → XK → Prop
abbrev CXT := List Env → Hp → Shared → XK → Value → Shared → Prop
structure Env0 (P : Program) (w : World) (K : PySem.W.Frag) (mg : Str → Option Value) (base : Heap) (A : Around) (outer : List Env) (s : Shared) (H : Hp) : Prop where
  frames : A.frames = some outer
  mod : Mod K mg base
  bs : ∀ b o, base.get? b = some o → s.heap.get? b = some o ∧ H b = none
  bsz : base.objs.size ≤ s.heap.objs.size
  funs : s.heap.FunFrames base outer
  frf : ∀ b ∈ frs outer, H b = none
  hok : HOk P w H s.heap
  bare : AllBare s.gens
def CE (outer : List Env) (P : Program) (w : World) (H : Hp) (s : Shared) (Q : VK) (u : Value) (s' : Shared) : Prop :=
  ∃ v H', s'.os = s.os ∧ AllBare s'.gens ∧ Un (frs outer) [] H H' s.heap s'.heap ∧ HOk P w H' s'.heap ∧ RelV v u ∧ Q v H'
def CR (CX : CXT) (outer : List Env) (P : Program) (w : World) (H : Hp) (s : Shared) (Q : VK) (E : XK) (r : Result) (s' : Shared) : Prop :=
  match r with
  | .ok (.ret u) => CE outer P w H s Q u s'
  | .ok _ => False
  | .error e => CX outer H s E e s'
structure FnOk (P : Program) (w : World) (K : PySem.W.Frag) (mg : Str → Option Value) (base : Heap) (CX : CXT) (k : Nat) (f : Addr) (fd : FuncData) (ps : List Str) (sp : Sp) : Prop where
  len : ∀ vs H Q E, sp vs H Q E → vs.length = ps.length
  run : ∀ (A : Around) (outer : List Env) (s : Shared) (H : Hp) (args : Args) (us : List Value) (vs : List V) (Q : VK) (E : XK), Room k A → Env0 P w K mg base A outer s H → BindsTo s fd args (ps.zip us) → Vals vs us → sp vs H Q E →
    codeAny (model P w) A (.call (.ref f) args) (CR CX outer P w H s Q E) s
theorem Env0.make {P : Program} {w : World} {K : PySem.W.Frag} {mg : Str → Option Value} {base : Heap} {A : Around} {outer : List Env} {s : Shared} {H : Hp} (e : Env0 P w K mg base A outer s H) (C : Addr) (us : List Value) (kw : List (Str × Value)) :
    Env0 P w K mg base (A.under (.builtin "type.__call__" ⟨.ref C :: us, kw⟩)) outer s H := ⟨by first | exact e.frames | (simpa [Around.under, Code.envs, Code.isFrame, pushEnvs] using e.frames), e.mod, e.bs, e.bsz, e.funs, e.frf, e.hok, e.bare⟩
section
variable {X : Cx} {pins : List (Addr × Obj)} {σ : St} {H : Hp} {s s' : Shared}
theorem Inv.env0 (I : Inv X pins σ H s) : Env0 X.prog X.w X.K X.mg X.base X.A X.stack s H :=
  ⟨I.ok.frames, I.ok.mod, I.bs, Nat.le_trans I.ok.bsz I.sz, I.stack, I.stkFree, I.hok, I.bare⟩
theorem Inv.after {Q : VK} {u : Value} (I : Inv X pins σ H s) (h : CE X.stack X.prog X.w H s Q u s') : EP X pins σ Q u s' := by
  obtain ⟨v, H', os, bare, un, hok, r, q⟩ := h
  obtain ⟨hh, g, d, t, os'⟩ := s'
  obtain rfl : os' = s.os := os
  exact ⟨v, H', I.call (h' := hh) (g' := g) (d' := d) (t' := t) (ch := []) un hok bare (fun b z => absurd z (by simp)), r, q⟩
end
def tCall (sp : Sp) (dvs : List V) (E : XK) (t : TA) : TE := fun σ H Q => t σ H fun vs H1 => sp (vs ++ dvs) H1 Q E
def tMeth (C : Addr) (m : Str) (sp : Sp) (dvs : List V) (E : XK) (ta : TE) (t : TA) : TE := fun σ H Q => ta σ H fun x H1 => ∃ a dx fs, x = .ref a ∧ H1 a = some (.ins C dx fs) ∧ fs.lookup m = none ∧
  t σ H1 fun vs H2 => sp (x :: (vs ++ dvs)) H2 Q E
def tMake (C : Addr) (sp : Sp) (dvs : List V) (E : XK) (t : TA) : TE := fun σ H Q => t σ H fun vs H1 => ∀ x dx, H1 x = none → H1 dx = none → dx ≠ x →
  sp (.ref x :: (vs ++ dvs)) (upd (upd H1 dx (.own x)) x (.ins C dx [])) (fun v H2 => v = .non ∧ Q (.ref x) H2) E
def Binds (K : PySem.W.Frag) (fd : FuncData) (ps : List Str) (ds : List Value) : Prop :=
  ∀ (s : Shared) (us : List Value), K.In s.heap → (us ++ ds).length = ps.length → BindsTo s fd ⟨us, []⟩ (ps.zip (us ++ ds))
theorem Binds.all {K : PySem.W.Frag} {fd : FuncData} {ps : List Str} (h : ∀ us : List Value, us.length = ps.length → bindArgs fd ⟨us, []⟩ = pure (ps.zip us)) : Binds K fd ps [] := fun s us _ hl => by
  rw [List.append_nil] at hl ⊢
  exact .of_eq (h us hl)
def Passes (CX : CXT) (X : Cx) (E : XK) : Prop := ∀ (pins : List (Addr × Obj)) (σ : St) (H : Hp) (s : Shared) (e : Value) (s' : Shared), Inv X pins σ H s → CX X.stack H s E e s' → X.xe e s'
section
variable {X : Cx} {CX : CXT} {k : Nat} {f C : Addr} {fd : FuncData} {ps : List Str} {sp : Sp} {dvs : List V} {ds : List Value} {E : XK} {x m : Str} {p pos apos : Pos} {e o : Expr} {es : List Expr} {ta : TE} {t : TA}
theorem run_fn {pins : List (Addr × Obj)} {σ : St} {H : Hp} {s : Shared} {Q : VK} {us : List Value} {vs : List V} (F : FnOk X.prog X.w X.K X.mg X.base CX k f fd ps sp) (hr : Room k X.A) (hb : Binds X.K fd ps ds) (hd : Vals dvs ds) (hx : Passes CX X E)
    (I : Inv X pins σ H s) (r : Vals vs us) (h : sp (vs ++ dvs) H Q E) : wpAny (model X.prog X.w) X.A (call (.ref f) us) (EP X pins σ Q) X.xe s := by
  have r2 : Vals (vs ++ dvs) (us ++ ds) := r.append hd
  have hl : (us ++ ds).length = ps.length := by rw [← r2.length]; exact F.len _ _ _ _ h
  refine wpAny_call (codeAny_mono (F.run X.A X.stack s H ⟨us, []⟩ (us ++ ds) (vs ++ dvs) Q E hr I.env0 (hb s us I.kIn hl) r2 h) fun r s' hq => ?_)
  cases r with
  | error e => exact hx pins σ H s e s' I hq
  | ok fl =>
    cases fl with
    | ret u => exact I.after hq
    | next => exact False.elim hq
    | brk => exact False.elim hq
    | cont => exact False.elim hq
theorem pe_call (F : FnOk X.prog X.w X.K X.mg X.base CX k f fd ps sp) (hr : Room k X.A) (hg : Gl X x) (hm : X.mg x = some (.ref f)) (hk : PySem.W.keepIn X.K (.ref f) = true) (hb : Binds X.K fd ps ds) (hd : Vals dvs ds) (hx : Passes CX X E)
    (ha : PA X (e :: es) t) (hdb : (x == ("__debug__" : Str)) = false := by decide) (he : starEach (e :: es) X.env = (false, eval e X.env) :: starEach es X.env := by rfl) (hpl : (backTo pos (starEach es X.env)).any (·.1) = false := by rfl) :
    PE X (.Call (.Name x p) (e :: es) [] pos) (tCall sp dvs E t) := by
  intro pins s σ H Q I h
  refine wpAny_Call_Name_kw (ld_glob I hg hm ?_ hdb)
  refine PySem.W.callWith_K (h₀ := X.base) I.ok.mod.kin hk (thn (ha pos pins s σ H _ I h) fun us s1 ⟨vs, H1, I1, r, q⟩ => ⟨I1.kIn, ?_⟩) he hpl
  exact run_fn F hr hb hd hx I1 r q
theorem pe_meth {pl : Sem Bool} (he : PE X o ta) (c : Cls X.K C) (hm : Meth X.K C m f) (F : FnOk X.prog X.w X.K X.mg X.base CX k f fd ps sp) (hr : Room k X.A) (hb : Binds X.K fd ps ds) (hd : Vals dvs ds) (hx : Passes CX X E) (ha : PA X (e :: es) t)
    (hst : starEach (e :: es) X.env = (false, eval e X.env) :: starEach es X.env := by rfl) (hpl : (backTo pos (starEach es X.env)).any (·.1) = false := by rfl)
    (ht : eval (.Call (.Attribute o m apos) (e :: es) [] pos) X.env = (do
      let ov ← eval o X.env
      standAt apos.atName
      let (f, first) ← holding [ov] (getMethod ov m pl)
      callWith pos f first (backTo pos (starEach (e :: es) X.env)) (backToKw pos (keywordEach [] X.env))) := by rfl) :
    PE X (.Call (.Attribute o m apos) (e :: es) [] pos) (tMeth C m sp dvs E ta t) := by
  intro pins s σ H Q I h
  refine PySem.W.methodCall_KW (pl := pl) (thn (he pins s σ H _ I h) fun u s1 ⟨x, H1, I1, rx, a, dx, fs, ex, ea, l, q⟩ => ?_) ht
  subst ex
  obtain rfl : u = Value.ref a := rx
  refine getmeth_ok I1 ea c hm l ?_
  refine PySem.W.callWith_K (first := [.ref a]) (h₀ := X.base) I.ok.mod.kin hm.kp (thn (ha pos pins s1 σ H1 _ I1 q) fun us s2 ⟨vs, H2, I2, r, q2⟩ => ⟨I2.kIn, ?_⟩) hst hpl
  exact run_fn (us := .ref a :: us) (vs := .ref a :: vs) F hr hb hd hx I2 (.cons rfl r) q2
theorem pe_meth0 {pl : Sem Bool} (he : PE X o ta) (c : Cls X.K C) (hm : Meth X.K C m f) (F : FnOk X.prog X.w X.K X.mg X.base CX k f fd ps sp) (hr : Room k X.A) (hb : Binds X.K fd ps ds) (hd : Vals dvs ds) (hx : Passes CX X E)
    (ht : eval (.Call (.Attribute o m apos) [] [] pos) X.env = (do
      let ov ← eval o X.env
      standAt apos.atName
      let (f, first) ← holding [ov] (getMethod ov m pl)
      callWith pos f first (backTo pos (starEach [] X.env)) (backToKw pos (keywordEach [] X.env))) := by rfl) :
    PE X (.Call (.Attribute o m apos) [] [] pos) (tMeth C m sp dvs E ta tNil) := by
  intro pins s σ H Q I h
  refine PySem.W.methodCall_KW (pl := pl) (thn (he pins s σ H _ I h) fun u s1 ⟨x, H1, I1, rx, a, dx, fs, ex, ea, l, q⟩ => ?_) ht
  subst ex
  obtain rfl : u = Value.ref a := rx
  refine getmeth_ok I1 ea c hm l ?_
  exact PySem.W.callWith_K0 (first := [.ref a]) I1.kIn hm.kp (run_fn (us := [.ref a]) (vs := [.ref a]) F hr hb hd hx I1 (.cons rfl .nil) q)
structure Mk (K : PySem.W.Frag) (C f : Addr) : Prop where
  makes : PySem.W.makesIn K C = true
  init : PySem.W.findIn K (.ref C) "__init__" = some (some (.ref f))
  fn : PySem.W.isFn K (.ref f) = true
  kp : PySem.W.keepIn K (.ref C) = true
theorem run_make {pins : List (Addr × Obj)} {σ : St} {H : Hp} {s : Shared} {Q : VK} {us : List Value} {vs : List V} (M : Mk X.K C f) (F : FnOk X.prog X.w X.K X.mg X.base CX k f fd ps sp) (hr : Room (k + 1) X.A) (hb : Binds X.K fd ps ds) (hd : Vals dvs ds)
    (hx : Passes CX X E) (I : Inv X pins σ H s) (r : Vals vs us)
    (h : ∀ x dx, H x = none → H dx = none → dx ≠ x → sp (.ref x :: (vs ++ dvs)) (upd (upd H dx (.own x)) x (.ins C dx [])) (fun v H2 => v = .non ∧ Q (.ref x) H2) E) :
    wpAny (model X.prog X.w) X.A (call (.ref C) us) (EP X pins σ Q) X.xe s := by
  have hq := h (s.heap.objs.size + 1) s.heap.objs.size (I.hok.fresh (Nat.le_succ _)) (I.hok.fresh (Nat.le_refl _)) (Nat.ne_of_lt (Nat.lt_succ_self _))
  have I2 := Inv.made (C := C) I
  have r2 : Vals (V.ref (s.heap.objs.size + 1) :: (vs ++ dvs)) (Value.ref (s.heap.objs.size + 1) :: (us ++ ds)) := .cons rfl (r.append hd)
  have hl : (Value.ref (s.heap.objs.size + 1) :: us ++ ds).length = ps.length := by
    have e := r2.length
    rw [F.len _ _ _ _ hq] at e
    exact e.symm
  refine wpAny_call (make_map (f := f) I.kIn M.makes M.init (beq_iff_eq.mp M.fn) (codeAny_mono (F.run _ X.stack _ _ ⟨Value.ref (s.heap.objs.size + 1) :: us, []⟩ (Value.ref (s.heap.objs.size + 1) :: (us ++ ds)) _ _ E (hr.make C us [])
    (I2.env0.make C us []) (hb _ (Value.ref (s.heap.objs.size + 1) :: us) I2.kIn hl) r2 hq) fun r s' hq' => ?_))
  cases r with
  | error e => exact hx pins σ _ _ e s' I2 hq'
  | ok fl =>
    cases fl with
    | ret u =>
      obtain ⟨v, H', I3, rv, ev, q3⟩ := I2.after hq'
      subst ev
      exact ⟨rv, ⟨V.ref (s.heap.objs.size + 1), H', I3, rfl, q3⟩⟩
    | next => exact False.elim hq'
    | brk => exact False.elim hq'
    | cont => exact False.elim hq'
theorem pe_make (M : Mk X.K C f) (F : FnOk X.prog X.w X.K X.mg X.base CX k f fd ps sp) (hr : Room (k + 1) X.A) (hg : Gl X x) (hm : X.mg x = some (.ref C)) (hb : Binds X.K fd ps ds) (hd : Vals dvs ds) (hx : Passes CX X E)
    (ha : PA X (e :: es) t) (hdb : (x == ("__debug__" : Str)) = false := by decide) (he : starEach (e :: es) X.env = (false, eval e X.env) :: starEach es X.env := by rfl) (hpl : (backTo pos (starEach es X.env)).any (·.1) = false := by rfl) :
    PE X (.Call (.Name x p) (e :: es) [] pos) (tMake C sp dvs E t) := by
  intro pins s σ H Q I h
  refine wpAny_Call_Name_kw (ld_glob I hg hm ?_ hdb)
  refine PySem.W.callWith_K (h₀ := X.base) I.ok.mod.kin M.kp (thn (ha pos pins s σ H _ I h) fun us s1 ⟨vs, H1, I1, r, q⟩ => ⟨I1.kIn, ?_⟩) he hpl
  exact run_make M F hr hb hd hx I1 r q
end
section
variable {X : Cx} {CX : CXT} {k : Nat} {f C : Addr} {fd : FuncData} {ps ks : List Str} {sp : Sp} {E : XK} {x m : Str} {p pos apos kpos : Pos} {e o : Expr} {es : List Expr} {kws : List Keyword} {te ta : TE} {t tk : TA} {nm : Option Str}
variable {g : List Value → List Value → List Value} {gV : List V → List V → List V}
end
structure FnScope (N P : List Str) (sc : Scope) : Prop where
  kind : sc.kind = .function
  co : sc.isCoroutine = false
  gen : sc.isGenerator = false
  nd : N.Nodup
  pre : N.take P.length = P
  par : ∀ x ∈ P, sc.names.lookup x = some .local ∨ sc.names.lookup x = some .cell
  nofree : ∀ y ∈ sc.names, y.2 ≠ .free
theorem bindL_out {kindOf : Str → Option NameKind} {x : Str} : ∀ {binds : List (Str × Value)} {m : Str → Option Value}, (∀ v, (x, v) ∉ binds) → bindL kindOf binds m x = m x
  | [], _, _ => rfl
  | (n, v) :: r, m, h => by
    unfold bindL
    rw [bindL_out fun w hw => h w (List.mem_cons_of_mem _ hw)]
    split
    · have : x ≠ n := by rintro rfl; exact h v List.mem_cons_self
      simp [this]
    · rfl
theorem bindC_out {kindOf : Str → Option NameKind} {x : Str} : ∀ {binds : List (Str × Value)} {m : Str → Option Value}, (∀ v, (x, v) ∉ binds) → bindC kindOf binds m x = m x
  | [], _, _ => rfl
  | (n, v) :: r, m, h => by
    unfold bindC
    rw [bindC_out fun w hw => h w (List.mem_cons_of_mem _ hw)]
    split
    · rfl
    · have : x ≠ n := by rintro rfl; exact h v List.mem_cons_self
      simp [this]
theorem bindL_get {kindOf : Str → Option NameKind} {x : Str} {v : Value} : ∀ {P : List Str} {vs : List Value} {i : Nat} {m : Str → Option Value}, P.Nodup → P[i]? = some x → vs[i]? = some v → kindOf x = some .local →
    bindL kindOf (P.zip vs) m x = some v
  | [], _, _, _, _, h, _, _ => by simp at h
  | _ :: _, [], _, _, _, _, h, _ => by simp at h
  | p :: P, w :: vs, 0, m, nd, h1, h2, hk => by
    simp at h1 h2; subst h1; subst h2
    show bindL kindOf ((p, w) :: P.zip vs) m p = _
    unfold bindL
    rw [bindL_out fun v hv => (List.nodup_cons.mp nd).1 (List.of_mem_zip hv).1, if_pos hk]
    simp
  | p :: P, w :: vs, i + 1, m, nd, h1, h2, hk => by
    show bindL kindOf ((p, w) :: P.zip vs) m x = _
    unfold bindL
    exact bindL_get (i := i) (List.nodup_cons.mp nd).2 (by simpa using h1) (by simpa using h2) hk
theorem bindC_get {kindOf : Str → Option NameKind} {x : Str} {v : Value} : ∀ {P : List Str} {vs : List Value} {i : Nat} {m : Str → Option Value}, P.Nodup → P[i]? = some x → vs[i]? = some v → kindOf x ≠ some .local →
    bindC kindOf (P.zip vs) m x = some v
  | [], _, _, _, _, h, _, _ => by simp at h
  | _ :: _, [], _, _, _, _, h, _ => by simp at h
  | p :: P, w :: vs, 0, m, nd, h1, h2, hk => by
    simp at h1 h2; subst h1; subst h2
    show bindC kindOf ((p, w) :: P.zip vs) m p = _
    unfold bindC
    rw [bindC_out fun v hv => (List.nodup_cons.mp nd).1 (List.of_mem_zip hv).1, if_neg hk]
    simp
  | p :: P, w :: vs, i + 1, m, nd, h1, h2, hk => by
    show bindC kindOf ((p, w) :: P.zip vs) m x = _
    unfold bindC
    exact bindC_get (i := i) (List.nodup_cons.mp nd).2 (by simpa using h1) (by simpa using h2) hk
def start (N : List Str) (vs : List V) : St := vs.map some ++ List.replicate (N.length - vs.length) none
def cxOf (CX : CXT) (P : Program) (w : World) (K : PySem.W.Frag) (mg : Str → Option Value) (base : Heap) (N : List Str) (qual : Str) (scope : Scope) (f : Addr) (cd : Value) (A : Around) (outer : List Env) (s : Shared) (H : Hp) (E : XK) : Cx where
  prog := P
  w := w
  K := K
  mg := mg
  base := base
  A := A.deeper (envOfC qual scope s.heap.objs.size f cd)
  N := N
  s₀ := s
  H₀ := H
  env := envOfC qual scope s.heap.objs.size f cd
  outer := outer
  stack := envOfC qual scope s.heap.objs.size f cd :: outer
  ex := []
  calm := true
  fn := fun _ => true
  pn := []
  xe := fun e s' => wpAny (model P w) (A.deeper (envOfC qual scope s.heap.objs.size f cd)) (leaving (envOfC qual scope s.heap.objs.size f cd) e) (fun _ s'' => CX outer H s E e s'') (fun e' s'' => CX outer H s E e' s'') s'
theorem cell_has {sc : Scope} {n : Nat} {x : Str} (h : sc.names.lookup x = some .cell) : ∃ c, (cellsFrom n sc.names []).lookup x = some c := by
  have q := PySem.W.cellsFrom_some sc.names n [] (.inl h)
  exact Option.isSome_iff_exists.mp q
theorem inv_start {CX : CXT} {P : Program} {w : World} {K : PySem.W.Frag} {mg : Str → Option Value} {base : Heap} {N ps : List Str} {qual : Str} {scope : Scope} {f : Addr} {cd : Value} {A : Around} {outer : List Env} {s s1 : Shared} {H : Hp} {E : XK} {us : List Value} {vs : List V}
    (S : FnScope N ps scope) (hd : A.handled = none) (e0 : Env0 P w K mg base A outer s H) (hl : vs.length = ps.length) (r : Vals vs us)
    (x : InCallC s s.heap.objs.size (bindL (envOfC qual scope s.heap.objs.size f cd).kindOf (ps.zip us) fun _ => none) (cellsFrom (s.heap.objs.size + 1) scope.names []) (bindC (envOfC qual scope s.heap.objs.size f cd).kindOf (ps.zip us) fun _ => none) s1) :
    Inv (cxOf CX P w K mg base N qual scope f cd A outer s H E) [] (start N vs) H s1 := by
  have hpl : ps.length ≤ N.length := by have := congrArg List.length S.pre; rw [List.length_take] at this; omega
  obtain ⟨h1, tk, rfl, hk⟩ := x.done
  have noA : ∀ b : Addr, b ∉ (cxOf CX P w K mg base N qual scope f cd A outer s H E).ex := fun b z => absurd (show b ∈ ([] : List Addr) from z) (by simp)
  refine ⟨⟨e0.mod, S.kind, rfl, rfl, Nat.le_refl _, fun y z c h1 h2 => ?_, fun y hy => ?_, fun y c _ h => ?_, fun _ => hd, Around.frames_deeper e0.frames, .inr ⟨rfl, rfl⟩, fun b z => absurd z (noA b), e0.bs, e0.bsz, fun b _ _ => noA b, fun b z => absurd z (noA b), e0.funs, e0.frf⟩,
    rfl, e0.bare, Un.kept hk, ⟨_, x.toInCall.ns, fun i y v h1 h2 h3 => ?_⟩, fun y c h => ⟨_, x.cell y c h⟩, e0.hok.fresh (Nat.le_refl _), fun y c h => ?_, fun p hp => absurd (show p ∈ ([] : List (Addr × Obj)) from hp) (by simp), e0.hok.kept hk, ?_⟩
  · exact name_of_addr x.apart (PySem.mem_of_lookup h1) (PySem.mem_of_lookup h2)
  · have hy : scope.names.lookup y = some .cell ∨ scope.names.lookup y = some .free := hy
    rcases hy with hy | hy
    · exact cell_has hy
    · exact absurd rfl (S.nofree _ (PySem.mem_of_lookup hy))
  · exact Nat.le_of_lt (x.above y c (PySem.mem_of_lookup h))
  · have hi : i < vs.length := by
      unfold start at h2
      by_cases hi : i < vs.length
      · exact hi
      · rw [List.getElem?_append_right (by simpa using hi)] at h2
        rw [List.getElem?_replicate] at h2
        split at h2 <;> cases h2
    have ha : vs[i]? = some v := by
      unfold start at h2
      rw [List.getElem?_append_left (by simpa using hi), List.getElem?_map] at h2
      cases e : vs[i]? with
      | none => rw [e] at h2; cases h2
      | some a => rw [e] at h2; cases h2; rfl
    obtain ⟨u, hu, rv⟩ := r.get ha
    have hp : ps[i]? = some y := by
      rw [← S.pre, List.getElem?_take_of_lt (by omega)]; exact h1
    have ndP : ps.Nodup := by rw [← S.pre]; exact S.nd.sublist (List.take_sublist _ _)
    refine ⟨u, rv, ?_⟩
    rcases S.par y (List.mem_of_getElem? hp) with k | k
    · exact .inl ⟨k, bindL_get ndP hp hu k⟩
    · obtain ⟨c, e⟩ := cell_has (n := s.heap.objs.size + 1) k
      refine .inr ⟨.inl k, c, e, ?_⟩
      have q := x.cell y c e
      rw [bindC_get ndP hp hu (by show scope.names.lookup y ≠ _; rw [k]; decide)] at q
      exact q
  · exact e0.hok.fresh (Nat.le_of_lt (x.above y c (PySem.mem_of_lookup h)))
  · unfold start
    show _ = N.length
    rw [List.length_append, List.length_map, List.length_replicate]
    omega
theorem fn_of {CX : CXT} {P : Program} {w : World} {K : PySem.W.Frag} {mg : Str → Option Value} {base : Heap} {k : Nat} {f : Addr} {name qual : Str} {params : Arguments} {body : List Stmt} {scope : Scope} {dV kV doc pm cdv ct oc : Value} {an od : Option Addr}
    {osl : Array (Option Value)} {N ps : List Str} {sp : Sp} (lk : K.lookup f = some ⟨oc, od, .func (PySem.W.fnOf name qual params body scope dV kV doc pm an cdv ct), osl⟩) (hcd : PySem.W.codeIn K cdv qual = true) (S : FnScope N ps scope)
    (len : ∀ vs H Q E, sp vs H Q E → vs.length = ps.length)
    (hbody : ∀ (A : Around) (outer : List Env) (s : Shared) (H : Hp) (vs : List V) (Q : VK) (E : XK), Room k (A.deeper (envOfC qual scope s.heap.objs.size f cdv)) → sp vs H Q E →
      ∃ t, PSs (cxOf CX P w K mg base N qual scope f cdv A outer s H E) body t ∧ t { nx := fun _ H' => Q .non H', rt := Q } (start N vs) H) :
    FnOk P w K mg base CX (k + 1) f (PySem.W.fnOf name qual params body scope dV kV doc pm an cdv ct) ps sp := by
  refine ⟨len, fun A outer s H args us vs Q E hr e0 hb r hsp => ?_⟩
  have hl := len _ _ _ _ hsp
  have KX : K.In s.heap := e0.mod.kin.keeps fun b o e => (e0.bs b o e).1
  have lim : s.heap.NoLimit := e0.mod.nolimit.keeps fun b o e => (e0.bs b o e).1
  have hkind : ∀ y ∈ ps.zip us, scope.names.lookup y.1 = some .local ∨ (scope.names.lookup y.1 = some .cell ∧ ((cellsFrom (s.heap.objs.size + 1) scope.names []).lookup y.1).isSome = true) := fun ⟨n, v⟩ hy => by
    rcases S.par n (List.of_mem_zip hy).1 with q | q
    · exact .inl q
    · exact .inr ⟨q, PySem.W.cellsFrom_some _ _ _ (.inl q)⟩
  refine codeAny_call_function hr.depth (KX _ _ lk) rfl S.co S.gen rfl (PySem.W.codeRec_of KX hcd) (hb _ _ _ _ ?_)
  refine wpAny_newFunctionEnv_cells S.kind hkind fun env he s1 x => ?_
  subst he
  refine ⟨lim.keeps x.toInCall.keep, codeAny_func ?_⟩
  obtain ⟨t, ht, hq⟩ := hbody A outer s H vs Q E (hr.deeper _) hsp
  have I : Inv (cxOf CX P w K mg base N qual scope f cdv A outer s H E) [] (start N vs) H s1 := inv_start S hr.hd e0 hl r x
  refine wpAny_mono (ht [] s1 (start N vs) H _ I hq) (fun fl s' hs => ?_) fun e s' hs => hs
  have fin : ∀ {σ' : St} {H' : Hp} {v : V} {u : Value}, Inv (cxOf CX P w K mg base N qual scope f cdv A outer s H E) [] σ' H' s' → RelV v u → Q v H' → CE outer P w H s Q u s' :=
    fun {σ' H' v u} J rv q => ⟨v, H', J.os, J.bare, J.base, J.hok, rv, q⟩
  cases fl with
  | ret u =>
    obtain ⟨v, σ', H', J, rv, q⟩ := hs
    exact fin J rv q
  | next =>
    obtain ⟨σ', H', J, q⟩ := hs
    exact fin (v := V.non) (u := Value.none) J rfl q
  | brk =>
    obtain ⟨_, _, _, q⟩ := hs
    exact False.elim q
  | cont =>
    obtain ⟨_, _, _, q⟩ := hs
    exact False.elim q
end L2
namespace L2
open PySem PySem.Spec PyProof.Rows
section
variable {X : Cx} {x : Str} {p pos : Pos} {e : Expr} {es : List Expr} {t : TA} {id T : String} {r : List V → Hp → VK → Prop}
def tCB (r : List V → Hp → VK → Prop) (t : TA) : TE := fun σ H Q => t σ H fun vs H1 => r vs H1 Q
theorem pe_callB (hc : CallR X (.builtin id) r) (hg : Gl X x) (hm : X.mg x = none) (hv : bootBuiltins x = some (.builtin id)) (ha : PA X (e :: es) t) (hn : x ≠ "__name__" := by decide) (hdb : (x == ("__debug__" : Str)) = false := by decide)
    (he : starEach (e :: es) X.env = (false, eval e X.env) :: starEach es X.env := by rfl) (hpl : (backTo pos (starEach es X.env)).any (·.1) = false := by rfl) : PE X (.Call (.Name x p) (e :: es) [] pos) (tCB r t) := by
  intro pins s σ H Q I h
  refine wpAny_Call_Name_kw (ld_blt I hg hm hv ?_ hn hdb)
  exact PyProof.Rows.callWith_builtin1 (thn (ha pos pins s σ H _ I h) fun us s1 ⟨vs, H1, I1, r1, q1⟩ => hc pins s1 σ H1 vs us Q I1 r1 q1) he hpl
theorem pe_callTy (hc : CallR X (.type T) r) (hg : Gl X x) (hm : X.mg x = none) (hv : bootBuiltins x = some (.type T)) (ha : PA X (e :: es) t) (hn : x ≠ "__name__" := by decide) (hdb : (x == ("__debug__" : Str)) = false := by decide)
    (he : starEach (e :: es) X.env = (false, eval e X.env) :: starEach es X.env := by rfl) (hpl : (backTo pos (starEach es X.env)).any (·.1) = false := by rfl) : PE X (.Call (.Name x p) (e :: es) [] pos) (tCB r t) := by
  intro pins s σ H Q I h
  refine wpAny_Call_Name_kw (ld_blt I hg hm hv ?_ hn hdb)
  exact PyProof.Rows.callWith_type1 (thn (ha pos pins s σ H _ I h) fun us s1 ⟨vs, H1, I1, r1, q1⟩ => hc pins s1 σ H1 vs us Q I1 r1 q1) he hpl
end
end L2
namespace HT
open PySem PyProof.Rows
section
open PySem.SeqAt
open PySem.AutoSeq1 (wpAny_loadPart')
open PySem.MeetsSeq PySem.MeetsSeq2 PySem.MeetsSeq3
end
section
variable {prog : Program} {w : World} {A : Around} {E : Value → Shared → Prop} {s : Shared}
def sIx (n d : Nat) : Option Int → Nat
  | none => d
  | some v => if v < 0 then (v + (n : Int)).toNat else min v.toNat n
theorem sIx_none (n d : Nat) : sIx n d none = d := rfl
theorem sIx_nat (n d k : Nat) : sIx n d (some (k : Int)) = min k n := by
  show (if (k : Int) < 0 then ((k : Int) + (n : Int)).toNat else min (k : Int).toNat n) = min k n
  rw [if_neg (by omega), Int.toNat_natCast]
end
end HT
namespace L2
open PySem PySem.Spec PyProof.Rows
abbrev TO := St → Hp → (Option Int → Hp → Prop) → Prop
def PO (X : Cx) (e : Option Expr) (t : TO) : Prop :=
  ∀ (pins : List (Addr × Obj)) (s : Shared) (σ : St) (H : Hp) (Q : Option Int → Hp → Prop), Inv X pins σ H s → t σ H Q →
    wpAny (model X.prog X.w) X.A (evalPart e X.env) (fun u s' => ∃ o H', Inv X pins σ H' s' ∧ IsPart u o ∧ Q o H') X.xe s
def tNoPart : TO := fun _ H Q => Q none H
def tPart (t : TE) : TO := fun σ H Q => t σ H fun x H1 => ∃ i, x = .int i ∧ Q (some i) H1
section
variable {X : Cx} {e : Expr} {te : TE} {lo hi : Option Expr} {tl th : TO} {pos p2 : Pos}
theorem po_none : PO X none tNoPart := by
  intro pins s σ H Q I h
  rw [evalPart_none]
  exact wpAny_pure ⟨none, H, I, .none, h⟩
theorem po_some (h : PE X e te) : PO X (some e) (tPart te) := by
  intro pins s σ H Q I hw
  rw [evalPart_some]
  refine thn (h pins s σ H _ I hw) fun u s1 ⟨x, H1, I1, r1, q1⟩ => ?_
  obtain ⟨i, rfl, q⟩ := q1
  obtain ⟨t, rfl⟩ := r1
  exact ⟨some i, H1, I1, .int i t, q⟩
def SlR (X : Cx) (r : V → Option Int → Option Int → Hp → VK → Prop) : Prop :=
  ∀ (pins : List (Addr × Obj)) (s : Shared) (σ : St) (H : Hp) (x : V) (v vl vu : Value) (lo hi : Option Int) (sl : Addr) (Q : VK), Inv X pins σ H s → RelV x v → s.heap.IsSliceOf sl vl vu .none → IsPart vl lo → IsPart vu hi → r x lo hi H Q →
    ∃ T id, typeLookup (.type T) "__getitem__" = pure (some (.builtin id)) ∧ s.TypeIs v T ∧ wpAny (model X.prog X.w) X.A (getItem v (.ref sl)) (EP X pins σ Q) X.xe s
def tSl (r : V → Option Int → Option Int → Hp → VK → Prop) (te : TE) (tl th : TO) : TE := fun σ H Q => te σ H fun x H1 => tl σ H1 fun l H2 => th σ H2 fun u H3 => r x l u H3 Q
theorem pe_slice {r : V → Option Int → Option Int → Hp → VK → Prop} (hr : SlR X r) (he : PE X e te) (hl : PO X lo tl) (hu : PO X hi th) : PE X (.Subscript e (.Slice lo hi none p2) pos) (tSl r te tl th) := by
  intro pins s σ H Q I h
  refine Subscript_ (thn (he pins s σ H _ I h) fun v s1 ⟨x, H1, I1, r1, q1⟩ => ?_)
  refine wpAny_Slice (thn (hl pins s1 σ H1 _ I1 q1) fun vl s2 ⟨l, H2, I2, pl, q2⟩ => thn (hu pins s2 σ H2 _ I2 q2) fun vu s3 ⟨u, H3, I3, pu, q3⟩ => ?_)
  rw [evalPart_none]
  refine wpAny_pure ?_
  have I4 : Inv X pins σ H3 { s3 with heap := s3.heap.push { cls := .type "slice", data := .fields #[vl, vu, .none] } } := I3.kept (t' := s3.toks) fun b ob q => Heap.get?_push_of_some _ q
  obtain ⟨T, id, hT, ht, hg⟩ := hr pins { s3 with heap := s3.heap.push { cls := .type "slice", data := .fields #[vl, vu, .none] } } σ H3 x v vl vu l u s3.heap.objs.size Q I4 r1 (Heap.IsSliceOf.new ..) pl pu q3
  show wpAny (model X.prog X.w) X.A (subscriptTail e (.Slice lo hi none p2) v (.ref s3.heap.objs.size)) (EP X pins σ Q) X.xe { s3 with heap := s3.heap.push { cls := .type "slice", data := .fields #[vl, vu, .none] } }
  exact tail_any (ops := [.ref s3.heap.objs.size, v]) ht hT hg (by with_unfolding_all rfl)
def cutV (xs : List V) (lo hi : Option Int) : List V := (xs.drop (HT.sIx xs.length 0 lo)).take (HT.sIx xs.length xs.length hi - HT.sIx xs.length 0 lo)
theorem cutV_length (xs : List V) (lo hi : Option Int) : (cutV xs lo hi).length ≤ xs.length := by
  unfold cutV
  rw [List.length_take, List.length_drop]
  omega
end
end L2
namespace L2
open PySem PySem.Spec PyProof.Rows
def ixN (n : Nat) (i : Int) : Option Nat := if 0 ≤ i then (if i < n then some i.toNat else none) else if -(n : Int) ≤ i then some (i + n).toNat else none
def atI {α : Type} (xs : List α) (i : Int) : Option α := (ixN xs.length i).bind fun j => xs[j]?
theorem ixN_seq {n : Nat} {i : Int} {j : Nat} (h : ixN n i = some j) : seqIndex? i n = some j ∧ j < n ∧ -(n : Int) ≤ i ∧ i < n := by
  unfold ixN at h
  by_cases h0 : 0 ≤ i
  · rw [if_pos h0] at h
    by_cases h1 : i < n
    · rw [if_pos h1] at h
      have e : i.toNat = j := Option.some.inj h
      exact ⟨by rw [seqIndex_of h0 h1, e], by omega, by omega, h1⟩
    · rw [if_neg h1] at h; cases h
  · rw [if_neg h0] at h
    by_cases h1 : -(n : Int) ≤ i
    · rw [if_pos h1] at h
      have e : (i + n).toNat = j := Option.some.inj h
      exact ⟨by rw [seqIndex_neg (by omega) h1, e], by omega, h1, by omega⟩
    · rw [if_neg h1] at h; cases h
theorem atI_get {α : Type} {xs : List α} {i : Int} {v : α} (h : atI xs i = some v) : ∃ j, seqIndex? i xs.length = some j ∧ xs[j]? = some v ∧ j < xs.length ∧ -(xs.length : Int) ≤ i ∧ i < xs.length := by
  unfold atI at h
  cases e : ixN xs.length i with
  | none => rw [e] at h; cases h
  | some j =>
    rw [e] at h
    obtain ⟨h1, h2, h3, h4⟩ := ixN_seq e
    exact ⟨j, h1, h, h2, h3, h4⟩
theorem atI_nat {α : Type} {xs : List α} {j : Nat} {v : α} (h : xs[j]? = some v) : atI xs (j : Int) = some v := by
  have hj : j < xs.length := (List.getElem?_eq_some_iff.mp h).1
  have e : ixN xs.length (j : Int) = some j := by
    unfold ixN
    rw [if_pos (by omega), if_pos (by omega)]; simp
  unfold atI; rw [e]; exact h
def PlainIx (b : Expr) : Prop := ∀ o i, subscripted b false o i = operate [o, i] (getItem o i)
def IxR (X : Cx) (r : R2) : Prop :=
  ∀ (value slice : Expr) (pins : List (Addr × Obj)) (s : Shared) (σ : St) (H : Hp) (x y : V) (v u : Value) (Q : VK), Inv X pins σ H s → RelV x v → RelV y u → r x y H Q →
    subscripted slice false v u = operate [v, u] (getItem v u) → wpAny (model X.prog X.w) X.A (subscriptTail value slice v u) (EP X pins σ Q) X.xe s
def MtR (X : Cx) (id : String) (r : V → List V → Hp → VK → Prop) : Prop :=
  ∀ (pins : List (Addr × Obj)) (s : Shared) (σ : St) (H : Hp) (x : V) (xs : List V) (v : Value) (us : List Value) (Q : VK), Inv X pins σ H s → RelV x v → Vals xs us → r x xs H Q →
    wpAny (model X.prog X.w) X.A (call (.builtin id) (v :: us)) (EP X pins σ Q) X.xe s
section
variable {X : Cx} {a b : Expr} {ta tb : TE} {pos : Pos}
theorem pe_ix {r : R2} (hr : IxR X r) (ha : PE X a ta) (hb : PE X b tb) (hs : PlainIx b) : PE X (.Subscript a b pos) (tOp r ta tb) := by
  intro pins s σ H Q I h
  exact Subscript_ (binT ha hb I h fun v u s2 x y H2 I2 rx ry q => hr a b pins s2 σ H2 x y v u Q I2 rx ry q (hs _ _))
def rIxL (K : PySem.W.Frag) : R2 := fun x y H Q => ∃ p xs i v, x = .ref p ∧ y = .int i ∧ SqL K H p xs ∧ atI xs i = some v ∧ Q v H
def rIxT (K : PySem.W.Frag) : R2 := fun x y H Q => ∃ p xs i v, x = .ref p ∧ y = .int i ∧ SqT K H p xs ∧ atI xs i = some v ∧ Q v H
def rIxS : R2 := fun x y H Q => ∃ z i c, x = .str z ∧ y = .int i ∧ z.length ≤ sizeLine ∧ atI z.cps.toList i = some c ∧ Q (.str ⟨#[c]⟩) H
theorem ix_list : IxR X (rIxL X.K) := by
  intro value slice pins s σ H x y v u Q I rx ry h hs
  obtain ⟨p, xs, i, z, rfl, rfl, hq, he, q⟩ := h
  cases rx
  obtain ⟨t, rfl⟩ := ry
  obtain ⟨its, r, pl, hz⟩ := I.list hq
  obtain ⟨j, h1, h2, h3, h4, h5⟩ := atI_get he
  obtain ⟨w, ew, rw'⟩ := r.get h2
  have hl := r.length
  have hn := line63
  have fin : EP X pins σ Q w s := ⟨z, H, I, rw', q⟩
  by_cases h0 : 0 ≤ i
  · have hj : i.toNat = j := by
      rw [seqIndex_of h0 h5] at h1
      exact Option.some.inj h1
    exact item_listR pl.isList h0 (by omega) (by rw [hj]; simpa using ew) fin hs
  · have hj : (i + (its.toArray.size : Int)).toNat = j := by
      rw [seqIndex_neg (by omega) h4] at h1
      rw [List.size_toArray, ← hl]
      exact Option.some.inj h1
    exact subscriptTail_builtinR (x := w) pl.isList.typeIs slot_list_getitem.lookup
      (wpAny_getItem_list_neg (Q := fun r s' => r = w ∧ EP X pins σ Q r s') pl.isList (by omega) (by rw [List.size_toArray] <;> omega) (by omega) (by rw [hj]; simpa using ew) ⟨rfl, fin⟩) hs
theorem ix_tup : IxR X (rIxT X.K) := by
  intro value slice pins s σ H x y v u Q I rx ry h hs
  obtain ⟨p, xs, i, z, rfl, rfl, hq, he, q⟩ := h
  cases rx
  obtain ⟨t, rfl⟩ := ry
  obtain ⟨its, r, pl, hz⟩ := I.tuple hq
  obtain ⟨j, h1, h2, h3, h4, h5⟩ := atI_get he
  obtain ⟨w, ew, rw'⟩ := r.get h2
  have hl := r.length
  have hn := line63
  have fin : EP X pins σ Q w s := ⟨z, H, I, rw', q⟩
  exact subscriptTail_builtinR (x := w) pl.typeIs slot_tuple_getitem.lookup
    (getItem_tuple (j := j) (Q := fun r s' => r = w ∧ EP X pins σ Q r s') pl (by omega) (by omega) (by rw [List.size_toArray, ← hl]; exact h1) (by simpa using ew) ⟨rfl, fin⟩) hs
theorem ix_str : IxR X rIxS := by
  intro value slice pins s σ H x y v u Q I rx ry h hs
  obtain ⟨z, i, c, rfl, rfl, hz, he, q⟩ := h
  obtain ⟨t, rfl⟩ := rx
  obtain ⟨t', rfl⟩ := ry
  obtain ⟨j, h1, h2, h3, h4, h5⟩ := atI_get he
  have hl : z.cps.toList.length = z.length := by simp [Str.length]
  rw [hl] at h1 h4 h5
  have hn := line63
  exact tail_any (typeIs_str s z t) slot_str_getitem.lookup (getItem_str (c := c) (by
    have e1 : decide (i < -(2 ^ 63 : Int)) = false := decide_eq_false (by omega)
    have e2 : decide (i ≥ 2 ^ 63) = false := decide_eq_false (by omega)
    rw [e1, e2, Bool.or_false]) (by rw [h1]; simpa using h2) ⟨.str ⟨#[c]⟩, H, I.tok _, ⟨_, rfl⟩, q⟩) hs
theorem mapSeq_set (its : List Value) (n j : Nat) (u : Value) : Obj.mapSeq (·.setIfInBounds j u) { cls := .type "list", data := .seq its.toArray n } = { cls := .type "list", data := .seq (its.set j u).toArray n } := by
  simp [Obj.mapSeq]
theorem Inv.lst {pins : List (Addr × Obj)} {σ : St} {H : Hp} {s : Shared} {p : Addr} {xs : List V} (I : Inv X pins σ H s) (h : H p = some (.lst xs)) :
    ∃ (its : List Value) (n : Nat), Vals xs its ∧ s.heap.get? p = some { cls := .type "list", data := .seq its.toArray n } ∧ xs.length ≤ sizeLine := by
  obtain ⟨z, its, n, r, e⟩ := I.hok p _ h
  exact ⟨its, n, r, e, z⟩
theorem Inv.lstUpd {pins : List (Addr × Obj)} {σ : St} {H : Hp} {s : Shared} {p : Addr} {xs ys : List V} {its its' : List Value} {n n' : Nat} {f : Obj → Obj} (I : Inv X pins σ H s) (h : H p = some (.lst xs))
    (ho : s.heap.get? p = some { cls := .type "list", data := .seq its.toArray n }) (hf : f { cls := .type "list", data := .seq its.toArray n } = { cls := .type "list", data := .seq its'.toArray n' }) (r : Vals ys its') (hz : ys.length ≤ sizeLine) (t : Nat) :
    Inv X pins σ (upd H p (.lst ys)) { s with heap := s.heap.update p f, toks := t } := by
  have e : (s.heap.update p f).get? p = some { cls := .type "list", data := .seq its'.toArray n' } := by
    rw [Heap.get?_update_self f ho (by rw [hf] <;> rfl), hf]
  refine I.write (x := p) (e := p) (by rw [h]; trivial) (.inl rfl) (fun b u hb q => (Heap.get?_update_other _ _ (Ne.symm hb)).trans q) ⟨_, e⟩ ?_
  exact ⟨hz, its', n', r, e⟩
def rSetL : V → V → V → Hp → (Hp → Prop) → Prop := fun o i v H Q => ∃ p xs k j, o = .ref p ∧ i = .int k ∧ H p = some (.lst xs) ∧ ixN xs.length k = some j ∧ Q (upd H p (.lst (xs.set j v)))
theorem set_list : PSet X rSetL := by
  intro pins s σ H o i v ov iv u Q I ro ri rv h
  obtain ⟨p, xs, k, j, rfl, rfl, hp, hj, q⟩ := h
  cases ro
  obtain ⟨t, rfl⟩ := ri
  obtain ⟨its, n, r, ho, hz⟩ := I.lst hp
  obtain ⟨h1, h2, h3, h4⟩ := ixN_seq hj
  have hl := r.length
  have hn := line63
  have I' : Inv X pins σ (upd H p (.lst (xs.set j v))) { s with heap := s.heap.update p (Obj.mapSeq (·.setIfInBounds j u)) } :=
    I.lstUpd hp ho (mapSeq_set its n j u) (r.set rv j) (by rw [List.length_set]; exact hz) s.toks
  by_cases h0 : 0 ≤ k
  · have hk : k.toNat = j := by
      rw [seqIndex_of h0 h4] at h1
      exact Option.some.inj h1
    exact PySem.W.ki_setAt ho h0 (by omega) (by rw [List.size_toArray, ← hl]; exact h4) (by rw [hk]; exact ⟨_, I', q⟩)
  · have hk : (k + (its.toArray.size : Int)).toNat = j := by
      rw [seqIndex_neg (by omega) h3] at h1
      rw [List.size_toArray, ← hl]
      exact Option.some.inj h1
    exact PySem.W.ki_setBack ho (by omega) (by rw [List.size_toArray, ← hl]; exact h3) (by omega) (by rw [hk]; exact ⟨_, I', q⟩)
theorem slice_bounds (lo hi : Option Int) (n : Nat) : (sliceBounds lo hi none n).1 = ((HT.sIx n 0 lo : Nat) : Int) ∧ (sliceBounds lo hi none n).2.1 = ((HT.sIx n n hi : Nat) : Int) ∧ (sliceBounds lo hi none n).2.2 = 1 := by
  refine ⟨?_, ?_, rfl⟩
  · cases lo with
    | none => simp [sliceBounds, HT.sIx]
    | some i =>
      simp only [sliceBounds, HT.sIx, Option.getD_none, show (1 : Int) > 0 by decide, if_true]
      by_cases h : i < 0
      · simp only [h, if_true] <;> omega
      · simp only [h, if_false] <;> omega
  · cases hi with
    | none => simp [sliceBounds, HT.sIx]
    | some i =>
      simp only [sliceBounds, HT.sIx, Option.getD_none, show (1 : Int) > 0 by decide, if_true]
      by_cases h : i < 0
      · simp only [h, if_true] <;> omega
      · simp only [h, if_false] <;> omega
theorem slicePick_cut (its : List Value) (lo hi : Option Int) : slicePick its.toArray lo hi none = ((its.drop (HT.sIx its.length 0 lo)).take (HT.sIx its.length its.length hi - HT.sIx its.length 0 lo)).toArray := by
  obtain ⟨h1, h2, h3⟩ := slice_bounds lo hi its.toArray.size
  unfold slicePick
  rw [h1, h2, h3]
  simp only [sliceRange_one, pick_run, List.size_toArray] <;> rfl
def rSlL (K : PySem.W.Frag) : V → Option Int → Option Int → Hp → VK → Prop := fun x lo hi H Q => ∃ a xs, x = .ref a ∧ SqL K H a xs ∧ ∀ p, H p = none → Q (.ref p) (upd H p (.lst (cutV xs lo hi)))
theorem sl_list : SlR X (rSlL X.K) := by
  intro pins s σ H x v vl vu lo hi sl Q I rx hs pl pu h
  obtain ⟨a, xs, rfl, hx, q⟩ := h
  cases rx
  obtain ⟨its, r, ht, hz⟩ := I.list hx
  have hlen := r.length
  refine ⟨"list", _, slot_list_getitem.lookup, ht.isList.typeIs, ?_⟩
  refine wpAny_getItem_list_slice ht.isList hs pl pu .none (by simp) ?_ (by rw [List.size_toArray] <;> omega)
  rw [slicePick_cut, ← hlen]
  refine ⟨.ref s.heap.objs.size, _, I.laid (t' := s.toks) (o := .lst (cutV xs lo hi)) (fun b ob q => Heap.get?_push_of_some _ q) (Nat.le_refl _) ?_, rfl, q _ (I.hok.fresh (Nat.le_refl _))⟩
  exact ⟨Nat.le_trans (cutV_length xs lo hi) hz, _, 0, (r.drop (HT.sIx xs.length 0 lo)).take (HT.sIx xs.length xs.length hi - HT.sIx xs.length 0 lo), Heap.get?_push_size _ rfl⟩
def flatV : V → Bool
  | .non => true
  | .bl _ => true
  | .int _ => true
  | .str _ => true
  | _ => false
def eqV : V → V → Bool
  | .non, .non => true
  | .bl a, .bl b => a == b
  | .bl a, .int b => (if a then 1 else 0) == b
  | .int a, .bl b => a == (if b then 1 else 0)
  | .int a, .int b => a == b
  | .str a, .str b => a == b
  | _, _ => false
theorem eqAt_V {A : Around} {s : Shared} {y x : V} {u v : Value} (ry : RelV y u) (rx : RelV x v) (fy : flatV y = true) (fx : flatV x = true) : SeqAt.EqAt A s u v (eqV y x) := by
  cases y with
  | non =>
    cases ry
    cases x with
    | non => cases rx; exact SeqAt.EqAt.same _
    | bl b => cases rx; exact SeqAt.EqAt.none_bool b
    | int b => obtain ⟨t, rfl⟩ := rx; exact SeqAt.EqAt.none_int b t
    | str b => obtain ⟨t, rfl⟩ := rx; exact SeqAt.EqAt.none_str b t
    | _ => exact absurd (show false = true from fx) Bool.false_ne_true
  | bl a =>
    cases ry
    cases x with
    | non => cases rx; exact SeqAt.EqAt.bool_none a
    | bl b => cases rx; exact SeqAt.EqAt.bool_bool a b
    | int b => obtain ⟨t, rfl⟩ := rx; exact SeqAt.EqAt.bool_int a b t
    | str b => obtain ⟨t, rfl⟩ := rx; exact SeqAt.EqAt.bool_str a b t
    | _ => exact absurd (show false = true from fx) Bool.false_ne_true
  | int a =>
    obtain ⟨t', rfl⟩ := ry
    cases x with
    | non => cases rx; exact SeqAt.EqAt.int_none a t'
    | bl b => cases rx; exact SeqAt.EqAt.int_bool a t' b
    | int b => obtain ⟨t, rfl⟩ := rx; exact SeqAt.EqAt.int_int a t' b t
    | str b => obtain ⟨t, rfl⟩ := rx; exact SeqAt.EqAt.int_str a t' b t
    | _ => exact absurd (show false = true from fx) Bool.false_ne_true
  | str a =>
    obtain ⟨t', rfl⟩ := ry
    cases x with
    | non => cases rx; exact SeqAt.EqAt.str_none a t'
    | bl b => cases rx; exact SeqAt.EqAt.str_bool a t' b
    | int b => obtain ⟨t, rfl⟩ := rx; exact SeqAt.EqAt.str_int a t' b t
    | str b => obtain ⟨t, rfl⟩ := rx; exact SeqAt.EqAt.str_str a t' b t
    | _ => exact absurd (show false = true from fx) Bool.false_ne_true
  | _ => exact absurd (show false = true from fy) Bool.false_ne_true
def eqU (x : V) (u : Value) : Bool := match u with
  | .none => eqV .non x
  | .bool b => eqV (.bl b) x
  | .int i _ => eqV (.int i) x
  | .str z _ => eqV (.str z) x
  | _ => false
theorem eqU_of {x y : V} {u : Value} (r : RelV y u) (f : flatV y = true) : eqU x u = eqV y x := by
  cases y with
  | non => cases r; rfl
  | bl b => cases r; rfl
  | int i => obtain ⟨t, rfl⟩ := r; rfl
  | str z => obtain ⟨t, rfl⟩ := r; rfl
  | _ => exact absurd (show false = true from f) Bool.false_ne_true
theorem any_eqU {x : V} : ∀ {xs : List V} {us : List Value}, Vals xs us → xs.all flatV = true → us.any (eqU x) = xs.any fun y => eqV y x
  | _, _, .nil, _ => rfl
  | y :: xs, u :: us, .cons r t, f => by
    rw [List.all_cons, Bool.and_eq_true] at f
    rw [List.any_cons, List.any_cons, eqU_of r f.1, any_eqU t f.2]
theorem mem_eqAt {A : Around} {s : Shared} {x : V} {v : Value} (rx : RelV x v) (fx : flatV x = true) : ∀ {xs : List V} {us : List Value}, Vals xs us → xs.all flatV = true → ∀ u ∈ us, SeqAt.EqAt A s u v (eqU x u)
  | _, _, .nil, _ => fun u hu => by cases hu
  | y :: xs, u :: us, .cons r t, f => fun u' hu => by
    rw [List.all_cons, Bool.and_eq_true] at f
    rcases List.mem_cons.mp hu with rfl | hu
    · rw [eqU_of r f.1]; exact eqAt_V r rx f.1 fx
    · exact mem_eqAt rx fx t f.2 u' hu
def inV (x : V) (xs : List V) : Bool := xs.any fun y => eqV y x
def rIn (K : PySem.W.Frag) (neg : Bool) : R2 := fun x y H Q => ∃ p xs, y = .ref p ∧ (SqL K H p xs ∨ SqT K H p xs) ∧ flatV x = true ∧ xs.all flatV = true ∧ Q (.bl (if neg then !inV x xs else inV x xs)) H
theorem op_in_seq : OpR X (compareOp .In) (rIn X.K false) := by
  intro pins s σ H x y v u Q I rx ry h
  obtain ⟨p, xs, rfl, hq, fx, fs, q⟩ := h
  cases ry
  rcases hq with hq | hq
  · obtain ⟨its, r, pl, hz⟩ := I.list hq
    refine SeqAt.in_listAt (eqU x) pl.isList (fun w hw => mem_eqAt rx fx r fs w (by simpa using hw)) ⟨.bl _, H, I, rfl, ?_⟩
    rw [show its.toArray.any (eqU x) = its.any (eqU x) by simp, any_eqU r fs]
    exact q
  · obtain ⟨its, r, pl, hz⟩ := I.tuple hq
    refine SeqAt.in_tupleAt (eqU x) pl (fun w hw => mem_eqAt rx fx r fs w (by simpa using hw)) ⟨.bl _, H, I, rfl, ?_⟩
    rw [show its.toArray.any (eqU x) = its.any (eqU x) by simp, any_eqU r fs]
    exact q
theorem op_notIn_seq : OpR X (compareOp .NotIn) (rIn X.K true) := by
  intro pins s σ H x y v u Q I rx ry h
  obtain ⟨p, xs, rfl, hq, fx, fs, q⟩ := h
  cases ry
  rcases hq with hq | hq
  · obtain ⟨its, r, pl, hz⟩ := I.list hq
    refine SeqAt.notIn_listAt (eqU x) pl.isList (fun w hw => mem_eqAt rx fx r fs w (by simpa using hw)) ⟨.bl _, H, I, rfl, ?_⟩
    rw [show its.toArray.any (eqU x) = its.any (eqU x) by simp, any_eqU r fs]
    exact q
  · obtain ⟨its, r, pl, hz⟩ := I.tuple hq
    refine SeqAt.notIn_tupleAt (eqU x) pl (fun w hw => mem_eqAt rx fx r fs w (by simpa using hw)) ⟨.bl _, H, I, rfl, ?_⟩
    rw [show its.toArray.any (eqU x) = its.any (eqU x) by simp, any_eqU r fs]
    exact q
theorem call_len_seq : CallR X (.builtin "len") (fun xs H Q => ∃ p ys, xs = [.ref p] ∧ (SqL X.K H p ys ∨ SqT X.K H p ys) ∧ Q (.int ys.length) H) := by
  intro pins s σ H xs us Q I r h
  obtain ⟨p, ys, rfl, hq, q⟩ := h
  obtain ⟨u, rfl, rx⟩ := vals1 r
  cases rx
  have hn := line63
  rcases hq with hq | hq
  · obtain ⟨its, r', pl, hz⟩ := I.list hq
    have hlen := r'.length
    exact Calls.call_len_list pl.isList (by simp only [List.size_toArray] <;> omega) ⟨.int ys.length, H, I.tok _, ⟨s.toks + 1, by rw [List.size_toArray, hlen]⟩, q⟩
  · obtain ⟨its, r', pl, hz⟩ := I.tuple hq
    have hlen := r'.length
    exact len_tuple pl (by simp only [List.size_toArray] <;> omega) ⟨.int ys.length, H, I.tok _, ⟨s.toks + 1, by rw [List.size_toArray, hlen]⟩, q⟩
theorem call_len_str : CallR X (.builtin "len") (fun xs H Q => ∃ z, xs = [.str z] ∧ z.length ≤ sizeLine ∧ Q (.int z.length) H) := by
  intro pins s σ H xs us Q I r h
  obtain ⟨z, rfl, hz, q⟩ := h
  obtain ⟨u, rfl, t, rfl⟩ := vals1 r
  have hn := line63
  exact len_str (by omega) ⟨.int z.length, H, I.tok _, ⟨_, rfl⟩, q⟩
theorem call_list_of : CallR X (.type "list") (fun xs H Q => ∃ p ys, xs = [.ref p] ∧ (SqL X.K H p ys ∨ SqT X.K H p ys) ∧ ∀ l, H l = none → Q (.ref l) (upd H l (.lst ys))) := by
  intro pins s σ H xs us Q I r h
  obtain ⟨p, ys, rfl, hq, q⟩ := h
  obtain ⟨u, rfl, rx⟩ := vals1 r
  cases rx
  have fin : ∀ (its : List Value), Vals ys its → ys.length ≤ sizeLine → ∀ (h' : Heap) (c' : Nat), (∀ b o', s.heap.get? b = some o' → h'.get? b = some o') →
      h'.get? s.heap.objs.size = some { cls := .type "list", dict := none, data := .seq its.toArray c', slots := #[] } → EP X pins σ Q (.ref s.heap.objs.size) { s with heap := h' } := fun its r' hz h' c' kp e =>
    ⟨.ref s.heap.objs.size, _, I.laid (t' := s.toks) kp (Nat.le_refl _) (show ObjOk X.prog X.w _ h' _ (.lst ys) from ⟨hz, its, c', r', e⟩), rfl, q _ (I.hok.fresh (Nat.le_refl _))⟩
  rcases hq with hq | hq
  · obtain ⟨its, r', pl, hz⟩ := I.list hq
    have hlen := r'.length
    obtain ⟨o, ho, hc, n, hd⟩ := pl.isList
    exact call_list_seq p (.inl rfl) ho hc hd (fun h' c' kp e => fin its r' hz h' c' kp e) (by simp only [List.size_toArray] <;> omega)
  · obtain ⟨its, r', pl, hz⟩ := I.tuple hq
    have hlen := r'.length
    obtain ⟨o, ho, hc, n, hd⟩ := pl
    exact call_list_seq p (.inr rfl) ho hc hd (fun h' c' kp e => fin its r' hz h' c' kp e) (by simp only [List.size_toArray] <;> omega)
def tyV (K : PySem.W.Frag) (T : String) (x : V) (H : Hp) : Prop := match x with
  | .str _ => T = "str"
  | .int _ => T = "int"
  | .ref p => (T = "list" ∧ ∃ xs, SqL K H p xs) ∨ (T = "tuple" ∧ ∃ o, K.lookup p = some o ∧ o.cls = .type "tuple" ∧ o.dict = none) ∨
      (T = "dict" ∧ ((∃ kvs, H p = some (.dK kvs)) ∨ ∃ kvs, H p = some (.dT kvs))) ∨ (T = "set" ∧ ∃ S n, H p = some (.set S n))
  | _ => False
theorem tyV_is {pins : List (Addr × Obj)} {σ : St} {H : Hp} {s : Shared} {T : String} {x : V} {v : Value} (I : Inv X pins σ H s) (r : RelV x v) (ty : tyV X.K T x H) :
    s.TypeIs v T ∧ ∀ a, v = .ref a → ∃ ob, s.heap.get? a = some ob ∧ ob.dict = none := by
  cases x with
  | str z =>
    obtain ⟨t, rfl⟩ := r
    cases (show T = "str" from ty)
    exact ⟨typeIs_str s z t, fun _ e => nomatch e⟩
  | int i =>
    obtain ⟨t, rfl⟩ := r
    cases (show T = "int" from ty)
    exact ⟨typeIs_int s i t, fun _ e => nomatch e⟩
  | ref p =>
    cases r
    rcases ty with ⟨rfl, xs, hq⟩ | ⟨rfl, o, hk, hc, hd⟩ | ⟨rfl, hk⟩ | ⟨rfl, S, n, hk⟩
    · obtain ⟨its, _, pl, _⟩ := I.list hq
      refine ⟨pl.isList.typeIs, fun a e => ?_⟩
      cases e
      obtain ⟨o, n, e, c, hd, _⟩ := pl
      exact ⟨o, e, hd⟩
    · refine ⟨⟨o, I.kIn p o hk, hc⟩, fun a e => ?_⟩
      cases e
      exact ⟨o, I.kIn _ o hk, hd⟩
    · have z : ∃ o, s.heap.get? p = some o ∧ o.ExactDict := by
        rcases hk with ⟨kvs, hk⟩ | ⟨kvs, hk⟩
        · obtain ⟨_, _, _, _, o, _, _, e, ex, _⟩ := I.hok p _ hk
          exact ⟨o, e, ex⟩
        · obtain ⟨_, _, _, _, o, _, _, e, ex, _⟩ := I.hok p _ hk
          exact ⟨o, e, ex⟩
      obtain ⟨o, e, ex⟩ := z
      refine ⟨⟨o, e, ex.1⟩, fun a e2 => ?_⟩
      cases e2
      exact ⟨o, e, ex.2.1⟩
    · obtain ⟨o, _, _, _, e, ex, _⟩ := I.hok p _ hk
      refine ⟨⟨o, e, ex.1⟩, fun a e2 => ?_⟩
      cases e2
      exact ⟨o, e, ex.2.1⟩
  | _ => exact False.elim ty
def tBM (K : PySem.W.Frag) (T : String) (r : V → List V → Hp → VK → Prop) (to : TE) (t : TA) : TE := fun σ H Q => to σ H fun x H1 => tyV K T x H1 ∧ t σ H1 fun xs H2 => r x xs H2 Q
variable {o e : Expr} {es : List Expr} {to : TE} {t : TA} {name : Str} {apos cpos : Pos} {T id : String} {r : V → List V → Hp → VK → Prop}
theorem pe_bm (pa : PlainAttrs T) (slot : Slot T name id) (hty : typeOf (.builtin id) = pure (.type "method_descriptor")) (hm : MtR X id r) (ho : PE X o to) (ha : PA X (e :: es) t)
    (hbase : attributeBase o name X.env (eval o X.env) = eval o X.env := by rfl)
    (hfew : ((backTo cpos (starEach (e :: es) X.env)).all (fun x => !x.1) && (backToKw cpos (keywordEach [] X.env)).all (fun x => x.1.isSome)
      && decide ((e :: es).length + ([] : List Keyword).length + (if ([] : List Keyword).isEmpty then 0 else 1) < 30)) = true := by rfl)
    (hline : (apos.endLine == cpos.line) = true := by rfl) (hs : starEach (e :: es) X.env = (false, eval e X.env) :: starEach es X.env := by rfl) (hplain : (backTo cpos (starEach es X.env)).any (·.1) = false := by rfl) :
    PE X (.Call (.Attribute o name apos) (e :: es) [] cpos) (tBM X.K T r to t) := by
  intro pins s σ H Q I h
  refine wpAny_Call_method_late hbase hfew hline rfl (thn (ho pins s σ H _ I h) fun v s1 ⟨x, H1, I1, r1, ty, q1⟩ => ?_)
  obtain ⟨h1, h2⟩ := tyV_is I1 r1 ty
  refine ⟨T, id, pa, slot, hty, h1, h2, ?_⟩
  have hA := ha cpos pins s1 σ H1 _ I1 q1
  rw [hs] at hA ⊢
  refine Calls.callWith_builtin (by show (false || (backTo cpos (starEach es X.env)).any (·.1)) = false; rw [hplain] <;> rfl) (Calls.evalArgs_plain ?_)
  exact thn hA fun us s2 ⟨vs, H2, I2, r2, q2⟩ => hm pins s2 σ H2 x vs v us Q I2 r1 r2 q2
end
end L2
namespace L2
open PySem PySem.Spec PyProof.Rows
def MtM (X : Cx) (id : String) (r : V → List V → Hp → VK → Prop) : Prop :=
  ∀ (pins : List (Addr × Obj)) (s : Shared) (σ : St) (H : Hp) (x : V) (xs : List V) (v : Value) (us : List Value) (Q : VK), Inv X pins σ H s → RelV x v → Vals xs us → r x xs H Q →
    wpAny (model X.prog X.w) X.A (call (.builtin id) (v :: us)) (EP X pins σ Q) X.xe s
theorem Vals.one : ∀ {x : V} {us : List Value}, Vals [x] us → ∃ u, us = [u] ∧ RelV x u
  | _, _, .cons r .nil => ⟨_, rfl, r⟩
section
variable {X : Cx} {pins : List (Addr × Obj)} {σ : St} {H : Hp} {s : Shared} {l b : Addr} {xs ys zs : List V}
theorem Inv.lset {its its' : List Value} {n : Nat} {f : Array Value → Array Value} {t' : Nat} (I : Inv X pins σ H s) (hH : H l = some (.lst xs))
    (e : s.heap.get? l = some { cls := .type "list", data := .seq its.toArray n }) (hf : f its.toArray = its'.toArray) (hv : Vals ys its') (hz : ys.length ≤ sizeLine) :
    Inv X pins σ (upd H l (.lst ys)) { s with heap := s.heap.update l (Obj.mapSeq f), toks := t' } := by
  have q := PySem.IsL.update e f
  rw [hf] at q
  refine I.write (x := l) (e := l) (by rw [hH]; exact trivial) (.inl rfl) (fun b' u hb hu => (Heap.get?_update_other s.heap (Obj.mapSeq f) (Ne.symm hb)).trans hu) ⟨_, q⟩ ?_
  exact ⟨hz, its', _, hv, q⟩
theorem Inv.lnew {its : List Value} {t' : Nat} (I : Inv X pins σ H s) (hv : Vals ys its) (hz : ys.length ≤ sizeLine) :
    Inv X pins σ (upd H s.heap.objs.size (.lst ys)) { s with heap := s.heap.push { cls := .type "list", data := .seq its.toArray }, toks := t' } :=
  I.laid (fun _ _ q => Heap.get?_push_of_some _ q) (Nat.le_refl _) ⟨hz, its, 0, hv, Heap.get?_push_size _ rfl⟩
theorem Inv.fresh (I : Inv X pins σ H s) : H s.heap.objs.size = none := I.hok.fresh (Nat.le_refl _)
theorem Inv.lstM (I : Inv X pins σ H s) (hH : H l = some (.lst xs)) : xs.length ≤ sizeLine ∧ ∃ (its : List Value) (n : Nat), Vals xs its ∧ xs.length = its.length ∧ s.heap.get? l = some { cls := .type "list", data := .seq its.toArray n } := by
  obtain ⟨z, its, n, r, e⟩ := I.hok l _ hH
  exact ⟨z, its, n, r, r.length, e⟩
theorem notLongL {n : Nat} (h : n ≤ sizeLine) : Builtin.List.listTooLong n = false := by
  unfold Builtin.List.listTooLong
  exact decide_eq_false (by omega)
end
section
variable {X : Cx}
def rAppend : V → List V → Hp → VK → Prop := fun x vs H Q => ∃ l xs y, x = .ref l ∧ vs = [y] ∧ H l = some (.lst xs) ∧ xs.length < sizeLine ∧ Q .non (upd H l (.lst (xs ++ [y])))
theorem mt_append : MtM X "list.append" rAppend := by
  intro pins s σ H x vs v us Q I rx rv h
  obtain ⟨l, xs, y, rfl, rfl, hH, hz, q⟩ := h
  cases rx
  obtain ⟨u, rfl, ru⟩ := rv.one
  obtain ⟨z, its, n, r, hl, e⟩ := I.lstM hH
  refine call_meets F.slot_list_append ⟨_, e, rfl⟩ F.entry_list_append (F.args_list_append_2 _ _) (PySem.list_append l its.toArray n u (by rw [List.size_toArray]; omega)) ⟨e, ?_⟩
  refine ⟨.non, _, I.lset (its' := its ++ [u]) hH e (by simp) (r.append (.cons ru .nil)) ?_, rfl, q⟩
  rw [List.length_append, List.length_singleton]
  omega
def rExtend : V → List V → Hp → VK → Prop := fun x vs H Q => ∃ l b xs zs, x = .ref l ∧ vs = [.ref b] ∧ H l = some (.lst xs) ∧ H b = some (.lst zs) ∧ xs.length + zs.length ≤ sizeLine ∧ Q .non (upd H l (.lst (xs ++ zs)))
theorem mt_extend : MtM X "list.extend" rExtend := by
  intro pins s σ H x vs v us Q I rx rv h
  obtain ⟨l, b, xs, zs, rfl, rfl, hH, hB, hz, q⟩ := h
  cases rx
  obtain ⟨u, rfl, ru⟩ := rv.one
  cases ru
  obtain ⟨z, its, n, r, hl, e⟩ := I.lstM hH
  obtain ⟨z2, its2, n2, r2, hl2, e2⟩ := I.lstM hB
  have hsz : its.toArray.size + its2.toArray.size ≤ sizeLine := by rw [List.size_toArray, List.size_toArray]; omega
  have hlong : ¬ (!its.toArray.isEmpty && Builtin.List.listTooLong (its.toArray.size + its2.toArray.size)) = true := by
    rw [notLongL hsz, Bool.and_false]
    exact Bool.false_ne_true
  refine call_meets F.slot_list_extend ⟨_, e, rfl⟩ F.entry_list_extend (F.args_list_extend_2 _ _)
    (AutoSeq1.list_extend_list_list_0 l its.toArray n b its2.toArray n2 hlong (by rw [List.size_toArray]; omega) (by omega)) ⟨e, e2, ?_⟩
  refine ⟨.non, _, I.lset (its' := its ++ its2) hH e (by simp) (r.append r2) ?_, rfl, q⟩
  rw [List.length_append]
  omega
def rCat : R2 := fun x y H Q => ∃ l b xs zs, x = .ref l ∧ y = .ref b ∧ H l = some (.lst xs) ∧ H b = some (.lst zs) ∧ xs.length + zs.length ≤ sizeLine ∧ ∀ p, H p = none → Q (.ref p) (upd H p (.lst (xs ++ zs)))
theorem op_cat : OpR X (binaryOp .Add) rCat := by
  intro pins s σ H x y v u Q I rx ry h
  obtain ⟨l, b, xs, zs, rfl, rfl, hH, hB, hz, q⟩ := h
  cases rx
  cases ry
  obtain ⟨z, its, n, r, hl, e⟩ := I.lstM hH
  obtain ⟨z2, its2, n2, r2, hl2, e2⟩ := I.lstM hB
  refine PySem.P.add_list e e2 ?_ (by rw [List.size_toArray, List.size_toArray]; omega)
  have ea : its.toArray ++ its2.toArray = (its ++ its2).toArray := by simp
  rw [ea]
  exact ⟨.ref _, _, I.lnew (t' := s.toks) (r.append r2) (by rw [List.length_append]; omega), rfl, q _ I.fresh⟩
end
section
variable {prog : Program} {w : World} {A : Around} {E : Value → Shared → Prop} {s : Shared}
end
section
variable {X : Cx}
end
end L2
namespace Att
open PySem PySem.W PySem.Calls PyProof.Rows
theorem ints_of_wellAll {P : Params} {h : Heap} : ∀ (ns : List Int) (vs : List Value), WellAll P h vs (ns.map WData.int) → IntsAre vs ns := by
  intro ns
  induction ns with
  | nil =>
    intro vs w
    rw [List.map_nil] at w
    cases w
    exact .nil
  | cons n ns ih =>
    intro vs w
    rw [List.map_cons] at w
    cases w with
    | cons a b =>
      cases a
      exact .cons _ _ (ih _ b)
theorem script_of {l : OpenLaw} {n : Nat} (hn : l.most = some n) {P : Params} {h : Heap} {args : List WData} {vals : List Value}
    (hpre : l.row.toRowW.claim.pre args = true) (hwl : WellAll P h vals args) :
    ∃ a vs ns, vals = [Value.ref a] ∧ args = [WData.list (ns.map WData.int)] ∧ h.get? a = some { cls := .type "list", data := .seq vs.toArray } ∧ IntsAre vs ns ∧ ns.length ≤ n := by
  have hsh : WShape.hasAll [] args [.list .int] = true := (pre_splitW hpre).1
  have hc : l.pre.holds [] { args := args } = true := (pre_splitW hpre).2
  obtain ⟨d, r, rfl, h1, h2⟩ := hasAllW_cons hsh
  obtain rfl := hasAllW_nil h2
  obtain ⟨xs, rfl, h3⟩ := hasW_list h1
  obtain ⟨ns, rfl⟩ := items_int h3
  have hlen : ns.length ≤ n := by
    unfold OpenLaw.pre at hc
    have h4 : (WTm.not (.lt (.lit (.int (n : Int))) (.len (.arg 0)))).holds [] { args := [.list (ns.map .int)] } = true := by
      have h4 := (holds_andW hc).1
      rw [hn] at h4
      exact h4
    have h5 := condW_of h4 (w_not (w_lt w_lit (w_len_list (w_arg rfl))))
    rw [List.length_map] at h5
    refine Nat.le_of_not_lt fun q => ?_
    have q' : (n : Int) < ((ns.length : Nat) : Int) := by omega
    first
      | (rw [decide_eq_true q'] at h5; exact absurd h5 (by decide))
      | (simp at h5; omega)
  cases hwl with
  | cons w1 w2 =>
    cases w2
    cases w1 with
    | list ho hall => exact ⟨_, _, ns, rfl, rfl, ho, ints_of_wellAll ns _ hall, hlen⟩
theorem post_true (l : OpenLaw) (args : List WData) : l.row.toRowW.claim.post args (.bool true) args = true :=
  postW_of (r := l.row.toRowW) (X := (true == true))
    (show WShape.has [] (.bool true) .bool = true by first | rfl | decide | simp [WShape.has, WShape.arms, WShape.armsAll])
    (show (WTm.eq .res (.lit (.bool true))).value [] { args := args, res := some (.bool true), after := args } = some (.bool (true == true)) from w_eq_bool (w_res rfl) w_lit) rfl
theorem attach_call {l : OpenLaw} {n : Nat} {q : Program} {loose : List Str} {XP : (Str → Option Value) → Heap → Prop} {YP : World → Heap → Prop} {d : DefRec}
    (hn : l.most = some n) (hdf : d.params.defaults = [])
    (call : ∀ (w : World) (s₀ s₁ : Shared) (mg mb : Str → Option Value) (fa : Addr) (o : Obj) (pm cd doc : Value) (a : Addr) (vs : List Value) (ns : List Int),
      Ground q loose [] XP w s₀ mg mb s₁.heap → YP w s₁.heap →
      s₁.heap.get? fa = some o → o.data = .func (docDef d.name d.params d.body d.scope pm cd doc) → s₁.heap.CodeRec cd d.name → mg d.name = some (.ref fa) →
      s₁.heap.get? a = some { cls := .type "list", data := .seq vs.toArray } → IntsAre vs ns → ns.length ≤ n → s₁.gens = #[] →
      codeAny (model l.prog w) callerA (.call (.ref fa) ⟨[.ref a], []⟩) (fun r s' => r = .ok (.ret (.bool true)) ∧ OldK s₁.heap s'.heap ∧ s'.os = s₁.os ∧ AllBare s'.gens) s₁) :
    WalkO q loose XP YP l.row.toRowW d [] (fun f vs => PySem.call f vs) := by
  intro w s₀ s₁ mg mb G Y fa o pm cd doc dV kV ho hd hcd hD hmg hg args vals as hpre hlay hrd hwl hlo
  obtain rfl : dV = .none := Dflts.none hD hdf
  obtain rfl : kV = .none := Dflts.noKw hD
  obtain ⟨a, vs, ns, rfl, rfl, hobj, hints, hlen⟩ := script_of hn hpre hwl
  refine enter_call (codeAny_mono (call w s₀ s₁ mg mb fa o pm cd doc a vs ns G Y ho (fd_plain hd) hcd hmg hobj hints hlen hg) fun r s' hq => ?_)
  obtain ⟨rfl, h2, h3, h4⟩ := hq
  exact ⟨.inl ⟨.bool true, .bool true, [], rfl, fun _ => rfl, .bool true, post_true l _, fun _ => ⟨List.Pairwise.nil, fun _ hm => (nomatch hm)⟩⟩, h2, h3, h4⟩
section
variable {prog : Program} {w : World} {A : Around} {E : Value → Shared → Prop} {s : Shared} {K : Frag}
end
end Att
namespace L2
open PySem PySem.Spec PyProof.Rows
theorem vals_ints : ∀ {vs : List Value} {ns : List Int}, IntsAre vs ns → Vals (ns.map V.int) vs
  | _, _, .nil => .nil
  | _, _, .cons n t h => .cons ⟨t, rfl⟩ (vals_ints h)
end L2
namespace L2
open PySem PySem.Spec PyProof.Rows
end L2
namespace L2
open PySem PySem.Spec PyProof.Rows
def inClass (s : Stmt) (j : Nat) : Stmt := match s with
  | .ClassDef _ _ _ body _ _ _ _ _ _ _ => body.getD j (.Pass ⟨0, 0, 0, 0⟩)
  | _ => .Pass ⟨0, 0, 0, 0⟩
def defArgs (s : Stmt) : Arguments := match s with
  | .FunctionDef _ a _ _ _ _ _ _ _ _ => a
  | _ => { posonlyargs := [], args := [], vararg := none, kwonlyargs := [], kw_defaults := [], kwarg := none, defaults := [] }
def defBody (s : Stmt) : List Stmt := match s with
  | .FunctionDef _ _ b _ _ _ _ _ _ _ => b
  | _ => []
def defScope (s : Stmt) : Scope := match s with
  | .FunctionDef _ _ _ _ _ _ sc _ _ _ => sc
  | _ => { kind := .function, names := [], isGenerator := false, isCoroutine := false }
abbrev CX0 : CXT := fun _ _ _ _ _ _ => False
abbrev E0 : XK := fun _ _ _ => False
theorem pass0 {X : Cx} : Passes CX0 X E0 := fun _ _ _ _ _ _ _ h => h.elim
structure Fun (K : PySem.W.Frag) (x qual : Str) (st : Stmt) (f : Addr) (fd : FuncData) : Prop where
  ex : ∃ (oc : Value) (od : Option Addr) (kV doc pm : Value) (an : Option Addr) (cdv ct : Value) (osl : Array (Option Value)),
    fd = PySem.W.fnOf x qual (defArgs st) (defBody st) (defScope st) .none kV doc pm an cdv ct ∧ K.lookup f = some ⟨oc, od, .func fd, osl⟩ ∧ PySem.W.codeIn K cdv qual = true
  kp : PySem.W.keepIn K (.ref f) = true
section
variable {P : Program} {w : World} {K : PySem.W.Frag} {mg : Str → Option Value} {base : Heap}
theorem Fun.ok {x qual : Str} {st : Stmt} {f : Addr} {fd : FuncData} {N ps : List Str} {k : Nat} {sp : Sp} (F : Fun K x qual st f fd) (S : FnScope N ps (defScope st)) (len : ∀ vs H Q E, sp vs H Q E → vs.length = ps.length)
    (hbody : ∀ (cdv : Value) (A : Around) (outer : List Env) (s : Shared) (H : Hp) (vs : List V) (Q : VK) (E : XK), Room k (A.deeper (envOfC qual (defScope st) s.heap.objs.size f cdv)) → sp vs H Q E →
      ∃ t, PSs (cxOf CX0 P w K mg base N qual (defScope st) f cdv A outer s H E).nox (defBody st) t ∧ t { nx := fun _ H' => Q .non H', rt := Q } (start N vs) H) : FnOk P w K mg base CX0 (k + 1) f fd ps sp := by
  obtain ⟨oc, od, kV, doc, pm, an, cdv, ct, osl, rfl, lk, hcd⟩ := F.ex
  refine fn_of lk hcd S len fun A outer s H vs Q E hr hsp => ?_
  obtain ⟨t, h, q⟩ := hbody cdv A outer s H vs Q E hr hsp
  exact ⟨t, h.nox, q⟩
theorem Fun.binds {x qual : Str} {st : Stmt} {f : Addr} {fd : FuncData} {ps : List Str} (F : Fun K x qual st f fd)
    (h : ∀ (kV doc pm : Value) (an : Option Addr) (cdv ct : Value) (us : List Value), us.length = ps.length → bindArgs (PySem.W.fnOf x qual (defArgs st) (defBody st) (defScope st) .none kV doc pm an cdv ct) ⟨us, []⟩ = pure (ps.zip us)) : Binds K fd ps [] := by
  obtain ⟨oc, od, kV, doc, pm, an, cdv, ct, osl, rfl, lk, hcd⟩ := F.ex
  exact .all (h kV doc pm an cdv ct)
theorem fun_mk {x qual : Str} {st : Stmt} {f : Addr} {oc : Value} {od an : Option Addr} {osl : Array (Option Value)} {kV doc pm cdv ct : Value} (l : K.lookup f = some ⟨oc, od, .func (PySem.W.fnOf x qual (defArgs st) (defBody st) (defScope st) .none kV doc pm an cdv ct), osl⟩)
    (c : PySem.W.codeIn K cdv qual = true) (k : PySem.W.keepIn K (.ref f) = true) : Fun K x qual st f (PySem.W.fnOf x qual (defArgs st) (defBody st) (defScope st) .none kV doc pm an cdv ct) := ⟨⟨oc, od, kV, doc, pm, an, cdv, ct, osl, rfl, l, c⟩, k⟩
end
theorem hu_of {A : Around} {k : Nat} (hr : Room k A) : A.units + 1 < cLine := Nat.lt_of_le_of_lt (Nat.add_le_add_left (by decide : 1 ≤ 64) _) hr.units
section
variable {X : Cx}
theorem pv (i : Nat) {x : Str} {pos : Pos} (hN : X.N[i]? = some x := by rfl) (hv : Vis X.env.scope x := by first | exact Or.inl rfl | exact Or.inr (Or.inl rfl) | exact Or.inr (Or.inr rfl)) (hd : (x == ("__debug__" : Str)) = false := by decide)
    (hcd : (x == ("__classdict__" : Str)) = false := by decide) : PE X (.Name x pos) (tVar i) := pe_var hN hv hd hcd
end
theorem iteF {A B : Prop} (h : B) : if false = true then A else B := by
  rw [if_neg Bool.false_ne_true]
  exact h
theorem iteT {A B : Prop} (h : A) : if true = true then A else B := by
  rw [if_pos rfl]
  exact h
theorem ite2 {c A B : Prop} [Decidable c] (h1 : c → A) (h2 : ¬ c → B) : if c then A else B := by
  by_cases h : c
  · rw [if_pos h]
    exact h1 h
  · rw [if_neg h]
    exact h2 h
def Same (H H' : Hp) : Prop := ∀ b o, H b = some o → H' b = some o
theorem Same.refl (H : Hp) : Same H H := fun _ _ h => h
theorem Same.trans {H H1 H2 : Hp} (a : Same H H1) (b : Same H1 H2) : Same H H2 := fun c o h => b c o (a c o h)
theorem Same.free {H H' : Hp} (e : Same H H') {l : Addr} (h : H' l = Option.none) : H l = Option.none := by
  cases q : H l with
  | none => rfl
  | some o =>
    rw [e l o q] at h
    cases h
theorem Same.seq {K : PySem.W.Frag} {H H' : Hp} {a : Addr} {xs : List V} (e : Same H H') (h : SqL K H a xs) : SqL K H' a xs := by
  rcases h with (h | ⟨o, h⟩) | h
  · exact .inl (.inl (e _ _ h))
  · exact .inl (.inr ⟨o, e _ _ h⟩)
  · exact .inr h
end L2
set_option Elab.async false
set_option linter.all false
set_option maxRecDepth 100000
namespace L2
open PySem PySem.Spec PyProof.Rows
theorem relabel_some {env : Env} : ∀ {names : List (Str × NameKind)} {x : Str} {k : NameKind}, names.lookup x = some k →
    ∃ k', (names.map fun (n, k) => if (k == NameKind.free && env.scope.kind == .function && env.kindOf n == some .cell) then (n, NameKind.cell) else (n, k)).lookup x = some k' ∧ (k' = k ∨ (k = .free ∧ k' = .cell))
  | [], _, _, h => by simp at h
  | (n, k0) :: r, x, k, h => by
    have ih := @relabel_some env r x k
    show ∃ k', List.lookup x ((if (k0 == NameKind.free && env.scope.kind == .function && env.kindOf n == some .cell) = true then (n, NameKind.cell) else (n, k0)) :: _) = some k' ∧ _
    cases hx : x == n with
    | true =>
      simp only [List.lookup_cons, hx] at h
      cases h
      by_cases hc : (k0 == NameKind.free && env.scope.kind == .function && env.kindOf n == some .cell) = true
      · rw [if_pos hc]
        refine ⟨.cell, by simp only [List.lookup_cons, hx], .inr ⟨?_, rfl⟩⟩
        have q : (k0 == NameKind.free) = true := by
          rw [Bool.and_eq_true, Bool.and_eq_true] at hc
          exact hc.1.1
        cases k0 <;> first | rfl | exact absurd q (by decide)
      · rw [if_neg hc]
        exact ⟨k0, by simp only [List.lookup_cons, hx], .inl rfl⟩
    | false =>
      simp only [List.lookup_cons, hx] at h
      obtain ⟨k', e, q⟩ := ih h
      by_cases hc : (k0 == NameKind.free && env.scope.kind == .function && env.kindOf n == some .cell) = true
      · rw [if_pos hc]; exact ⟨k', by simp only [List.lookup_cons, hx]; exact e, q⟩
      · rw [if_neg hc]; exact ⟨k', by simp only [List.lookup_cons, hx]; exact e, q⟩
theorem relabel_none {env : Env} : ∀ {names : List (Str × NameKind)} {x : Str}, names.lookup x = none →
    (names.map fun (n, k) => if (k == NameKind.free && env.scope.kind == .function && env.kindOf n == some .cell) then (n, NameKind.cell) else (n, k)).lookup x = none
  | [], _, _ => rfl
  | (n, k0) :: r, x, h => by
    have ih := @relabel_none env r x
    show List.lookup x ((if (k0 == NameKind.free && env.scope.kind == .function && env.kindOf n == some .cell) = true then (n, NameKind.cell) else (n, k0)) :: _) = none
    cases hx : x == n with
    | true => simp only [List.lookup_cons, hx] at h; cases h
    | false =>
      simp only [List.lookup_cons, hx] at h
      by_cases hc : (k0 == NameKind.free && env.scope.kind == .function && env.kindOf n == some .cell) = true
      · rw [if_pos hc]; simp only [List.lookup_cons, hx]; exact ih h
      · rw [if_neg hc]; simp only [List.lookup_cons, hx]; exact ih h
theorem closure_go {env : Env} : ∀ (names : List (Str × NameKind)) (cs : List (Str × Addr)), (∀ y ∈ names, y.2 = NameKind.free → ∃ c, env.cells.lookup y.1 = some c) →
    (∀ y c, cs.lookup y = some c → env.cells.lookup y = some c) →
    ∃ cl, (forIn names cs fun x r => (match x with
      | (name, kind) => if (kind == NameKind.free) = true then (do let a ← cellOf env name; pure (ForInStep.yield ((name, a) :: r))) else pure (ForInStep.yield r)) : Sem (List (Str × Addr))) = pure cl ∧
      (∀ y c, cl.lookup y = some c → env.cells.lookup y = some c) ∧ (∀ y, ((∃ c, cs.lookup y = some c) ∨ (y, NameKind.free) ∈ names) → ∃ c, cl.lookup y = some c)
  | [], cs, _, h => ⟨cs, by simp, h, fun y q => q.elim id fun z => absurd z (by simp)⟩
  | (n, k) :: r, cs, hf, h => by
    by_cases hk : (k == NameKind.free) = true
    · have hk' : k = NameKind.free := by cases k <;> first | rfl | exact absurd hk (by decide)
      obtain ⟨c, hc⟩ := hf (n, k) List.mem_cons_self hk'
      have h' : ∀ y c', ((n, c) :: cs).lookup y = some c' → env.cells.lookup y = some c' := fun y c' e => by
        cases hy : y == n with
        | true =>
          simp only [List.lookup_cons, hy] at e
          cases e
          have : y = n := by simpa using hy
          rw [this]; exact hc
        | false =>
          simp only [List.lookup_cons, hy] at e
          exact h y c' e
      obtain ⟨cl, e, q1, q2⟩ := closure_go r ((n, c) :: cs) (fun y hy => hf y (List.mem_cons_of_mem _ hy)) h'
      refine ⟨cl, ?_, q1, fun y q => q2 y ?_⟩
      · rw [List.forIn_cons]
        have ec : cellOf env n = pure c := by unfold cellOf; rw [hc]
        simp only [hk, if_true, ec, pure_bind]
        exact e
      · rcases q with ⟨c', q⟩ | q
        · left
          cases hy : y == n with
          | true => exact ⟨c, by simp only [List.lookup_cons, hy]⟩
          | false => exact ⟨c', by simp only [List.lookup_cons, hy]; exact q⟩
        · rcases List.mem_cons.mp q with z | z
          · cases z
            left
            exact ⟨c, by simp [List.lookup_cons]⟩
          · exact .inr z
    · obtain ⟨cl, e, q1, q2⟩ := closure_go r cs (fun y hy => hf y (List.mem_cons_of_mem _ hy)) h
      refine ⟨cl, ?_, q1, fun y q => q2 y ?_⟩
      · rw [List.forIn_cons]
        simp only [hk, if_false, pure_bind]
        exact e
      · rcases q with q | q
        · exact .inl q
        · rcases List.mem_cons.mp q with z | z
          · cases z
            exact absurd rfl hk
          · exact .inr z
theorem closure_of {scope : Scope} {env : Env} (h : ∀ y ∈ scope.names, y.2 = NameKind.free → ∃ c, env.cells.lookup y.1 = some c) :
    ∃ cl, closureFor scope env = pure cl ∧ (∀ y c, cl.lookup y = some c → env.cells.lookup y = some c) ∧ (∀ y, (y, NameKind.free) ∈ scope.names → ∃ c, cl.lookup y = some c) := by
  obtain ⟨cl, e, q1, q2⟩ := closure_go (env := env) scope.names [] h (fun y c e => by simp at e)
  refine ⟨cl, ?_, q1, fun y hy => q2 y (.inr hy)⟩
  unfold closureFor
  dsimp only
  rw [show (forIn scope.names ([] : List (Str × Addr)) fun x r => (match x with
      | (name, kind) => if (kind == NameKind.free) = true then (do let a ← cellOf env name; pure (ForInStep.yield ((name, a) :: r))) else pure (ForInStep.yield r)) : Sem (List (Str × Addr))) = pure cl from e]
  rfl
end L2
set_option Elab.async false
set_option linter.all false
set_option maxRecDepth 100000
namespace L2
open PySem PySem.Spec PyProof.Rows
section
variable {prog : Program} {w : World} {A : Around} {R : Result → Shared → Prop} {s : Shared}
theorem compLoop_gen {elt target iter : Expr} {ifs : List Expr} {scope : Scope} {pos : Pos} {it acc : Value} {env : Env} (Iv : Nat → Shared → Prop)
    (turn : ∀ n s, Iv n s → wpAny (model prog w) A (pyNext it) (fun r s₁ => match r with
      | none => R (.ok .next) s₁
      | some v => wpAny (model prog w) A (letOwnedTupleGo target it v) (fun _ s₁' => wpAny (model prog w) A (assign target env v) (fun _ s₂ =>
          wpAny (model prog w) A (forIn ifs true fun c r => if r = true then do let ok ← isTrue c env (eval c env); pure (ForInStep.yield ok) else pure (ForInStep.yield r)) (fun ok s₃ =>
            if ok = true then wpAny (model prog w) A (eval elt env) (fun x s₄ =>
              wpAny (model prog w) A (call (.builtin "list.append") [acc, x]) (fun _ s₅ => ∃ m, m < n ∧ Iv m s₅) (fun _ _ => False) s₄) (fun _ _ => False) s₃
            else ∃ m, m < n ∧ Iv m s₃) (fun _ _ => False) s₂) (fun _ _ => False) s₁') (fun _ _ => False) s₁) (fun _ _ => False) s)
    (n : Nat) (h : Iv n s) :
    codeAny (model prog w) A (.compLoop (.ListComp elt [⟨target, iter, ifs, 0⟩] scope pos) 0 it acc env) R s := by
  refine codeAny_loop rfl Iv (fun n s hI => ?_) n h
  show wpAny _ A ((compTurn (.ListComp elt [⟨target, iter, ifs, 0⟩] scope pos) 0 it acc env).onRaise (fun x => do noteFrame x env; theTreesLotGoes x)) _ _ s
  refine wpAny_noted ?_
  rw [compTurn_list]
  refine wpAny_bind (wpAny_standAt (wpAny_bind (wpAny_mono (turn n s hI) (fun r s₁ h₁ => ?_) fun _ _ z => z.elim)))
  cases r with
  | none => exact wpAny_pure h₁
  | some v =>
    refine wpAny_bind (wpAny_mono h₁ (fun _ s₁' h₁' => ?_) fun _ _ z => z.elim)
    refine wpAny_bind (wpAny_mono h₁' (fun _ s₂ h₂ => wpAny_bind (wpAny_mono h₂ (fun ok s₃ h₃ => ?_) fun _ _ z => z.elim)) fun _ _ z => z.elim)
    cases ok with
    | false => exact wpAny_pure ⟨rfl, h₃⟩
    | true =>
      exact wpAny_bind (wpAny_bind (wpAny_mono h₃ (fun x s₄ h₄ => wpAny_bind (wpAny_mono h₄ (fun _ s₅ h₅ => wpAny_pure (wpAny_pure ⟨rfl, h₅⟩)) fun _ _ z => z.elim)) fun _ _ z => z.elim))
end
def inSt (M : List (Option Nat)) (σ : St) : St := M.map fun o => o.bind fun j => (σ[j]?).join
theorem inSt_length (M : List (Option Nat)) (σ : St) : (inSt M σ).length = M.length := by unfold inSt; rw [List.length_map]
theorem inSt_get {M : List (Option Nat)} {σ : St} {i : Nat} {v : V} (h : (inSt M σ)[i]? = some (some v)) : ∃ j, M[i]? = some (some j) ∧ σ[j]? = some (some v) := by
  unfold inSt at h
  rw [List.getElem?_map] at h
  cases e : M[i]? with
  | none => rw [e] at h; cases h
  | some o =>
    rw [e] at h
    cases o with
    | none => cases h
    | some j =>
      refine ⟨j, rfl, ?_⟩
      have h' : (σ[j]?).join = some v := Option.some.inj h
      cases q : σ[j]? with
      | none => rw [q] at h'; cases h'
      | some o2 => rw [q] at h'; cases o2 with
        | none => cases h'
        | some v2 => cases h'; rfl
def cxLc (X : Cx) (N' : List Str) (scope : Scope) (cl : List (Str × Addr)) (C : Addr) (s : Shared) (H : Hp) (fp : List Addr) : Cx :=
  { X with N := N', s₀ := s, H₀ := H, env := compEnvC scope cl C X.env, outer := X.stack, stack := X.stack, ex := fp, fn := fun _ => false, pn := [], xe := fun _ _ => False }
structure LcSc (N N' : List Str) (M : List (Option Nat)) (sc osc : Scope) : Prop where
  kind : sc.kind = .function
  len : N'.length = M.length
  cell : ∀ y ∈ sc.names, y.2 ≠ NameKind.cell
  own : ∀ y ∈ sc.names, y.2 = NameKind.local → sc.names.lookup y.1 = some NameKind.local
  fre : ∀ y ∈ sc.names, y.2 = NameKind.free → osc.names.lookup y.1 = some NameKind.cell ∨ osc.names.lookup y.1 = some NameKind.free
  at_ : ∀ (i j : Nat), M[i]? = some (some j) → ∃ y, N'[i]? = some y ∧ N[j]? = some y ∧ sc.names.lookup y = some NameKind.free
def Frm (M : List (Option Nat)) (g : TG) : Prop := ∀ v σ H Q, g v σ H Q → g v σ H fun σ' H' => Q σ' H' ∧ σ'.length = σ.length ∧ ∀ (i j : Nat), M[i]? = some (some j) → σ'[i]? = σ[i]?
theorem frm_name {M : List (Option Nat)} {i : Nat} (h : M[i]? = some none) : Frm M (gName i) := fun v σ H Q q => by
  refine ⟨q, List.length_set .., fun k j e => ?_⟩
  have : i ≠ k := by rintro rfl; rw [h] at e; cases e
  exact List.getElem?_set_ne this
def PTs (X : Cx) (ifs : List Expr) (t : TT) : Prop :=
  ∀ (pins : List (Addr × Obj)) (s : Shared) (σ : St) (H : Hp) (Q : Bool → Hp → Prop), Inv X pins σ H s → t σ H Q →
    wpAny (model X.prog X.w) X.A (forIn ifs true fun c r => if r = true then do let ok ← isTrue c X.env (eval c X.env); pure (ForInStep.yield ok) else pure (ForInStep.yield r)) (TP X pins σ Q) X.xe s
def tYes : TT := fun _ H Q => Q true H
theorem pts_nil {X : Cx} : PTs X [] tYes := fun pins s σ H Q I h => wpAny_tests_nil ⟨H, I, h⟩
theorem pts_one {X : Cx} {c : Expr} {t : TT} (h : PT X c t) : PTs X [c] t := fun pins s σ H Q I q => wpAny_tests_one (h pins s σ H Q I q)
def tLc (wi : TI) (M : List (Option Nat)) (g : TG) (tc : TT) (te : TE) (σ : St) (H : Hp) (F : List V → Hp → Prop) : Prop := wi σ H fun J H1 =>
  ∃ W : Nat → Nat → List V → Hp → Prop, (∃ m, W 0 m [] H1) ∧ ∀ i m ys H, W i m ys H → ys.length ≤ sizeLine ∧
    ((J.stop i H ∧ F ys H) ∨ (J.go i H ∧ ys.length < sizeLine ∧ ∃ N : List V → Hp → Prop, (∀ ys' H', N ys' H' → ∃ m', m' < m ∧ W (i + 1) m' ys' H') ∧ ∀ x H', J.yld i H x H' → g x (inSt M σ) H' fun σ2 H2 => tc σ2 H2 fun b H3 =>
      if b = true then te σ2 H3 fun v H4 => N (ys ++ [v]) H4 else N ys H3))
theorem lc_block {X : Cx} {N' : List Str} {M : List (Option Nat)} {scope : Scope} {cl : List (Str × Addr)} {tg elt iter : Expr} {ifs : List Expr} {pos : Pos} {g : TG} {tc : TT} {te : TE} {pins : List (Addr × Obj)} {σ : St} {H2 : Hp} {s2 : Shared}
    {it : Addr} {fp : List Addr} {tn : Nat → Heap → Prop} {J : It} {F : List V → Hp → Prop} {RR : Value → Addr → Result → Shared → Prop} {E : Value → Shared → Prop}
    (S : LcSc X.N N' M scope X.env.scope) (hc : X.calm = true) (q1 : ∀ y c, cl.lookup y = some c → X.env.cells.lookup y = some c) (q2 : ∀ y, (y, NameKind.free) ∈ scope.names → ∃ c, cl.lookup y = some c)
    (hg : ∀ C s H fp, PG (cxLc X N' scope cl C s H fp) tg g) (hf : Frm M g) (ht : ∀ C s H fp, PTs (cxLc X N' scope cl C s H fp) ifs tc) (he : ∀ C s H fp, PE (cxLc X N' scope cl C s H fp) elt te)
    (I2 : Inv X pins σ H2 s2) (T : Turn X.prog X.w X.K tg J fp it tn) (st2 : tn 0 s2.heap) (f2 : ∀ b ∈ fp, FpOk X pins H2 b)
    (hw : ∃ W : Nat → Nat → List V → Hp → Prop, (∃ m, W 0 m [] H2) ∧ ∀ i m ys H, W i m ys H → ys.length ≤ sizeLine ∧
      ((J.stop i H ∧ F ys H) ∨ (J.go i H ∧ ys.length < sizeLine ∧ ∃ N : List V → Hp → Prop, (∀ ys' H', N ys' H' → ∃ m', m' < m ∧ W (i + 1) m' ys' H') ∧ ∀ x H', J.yld i H x H' → g x (inSt M σ) H' fun σ2 H2 => tc σ2 H2 fun b H3 =>
        if b = true then te σ2 H3 fun v H4 => N (ys ++ [v]) H4 else N ys H3)))
    (hend : ∀ (D C : Addr) (s' : Shared) (H' : Hp) (ys : List V), Inv X pins σ (upd H' D (.lst ys)) s' → H' D = none → s2.heap.objs.size ≤ D → s2.heap.objs.size < C → (∃ m, s'.heap.Ns C m) → (upd H' D (.lst ys)) C = none → F ys H' → RR (.ref D) C (.ok .next) s') :
    wpAny (model X.prog X.w) X.A (newList []) (fun acc s₃ => wpAny (model X.prog X.w) X.A (newFunctionEnv scope X.env.globals cl [] X.env.qual none .none (some X.env)) (fun cenv s₄ =>
      codeAny (model X.prog X.w) X.A (.compStart (.ListComp elt [⟨tg, iter, ifs, 0⟩] scope pos) 0 (.ref it) acc { cenv with scope := relabel scope X.env }) (RR acc cenv.locals) s₄) E s₃) E s2 := by
  obtain ⟨W, ⟨m0, w0⟩, turn⟩ := hw
  refine wpAny_newObj_type (wpAny_newFunctionEnv S.cell (by intro y hy; simp at hy) (fun h₁ hns₁ hsb₁ => ?_) S.kind)
  dsimp only at hns₁ hsb₁ ⊢
  generalize hG : s2.heap.push { cls := .type "list", dict := none, data := .seq ([] : List Value).toArray } = G at hns₁ hsb₁ ⊢
  generalize hD : s2.heap.objs.size = D at *
  have hC : G.objs.size = D + 1 := by rw [← hG, Heap.size_push, hD]
  generalize hCC : G.objs.size = C at *
  have DC : D < C := by rw [hC]; exact Nat.lt_succ_self _
  have lo : ∀ b o, s2.heap.get? b = some o → b < D := fun b o e => hD ▸ Heap.lt_size e
  have old : ∀ b o, s2.heap.get? b = some o → h₁.get? b = some o := fun b o e => by
    have hb := lo b o e
    exact hsb₁.extBut b o (Nat.ne_of_lt (Nat.lt_trans hb DC)) (Heap.get?_push_of_some _ (hG ▸ Heap.get?_push_of_some _ e))
  have hacc : h₁.get? D = some { cls := .type "list", data := .seq ([] : List Value).toArray } :=
    hsb₁.extBut _ _ (Nat.ne_of_lt DC) (Heap.get?_push_of_some _ (by rw [← hG, ← hD]; exact Heap.get?_push_size _ rfl))
  have fpl : ∀ b ∈ fp, b < D := fun b hb => by
    obtain ⟨o, e, _⟩ := T.obj _ _ st2 b hb
    exact lo b o e
  have cel : ∀ y c, cl.lookup y = some c → c < D := fun y c e => by
    obtain ⟨v, z⟩ := I2.cell y c (q1 y c e)
    exact hD ▸ z.lt
  generalize hX' : cxLc X N' scope cl C s2 H2 fp = X'
  have envE : X'.env = compEnvC scope cl C X.env := by rw [← hX']; rfl
  have locE : X'.env.locals = C := by rw [envE]; rfl
  have fsE : X'.fs = frs X.stack := by rw [← hX']; rfl
  have fsl : ∀ b ∈ frs X.stack, b < D := fun b hb => by
    rcases List.mem_cons.mp (I2.stkSub b hb) with z | z
    · rw [z]; exact hD ▸ I2.lt
    · exact Nat.lt_of_not_le fun q => I2.nofs (hD ▸ q) z
  have relS : ∀ x k, scope.names.lookup x = some k → ∃ k', X'.env.kindOf x = some k' ∧ (k' = k ∨ (k = .free ∧ k' = .cell)) := fun x k e => by
    obtain ⟨k', e', q⟩ := relabel_some (env := X.env) e
    exact ⟨k', by rw [envE]; exact e', q⟩
  have relN : ∀ x, scope.names.lookup x = none → X'.env.kindOf x = none := fun x e => by
    rw [envE]; exact relabel_none (env := X.env) e
  have cellsE : X'.env.cells = cl := by rw [envE]; rfl
  have ok' : X'.Ok := by
    refine ⟨?mod, ?kind, ?glob, ?blt, ?above, ?inj, ?has, ?cab, ?hd, ?frames, ?stk, ?exf, ?bs, ?bsz, ?noex, ?exfs, ?funs, ?frf⟩
    case mod => rw [← hX']; exact I2.ok.mod
    case kind => rw [envE]; exact S.kind
    case glob => rw [envE]; exact I2.ok.glob
    case blt => rw [envE]; exact I2.ok.blt
    case above => rw [locE, ← hX']; show s2.heap.objs.size ≤ C; rw [hD]; exact Nat.le_of_lt DC
    case inj => intro x y c e1 e2; rw [cellsE] at e1 e2; exact I2.ok.inj x y c (q1 x c e1) (q1 y c e2)
    case has =>
      intro x hx
      rw [cellsE]
      cases e : scope.names.lookup x with
      | none => rw [relN x e] at hx; rcases hx with z | z <;> cases z
      | some k =>
        obtain ⟨k', e', q⟩ := relS x k e
        rw [e'] at hx
        have kf : k = .free := by
          rcases q with q | q
          · rcases hx with z | z
            · cases z; exact absurd q.symm (S.cell _ (PySem.mem_of_lookup e))
            · cases z; exact q.symm
          · exact q.1
        subst kf
        exact q2 x (PySem.mem_of_lookup e)
    case cab => intro x c h; rw [← hX'] at h; exact absurd h (by show ¬ (false = true); decide)
    case hd => rw [← hX']; exact I2.ok.hd
    case frames => rw [← hX']; exact I2.ok.frames
    case stk => rw [← hX']; exact .inl rfl
    case exf =>
      intro b hb
      have hb' : b ∈ fp := by rw [← hX'] at hb; exact hb
      refine ⟨by rw [locE]; exact Nat.ne_of_lt (Nat.lt_trans (fpl b hb') DC), fun x c e => ?_⟩
      rw [cellsE] at e
      exact (f2 b hb').2.2.2.2.1 x c (q1 x c e)
    case bs => rw [← hX']; exact I2.bs
    case bsz => rw [← hX']; exact Nat.le_trans I2.ok.bsz I2.sz
    case noex =>
      intro b o e hb
      have hb' : b ∈ fp := by rw [← hX'] at hb; exact hb
      have e' : X.base.get? b = some o := by rw [← hX'] at e; exact e
      rcases (f2 b hb').2.2.2.1 with z | z
      · exact I2.ok.noex b o e' z
      · exact absurd (Nat.lt_of_lt_of_le (Heap.lt_size e') (Nat.le_trans I2.ok.bsz z)) (Nat.lt_irrefl _)
    case exfs =>
      intro b hb
      have hb' : b ∈ fp := by rw [← hX'] at hb; exact hb
      rw [fsE]
      intro z
      rcases List.mem_cons.mp (I2.stkSub b z) with q | q
      · exact (f2 b hb').2.1 q
      · exact (f2 b hb').2.2.1 q
    case funs => rw [← hX']; exact I2.stack
    case frf => rw [fsE, ← hX']; exact I2.stkFree
  have c0 : H2 C = none := I2.hok.fresh (by rw [hD]; exact Nat.le_of_lt DC)
  have d0 : H2 D = none := I2.hok.fresh (by rw [hD]; exact Nat.le_refl _)
  have I3 : Inv X' [] (inSt M σ) H2 { s2 with heap := h₁, toks := s2.toks + ([] : List (Str × Value)).length } := by
    refine ⟨ok', ?os, ?bare, ?base, ?loc, ?cell, ?free, ?freeC, ?pin, ?hok, ?len⟩
    case os => rw [← hX']; rfl
    case bare => exact I2.bare
    case base => rw [fsE, ← hX']; exact Un.kept old
    case loc =>
      refine ⟨_, by rw [locE]; exact hns₁, fun i x v e1 e2 _ => ?_⟩
      obtain ⟨j, eM, eσ⟩ := inSt_get e2
      obtain ⟨y, n1, n2, n3⟩ := S.at_ i j eM
      have e1' : N'[i]? = some x := by rw [← hX'] at e1; exact e1
      rw [n1] at e1'; cases e1'
      have hyf : (x, NameKind.free) ∈ scope.names := PySem.mem_of_lookup n3
      have kd := S.fre _ hyf rfl
      obtain ⟨m, hn, hl⟩ := id I2.loc
      obtain ⟨u, ru, lk⟩ := hl j x v n2 eσ (kd.elim (fun z => .inr (.inl z)) fun z => .inr (.inr z))
      refine ⟨u, ru, ?_⟩
      rcases lk with ⟨k, _⟩ | ⟨k, c, ec, z⟩
      · have k' : X.env.scope.names.lookup x = some NameKind.local := k
        rcases kd with q | q <;> (rw [k'] at q; cases q)
      · obtain ⟨c', ec'⟩ := q2 x hyf
        have hcc := q1 x c' ec'
        rw [ec] at hcc; cases hcc
        obtain ⟨k', e', q⟩ := relS x _ n3
        refine .inr ⟨?_, c, by rw [cellsE]; exact ec', ?_⟩
        · rw [e']; rcases q with q | q
          · right; rw [q]
          · left; rw [q.2]
        · obtain ⟨o, ho, hd'⟩ := z
          exact ⟨o, old _ _ ho, hd'⟩
    case cell =>
      intro x c e
      rw [cellsE] at e
      obtain ⟨v, o, ho, hd'⟩ := I2.cell x c (q1 x c e)
      exact ⟨v, o, old _ _ ho, hd'⟩
    case free => rw [locE]; exact c0
    case freeC => intro x c e; rw [cellsE] at e; exact I2.freeC x c (q1 x c e)
    case pin => intro p hp; rw [← hX'] at hp; exact absurd (show p ∈ ([] : List (Addr × Obj)) from hp) (by simp)
    case hok => rw [← hX']; exact I2.hok.kept old
    case len => rw [inSt_length, ← hX']; exact S.len.symm
  have xE : ∀ (e : Value) (s' : Shared), ¬ X'.xe e s' := fun e s' z => by rw [← hX'] at z; exact z
  have progE : X'.prog = X.prog := by rw [← hX']; rfl
  have wE : X'.w = X.w := by rw [← hX']; rfl
  have KE' : X'.K = X.K := by rw [← hX']; rfl
  have AE : X'.A = X.A := by rw [← hX']; rfl
  have cE : X'.calm = true := by rw [← hX']; exact hc
  have exE : X'.ex = fp := by rw [← hX']; rfl
  have s0E : X'.s₀ = s2 := by rw [← hX']; rfl
  have pnE : X'.pn = [] := by rw [← hX']; rfl
  have hgX : PG X' tg g := by rw [← hX']; exact hg C s2 H2 fp
  have htX : PTs X' ifs tc := by rw [← hX']; exact ht C s2 H2 fp
  have heX : PE X' elt te := by rw [← hX']; exact he C s2 H2 fp
  have Dfp : D ∉ fp := fun z => Nat.lt_irrefl _ (fpl D z)
  have Dcl : ∀ x c, X'.env.cells.lookup x = some c → c ≠ D := fun x c e => by rw [cellsE] at e; exact Nat.ne_of_lt (cel x c e)
  have Dloc : D ≠ X'.env.locals := by rw [locE]; exact Nat.ne_of_lt DC
  have Dfs : D ∉ X'.fs := by rw [fsE]; exact fun z => Nat.lt_irrefl _ (fsl D z)
  have D0 : D ∈ X'.ex ∨ X'.s₀.heap.objs.size ≤ D := .inr (by rw [s0E, hD]; exact Nat.le_refl _)
  have stat : ∀ {pl : List (Addr × Obj)} {H' : Hp}, (∀ p ∈ pl, p.1 = D) → (∀ b ∈ fp, H' b = none) → ∀ b ∈ fp, FpOk X' pl H' b := fun {pl H'} hpl hn b hb => by
    refine ⟨hn b hb, by rw [locE]; exact Nat.ne_of_lt (Nat.lt_trans (fpl b hb) DC), ?_, .inl (by rw [exE]; exact hb), fun x c e => ?_, fun p hp => ?_⟩
    · exact ok'.exfs b (by rw [exE]; exact hb)
    · rw [cellsE] at e; exact (f2 b hb).2.2.2.2.1 x c (q1 x c e)
    · rw [pnE, List.nil_append] at hp
      rw [hpl p hp]; exact (Nat.ne_of_lt (fpl b hb)).symm
  have loop : codeAny (model X.prog X.w) X.A (.compLoop (.ListComp elt [⟨tg, iter, ifs, 0⟩] scope pos) 0 (.ref it) (.ref D) X'.env) (RR (.ref D) C) { s2 with heap := h₁, toks := s2.toks + ([] : List (Str × Value)).length } := by
    refine compLoop_gen (fun n s' => ∃ i ys H', Inv X' [] (inSt M σ) H' s' ∧ tn i s'.heap ∧ (∀ b ∈ fp, H' b = none) ∧ (∃ (its : List Value) (k : Nat), Vals ys its ∧ s'.heap.get? D = some { cls := .type "list", data := .seq its.toArray k }) ∧ H' D = none ∧ W i n ys H') ?_ m0
      ⟨0, [], H2, I3, T.keep _ _ _ st2 fun b hb o e => old b o e, fun b hb => (f2 b hb).1, ⟨[], 0, .nil, hacc⟩, d0, w0⟩
    rintro n s3 ⟨i, ys, H3, J3, st3, fr3, ⟨its, k, rv, hDs⟩, dn, w3⟩
    obtain ⟨hsz, hcase⟩ := turn i n ys H3 w3
    -- the list's record is pinned
    have J3' : Inv X' [(D, { cls := .type "list", data := .seq its.toArray k })] (inSt M σ) H3 s3 := J3.pins_of fun p hp => by
      have e : p = (D, { cls := .type "list", data := .seq its.toArray k }) := by simpa using hp
      subst e
      exact ⟨hDs, dn, Dloc, Dfs, fun v z => by cases z⟩
    have hpl : ∀ p ∈ [((D, { cls := .type "list", data := .seq its.toArray k }) : Addr × Obj)], p.1 = D := fun p hp => by
      have e : p = (D, { cls := .type "list", data := .seq its.toArray k }) := by simpa using hp
      rw [e]
    rcases hcase with ⟨stop, qF⟩ | ⟨go, hlt, N, hN, step⟩
    · have q := T.done X' progE wE KE' cE i _ s3 _ H3 (fun _ _ => False) J3' (stat hpl fr3) st3 stop
      rw [AE] at q
      refine thn q fun r s4 ⟨hr, J4⟩ => ?_
      subst hr
      have hD4 : s4.heap.get? D = some { cls := .type "list", data := .seq its.toArray k } := (J4.pin _ (List.mem_append_right _ (List.mem_singleton.mpr rfl))).1
      obtain ⟨mC, hnC, _⟩ := id J4.loc
      rw [locE] at hnC
      have b4 := J4.base
      rw [fsE, exE, s0E, show X'.H₀ = H2 by rw [← hX']; rfl] at b4
      refine hend D C s4 H3 ys ?_ dn (Nat.le_refl _) DC ⟨mC, hnC⟩ (by rw [upd_ne (Nat.ne_of_gt DC)]; have := J4.free; rw [locE] at this; exact this) qF
      have hok4 := J4.hok
      rw [progE, wE] at hok4
      refine I2.call' (ch := fp) (H' := upd H3 D (.lst ys)) (by rw [J4.os, s0E]) ⟨b4.keep, b4.slot, fun b o e nn hb => ?_, b4.there, fun b xs e => ?_, fun b o u e => ?_, fun b ps e => ?_⟩ ?_ J4.bare fun b hb => ?_
      · rw [upd_ne (Nat.ne_of_lt (lo b o e))]; exact b4.free b o e nn hb
      · rw [upd_ne (ne_of_none (b4.tups b xs e) dn)]; exact b4.tups b xs e
      · rw [upd_ne (ne_of_none (b4.frzs b o u e) dn)]; exact b4.frzs b o u e
      · obtain ⟨more, e'⟩ := b4.tbls b ps e
        exact ⟨more, by rw [upd_ne (ne_of_none e' dn)]; exact e'⟩
      · intro b u e
        by_cases hb : b = D
        · subst hb
          rw [upd_same] at e; cases e
          exact ⟨hsz, its, k, rv, hD4⟩
        · rw [upd_ne hb] at e
          exact (hok4 b u e).stay (fun c v _ q => q) (fun c q => by rw [upd_ne (ne_of_none q dn)]; exact q) fun c xs q => by rw [upd_ne (ne_of_none q dn)]; exact q
      · obtain ⟨f0, f1, f3, f4, f5, f6⟩ := f2 b hb
        exact ⟨f4, f1, f5, f6⟩
    · have q := T.item X' progE wE KE' cE i _ s3 _ H3 (fun _ _ => False) J3' (stat hpl fr3) st3 go
      rw [AE] at q
      refine thn q fun r s4 ⟨u, hr, h4⟩ => ?_
      subst hr
      dsimp only
      refine thn h4 fun _ s5 ⟨x, H5, J5, r5, y5, st5, fr5⟩ => ?_
      have J5' := J5.pinned (stat hpl fr5) (T.obj _ _ st5)
      have qg := hgX _ s5 (inSt M σ) H5 x u _ J5' r5 (hf _ _ _ _ (step x H5 y5))
      rw [progE, wE, AE] at qg
      refine wpAny_mono qg (fun _ s6 h6 => ?_) fun e s' z => xE e s' z
      obtain ⟨σ6, H6, J6, q6, l6, k6⟩ := h6
      have qt := htX _ s6 σ6 H6 _ J6 q6
      rw [progE, wE, AE] at qt
      refine wpAny_mono qt (fun b s7 h7 => ?_) fun e s' z => xE e s' z
      obtain ⟨H7, J7, q7⟩ := h7
      have fin : ∀ {ys' : List V} {σ8 : St} {H8 : Hp} {s8 : Shared}, σ8 = σ6 → Inv X' ([(D, { cls := .type "list", data := .seq its.toArray k })] ++ pinsAt fp s5.heap) σ8 H8 s8 →
          s8.heap.get? D = some { cls := .type "list", data := .seq its.toArray k } ∧ H8 D = none ∧ tn (i + 1) s8.heap ∧ (∀ b ∈ fp, H8 b = none) ∧ Inv X' [] (inSt M σ) H8 s8 := fun {ys' σ8 H8 s8} e8 J8 => by
        subst e8
        obtain ⟨p1, p2, _⟩ := J8.pin _ (List.mem_append_right _ (List.mem_append_left _ (List.mem_singleton.mpr rfl)))
        refine ⟨p1, p2, T.keep _ _ _ st5 fun b hb o e => (J8.pin (b, o) (List.mem_append_right _ (List.mem_append_right _ (mem_pinsAt hb e)))).1, fun b hb => ?_, ?_⟩
        · obtain ⟨o, e, d⟩ := T.obj _ _ st5 b hb
          exact (J8.pin (b, o) (List.mem_append_right _ (List.mem_append_right _ (mem_pinsAt hb e)))).2.1
        · have J9 : Inv X' [] σ8 H8 s8 := J8.pins_of fun p hp => absurd hp (by simp)
          refine J9.weak (l6.symm) fun a v e => ?_
          obtain ⟨j, eM, _⟩ := inSt_get e
          rw [k6 a j eM]; exact e
      cases b with
      | false =>
        rw [if_neg (by decide)] at q7
        rw [if_neg (by decide)]
        obtain ⟨m', hm, w7⟩ := hN _ _ q7
        obtain ⟨a1, a2, a3, a4, a5⟩ := fin (ys' := ys) rfl J7
        exact ⟨m', hm, i + 1, ys, H7, a5, a3, a4, ⟨its, k, rv, a1⟩, a2, w7⟩
      | true =>
        rw [if_pos rfl] at q7
        rw [if_pos rfl]
        have qe := heX _ s7 σ6 H7 _ J7 q7
        rw [progE, wE, AE] at qe
        refine wpAny_mono qe (fun v8 s8 h8 => ?_) fun e s' z => xE e s' z
        obtain ⟨y8, H8, J8, r8, n8⟩ := h8
        obtain ⟨m', hm, w8⟩ := hN _ _ n8
        obtain ⟨a1, a2, a3, a4, a5⟩ := fin (ys' := ys) rfl J8
        refine wpAny_list_append_plain (items := its.toArray) ⟨k, a1⟩ (fun h9 hl9 hs9 => ?_) (by have := rv.length; rw [List.size_toArray, ← this]; exact hsz)
        have J9 : Inv X' [] (inSt M σ) H8 { s8 with heap := h9 } := a5.turned (t' := s8.toks) (fun b o hb e => (hs9.2 b hb).trans e) a2 Dloc D0 Dcl fun p hp => by rw [pnE] at hp; exact absurd hp (by simp)
        obtain ⟨k9, e9⟩ := hl9
        refine ⟨m', hm, i + 1, ys ++ [y8], H8, J9, T.keep _ _ _ a3 fun b hb o e => (hs9.2 b (fun z => Dfp (z ▸ hb))).trans e, a4, ⟨its ++ [v8], k9, rv.append (.cons r8 .nil), ?_⟩, a2, w8⟩
        rw [show (its ++ [v8]).toArray = its.toArray.push v8 by simp]
        exact e9
  have loop' : codeAny (model X.prog X.w) X.A (.compLoop (.ListComp elt [⟨tg, iter, ifs, 0⟩] scope pos) 0 (.ref it) (.ref D) (compEnvC scope cl C X.env)) (RR (.ref D) C) { s2 with heap := h₁, toks := s2.toks + ([] : List (Str × Value)).length } := envE ▸ loop
  exact codeAny_compStart_list loop' (T.self _ 0 _ _ _ (T.keep _ _ _ st2 fun b hb o e => old b o e) loop')
end L2
set_option Elab.async false
set_option linter.all false
set_option maxRecDepth 100000
namespace L2
open PySem PySem.Spec PyProof.Rows
section
variable {X : Cx} {N' : List Str} {M : List (Option Nat)} {scope : Scope} {tg elt iter : Expr} {ifs : List Expr} {pos : Pos} {g : TG} {tc : TT} {te : TE} {wi : TI}
theorem lc_clos {pins : List (Addr × Obj)} {σ : St} {H : Hp} {s : Shared} (S : LcSc X.N N' M scope X.env.scope) (I : Inv X pins σ H s) :
    ∃ cl, closureFor scope X.env = pure cl ∧ (∀ y c, cl.lookup y = some c → X.env.cells.lookup y = some c) ∧ (∀ y, (y, NameKind.free) ∈ scope.names → ∃ c, cl.lookup y = some c) :=
  closure_of fun y hy hk => I.ok.has y.1 (S.fre y hy hk)
theorem Inv.gone {pins : List (Addr × Obj)} {σ : St} {H : Hp} {s s' : Shared} {C : Addr} {h' : Heap} (I : Inv X pins σ H s) (hs : Heap.SameBut C s.heap h') (hn : H C = none) (hC : C ≠ X.env.locals) (h1 : X.s₀.heap.objs.size ≤ C)
    (h2 : ∀ x c, X.env.cells.lookup x = some c → c ≠ C) (h3 : ∀ p ∈ X.pn ++ pins, p.1 ≠ C) : Inv X pins σ H { s with heap := h' } :=
  I.turned (t' := s.toks) (fun b o hb e => (hs.2 b hb).trans e) hn hC (.inr h1) h2 h3
theorem Inv.young {pins : List (Addr × Obj)} {σ : St} {H : Hp} {s : Shared} {C : Addr} (I : Inv X pins σ H s) (h : s.heap.objs.size ≤ C) :
    C ≠ X.env.locals ∧ X.s₀.heap.objs.size ≤ C ∧ (∀ x c, X.env.cells.lookup x = some c → c ≠ C) ∧ ∀ p ∈ X.pn ++ pins, p.1 ≠ C := by
  refine ⟨(Nat.ne_of_lt (Nat.lt_of_lt_of_le I.lt h)).symm, Nat.le_trans I.sz h, fun x c e => ?_, fun p hp => ?_⟩
  · obtain ⟨v, z⟩ := I.cell x c e
    exact Nat.ne_of_lt (Nat.lt_of_lt_of_le z.lt h)
  · exact Nat.ne_of_lt (Nat.lt_of_lt_of_le (Heap.lt_size (I.pin p hp).1) h)
theorem pe_lc (S : LcSc X.N N' M scope X.env.scope) (hc : X.calm = true) (hi : PI X tg iter wi) (hg : ∀ cl C s H fp, PG (cxLc X N' scope cl C s H fp) tg g) (hf : Frm M g)
    (ht : ∀ cl C s H fp, PTs (cxLc X N' scope cl C s H fp) ifs tc) (he : ∀ cl C s H fp, PE (cxLc X N' scope cl C s H fp) elt te)
    (hs : ∀ x, foldedSetIterable iter X.env x = pure x := by intro _; rfl) :
    PE X (.ListComp elt [⟨tg, iter, ifs, 0⟩] scope pos) (fun σ H Q => tLc wi M g tc te σ H fun ys H' => ∀ p, H' p = none → Q (.ref p) (upd H' p (.lst ys))) := by
  intro pins s σ H Q I h
  obtain ⟨cl, hclos, q1, q2⟩ := lc_clos S I
  rw [eval_ListComp]
  refine wpAny_comprehension_free (use := none) rfl hs hclos S.kind S.own (thn (hi pins s σ H _ I h) fun v s1 h1 => thn h1 fun itv s2 h2 => ?_)
  obtain ⟨it, fp, tn, J, H2, e, I2, T, st2, f2, hw⟩ := h2
  subst e
  refine lc_block (RR := fun acc C => compPost (model X.prog X.w) X.A X.xe none (EP X pins σ Q) acc C) S hc q1 q2 (hg cl) hf (ht cl) (he cl) I2 T st2 f2 hw ?_
  intro D C s' H' ys I' dn hD hC ⟨m, hn⟩ hCn q
  obtain ⟨y1, y2, y3, y4⟩ := I2.young (Nat.le_of_lt hC)
  exact ⟨m, hn, fun h' hs' => ⟨.ref D, _, I'.gone (s' := s') hs' hCn y1 y2 y3 y4, rfl, q D dn⟩⟩
theorem ps_lc {i : Nat} {x : Str} {pos' spos : Pos} (hN : X.N.Nodup) (hi : X.N[i]? = some x) (hx : X.env.scope.names.lookup x = some NameKind.local)
    (S : LcSc X.N N' M scope X.env.scope) (hc : X.calm = true) (hit : PI X tg iter wi) (hg : ∀ cl C s H fp, PG (cxLc X N' scope cl C s H fp) tg g) (hf : Frm M g)
    (ht : ∀ cl C s H fp, PTs (cxLc X N' scope cl C s H fp) ifs tc) (he : ∀ cl C s H fp, PE (cxLc X N' scope cl C s H fp) elt te)
    (hsw : swapsWith (.ListComp elt [⟨tg, iter, ifs, 0⟩] scope pos) (some (.Name x pos')) spos.line X.env = pure true := by rfl)
    (hs : ∀ x, foldedSetIterable iter X.env x = pure x := by intro _; rfl) :
    PS X (.Assign [.Name x pos'] (.ListComp elt [⟨tg, iter, ifs, 0⟩] scope pos) spos) (fun D σ H => tLc wi M g tc te σ H fun ys H' => ∀ p, H' p = none → D.nx (σ.set i (some (.ref p))) (upd H' p (.lst ys))) := by
  intro pins s σ H Dn I h
  obtain ⟨cl, hclos, q1, q2⟩ := lc_clos S I
  rw [exec_Assign_Name_used _ _ _ _ hsw]
  refine wpAny_bind (wpAny_standAt (wpAny_bind ?_))
  show wpAny _ X.A (do let _ ← comprehension (.ListComp elt [⟨tg, iter, ifs, 0⟩] scope pos) scope X.env _ (newList []) false (eval iter X.env) (some (assign (.Name x pos') X.env))) _ _ s
  refine wpAny_bind (wpAny_mono (wpAny_comprehension_free (use := some (assign (.Name x pos') X.env)) (Q := fun _ s' => SP X pins Dn .next s') rfl hs hclos S.kind S.own
    (thn (hit pins s σ H _ I h) fun v s1 h1 => thn h1 fun itv s2 h2 => ?_)) (fun _ s' hq => wpAny_pure (wpAny_pure hq)) fun _ _ e => e)
  obtain ⟨it, fp, tn, J, H2, e, I2, T, st2, f2, hw⟩ := h2
  subst e
  refine lc_block (RR := fun acc C => compPost (model X.prog X.w) X.A X.xe (some (assign (.Name x pos') X.env)) (fun _ s' => SP X pins Dn .next s') acc C) S hc q1 q2 (hg cl) hf (ht cl) (he cl) I2 T st2 f2 hw ?_
  intro D C s' H' ys I' dn hD hC ⟨m, hn⟩ hCn q
  obtain ⟨y1, y2, y3, y4⟩ := I2.young (Nat.le_of_lt hC)
  show wpAny _ X.A (assign (.Name x pos') X.env (.ref D)) _ _ s'
  refine wpAny_assign_Name (store_ok2 I' hN hi (.inl hx) (v := .ref D) rfl (fun s'' I'' ⟨a, hsb, ha⟩ => ?_) (.inr hx))
  have hCa : C ≠ a := by
    rcases ha with z | z
    · rw [z]; exact y1
    · exact (y3 x a z).symm
  exact ⟨m, hn.sameBut hsb hCa, fun h' hs' => ⟨_, _, I''.gone (s' := s'') hs' hCn y1 y2 y3 y4, q D dn⟩⟩
end
end L2
set_option Elab.async false
set_option linter.all false
set_option maxRecDepth 100000
namespace L2
open PySem PySem.Spec PyProof.Rows
theorem Same.new {H : Hp} {p : Addr} {o : HO} (h : H p = none) : Same H (upd H p o) := fun b u e => by rw [upd_ne (ne_of_none e h)]; exact e
theorem Same.new2 {H H1 : Hp} {p : Addr} {o : HO} (e : Same H H1) (h : H1 p = none) : Same H (upd H1 p o) := e.trans (Same.new h)
theorem Same.put {H H1 : Hp} {p : Addr} {o : HO} (e : Same H H1) (h : H p = none) : Same H (upd H1 p o) := fun b u q => by rw [upd_ne (ne_of_none q h)]; exact e b u q
section
variable {X : Cx}
theorem op_mulW : OpR X (binaryOp .Mult) (rI IntMulOk fun i j => .int (i * j)) := opI fun _ _ _ _ _ _ _ hc q => mul_int q hc
def CDivW (i j : Int) : Prop := 0 < j ∧ j.natAbs.log2 < 9000
theorem op_fdivW : OpR X (binaryOp .FloorDiv) (rI CDivW fun i j => .int (i / j)) := opI fun i j _ _ _ _ _ hc q => by
  have e : i.fdiv j = i / j := Int.fdiv_eq_ediv_of_nonneg i (Int.le_of_lt hc.1)
  exact floordiv_int (Int.ne_of_gt hc.1) (by rw [e]; exact q) (.inl (PyProof.noPylong_of_log2 hc.2))
theorem mulOk_l {a b : Int} (h : -(2 ^ 64) < a ∧ a < 2 ^ 64) : IntMulOk a b := CMul.ok (.inl h)
theorem mulOk_r {a b : Int} (h : -(2 ^ 64) < b ∧ b < 2 ^ 64) : IntMulOk a b := CMul.ok (.inr h)
theorem old_keptT {s : Shared} {l : Addr} {h' : Heap} (hk : ∀ b o, b ∉ [s.heap.objs.size] → (s.heap.push { cls := .type "tuple_iterator", data := .fields #[.ref l, .int 0 0] }).get? b = some o → h'.get? b = some o) :
    ∀ b o, s.heap.get? b = some o → h'.get? b = some o := fun b o e => hk b o (fun hm => absurd (Heap.lt_size e) (by rw [List.mem_singleton.mp hm]; exact Nat.lt_irrefl _)) (Heap.get?_push_of_some _ e)
theorem seq_walk {pins : List (Addr × Obj)} {σ : St} {H : Hp} {s : Shared} {a : Addr} {xs : List V} {A : Around} {E : Value → Shared → Prop} {Q : Value → Shared → Prop} (I : Inv X pins σ H s) (hh : A.handled = none) (hq : SqL X.K H a xs ∨ SqT X.K H a xs)
    (h : ∀ (its : List Value) (I' : Addr) (fp wr : List Addr) (St' : Nat → Heap → Prop) (s2 : Shared), Vals xs its → Walks X.prog X.w A I' fp wr its.toArray.size (fun i v => its.toArray[i]? = some v) St' → St' 0 s2.heap → (∀ b ∈ fp, b < s2.heap.objs.size) →
      s2.toks = s.toks → s2.os = s.os → s2.gens = s.gens → s2.drawn = s.drawn → (∀ h' tk, (∀ b o, b ∉ wr → s2.heap.get? b = some o → h'.get? b = some o) → Inv X pins σ H { s2 with heap := h', toks := tk }) → Q (.ref I') s2) :
    wpAny (model X.prog X.w) A (pyIter (.ref a)) Q E s := by
  rcases hq with hq | hq
  · obtain ⟨its, rv, p, hz⟩ := I.list hq
    obtain ⟨o, ho, _⟩ := id p.isList
    have hlt := Heap.lt_size ho
    refine wpAny_pyIter_list p.isList (h its s.heap.objs.size [s.heap.objs.size, a] [s.heap.objs.size] _ _ rv (Walks.list hh _ a (Nat.ne_of_lt hlt) its.toArray) ⟨⟨_, Heap.get?_push_size _ rfl, rfl, rfl⟩, p.isList.push _⟩ (fun b hb => ?_) rfl rfl rfl rfl fun h' tk hk => ?_)
    · show b < (s.heap.push _).objs.size
      rw [Heap.size_push]
      rcases List.mem_cons.mp hb with rfl | hb
      · exact Nat.lt_succ_self _
      · rw [List.mem_singleton.mp hb]; exact Nat.lt_succ_of_lt hlt
    · exact I.kept (t' := tk) (old_kept hk)
  · obtain ⟨its, rv, p, hz⟩ := I.tuple hq
    obtain ⟨o, ho, _⟩ := id p
    have hlt := Heap.lt_size ho
    have p' : s.heap.IsTuple a its.toArray := p
    refine wpAny_pyIter_tuple p' (h its s.heap.objs.size [s.heap.objs.size, a] [s.heap.objs.size] _ _ rv (Walks.tuple hh _ a (Nat.ne_of_lt hlt) its.toArray) ⟨⟨_, Heap.get?_push_size _ rfl, rfl, rfl⟩, p'.push _⟩ (fun b hb => ?_) rfl rfl rfl rfl fun h' tk hk => ?_)
    · show b < (s.heap.push _).objs.size
      rw [Heap.size_push]
      rcases List.mem_cons.mp hb with rfl | hb
      · exact Nat.lt_succ_self _
      · rw [List.mem_singleton.mp hb]; exact Nat.lt_succ_of_lt hlt
    · exact I.kept (t' := tk) (old_keptT hk)
theorem vals_int_at {ns : List Int} {its : List Value} (r : Vals (ns.map V.int) its) {i : Nat} {v : Value} (h : its.toArray[i]? = some v) : ∃ t, v = .int (ns.getD i 0) t ∧ i < ns.length := by
  have h' : its[i]? = some v := by simpa using h
  have hl := r.length
  rw [List.length_map] at hl
  have hi : i < ns.length := by rw [hl]; exact (List.getElem?_eq_some_iff.mp h').1
  obtain ⟨u, hu, ru⟩ := r.get (i := i) (x := V.int (ns[i])) (by rw [List.getElem?_map, List.getElem?_eq_getElem hi]; rfl)
  rw [hu] at h'; cases h'
  obtain ⟨t, rfl⟩ := ru
  exact ⟨t, by rw [List.getD_eq_getElem?_getD, List.getElem?_eq_getElem hi]; rfl, hi⟩
def IsMax (ns : List Int) (m : Int) : Prop := m ∈ ns ∧ ∀ a ∈ ns, a ≤ m
theorem getD_mem' {ns : List Int} {i : Nat} (h : i < ns.length) : ns.getD i 0 ∈ ns := by
  rw [List.getD_eq_getElem?_getD, List.getElem?_eq_getElem h]; exact List.getElem_mem h
theorem mem_getD' {ns : List Int} {a : Int} (h : a ∈ ns) : ∃ i, i < ns.length ∧ ns.getD i 0 = a := by
  obtain ⟨i, hi, e⟩ := List.mem_iff_getElem.mp h
  exact ⟨i, hi, by rw [List.getD_eq_getElem?_getD, List.getElem?_eq_getElem hi]; exact e⟩
theorem call_maxL (hc : X.calm = true) : CallR X (.builtin "max") (fun xs H Q => ∃ (a : Addr) (ns : List Int), xs = [.ref a] ∧ (SqL X.K H a (ns.map V.int) ∨ SqT X.K H a (ns.map V.int)) ∧ ns ≠ [] ∧ ∀ m, IsMax ns m → Q (.int m) H) := by
  intro pins s σ H xs us Q I r h
  obtain ⟨a, ns, rfl, hq, hne, q⟩ := h
  obtain ⟨u, rfl, ru⟩ := vals1 r
  cases ru
  refine call_max_walk (seq_walk I (A := X.A.in1) (I.ok.hd hc) hq fun its I' fp wr St' s2 rv W st hfp _ _ _ _ hI => ?_)
  have hlen : its.toArray.size = ns.length := by rw [List.size_toArray, ← rv.length, List.length_map]
  have hpos : 0 < ns.length := List.length_pos_iff.mpr hne
  refine ⟨_, _, _, _, _, _, _, rfl, W, st, hfp, by rw [hlen]; exact hpos, CmpOf.ints_gt (fun i => ns.getD i 0) (fun i v hv => (vals_int_at rv hv).imp fun t e => e.1), fun v h' tk hP hk => ?_⟩
  obtain ⟨t, rfl, hi⟩ := vals_int_at rv hP
  obtain ⟨h1, h2⟩ := argBest_gt (fun i => ns.getD i 0) (its.toArray.size - 1)
  refine ⟨.int _, H, hI h' tk hk, ⟨t, rfl⟩, q _ ⟨getD_mem' hi, fun b hb => ?_⟩⟩
  obtain ⟨j, hj, rfl⟩ := mem_getD' hb
  exact h2 j (by omega)
theorem call_sumL (hc : X.calm = true) : CallR X (.builtin "sum") (fun xs H Q => ∃ (a : Addr) (ns : List Int), xs = [.ref a] ∧ (SqL X.K H a (ns.map V.int) ∨ SqT X.K H a (ns.map V.int)) ∧ Q (.int ns.sum) H) := by
  intro pins s σ H xs us Q I r h
  obtain ⟨a, ns, rfl, hq, q⟩ := h
  obtain ⟨u, rfl, ru⟩ := vals1 r
  cases ru
  refine call_sum_walkG (seq_walk I (A := X.A.in1) (I.ok.hd hc) hq fun its I' fp wr St' s2 rv W st hfp _ _ _ _ hI => ?_)
  refine ⟨_, _, _, _, _, _, fun i => ns.getD i 0, rfl, W, st, hfp, (fun i v hv => (vals_int_at rv hv).imp fun t e => e.1), fun h' tk t' hk => ?_⟩
  have hlen : its.toArray.size = ns.length := by rw [List.size_toArray, ← rv.length, List.length_map]
  refine ⟨.int _, H, hI h' tk hk, ⟨t', rfl⟩, ?_⟩
  have e : preSum (fun i => ns.getD i 0) its.toArray.size = ns.sum := by
    rw [hlen]
    have gen : ∀ n, n ≤ ns.length → preSum (fun i => ns.getD i 0) n = (ns.take n).sum := by
      intro n
      induction n with
      | zero => intro _; rfl
      | succ n ih =>
        intro hn
        have e1 : preSum (fun i => ns.getD i 0) (n + 1) = preSum (fun i => ns.getD i 0) n + ns.getD n 0 := rfl
        have hn' : n < ns.length := hn
        have e2 : ns.take (n + 1) = ns.take n ++ [ns[n]] := by simp
        rw [e1, ih (by omega), e2, List.getD_eq_getElem?_getD, List.getElem?_eq_getElem hn', List.sum_append]
        simp
    rw [gen _ (Nat.le_refl _), List.take_length]
  rw [e]; exact q
theorem vals_bl_at {bs : List Bool} {its : List Value} (r : Vals (bs.map V.bl) its) {i : Nat} {v : Value} (h : its.toArray[i]? = some v) : v = .bool (bs.getD i true) ∧ i < bs.length := by
  have h' : its[i]? = some v := by simpa using h
  have hl := r.length
  rw [List.length_map] at hl
  have hi : i < bs.length := by rw [hl]; exact (List.getElem?_eq_some_iff.mp h').1
  obtain ⟨u, hu, ru⟩ := r.get (i := i) (x := V.bl (bs[i])) (by rw [List.getElem?_map, List.getElem?_eq_getElem hi]; rfl)
  rw [hu] at h'; cases h'
  cases (show v = Value.bool (bs[i]) from ru)
  exact ⟨by rw [List.getD_eq_getElem?_getD, List.getElem?_eq_getElem hi]; rfl, hi⟩
theorem range_all (bs : List Bool) (d : Bool) : (List.range bs.length).all (fun i => bs.getD i d) = bs.all id := by
  rw [Bool.eq_iff_iff, List.all_eq_true, List.all_eq_true]
  constructor
  · intro h b hb
    obtain ⟨i, hi, e⟩ := List.mem_iff_getElem.mp hb
    have := h i (List.mem_range.mpr hi)
    rw [List.getD_eq_getElem?_getD, List.getElem?_eq_getElem hi] at this
    rw [← e]; exact this
  · intro h i hi
    have hi := List.mem_range.mp hi
    rw [List.getD_eq_getElem?_getD, List.getElem?_eq_getElem hi]
    exact h _ (List.getElem_mem hi)
theorem call_allL (hc : X.calm = true) : CallR X (.builtin "all") (fun xs H Q => ∃ (a : Addr) (bs : List Bool), xs = [.ref a] ∧ (SqL X.K H a (bs.map V.bl) ∨ SqT X.K H a (bs.map V.bl)) ∧ Q (.bl (bs.all id)) H) := by
  intro pins s σ H xs us Q I r h
  obtain ⟨a, bs, rfl, hq, q⟩ := h
  obtain ⟨u, rfl, ru⟩ := vals1 r
  cases ru
  refine call_all_walk (seq_walk I (A := X.A.in1) (I.ok.hd hc) hq fun its I' fp wr St' s2 rv W st hfp _ _ _ _ hI => ?_)
  refine ⟨_, _, _, _, _, _, fun i => bs.getD i true, rfl, W, st, (fun i v s Q E hv hQ => by rw [(vals_bl_at rv hv).1]; exact wpAny_truthy_bool hQ), fun h' tk hk => ?_⟩
  have hlen : its.toArray.size = bs.length := by rw [List.size_toArray, ← rv.length, List.length_map]
  rw [hlen, range_all]
  exact ⟨.bl _, H, hI h' tk hk, rfl, q⟩
theorem call_isi : CallR X (.builtin "isinstance") (fun xs H Q => ∃ x n t b, xs = [x, .ty n] ∧ TyOf X.K H x t ∧ PySem.W.kitOne X.K t (.type n) = some b ∧ Q (.bl b) H) := by
  intro pins s σ H xs us Q I r h
  obtain ⟨x, n, t, b, rfl, ty, e, q⟩ := h
  obtain ⟨u, w', rfl, rx, ru⟩ := vals2 r
  cases (show w' = Value.type n from ru)
  exact isinst_ok I rx ty e fun tk => ⟨.bl b, H, I.tok tk, rfl, q⟩
end
end L2
set_option Elab.async false
set_option linter.all false
set_option maxRecDepth 100000
namespace L2
open PySem PySem.Spec PyProof.Rows
section
variable {prog : Program} {w : World} {A : Around} {E : Value → Shared → Prop} {s : Shared}
end
section
variable {X : Cx}
end
section
variable {X : Cx}
theorem draw_list {prog : Program} {w : World} {A : Around} {E : Value → Shared → Prop} {it t : Addr} {items : Array Value} (hne : t ≠ it) : ∀ (n i : Nat) (s : Shared) (Q : List Value → Shared → Prop), s.heap.IsListIter it t i → s.heap.IsList t items → i + n ≤ items.size →
    (∀ h', h'.IsListIter it t (i + n) → Heap.SameBut it s.heap h' → Q ((items.toList.drop i).take n) { s with heap := h' }) → wpAny (model prog w) A (draw (.ref it) n) Q E s
  | 0, i, s, Q, hit, _, _, hQ => by
    show wpAny _ _ (pure []) Q E s
    exact wpAny_pure (by simpa using hQ s.heap hit (Heap.SameBut.refl ..))
  | n + 1, i, s, Q, hit, ht, hle, hQ => by
    have hlt : i < items.size := by omega
    show wpAny _ _ (pyNext (.ref it) >>= _) Q E s
    refine wpAny_bind (wpAny_pyNext_list_item hit ht (x := items[i]) (by simp [hlt]) fun h₁ hit₁ hs₁ => ?_)
    refine wpAny_bind (wpAny_holding (draw_list hne n (i + 1) _ _ hit₁ (ht.extBut hs₁.extBut hne) (by omega) fun h₂ hit₂ hs₂ => wpAny_pure ?_))
    have hd : items.toList.drop i = items[i] :: items.toList.drop (i + 1) := by simp [List.drop_eq_getElem_cons, hlt]
    have := hQ h₂ (by rw [show i + (n + 1) = i + 1 + n by omega]; exact hit₂) (hs₁.trans hs₂)
    rw [hd, List.take_succ_cons] at this
    exact this
theorem unpackItems_list {prog : Program} {w : World} {A : Around} {E : Value → Shared → Prop} {s : Shared} {t : Addr} {items : Array Value} {Q : List Value → Shared → Prop} (hh : A.handled = none) (ht : s.heap.IsList t items)
    (hQ : ∀ h', Heap.ExtBut s.heap.objs.size s.heap h' → Q items.toList { s with heap := h' }) : wpAny (model prog w) A (unpackItems (.ref t) items.size none) Q E s := by
  have hlt : t ≠ s.heap.objs.size := by obtain ⟨o, ho, _⟩ := ht; exact Nat.ne_of_lt (Heap.lt_size ho)
  unfold unpackItems
  refine wpAny_bind ?_
  unfold notIterableAtAll
  refine wpAny_bind (wpAny_specialOf ht.typeIs slot_list_iter.lookup ?_)
  refine wpAny_pure ?_
  simp only [Bool.false_eq_true, if_false]
  refine wpAny_bind (wpAny_holding (wpAny_pyIter_list ht ?_))
  refine wpAny_bind (wpAny_holding (draw_list hlt items.size 0 _ _ ⟨_, Heap.get?_push_size _ rfl, rfl, rfl⟩ (ht.push _) (by omega) fun h₁ hit₁ hs₁ => ?_))
  have hall : List.take items.size (List.drop 0 items.toList) = items.toList := by
    rw [List.drop_zero]; exact List.take_of_length_le (by simp)
  rw [hall]
  rw [if_neg (by simp)]
  have ht₁ : h₁.IsList t items := (ht.push _).extBut hs₁.extBut hlt
  refine wpAny_bind (wpAny_holding (wpAny_pyNext_list_end hh hit₁ ht₁ (by simp) fun h₂ he₂ => ?_))
  simp only [Option.isSome_none, Bool.false_eq_true, if_false]
  refine wpAny_pure (hQ h₂ fun b o hb e => he₂ b o hb (hs₁.extBut b o hb (Heap.get?_push_of_some _ e)))
def gLst (K : PySem.W.Frag) (n : Nat) (t : TGs) : TG := fun v σ H Q => ∃ a xs, v = .ref a ∧ SqL K H a xs ∧ xs.length = n ∧ t xs σ H Q
theorem pg_lst {es : List Expr} {k : Nat} {t : TGs} {n : Nat} {pos : Pos} (hc : X.calm = true) (h : PGs X es t)
    (hn : (assignEach es X.env).length = n := by rfl) (hst : (assignEach es X.env).findIdx? (·.1) = none := by rfl) : PG X (.Tuple es k pos) (gLst X.K n t) := by
  intro pins s σ H v u Q I r hw
  obtain ⟨a, xs, e1, hq, hl, hw⟩ := hw
  subst e1
  cases r
  obtain ⟨its, rv, ht, hz⟩ := I.list hq
  rw [assign_Tuple]
  refine wpAny_bind (wpAny_standAt ?_)
  unfold unpack
  rw [show (assignEach es X.env).length = its.toArray.size by rw [hn, ← hl, rv.length, List.size_toArray], hst]
  refine wpAny_bind (wpAny_holding (unpackItems_list (I.ok.hd hc) ht.isList fun h' hx => ?_))
  have I1 : Inv X pins σ H { s with heap := h' } := I.kept (t' := s.toks) fun b o e => hx b o (Nat.ne_of_lt (Heap.lt_size e)) e
  exact h pins _ σ H xs _ Q I1 (by simpa using rv) hw
end
end L2
set_option Elab.async false
set_option linter.all false
set_option maxRecDepth 100000
namespace L2
open PySem PySem.Spec PyProof.Rows
def lcChk (N N' : List Str) (M : List (Option Nat)) (sc osc : Scope) : Bool :=
  (sc.kind == .function) && (N'.length == M.length) && (sc.names.all fun y => y.2 != NameKind.cell) && (sc.names.all fun y => y.2 != NameKind.local || sc.names.lookup y.1 == some NameKind.local) &&
  (sc.names.all fun y => y.2 != NameKind.free || (osc.names.lookup y.1 == some NameKind.cell || osc.names.lookup y.1 == some NameKind.free)) &&
  ((N'.zip M).all fun p => match p.2 with | none => true | some j => N[j]? == some p.1 && sc.names.lookup p.1 == some NameKind.free)
theorem nk_eq {a b : NameKind} (h : (a == b) = true) : a = b := by
  cases a <;> cases b <;> first | rfl | exact absurd h (by decide)
theorem nko_eq {a : Option NameKind} {b : NameKind} (h : (a == some b) = true) : a = some b := by
  cases a with
  | none => exact absurd h (by cases b <;> decide)
  | some x => rw [nk_eq (show (x == b) = true from h)]
theorem nk_ne {a b : NameKind} (h : (a != b) = true) : a ≠ b := by
  cases a <;> cases b <;> first | (intro z; cases z; done) | exact absurd h (by decide)
theorem lcSc_of {N N' : List Str} {M : List (Option Nat)} {sc osc : Scope} (h : lcChk N N' M sc osc = true) : LcSc N N' M sc osc := by
  unfold lcChk at h
  simp only [Bool.and_eq_true] at h
  obtain ⟨⟨⟨⟨⟨h1, h2⟩, h3⟩, h4⟩, h5⟩, h6⟩ := h
  have hl : N'.length = M.length := by simpa using h2
  refine ⟨?_, hl, fun y hy => nk_ne (List.all_eq_true.mp h3 y hy), fun y hy hk => ?_, fun y hy hk => ?_, fun i j e => ?_⟩
  · revert h1; cases sc.kind <;> intro h1 <;> first | rfl | exact absurd h1 (by decide)
  · have q := List.all_eq_true.mp h4 y hy
    rw [Bool.or_eq_true] at q
    rcases q with q | q
    · exact absurd hk (nk_ne q)
    · exact nko_eq q
  · have q := List.all_eq_true.mp h5 y hy
    rw [Bool.or_eq_true, Bool.or_eq_true] at q
    rcases q with q | q | q
    · exact absurd hk (nk_ne q)
    · exact .inl (nko_eq q)
    · exact .inr (nko_eq q)
  · have hi : i < M.length := (List.getElem?_eq_some_iff.mp e).1
    have hi' : i < N'.length := by rw [hl]; exact hi
    have em : (N'[i], some j) ∈ N'.zip M := by
      refine List.mem_iff_getElem?.mpr ⟨i, ?_⟩
      rw [List.getElem?_zip_eq_some]
      exact ⟨List.getElem?_eq_getElem hi', e⟩
    have q := List.all_eq_true.mp h6 _ em
    simp only [Bool.and_eq_true] at q
    exact ⟨N'[i], List.getElem?_eq_getElem hi', by simpa using q.1, nko_eq q.2⟩
section
variable {K : PySem.W.Frag} {a : Addr} {xs : List V} {M : List (Option Nat)} {σ : St} {g : TG} {tc : TT} {te : TE} {F : List V → Hp → Prop} {H : Hp}
abbrev LcGoal (J : It) (M : List (Option Nat)) (σ : St) (g : TG) (tc : TT) (te : TE) (F : List V → Hp → Prop) (H1 : Hp) : Prop :=
  ∃ W : Nat → Nat → List V → Hp → Prop, (∃ m, W 0 m [] H1) ∧ ∀ i m ys H, W i m ys H → ys.length ≤ sizeLine ∧
    ((J.stop i H ∧ F ys H) ∨ (J.go i H ∧ ys.length < sizeLine ∧ ∃ N : List V → Hp → Prop, (∀ ys' H', N ys' H' → ∃ m', m' < m ∧ W (i + 1) m' ys' H') ∧ ∀ x H', J.yld i H x H' → g x (inSt M σ) H' fun σ2 H2 => tc σ2 H2 fun b H3 =>
      if b = true then te σ2 H3 fun v H4 => N (ys ++ [v]) H4 else N ys H3))
theorem lc_list (Pv : Nat → List V → Hp → Prop) (hz : xs.length ≤ sizeLine) (h0 : Pv 0 [] H) (hl : ∀ i ys H, i ≤ xs.length → Pv i ys H → SqL K H a xs ∧ ys.length ≤ i)
    (hs : ∀ i x ys H, xs[i]? = some x → Pv i ys H → g x (inSt M σ) H fun σ2 H2 => tc σ2 H2 fun b H3 => if b = true then te σ2 H3 fun v H4 => Pv (i + 1) (ys ++ [v]) H4 else Pv (i + 1) ys H3)
    (hd : ∀ ys H, Pv xs.length ys H → F ys H) : LcGoal (Itl K a) M σ g tc te F H := by
  refine ⟨fun i m ys H => m = xs.length - i ∧ i ≤ xs.length ∧ Pv i ys H, ⟨xs.length, by simp, Nat.zero_le _, h0⟩, ?_⟩
  rintro i m ys H ⟨rfl, hi, p⟩
  obtain ⟨q, hy⟩ := hl i ys H hi p
  refine ⟨by omega, ?_⟩
  by_cases hlt : i < xs.length
  · refine .inr ⟨⟨xs, xs[i], q, by simp [hlt]⟩, by omega, Pv (i + 1), fun ys' H' p' => ⟨xs.length - (i + 1), by omega, rfl, hlt, p'⟩, fun x H' y => ?_⟩
    obtain ⟨e, y⟩ := y
    subst e
    exact hs i x ys _ (y xs q) p
  · have e : i = xs.length := by omega
    subst e
    exact .inl ⟨⟨xs, q, Nat.le_refl _⟩, hd ys H p⟩
theorem lc_range {lo : Int} {n : Nat} (Pv : Nat → List V → Hp → Prop) (hz : n ≤ sizeLine) (h0 : Pv 0 [] H) (hl : ∀ i ys H, i ≤ n → Pv i ys H → ys.length ≤ i)
    (hs : ∀ i ys H, i < n → Pv i ys H → g (.int (lo + i)) (inSt M σ) H fun σ2 H2 => tc σ2 H2 fun b H3 => if b = true then te σ2 H3 fun v H4 => Pv (i + 1) (ys ++ [v]) H4 else Pv (i + 1) ys H3)
    (hd : ∀ ys H, Pv n ys H → F ys H) : LcGoal (Itr lo n) M σ g tc te F H := by
  refine ⟨fun i m ys H => m = n - i ∧ i ≤ n ∧ Pv i ys H, ⟨n, by simp, Nat.zero_le _, h0⟩, ?_⟩
  rintro i m ys H ⟨rfl, hi, p⟩
  have hy := hl i ys H hi p
  refine ⟨by omega, ?_⟩
  by_cases hlt : i < n
  · refine .inr ⟨hlt, by omega, Pv (i + 1), fun ys' H' p' => ⟨n - (i + 1), by omega, rfl, hlt, p'⟩, fun x H' y => ?_⟩
    obtain ⟨e, y⟩ := y
    subst e y
    exact hs i ys _ hlt p
  · have e : i = n := by omega
    subst e
    exact .inl ⟨Nat.le_refl _, hd ys H p⟩
end
structure Cal (P : Program) (w : World) (K : PySem.W.Frag) (mg : Str → Option Value) (base : Heap) (k : Nat) (x : Str) (dvs : List V) (sp : Sp) : Prop where
  ex : ∃ f fd ps ds, FnOk P w K mg base CX0 k f fd ps sp ∧ mg x = some (.ref f) ∧ PySem.W.keepIn K (.ref f) = true ∧ Binds K fd ps ds ∧ Vals dvs ds
theorem pe_cal {X : Cx} {k : Nat} {x : Str} {dvs : List V} {sp : Sp} {e : Expr} {es : List Expr} {t : TA} {p pos : Pos} (c : Cal X.prog X.w X.K X.mg X.base k x dvs sp) (hr : Room k X.A) (hg : Gl X x) (ha : PA X (e :: es) t) (hd : (x == ("__debug__" : Str)) = false := by decide)
    (he : starEach (e :: es) X.env = (false, eval e X.env) :: starEach es X.env := by rfl) (hpl : (backTo pos (starEach es X.env)).any (·.1) = false := by rfl) :
    PE X (.Call (.Name x p) (e :: es) [] pos) (tCall sp dvs E0 t) := by
  obtain ⟨f, fd, ps, ds, F, hm, hk, hb, hv⟩ := c.ex
  exact pe_call F hr hg hm hk hb hv pass0 ha hd he hpl
end L2
set_option Elab.async false
set_option linter.all false
set_option maxRecDepth 100000
namespace L2
open PySem
abbrev Drawn' : List Int → List Int → Prop := Paired fun l r => 0 ≤ r ∧ r < l
def LimOk (l : Int) : Prop := 0 < l ∧ l.natAbs.log2 < 9000
def spDraw (K : PySem.W.Frag) : Sp := fun vs H Q _ => ∃ (c : Int) (a : Addr) (ls : List Int), vs = [.int c, .ref a] ∧ SqL K H a (ls.map V.int) ∧ (∀ l ∈ ls, LimOk l) ∧ ls.length ≤ 1000 ∧
  ∀ (p : Addr) (rs : List Int) (H' : Hp), H p = none → Same H H' → H' p = some (.lst (rs.map V.int)) → Drawn' ls rs → Q (.ref p) H'
def spCell (K : PySem.W.Frag) : Sp := fun vs H Q _ => ∃ (a : Addr) (ns : List Int) (k : Int), vs = [.ref a, .int k] ∧ SqL K H a (ns.map V.int) ∧ 0 ≤ k ∧ k ≤ 1000 ∧ ns.length ≤ 1000 ∧ ∀ z, Q (.int z) H
def spMany (K : PySem.W.Frag) : Sp := fun vs H Q _ => ∃ (a : Addr) (ns : List Int) (f : Int), vs = [.ref a, .int f] ∧ SqL K H a (ns.map V.int) ∧ ∀ z, f ≤ z → (z ≤ 63 ∨ z = f) → Q (.int z) H
def spSplit : Sp := fun vs H Q _ => ∃ (c n : Int) (w : Int), vs = [.int c, .int n, .int w] ∧ 0 ≤ n ∧ n ≤ 100 ∧ 0 ≤ w ∧ w ≤ 2 ∧
  ∀ (p : Addr) (rs : List Int) (H' : Hp), H p = none → Same H H' → H' p = some (.lst (rs.map V.int)) → rs.length = n.toNat → Q (.ref p) H'
def wayGo : Int → List Int → Bool
  | _, [] => true
  | f, w :: r => decide (0 ≤ w) && decide (w ≤ f) && wayGo (if w = f then f + 1 else f) r
def isWay (ns : List Int) : Bool := decide (1 ≤ ns.length) && decide (ns.length ≤ 9) && wayGo 0 ns
theorem getI {ns : List Int} {i : Nat} {y : V} (h : (ns.map V.int)[i]? = some y) : ∃ z, y = V.int z ∧ ns[i]? = some z ∧ i < ns.length := by
  rw [List.getElem?_map] at h
  cases e : ns[i]? with
  | none => rw [e] at h; cases h
  | some z => rw [e] at h; exact ⟨z, (Option.some.inj h).symm, rfl, (List.getElem?_eq_some_iff.mp e).1⟩
theorem mapV {ns : List Int} {z : Int} : ns.map V.int ++ [V.int z] = (ns ++ [z]).map V.int := by rw [List.map_append]; rfl
theorem nn63 : (sizeLine : Nat) = 16777216 := by decide
theorem le_line {n : Nat} (h : n ≤ 16777216) : n ≤ sizeLine := by rw [nn63]; exact h
theorem lt_line {n : Nat} (h : n < 16777216) : n < sizeLine := by rw [nn63]; exact h
theorem ltm (l : List Int) : (l.map V.int).length = l.length := List.length_map ..
theorem drawn_snoc {ls rs : List Int} {l r : Int} (h : Drawn' ls rs) (h1 : 0 ≤ r) (h2 : r < l) : Drawn' (ls ++ [l]) (rs ++ [r]) := Paired.snoc h ⟨h1, h2⟩
theorem take_snoc {α : Type} {l : List α} {i : Nat} {x : α} (h : l[i]? = some x) : l.take (i + 1) = l.take i ++ [x] := by
  rw [List.take_add_one, h]; rfl
theorem modB (z : Int) {l : Int} (h : 0 < l) : 0 ≤ z % l ∧ z % l < l := ⟨Int.emod_nonneg _ (Int.ne_of_gt h), Int.emod_lt_of_pos _ h⟩
theorem p0 {n : Nat} : (0 : Int) < ((n + 1 : Nat) : Int) := Int.natCast_pos.mpr (Nat.succ_pos n)
theorem ite_P {c : Prop} [Decidable c] {ta tb : TE} {σ : St} {H : Hp} {Q : VK} (P : Int → Prop) (h : ∀ r, P r → Q (.int r) H) (ha : ∀ Q' : VK, (∀ r, P r → Q' (.int r) H) → ta σ H Q') (hb : ∀ Q' : VK, (∀ r, P r → Q' (.int r) H) → tb σ H Q') : if c then ta σ H Q else tb σ H Q := by
  split
  · exact ha _ h
  · exact hb _ h
end L2
set_option Elab.async false
set_option linter.all false
set_option maxRecDepth 100000
namespace L2
open PySem PySem.Spec PyProof.Rows
structure FunD (K : PySem.W.Frag) (x qual : Str) (st : Stmt) (f : Addr) (fd : FuncData) (ds : List Value) : Prop where
  ex : ∃ (oc : Value) (od : Option Addr) (T : Addr) (oT : Obj) (nT : Nat) (kV doc pm : Value) (an : Option Addr) (cdv ct : Value) (osl : Array (Option Value)),
    fd = PySem.W.fnOf x qual (defArgs st) (defBody st) (defScope st) (.ref T) kV doc pm an cdv ct ∧ K.lookup f = some ⟨oc, od, .func fd, osl⟩ ∧ PySem.W.codeIn K cdv qual = true ∧ K.lookup T = some oT ∧ oT.data = .seq ds.toArray nT
  kp : PySem.W.keepIn K (.ref f) = true
section
variable {P : Program} {w : World} {K : PySem.W.Frag} {mg : Str → Option Value} {base : Heap}
theorem FunD.ok {x qual : Str} {st : Stmt} {f : Addr} {fd : FuncData} {ds : List Value} {N ps : List Str} {k : Nat} {sp : Sp} (F : FunD K x qual st f fd ds) (S : FnScope N ps (defScope st)) (len : ∀ vs H Q E, sp vs H Q E → vs.length = ps.length)
    (hbody : ∀ (cdv : Value) (A : Around) (outer : List Env) (s : Shared) (H : Hp) (vs : List V) (Q : VK) (E : XK), Room k (A.deeper (envOfC qual (defScope st) s.heap.objs.size f cdv)) → sp vs H Q E →
      ∃ t, PSs (cxOf CX0 P w K mg base N qual (defScope st) f cdv A outer s H E).nox (defBody st) t ∧ t { nx := fun _ H' => Q .non H', rt := Q } (start N vs) H) : FnOk P w K mg base CX0 (k + 1) f fd ps sp := by
  obtain ⟨oc, od, T, oT, nT, kV, doc, pm, an, cdv, ct, osl, rfl, lk, hcd, _, _⟩ := F.ex
  refine fn_of lk hcd S len fun A outer s H vs Q E hr hsp => ?_
  obtain ⟨t, h, q⟩ := hbody cdv A outer s H vs Q E hr hsp
  exact ⟨t, h.nox, q⟩
theorem FunD.binds {x qual : Str} {st : Stmt} {f : Addr} {fd : FuncData} {ds es : List Value} {ps : List Str} (F : FunD K x qual st f fd ds)
    (h : ∀ (T : Addr) (kV doc pm : Value) (an : Option Addr) (cdv ct : Value) (us : List Value), (us ++ es).length = ps.length → ∃ kk, bindArgs (PySem.W.fnOf x qual (defArgs st) (defBody st) (defScope st) (.ref T) kV doc pm an cdv ct) ⟨us, []⟩ = seqItems? (.ref T) >>= kk ∧ kk (some ds.toArray) = pure (ps.zip (us ++ es))) : Binds K fd ps es := by
  obtain ⟨oc, od, T, oT, nT, kV, doc, pm, an, cdv, ct, osl, rfl, lk, hcd, lT, dT⟩ := F.ex
  intro s us KX hl
  obtain ⟨kk, e1, e2⟩ := h T kV doc pm an cdv ct us hl
  exact BindsTo.of_defaults rfl (KX _ _ lT) dT e1 e2
theorem funD_mk {x qual : Str} {st : Stmt} {f T : Addr} {oT : Obj} {nT : Nat} {ds : List Value} {oc : Value} {od an : Option Addr} {osl : Array (Option Value)} {kV doc pm cdv ct : Value} (l : K.lookup f = some ⟨oc, od, .func (PySem.W.fnOf x qual (defArgs st) (defBody st) (defScope st) (.ref T) kV doc pm an cdv ct), osl⟩)
    (c : PySem.W.codeIn K cdv qual = true) (k : PySem.W.keepIn K (.ref f) = true) (lT : K.lookup T = some oT) (dT : oT.data = .seq ds.toArray nT) : FunD K x qual st f (PySem.W.fnOf x qual (defArgs st) (defBody st) (defScope st) (.ref T) kV doc pm an cdv ct) ds := ⟨⟨oc, od, T, oT, nT, kV, doc, pm, an, cdv, ct, osl, rfl, l, c, lT, dT⟩, k⟩
theorem Fun.cal {x : Str} {qual : Str} {st : Stmt} {f : Addr} {fd : FuncData} {ps : List Str} {k : Nat} {sp : Sp} (F : Fun K x qual st f fd) (G : FnOk P w K mg base CX0 k f fd ps sp) (hm : mg x = some (.ref f))
    (h : ∀ (kV doc pm : Value) (an : Option Addr) (cdv ct : Value) (us : List Value), us.length = ps.length → bindArgs (PySem.W.fnOf x qual (defArgs st) (defBody st) (defScope st) .none kV doc pm an cdv ct) ⟨us, []⟩ = pure (ps.zip us)) : Cal P w K mg base k x [] sp :=
  ⟨f, fd, ps, [], G, hm, F.kp, F.binds h, .nil⟩
end
end L2
set_option Elab.async false
set_option linter.all false
namespace L2
open PySem
def maxL : List Int → Int
  | [] => 0
  | a :: r => r.foldl max a
def fresh (f : Int) (xs : List Int) : Int := xs.foldl (fun f w => if w = f then f + 1 else f) f
theorem snoc_ind {α : Type} {P : List α → Prop} (h0 : P []) (h1 : ∀ xs z, P xs → P (xs ++ [z])) (l : List α) : P l := by
  have : ∀ n (l : List α), l.length = n → P l := by
    intro n
    induction n with
    | zero => intro l e; rw [List.length_eq_zero_iff.mp e]; exact h0
    | succ n ih =>
      intro l e
      have hl : l ≠ [] := by rintro rfl; simp at e
      rw [← List.dropLast_concat_getLast hl]
      exact h1 _ _ (ih _ (by rw [List.length_dropLast, e]; rfl))
  exact this _ l rfl
end L2
set_option Elab.async false
set_option linter.all false
namespace L2
open PySem
theorem cut_take (xs : List V) (k : Nat) : cutV xs none (some (k : Int)) = xs.take k := by
  unfold cutV
  rw [HT.sIx_none, HT.sIx_nat, List.drop_zero, Nat.sub_zero]
  by_cases h : k ≤ xs.length
  · rw [Nat.min_eq_left h]
  · rw [Nat.min_eq_right (by omega), List.take_of_length_le (Nat.le_refl _), List.take_of_length_le (by omega)]
end L2
set_option Elab.async false
set_option linter.all false
namespace L2
open PySem PySem.Spec PyProof.Rows
section
variable {X : Cx} {K : PySem.W.Frag}
theorem kix_list (h : X.K = K := by rfl) : IxR X (rIxL K) := by subst h; exact ix_list
theorem kix_tup (h : X.K = K := by rfl) : IxR X (rIxT K) := by subst h; exact ix_tup
theorem ksl_list (h : X.K = K := by rfl) : SlR X (rSlL K) := by subst h; exact sl_list
theorem kop_in (h : X.K = K := by rfl) : OpR X (compareOp .In) (rIn K false) := by subst h; exact op_in_seq
theorem kop_notIn (h : X.K = K := by rfl) : OpR X (compareOp .NotIn) (rIn K true) := by subst h; exact op_notIn_seq
theorem kc_len (h : X.K = K := by rfl) : CallR X (.builtin "len") (fun xs H Q => ∃ p ys, xs = [.ref p] ∧ (SqL K H p ys ∨ SqT K H p ys) ∧ Q (.int ys.length) H) := by subst h; exact call_len_seq
theorem kc_max (hc : X.calm = true := by rfl) (h : X.K = K := by rfl) : CallR X (.builtin "max") (fun xs H Q => ∃ (a : Addr) (ns : List Int), xs = [.ref a] ∧ (SqL K H a (ns.map V.int) ∨ SqT K H a (ns.map V.int)) ∧ ns ≠ [] ∧ ∀ m, IsMax ns m → Q (.int m) H) := by subst h; exact call_maxL hc
theorem kc_sum (hc : X.calm = true := by rfl) (h : X.K = K := by rfl) : CallR X (.builtin "sum") (fun xs H Q => ∃ (a : Addr) (ns : List Int), xs = [.ref a] ∧ (SqL K H a (ns.map V.int) ∨ SqT K H a (ns.map V.int)) ∧ Q (.int ns.sum) H) := by subst h; exact call_sumL hc
theorem kc_all (hc : X.calm = true := by rfl) (h : X.K = K := by rfl) : CallR X (.builtin "all") (fun xs H Q => ∃ (a : Addr) (bs : List Bool), xs = [.ref a] ∧ (SqL K H a (bs.map V.bl) ∨ SqT K H a (bs.map V.bl)) ∧ Q (.bl (bs.all id)) H) := by subst h; exact call_allL hc
theorem kc_isi (h : X.K = K := by rfl) : CallR X (.builtin "isinstance") (fun xs H Q => ∃ x n t b, xs = [x, .ty n] ∧ TyOf K H x t ∧ PySem.W.kitOne K t (.type n) = some b ∧ Q (.bl b) H) := by subst h; exact call_isi
theorem kc_list (h : X.K = K := by rfl) : CallR X (.type "list") (fun xs H Q => ∃ p ys, xs = [.ref p] ∧ (SqL K H p ys ∨ SqT K H p ys) ∧ ∀ l, H l = none → Q (.ref l) (upd H l (.lst ys))) := by subst h; exact call_list_of
theorem kc_max2 (hc : X.calm = true := by rfl) : CallR X (.builtin "max") (fun xs H Q => ∃ i j, xs = [.int i, .int j] ∧ Q (.int (if j > i then j else i)) H) := call_max2 hc
theorem kc_min2 (hc : X.calm = true := by rfl) : CallR X (.builtin "min") (fun xs H Q => ∃ i j, xs = [.int i, .int j] ∧ Q (.int (if j < i then j else i)) H) := call_min2 hc
theorem kpi_list {tg l : Expr} {tl : TE} (hl : PE X l tl) (h : X.K = K := by rfl) : PI X tg l (iList K tl) := by subst h; exact pi_list hl
end
theorem mulOk_of {a b : Int} (h : (decide (Builtin.Int.intBits a ≤ 2 ^ 20) && decide (Builtin.Int.intBits b ≤ 2 ^ 20)) = true) : IntMulOk a b := by
  rw [Bool.and_eq_true] at h
  exact IntMulOk.of_bits (of_decide_eq_true h.1) (of_decide_eq_true h.2)
theorem lcN {i : Nat} {x : V} {te : TE} {σ : St} {H : Hp} {N : V → Hp → Prop} {N' : Hp → Prop} (h : te (σ.set i (some x)) H N) : gName i x σ H fun σ2 H2 => tYes σ2 H2 fun b H3 => if b = true then te σ2 H3 N else N' H3 := by
  show if true = true then te (σ.set i (some x)) H N else N' H
  rw [if_pos rfl]; exact h
end L2
set_option Elab.async false
set_option linter.all false
set_option maxRecDepth 100000
namespace L2
open PySem PySem.Spec PyProof.Rows
def CXE (P : Program) (w : World) : CXT := fun outer H s E e s' => ∃ (ea : Addr) (cls : Value) (H' : Hp) (B : Heap), e = .ref ea ∧ s'.os = s.os ∧ AllBare s'.gens ∧ Un (frs outer) [] H H' s.heap s'.heap ∧ HOk P w H' s'.heap ∧
  (∃ a0, Heap.FlyingW B outer ea cls a0 s'.heap) ∧ (∀ b o u, s'.heap.get? b = some o → H' b = some u → B.get? b = some o) ∧ (∀ b o, s.heap.get? b = some o → H b = none → b ∉ frs outer → B.get? b = some o) ∧
  (∀ b o, s.heap.get? b = some o → b ∉ frs outer → ∃ o', B.get? b = some o') ∧ E cls none H'
theorem ObjOk.get {P : Program} {w : World} {H : Hp} {h : Heap} {a : Addr} {o : HO} (x : ObjOk P w H h a o) : ∃ ob, h.get? a = some ob := by
  cases o with
  | lst xs => obtain ⟨_, _, _, _, e⟩ := x; exact ⟨_, e⟩
  | tup xs => obtain ⟨_, _, _, ob, e, _⟩ := x; exact ⟨ob, e⟩
  | dK kvs => obtain ⟨_, _, _, _, ob, _, _, e, _⟩ := x; exact ⟨ob, e⟩
  | dT kvs => obtain ⟨_, _, _, _, ob, _, _, e, _⟩ := x; exact ⟨ob, e⟩
  | set S n => obtain ⟨ob, _, _, _, e, _⟩ := x; exact ⟨ob, e⟩
  | ins C dx fs => obtain ⟨_, _, _, e, _⟩ := x; exact ⟨_, e⟩
  | own y => exact x
  | xd fs => obtain ⟨_, ⟨ob, _, _, e, _⟩, _⟩ := x; exact ⟨ob, e⟩
  | rng lo hi => obtain ⟨_, _, _, e⟩ := x; exact ⟨_, e⟩
  | frz ob u => obtain ⟨e, _⟩ := x; exact ⟨_, e⟩
  | tbl ps => exact ⟨_, x⟩
  | met f y => exact ⟨_, x⟩
  | ext φ => obtain ⟨_, e, _⟩ := x; exact e
section
variable {X : Cx} {pins : List (Addr × Obj)} {σ : St} {H : Hp} {s : Shared}
theorem cxe_mk {B h' : Heap} {ea : Addr} {cls a0 : Value} {E : XK} (I : Inv X pins σ H s) (hex : X.ex = []) (fl : Heap.FlyingW B X.outer ea cls a0 h')
    (fr : ∀ b ∈ frs X.outer, ∀ o, s.heap.get? b = some o → (∀ vs, o.data ≠ .fields vs) → ∃ sl, h'.get? b = some { o with slots := sl })
    (c1 : ∀ b o u, s.heap.get? b = some o → H b = some u → B.get? b = some o) (c2 : ∀ b o, X.s₀.heap.get? b = some o → X.H₀ b = none → b ∉ X.fs → B.get? b = some o)
    (c3 : ∀ b o, X.s₀.heap.get? b = some o → b ∉ X.fs → ∃ o', B.get? b = some o') (hE : E cls none H) : CXE X.prog X.w X.outer X.H₀ X.s₀ E (.ref ea) { s with heap := h' } := by
  have nex : ∀ b : Addr, b ∉ X.ex := fun b => by rw [hex]; simp
  have hfr : ∀ b ∈ X.fs, ∃ o, s.heap.get? b = some o ∧ ∀ vs, o.data ≠ .fields vs := fun b hb => (I.funs.mem hb).2
  have tr : ∀ b o u, s.heap.get? b = some o → H b = some u → h'.get? b = some o := fun b o u e q => fl.1 b o (c1 b o u e q)
  refine ⟨ea, cls, H, B, rfl, I.os, I.bare, ⟨fun b o e n hb _ => fl.1 b o (c2 b o e n hb), fun b o e n hb _ => ?_, fun b o e n _ => I.base.free b o e n (nex b), fun b o e _ => ?_, I.base.tups, I.base.frzs, I.base.tbls⟩, fun b u e => ?_, ⟨a0, fl⟩, fun b o u e q => ?_, c2, c3, hE⟩
  · obtain ⟨sl, e1⟩ := I.base.slot b o e n hb (nex b)
    obtain ⟨o1, e2, hd⟩ := hfr b hb
    obtain ⟨sl2, e3⟩ := fr b hb _ e2 hd
    rw [e1] at e2; cases e2
    exact ⟨sl2, e3⟩
  · by_cases hb : b ∈ X.fs
    · obtain ⟨o1, e2, hd⟩ := hfr b hb
      obtain ⟨sl2, e3⟩ := fr b hb _ e2 hd
      exact ⟨_, e3⟩
    · obtain ⟨o', e'⟩ := c3 b o e hb
      exact ⟨o', fl.1 b o' e'⟩
  · refine (I.hok b u e).stay (fun c v hc q => ?_) (fun _ q => q) fun _ _ q => q
    rcases hc with z | z
    · subst z; exact tr c v u q e
    · exact tr c v _ q z
  · obtain ⟨o1, e0⟩ := (I.hok b u q).get
    have q1 := tr b o1 u e0 q
    rw [e] at q1; cases q1
    exact c1 b o u e0 q
structure Fn0 (X : Cx) (E : XK) : Prop where
  xe : X.xe = fun e s' => wpAny (model X.prog X.w) X.A (leaving X.env e) (fun _ s'' => CXE X.prog X.w X.outer X.H₀ X.s₀ E e s'') (fun e' s'' => CXE X.prog X.w X.outer X.H₀ X.s₀ E e' s'') s'
  stk : X.stack = X.env :: X.outer
  frm : X.env.frame = some X.env.locals
  ex : X.ex = []
theorem Fn0.nstk (F : Fn0 X E) (I : Inv X pins σ H s) {b : Addr} {o : Obj} (e : X.s₀.heap.get? b = some o) (hb : b ∉ X.fs) : b ∉ frs X.stack := fun z => by
  rcases List.mem_cons.mp (I.stkSub b z) with q | q
  · exact absurd (Nat.lt_of_lt_of_le (Heap.lt_size e) I.ok.above) (by rw [q]; exact Nat.lt_irrefl _)
  · exact hb q
theorem pass_fn {E : XK} (F : Fn0 X E) : Passes (CXE X.prog X.w) X E := by
  intro pins σ H s e s' I h
  obtain ⟨ea, cls, H', B, rfl, os, bare, un, hok, ⟨a0, fl⟩, c1, c2, c3, hE⟩ := h
  have J : Inv X pins σ H' s' := I.call' os un hok bare fun b z => absurd z (by simp)
  rw [F.xe]
  rw [F.stk] at fl
  refine wpAny_leaves_onW (by rw [I.ok.frames, F.stk]) F.frm fl fun h'' fl'' ups => ?_
  have nex : ∀ b : Addr, b ∉ X.ex := fun b => by rw [F.ex]; simp
  refine cxe_mk J F.ex fl'' (fun b hb o e hd => ups b o e hd) c1 (fun b o e n hb => ?_) (fun b o e hb => ?_) hE
  · exact c2 b o (I.base.keep b o e n hb (nex b)) (I.base.free b o e n (nex b)) (F.nstk I e hb)
  · obtain ⟨o', e'⟩ := I.base.there b o e (nex b)
    exact c3 b o' e' (F.nstk I e hb)
abbrev bmV : List Value := [.type "ValueError", .type "Exception", .type "BaseException", .type "object"]
theorem excObj {K : PySem.W.Frag} {h : Heap} {C : Addr} (X : K.In h) (q : PySem.W.excIn K C bmV "ValueError.__new__" = true) :
    ∃ bm N nm q bs hdct sn sub ab col dd k0 k1 k2 k3 k5 mN, h.get? C = some (excClassObj nm q C N bs bm hdct sn sub ab col dd k0 k1 k2 k3 k5 "ValueError.__new__") ∧ h.Ns N mN ∧ mN "__init__" = none ∧ OwnTail h bmV bm := by
  unfold PySem.W.excIn at q
  split at q
  · rename_i dd cd sl ho
    split at q
    · rename_i C' bm k0 k1 k2 k3 n k5 hm hs
      simp only [Bool.and_eq_true, beq_iff_eq, Bool.not_eq_true'] at q
      obtain ⟨⟨⟨⟨⟨rfl, rfl⟩, hdel⟩, ht⟩, hok⟩, hni⟩ := q
      obtain ⟨nm, bs, mro, ns, qn, hd, sn, sub, ab, col, del⟩ := cd
      dsimp only at hm hdel hok hni
      subst hm hdel
      obtain ⟨l⟩ := sl
      simp only at hs
      subst hs
      exact ⟨bm, ns, nm, qn, bs, hd, sn, sub, ab, col, dd, k0, k1, k2, k3, k5, _, X _ _ ho, .of_isNs (PySem.W.isNs_of_in X hok), PySem.W.nsMap_none_of_in X hok hni, PySem.W.tail_of_in X ht⟩
    · cases q
  · cases q
theorem ps_raise {E : XK} {x : Str} {C : Addr} {e₀ : Expr} {rest : List Expr} {t : TA} {np cpos pos : Pos} (F : Fn0 X E) (hc : X.calm = true) (hg : Gl X x) (hm : X.mg x = some (.ref C)) (hq : PySem.W.excIn X.K C bmV "ValueError.__new__" = true) (ha : PA X (e₀ :: rest) t)
    (he : starEach (e₀ :: rest) X.env = (false, eval e₀ X.env) :: starEach rest X.env := by rfl) (hplain : (backTo cpos (starEach rest X.env)).any (·.1) = false := by rfl) (hd : (x == ("__debug__" : Str)) = false := by decide) :
    PS X (.Raise (some (.Call (.Name x np) (e₀ :: rest) [] cpos)) none pos) (fun _ σ H => t σ H fun vs H1 => vs.length ≤ sizeLine ∧ E (.ref C) none H1) := by
  intro pins s σ H D I h
  obtain ⟨bm, N, nm, q, bs, hdct, sn, sub, ab, col, dd, k0, k1, k2, k3, k5, mN, hC, hN, hni, T⟩ := excObj I.ok.mod.kin hq
  refine wpAny_Raise_call_subT (C := C) (nm := nm) (q := q) (N := N) (bs := bs) (bm := bm) (hdct := hdct) (sn := sn) (sub := sub) (ab := ab) (col := col) (dd := dd) (k0 := k0) (k1 := k1) (k2 := k2) (k3 := k3) (k5 := k5)
    PySem.F.excBase_ValueError (mN := mN) (T.hasType (by decide +kernel)) (I.ok.hd hc) (by rw [he]; show (false || (backTo cpos (starEach rest X.env)).any (·.1)) = false; rw [hplain]; rfl) hni (ld_glob I hg hm ⟨rfl, ?_⟩ hd)
  have hA := ha cpos pins s σ H _ I h
  rw [he] at hA ⊢
  refine Calls.evalArgs_plain (wpAny_mono hA (fun us s2 h2 => ?_) fun _ _ y => y)
  obtain ⟨vs, H1, I1, r, hl, hE⟩ := h2
  refine ⟨rfl, by rw [← r.length]; exact hl, I1.bk _ _ hC, hN.keeps I1.bk, T.keeps I1.bk, fun h' e hme => ?_⟩
  rw [F.xe]
  have hin : ∀ env ∈ X.env :: X.outer, ∀ b, env.frame = some b → b ∈ frs X.stack := fun env he b hb => by
    rw [F.stk]; exact List.mem_filterMap.mpr ⟨env, he, hb⟩
  have hstk := I1.stack
  rw [F.stk] at hstk
  refine wpAny_leaves_madeW (base := PySem.W.hideAll s2.heap (frs X.stack)) (by rw [I1.ok.frames, F.stk]) F.frm (fun b o q => PySem.W.of_hideAll _ q) (PySem.W.funFrames_hide hstk hin) hme fun h'' t fl tup bt ups => ?_
  have nex : ∀ b : Addr, b ∉ X.ex := fun b => by rw [F.ex]; simp
  show CXE X.prog X.w X.outer X.H₀ X.s₀ E (.ref e) { s2 with heap := h'' }
  refine cxe_mk I1 F.ex fl (fun b hb o e hd => ups b o (hme.keeps b o e) hd) (fun b o u e q => PySem.W.hideAll_get _ e fun z => ?_) (fun b o e n hb => PySem.W.hideAll_get _ (I1.base.keep b o e n hb (nex b)) (F.nstk I1 e hb)) (fun b o e hb => ?_) hE
  · rw [I1.stkFree b z] at q; cases q
  · obtain ⟨o', e'⟩ := I1.base.there b o e (nex b)
    exact ⟨o', PySem.W.hideAll_get _ e' (F.nstk I1 e hb)⟩
theorem Inv.slots {B h' : Heap} (I : Inv X pins σ H s) (hB : B.StaysIn h') (ups : s.heap.UpToSlots h') (c1 : ∀ b o u, s.heap.get? b = some o → H b = some u → B.get? b = some o)
    (c2 : ∀ b o, X.s₀.heap.get? b = some o → X.H₀ b = none → b ∉ X.fs → b ∉ X.ex → B.get? b = some o) (c3 : ∀ b o, X.s₀.heap.get? b = some o → b ∉ X.fs → b ∉ X.ex → ∃ o', B.get? b = some o')
    (c4 : ∀ p ∈ X.pn ++ pins, B.get? p.1 = some p.2) : Inv X pins σ H { s with heap := h' } := by
  have hfr : ∀ b ∈ X.fs, ∃ o, s.heap.get? b = some o ∧ ∀ vs, o.data ≠ .fields vs := fun b hb => (I.funs.mem hb).2
  have tr : ∀ b o u, s.heap.get? b = some o → H b = some u → h'.get? b = some o := fun b o u e q => hB b o (c1 b o u e q)
  have cl : ∀ c v, s.heap.IsCell c v → h'.IsCell c v := fun c v z => by
    obtain ⟨o, ho, hd⟩ := z
    obtain ⟨sl, e⟩ := ups c o ho fun vs q => by rw [hd] at q; cases q
    exact ⟨_, e, hd⟩
  refine ⟨I.ok, I.os, I.bare, ⟨fun b o e n hb hx => hB b o (c2 b o e n hb hx), fun b o e n hb hx => ?_, I.base.free, fun b o e hx => ?_, I.base.tups, I.base.frzs, I.base.tbls⟩, ?_, fun x c e => ?_, I.free, I.freeC, fun p hp => ?_, fun b u e => ?_, I.len⟩
  · obtain ⟨sl, e1⟩ := I.base.slot b o e n hb hx
    obtain ⟨o1, e2, hd⟩ := hfr b hb
    obtain ⟨sl2, e3⟩ := ups b _ e2 hd
    rw [e1] at e2; cases e2
    exact ⟨sl2, e3⟩
  · by_cases hb : b ∈ X.fs
    · obtain ⟨o1, e2, hd⟩ := hfr b hb
      obtain ⟨sl2, e3⟩ := ups b _ e2 hd
      exact ⟨_, e3⟩
    · obtain ⟨o', e'⟩ := c3 b o e hb hx
      exact ⟨o', hB b o' e'⟩
  · obtain ⟨m, hn, hl⟩ := I.loc
    refine ⟨m, ups.ns hn, fun i x v e1 e2 e3 => ?_⟩
    obtain ⟨u, ru, lk⟩ := hl i x v e1 e2 e3
    refine ⟨u, ru, ?_⟩
    rcases lk with lk | ⟨k, c, ec, z⟩
    · exact .inl lk
    · exact .inr ⟨k, c, ec, cl c _ z⟩
  · obtain ⟨v, z⟩ := I.cell x c e
    exact ⟨v, cl c v z⟩
  · obtain ⟨_, n, ne, nf, d⟩ := I.pin p hp
    exact ⟨hB _ _ (c4 p hp), n, ne, nf, d⟩
  · refine (I.hok b u e).stay (fun c v hc q => ?_) (fun _ q => q) fun _ _ q => q
    rcases hc with z | z
    · subst z; exact tr c v u q e
    · exact tr c v _ q z
abbrev Cx.alt (X : Cx) (pn : List (Addr × Obj)) (A : Around) (cm : Bool) (E : Value → Shared → Prop) : Cx := { X with pn := pn, A := A, calm := cm, xe := E }
theorem Inv.alt {pn : List (Addr × Obj)} {A : Around} {cm : Bool} {E : Value → Shared → Prop} {pins' : List (Addr × Obj)} (I : Inv X pins σ H s) (hfr : A.frames = X.A.frames) (hcm : cm = true → A.handled = none) (hp : ∀ p ∈ pn ++ pins', p ∈ X.pn ++ pins) : Inv (X.alt pn A cm E) pins' σ H s :=
  ⟨⟨I.ok.mod, I.ok.kind, I.ok.glob, I.ok.blt, I.ok.above, I.ok.inj, I.ok.has, I.ok.cab, hcm, hfr.trans I.ok.frames, I.ok.stk, I.ok.exf, I.ok.bs, I.ok.bsz, I.ok.noex, I.ok.exfs, I.ok.funs, I.ok.frf⟩, I.os, I.bare, I.base, I.loc, I.cell, I.free, I.freeC, fun p h => I.pin p (hp p h), I.hok, I.len⟩
def XB (X : Cx) (pins : List (Addr × Obj)) (E : XK) : Value → Shared → Prop := fun e s1 => ∃ (ea : Addr) (cls : Value) (H' : Hp) (B : Heap) (σ' : St), e = .ref ea ∧ Inv (X.alt (X.pn ++ pins) X.A X.calm fun _ _ => False) [] σ' H' s1 ∧ (∃ a0, Heap.FlyingW B X.stack ea cls a0 s1.heap) ∧
  (∀ b o u, s1.heap.get? b = some o → H' b = some u → B.get? b = some o) ∧ (∀ b o, X.s₀.heap.get? b = some o → X.H₀ b = none → b ∉ X.fs → b ∉ X.ex → B.get? b = some o) ∧ (∀ b o, X.s₀.heap.get? b = some o → b ∉ X.fs → b ∉ X.ex → ∃ o', B.get? b = some o') ∧ (∀ p ∈ X.pn ++ pins, B.get? p.1 = some p.2) ∧ E cls none H'
abbrev tryCx (X : Cx) (pins : List (Addr × Obj)) (E : XK) : Cx := X.alt (X.pn ++ pins) X.A X.calm (XB X pins E)
theorem pass_try {E : XK} : Passes (CXE X.prog X.w) (tryCx X pins E) E := by
  intro pins' σ H s e s' I h
  obtain ⟨ea, cls, H', B, rfl, os, bare, un, hok, fl, c1, c2, c3, hE⟩ := h
  have J : Inv (tryCx X pins E) pins' σ H' s' := I.call' os un hok bare fun b z => absurd z (by simp)
  have nst : ∀ b o, X.s₀.heap.get? b = some o → b ∉ X.fs → b ∉ frs X.stack := fun b o e hb z => by
    rcases List.mem_cons.mp (I.stkSub b z) with q | q
    · exact absurd (Nat.lt_of_lt_of_le (Heap.lt_size e) I.ok.above) (by rw [q]; exact Nat.lt_irrefl _)
    · exact hb q
  refine ⟨ea, cls, H', B, σ, rfl, J.alt rfl J.ok.hd fun p hp => ?_, fl, c1, fun b o e n hb hx => c2 b o (I.base.keep b o e n hb hx) (I.base.free b o e n hx) (nst b o e hb), fun b o e hb hx => ?_, fun p hp => ?_, hE⟩
  · exact List.mem_append_left _ (by simpa using hp)
  · obtain ⟨o', e'⟩ := I.base.there b o e hx
    exact c3 b o' e' (nst b o e hb)
  · obtain ⟨e, n, ne, nf, d⟩ := I.pin p (List.mem_append_left _ hp)
    refine c2 _ _ e n fun z => ?_
    rcases List.mem_cons.mp (I.stkSub _ z) with q | q
    · exact ne q
    · exact nf q
abbrev hndCx (X : Cx) (pins : List (Addr × Obj)) (ea : Addr) : Cx := X.alt (X.pn ++ pins) (X.A.mark (some (.ref ea))) false fun _ _ => False
def tTry (C : Addr) (n : Nat) (tb : XK → TS) (th : TS) : TS := fun D σ H => tb (fun c _ H' => c = .ref C ∧ th D (List.replicate n none) H') D σ H
theorem ps_try {x : Str} {C : Addr} {body : List Stmt} {b₀ : Stmt} {suite : List Stmt} {tb : XK → TS} {th : TS} {np hpos pos : Pos} (hst : X.stack = X.env :: X.outer) (hfm : X.env.frame = some X.env.locals) (hc : X.calm = true)
    (hg : Gl X x) (hm : X.mg x = some (.ref C)) (hq : PySem.W.excIn X.K C bmV "ValueError.__new__" = true) (hb : ∀ pins E, PSs (tryCx X pins E) body (tb E)) (hh : ∀ pins ea, PSs (hndCx X pins ea) (b₀ :: suite) th) (hd : (x == ("__debug__" : Str)) = false := by decide) :
    PS X (.Try body [.ExceptHandler (some (.Name x np)) none (b₀ :: suite) hpos] [] [] pos) (tTry C X.N.length tb th) := by
  intro pins s σ H D I h
  have back : ∀ {A : Around} {cm : Bool} {E : Value → Shared → Prop} {f : Flow} {s' : Shared}, SP (X.alt (X.pn ++ pins) A cm E) [] D f s' → SP X pins D f s' := fun {A cm E f s'} q => by
    have un : ∀ {σ' : St} {H' : Hp}, Inv (X.alt (X.pn ++ pins) A cm E) [] σ' H' s' → Inv X pins σ' H' s' := fun {σ' H'} J =>
      ⟨I.ok, J.os, J.bare, J.base, J.loc, J.cell, J.free, J.freeC, fun p hp => J.pin p (by simpa using hp), J.hok, J.len⟩
    cases f with
    | next => obtain ⟨σ', H', J, q⟩ := q; exact ⟨σ', H', un J, q⟩
    | brk => obtain ⟨σ', H', J, q⟩ := q; exact ⟨σ', H', un J, q⟩
    | cont => obtain ⟨σ', H', J, q⟩ := q; exact ⟨σ', H', un J, q⟩
    | ret v => obtain ⟨x', σ', H', J, r, q⟩ := q; exact ⟨x', σ', H', un J, r, q⟩
  have I0 : Inv (tryCx X pins (fun c _ H' => c = .ref C ∧ th D (List.replicate X.N.length none) H')) [] σ H s := I.alt rfl I.ok.hd fun p hp => by simpa using hp
  refine wpAny_Try_except (wpAny_mono (hb pins _ [] s σ H D I0 h) (fun f s1 q => ?_) (fun e s1 q => ?_))
  · have q' := back q
    cases f with
    | next => exact wpAny_execs_nil q'
    | brk => exact q'
    | cont => exact q'
    | ret v => exact q'
  · obtain ⟨ea, cls, H', B, σ', rfl, J, ⟨a0, fl⟩, c1, c2, c3, c4, hcls, hE⟩ := q
    subst hcls
    rw [hst] at fl
    refine wpAny_looks_onW (by rw [I.ok.frames, hst]) hfm fl fun h4 hheld hsm4 => ?_
    refine wpAny_landsW hheld fun h5 fl5 hsm5 => ?_
    have sm5 := hsm4.trans hsm5
    have J5 := J.slots fl5.1 sm5 c1 c2 c3 (fun p hp => c4 p (by simpa using hp))
    obtain ⟨ob, hob, hobc⟩ := fl5.there
    have Jh : Inv (hndCx X pins ea) [] σ' H' { s1 with heap := h5 } := J5.alt rfl (fun z => by cases z) fun p hp => hp
    refine wpAny_handleBy_cons (codeAny_handlers_test (ld_glob Jh hg hm ?_ hd)) (by intro q; cases q)
    obtain ⟨bm, N, nm, q, bs, hdct, sn, sub, ab, col, dd, k0, k1, k2, k3, k5, mN, hC, hN, hni, TL⟩ := excObj Jh.ok.mod.kin hq
    refine wpAny_excMatches_sub_self (Jh.bk _ _ hC) hob hobc (TL.hasType (by decide +kernel)) (codeAny_handlers_suite ?_)
    refine lands_againW fl5 fun h6 fl6 hsm6 => ?_
    have J6 := J.slots fl6.1 (sm5.trans hsm6) c1 c2 c3 (fun p hp => c4 p (by simpa using hp))
    have Jh6 : Inv (hndCx X pins ea) [] σ' H' { s1 with heap := h6 } := J6.alt rfl (fun z => by cases z) fun p hp => hp
    have Jw : Inv (hndCx X pins ea) [] (List.replicate X.N.length none) H' { s1 with heap := h6 } := Jh6.weak (by rw [List.length_replicate]; exact Jh6.len.symm) fun i v e => by
      rw [List.getElem?_replicate] at e
      split at e <;> cases e
    exact wpAny_mono (hh pins ea [] _ _ H' D Jw hE) (fun f s2 q2 => back q2) fun _ _ z => z.elim
end
section
variable {P : Program} {w : World} {K : PySem.W.Frag} {mg : Str → Option Value} {base : Heap}
theorem Fun.okE {x qual : Str} {st : Stmt} {f : Addr} {fd : FuncData} {N ps : List Str} {k : Nat} {sp : Sp} (F : Fun K x qual st f fd) (S : FnScope N ps (defScope st)) (len : ∀ vs H Q E, sp vs H Q E → vs.length = ps.length)
    (hbody : ∀ (cdv : Value) (A : Around) (outer : List Env) (s : Shared) (H : Hp) (vs : List V) (Q : VK) (E : XK), Room k (A.deeper (envOfC qual (defScope st) s.heap.objs.size f cdv)) → Fn0 (cxOf (CXE P w) P w K mg base N qual (defScope st) f cdv A outer s H E) E → sp vs H Q E →
      ∃ t, PSs (cxOf (CXE P w) P w K mg base N qual (defScope st) f cdv A outer s H E) (defBody st) t ∧ t { nx := fun _ H' => Q .non H', rt := Q } (start N vs) H) : FnOk P w K mg base (CXE P w) (k + 1) f fd ps sp := by
  obtain ⟨oc, od, kV, doc, pm, an, cdv, ct, osl, rfl, lk, hcd⟩ := F.ex
  exact fn_of lk hcd S len fun A outer s H vs Q E hr hsp => hbody cdv A outer s H vs Q E hr ⟨rfl, rfl, rfl, rfl⟩ hsp
structure CalE (P : Program) (w : World) (K : PySem.W.Frag) (mg : Str → Option Value) (base : Heap) (k : Nat) (x : Str) (dvs : List V) (sp : Sp) : Prop where
  ex : ∃ f fd ps ds, FnOk P w K mg base (CXE P w) k f fd ps sp ∧ mg x = some (.ref f) ∧ PySem.W.keepIn K (.ref f) = true ∧ Binds K fd ps ds ∧ Vals dvs ds
theorem Fun.calE {x : Str} {qual : Str} {st : Stmt} {f : Addr} {fd : FuncData} {ps : List Str} {k : Nat} {sp : Sp} (F : Fun K x qual st f fd) (G : FnOk P w K mg base (CXE P w) k f fd ps sp) (hm : mg x = some (.ref f))
    (h : ∀ (kV doc pm : Value) (an : Option Addr) (cdv ct : Value) (us : List Value), us.length = ps.length → bindArgs (PySem.W.fnOf x qual (defArgs st) (defBody st) (defScope st) .none kV doc pm an cdv ct) ⟨us, []⟩ = pure (ps.zip us)) : CalE P w K mg base k x [] sp :=
  ⟨f, fd, ps, [], G, hm, F.kp, F.binds h, .nil⟩
end
theorem pe_calE {X : Cx} {k : Nat} {x : Str} {dvs : List V} {sp : Sp} {E : XK} {e : Expr} {es : List Expr} {t : TA} {p pos : Pos} (c : CalE X.prog X.w X.K X.mg X.base k x dvs sp) (hr : Room k X.A) (hg : Gl X x) (hx : Passes (CXE X.prog X.w) X E) (ha : PA X (e :: es) t) (hd : (x == ("__debug__" : Str)) = false := by decide)
    (he : starEach (e :: es) X.env = (false, eval e X.env) :: starEach es X.env := by rfl) (hpl : (backTo pos (starEach es X.env)).any (·.1) = false := by rfl) :
    PE X (.Call (.Name x p) (e :: es) [] pos) (tCall sp dvs E t) := by
  obtain ⟨f, fd, ps, ds, F, hm, hk, hb, hv⟩ := c.ex
  exact pe_call F hr hg hm hk hb hv hx ha hd he hpl
end L2
set_option Elab.async false
set_option linter.all false
set_option maxRecDepth 100000
namespace L2
open PySem PySem.Spec PyProof.Rows
section
variable {κ : Type} [DecidableEq κ]
def valV (kvs : List (κ × V)) (k : κ) : Option V := (kvs.find? fun kv => decide (kv.1 = k)).map (·.2)
def putK (kvs : List (κ × V)) (k : κ) (v : V) : List (κ × V) :=
  if (kvs.any fun kv => decide (kv.1 = k)) = true then kvs.map (fun kv => if kv.1 = k then (kv.1, v) else kv) else kvs ++ [(k, v)]
def dropK (kvs : List (κ × V)) (k : κ) : List (κ × V) := kvs.filter fun kv => decide (kv.1 ≠ k)
theorem valV_pos {p : κ × V} {r : List (κ × V)} {k : κ} (e : p.1 = k) : valV (p :: r) k = some p.2 := by simp [valV, List.find?_cons, e]
theorem valV_neg {p : κ × V} {r : List (κ × V)} {k : κ} (e : ¬ p.1 = k) : valV (p :: r) k = valV r k := by simp [valV, List.find?_cons, e]
theorem valV_any (k : κ) : ∀ kvs : List (κ × V), (kvs.any fun kv => decide (kv.1 = k)) = (valV kvs k).isSome
  | [] => rfl
  | p :: r => by
    rw [List.any_cons]
    by_cases e : p.1 = k
    · simp only [valV_pos e, decide_eq_true e, Bool.true_or, Option.isSome_some]
    · rw [valV_neg e, decide_eq_false e, Bool.false_or]; exact valV_any k r
theorem length_putK (kvs : List (κ × V)) (k : κ) (v : V) : (putK kvs k v).length ≤ kvs.length + 1 := by
  unfold putK
  split
  · rw [List.length_map]; omega
  · rw [List.length_append, List.length_cons, List.length_nil]; omega
theorem putK_new {kvs : List (κ × V)} {k : κ} (v : V) (h : valV kvs k = none) : putK kvs k v = kvs ++ [(k, v)] := by
  unfold putK
  rw [valV_any, h]
  exact if_neg (by decide)
theorem RelO.isSome_eq {o : Option V} {u : Option Value} (r : RelO o u) : o.isSome = u.isSome := by
  cases o with
  | none => cases u with
    | none => rfl
    | some _ => exact (show False from r).elim
  | some _ => cases u with
    | none => exact (show False from r).elim
    | some _ => rfl
theorem RelO.getD {o : Option V} {u : Option Value} {d : V} {d' : Value} (r : RelO o u) (rd : RelV d d') : RelV (o.getD d) (u.getD d') := by
  cases o with
  | none => cases u with
    | none => exact rd
    | some _ => exact (show False from r).elim
  | some _ => cases u with
    | none => exact (show False from r).elim
    | some _ => exact r
theorem KV.val {kvs : List (κ × V)} {vs : List (κ × Value)} (r : KV kvs vs) (k : κ) : RelO (valV kvs k) (valueAt vs k) := by
  unfold KV at r
  induction r with
  | nil => exact True.intro
  | @cons p q ps qs h t ih =>
    obtain ⟨h1, h2⟩ := h
    by_cases e : p.1 = k
    · have e' : q.1 = k := h1.symm.trans e
      have b : valueAt (q :: qs) k = some q.2 := by simp [valueAt, List.find?_cons, e']
      rw [valV_pos e, b]; exact h2
    · have e' : ¬ q.1 = k := fun z => e (h1.trans z)
      have b : valueAt (q :: qs) k = valueAt qs k := by simp [valueAt, List.find?_cons, e']
      rw [valV_neg e, b]; exact ih
theorem KV.any {kvs : List (κ × V)} {vs : List (κ × Value)} (r : KV kvs vs) (k : κ) : (kvs.any fun kv => decide (kv.1 = k)) = vs.any fun kv => decide (kv.1 = k) := by
  unfold KV at r
  induction r with
  | nil => rfl
  | cons h t ih => rw [List.any_cons, List.any_cons, ih, h.1]
theorem KV.repl {kvs : List (κ × V)} {vs : List (κ × Value)} (r : KV kvs vs) (k : κ) {y : V} {u : Value} (ry : RelV y u) :
    KV (kvs.map fun kv => if kv.1 = k then (kv.1, y) else kv) (vs.map fun kv => if kv.1 = k then (kv.1, u) else kv) := by
  unfold KV at r ⊢
  induction r with
  | nil => exact .nil
  | @cons p q ps qs h t ih =>
    rw [List.map_cons, List.map_cons]
    refine .cons ?_ ih
    obtain ⟨h1, h2⟩ := h
    by_cases e : p.1 = k
    · rw [if_pos e, if_pos (h1.symm.trans e)]; exact ⟨h1, ry⟩
    · rw [if_neg e, if_neg (fun z => e (h1.trans z))]; exact ⟨h1, h2⟩
theorem KV.put {kvs : List (κ × V)} {vs : List (κ × Value)} (r : KV kvs vs) (k : κ) {y : V} {u : Value} (ry : RelV y u) : KV (putK kvs k y) (stored vs k u) := by
  unfold putK stored
  rw [r.any k]
  by_cases e : (vs.any fun kv => decide (kv.1 = k)) = true
  · rw [if_pos e, if_pos e]; exact r.repl k ry
  · rw [if_neg e, if_neg e]; exact Paired.snoc r ⟨rfl, ry⟩
theorem KV.drop {kvs : List (κ × V)} {vs : List (κ × Value)} (r : KV kvs vs) (k : κ) : KV (dropK kvs k) (without vs k) := by
  unfold KV at r ⊢
  unfold dropK without
  induction r with
  | nil => exact .nil
  | @cons p q ps qs h t ih =>
    obtain ⟨h1, h2⟩ := h
    rw [List.filter_cons, List.filter_cons]
    by_cases e : p.1 = k
    · have a : ¬ decide (p.1 ≠ k) = true := by simp [e]
      have b : ¬ decide (q.1 ≠ k) = true := by simp [h1.symm.trans e]
      rw [if_neg a, if_neg b]; exact ih
    · have e' : ¬ q.1 = k := fun z => e (h1.trans z)
      have a : decide (p.1 ≠ k) = true := by simp [e]
      have b : decide (q.1 ≠ k) = true := by simp [e']
      rw [if_pos a, if_pos b]; exact .cons ⟨h1, h2⟩ ih
theorem KV.keys {kvs : List (κ × V)} {vs : List (κ × Value)} (r : KV kvs vs) : kvs.map (·.1) = vs.map (·.1) := by
  unfold KV at r
  induction r with
  | nil => rfl
  | cons h t ih => rw [List.map_cons, List.map_cons, ih, h.1]
theorem KV.length {kvs : List (κ × V)} {vs : List (κ × Value)} (r : KV kvs vs) : kvs.length = vs.length := Paired.length r
theorem dropK_le (kvs : List (κ × V)) (k : κ) : (dropK kvs k).length ≤ kvs.length := List.length_filter_le _ _
end
theorem kV_is {P : Program} {w : World} {k : Key} {u : Value} (r : RelV (kV k) u) : (mixKind P w).is k u = true := by
  cases k with
  | inl i => obtain ⟨t, e⟩ := (show ∃ t, u = Value.int i t from r); subst e; exact mixKind_int P w i t
  | inr x => obtain ⟨t, e⟩ := (show ∃ t, u = Value.str x t from r); subst e; exact mixKind_str P w x t
theorem items_are {P : Program} {w : World} : ∀ {ks : List Key} {us : List Value}, Vals (ks.map kV) us → ItemsAre (mixKind P w) ks us
  | [], _, r => by rw [List.map_nil] at r; cases r; exact .nil
  | k :: ks, _, r => by
    rw [List.map_cons] at r
    cases r with
    | cons h t => exact .cons (kV_is h) (items_are t)
abbrev KT (H : Hp) : List (List Key × V) → List (List Key × Addr × Value) → Prop := Paired fun p q => p.1 = q.1 ∧ H q.2.1 = some (.tup (p.1.map kV)) ∧ RelV p.2 q.2.2
theorem KT.val {H : Hp} {kvs : List (List Key × V)} {xs : List (List Key × Addr × Value)} (r : KT H kvs xs) (k : List Key) : RelO (valV kvs k) ((atKey xs k).map (·.2)) := by
  induction r with
  | nil => exact True.intro
  | @cons p q ps qs h t ih =>
    obtain ⟨h1, _, h2⟩ := h
    by_cases e : p.1 = k
    · have e' : q.1 = k := h1.symm.trans e
      have b : atKey (q :: qs) k = some q.2 := by simp [atKey, List.find?_cons, e']
      rw [valV_pos e, b]; exact h2
    · have e' : ¬ q.1 = k := fun z => e (h1.trans z)
      have b : atKey (q :: qs) k = atKey qs k := by simp [atKey, List.find?_cons, e']
      rw [valV_neg e, b]; exact ih
theorem KT.repl {H : Hp} {kvs : List (List Key × V)} {xs : List (List Key × Addr × Value)} (r : KT H kvs xs) (k : List Key) {y : V} {u : Value} (ry : RelV y u) :
    KT H (kvs.map fun kv => if kv.1 = k then (kv.1, y) else kv) (xs.map (putAt k u)) := by
  induction r with
  | nil => exact .nil
  | @cons p q ps qs h t ih =>
    rw [List.map_cons, List.map_cons]
    refine .cons ?_ ih
    obtain ⟨h1, h2, h3⟩ := h
    unfold putAt
    by_cases e : p.1 = k
    · rw [if_pos e, if_pos (h1.symm.trans e)]; exact ⟨h1, h2, ry⟩
    · rw [if_neg e, if_neg (fun z => e (h1.trans z))]; exact ⟨h1, h2, h3⟩
theorem KT.put {H : Hp} {kvs : List (List Key × V)} {xs : List (List Key × Addr × Value)} (r : KT H kvs xs) (k : List Key) {b : Addr} {y : V} {u : Value} (hb : H b = some (.tup (k.map kV))) (ry : RelV y u) :
    KT H (putK kvs k y) (storedH xs k b u) := by
  have e : (kvs.any fun kv => decide (kv.1 = k)) = (atKey xs k).isSome := by
    rw [valV_any, (r.val k).isSome_eq, Option.isSome_map]
  unfold putK storedH
  rw [e]
  by_cases q : (atKey xs k).isSome = true
  · rw [if_pos q, if_pos q]; exact r.repl k ry
  · rw [if_neg q, if_neg q]; exact Paired.snoc r ⟨rfl, hb, ry⟩
theorem KT.keeps {H H' : Hp} {kvs : List (List Key × V)} {xs : List (List Key × Addr × Value)} (r : KT H kvs xs) (ht : ∀ b ys, H b = some (.tup ys) → H' b = some (.tup ys)) : KT H' kvs xs :=
  Paired.mapP r fun _ _ z => ⟨z.1, ht _ _ z.2.1, z.2.2⟩
section
variable {P : Program} {w : World} {H : Hp} {h : Heap} {a : Addr}
theorem rd_of {u : HO} (ok : HOk P w H h) (e : Rd H a u) : ObjOk P w H h a u := e.ok ok
theorem dk_rd {kvs : List (Key × V)} (ok : HOk P w H h) (e : Rd H a (.dK kvs)) : kvs.length ≤ sizeLine ∧ (a == sysModules) = false ∧ ∃ vs, KV kvs vs ∧ h.DictOf (mixKind P w) a vs :=
  show ObjOk P w H h a (.dK kvs) from rd_of ok e
theorem dk_of {kvs : List (Key × V)} (ok : HOk P w H h) (e : H a = some (.dK kvs)) : kvs.length ≤ sizeLine ∧ (a == sysModules) = false ∧ ∃ vs, KV kvs vs ∧ h.DictOf (mixKind P w) a vs := dk_rd ok (.inl e)
theorem key_of {ks : List Key} (ok : HOk P w H h) (e : H a = some (.tup (ks.map kV))) : (tupleKind (mixKind P w)).is h ks a := by
  obtain ⟨_, its, r, o, h1, h2, n, h3⟩ := (show ObjOk P w H h a (.tup (ks.map kV)) from ok a _ e)
  exact ⟨o, its.toArray, n, h1, h2, h3, by simpa using items_are r⟩
theorem dt_rd {kvs : List (List Key × V)} (ok : HOk P w H h) (e : Rd H a (.dT kvs)) : kvs.length ≤ sizeLine ∧ (a == sysModules) = false ∧
    ∃ xs, KT H kvs xs ∧ h.DictOfH (tupleKind (mixKind P w)) a xs := by
  obtain ⟨z, y, xs, r, o, es, ep, h1, h2, h3, h4, h5⟩ := (show ObjOk P w H h a (.dT kvs) from rd_of ok e)
  refine ⟨z, y, xs, r, o, es, ep, h1, h2, h3, h4, fun x hx => ?_, h5⟩
  have all : ∀ {l : List (List Key × V)} {m : List (List Key × Addr × Value)}, KT H l m → ∀ x ∈ m, (tupleKind (mixKind P w)).is h x.1 x.2.1 := by
    intro l m q
    induction q with
    | nil => intro x hx; exact nomatch hx
    | @cons p q ps qs hq t ih =>
      intro x hx
      rcases List.mem_cons.mp hx with e | hx
      · subst e
        exact key_of ok (by rw [← hq.1]; exact hq.2.1)
      · exact ih x hx
  exact all r x hx
theorem dt_of {kvs : List (List Key × V)} (ok : HOk P w H h) (e : H a = some (.dT kvs)) : kvs.length ≤ sizeLine ∧ (a == sysModules) = false ∧
    ∃ xs, KT H kvs xs ∧ h.DictOfH (tupleKind (mixKind P w)) a xs := dt_rd ok (.inl e)
end
def DGet (H : Hp) (a : Addr) (y : V) (r : Option V) : Prop :=
  (∃ kvs k, Rd H a (.dK kvs) ∧ y = kV k ∧ r = valV kvs k) ∨ ∃ kvs k b, Rd H a (.dT kvs) ∧ y = .ref b ∧ H b = some (.tup (k.map kV)) ∧ r = valV kvs k
def DPut (H : Hp) (a : Addr) (y v : V) (H' : Hp) : Prop :=
  (∃ kvs k, H a = some (.dK kvs) ∧ y = kV k ∧ kvs.length < sizeLine ∧ H' = upd H a (.dK (putK kvs k v))) ∨
  ∃ kvs k b, H a = some (.dT kvs) ∧ y = .ref b ∧ H b = some (.tup (k.map kV)) ∧ kvs.length < sizeLine ∧ H' = upd H a (.dT (putK kvs k v))
theorem DGet.k {H : Hp} {a : Addr} {kvs : List (Key × V)} {k : Key} (e : H a = some (.dK kvs)) : DGet H a (kV k) (valV kvs k) := .inl ⟨kvs, k, .inl e, rfl, rfl⟩
theorem DPut.k {H : Hp} {a : Addr} {kvs : List (Key × V)} {k : Key} {v : V} (e : H a = some (.dK kvs)) (hl : kvs.length < sizeLine) : DPut H a (kV k) v (upd H a (.dK (putK kvs k v))) := .inl ⟨kvs, k, e, rfl, hl, rfl⟩
section
variable {X : Cx} {pins : List (Addr × Obj)} {σ : St} {H : Hp} {s : Shared} {a : Addr} {y v : V} {u r : Value} {o : Option V} {A : Around} {E : Value → Shared → Prop}
theorem Inv.big (I : Inv X pins σ H s) : sysModules < s.heap.objs.size := by
  have h : mainGlobals < s.heap.objs.size := (I.mod.glob.keeps I.bk).lt
  exact Nat.lt_trans (by decide) h
theorem d_getItem {Q : Value → Shared → Prop} (hu : A.units + 1 < cLine) (I : Inv X pins σ H s) (g : DGet H a y (some v)) (ry : RelV y u) (h : ∀ w' s', Inv X pins σ H s' → RelV v w' → Q w' s') :
    wpAny (model X.prog X.w) A (getItem (.ref a) u) Q E s := by
  rcases g with ⟨kvs, k, e, ey, l⟩ | ⟨kvs, k, b, e, ey, eb, l⟩
  · subst ey
    obtain ⟨z, hd, vs, rel, dd⟩ := dk_rd I.hok e
    obtain ⟨w', hw, rw'⟩ := RelO.some_of (v := v) (o := valueAt vs k) (by rw [l]; exact rel.val k)
    exact wpAny_getItem_of (kV_is ry) dd.mapOf hw (h w' _ (I.tok _) rw')
  · subst ey
    cases (show u = Value.ref b from ry)
    obtain ⟨z, hd, xs, rel, dd⟩ := dt_rd I.hok e
    obtain ⟨w', hw, rw'⟩ := RelO.some_of (v := v) (o := (atKey xs k).map (·.2)) (by rw [l]; exact rel.val k)
    obtain ⟨p, hp, hp2⟩ := Option.map_eq_some_iff.mp hw
    refine wpAny_getItem_heap (tupleKind_room_in1 hu) (key_of I.hok eb) dd hp ?_
    rw [hp2]
    exact h w' _ (I.tok _) rw'
theorem d_in {Q : Value → Shared → Prop} (hu : A.units + 1 < cLine) (I : Inv X pins σ H s) (g : DGet H a y o) (ry : RelV y u) (h : ∀ s', Inv X pins σ H s' → Q (.bool o.isSome) s') :
    wpAny (model X.prog X.w) A (compareOp .In u (.ref a)) Q E s := by
  rcases g with ⟨kvs, k, e, ey, l⟩ | ⟨kvs, k, b, e, ey, eb, l⟩
  · subst ey
    obtain ⟨z, hd, vs, rel, dd⟩ := dk_rd I.hok e
    refine wpAny_in_of (kV_is ry) hd dd.mapOf ?_
    rw [← (rel.val k).isSome_eq, ← l]
    exact h _ (I.tok _)
  · subst ey
    cases (show u = Value.ref b from ry)
    obtain ⟨z, hd, xs, rel, dd⟩ := dt_rd I.hok e
    refine wpAny_in_heap (tupleKind_room_in1 hu) (key_of I.hok eb) hd dd ?_
    have q := (rel.val k).isSome_eq
    rw [Option.isSome_map] at q
    rw [← q, ← l]
    exact h _ (I.tok _)
theorem d_notIn {Q : Value → Shared → Prop} (hu : A.units + 1 < cLine) (I : Inv X pins σ H s) (g : DGet H a y o) (ry : RelV y u) (h : ∀ s', Inv X pins σ H s' → Q (.bool (!o.isSome)) s') :
    wpAny (model X.prog X.w) A (compareOp .NotIn u (.ref a)) Q E s := by
  rcases g with ⟨kvs, k, e, ey, l⟩ | ⟨kvs, k, b, e, ey, eb, l⟩
  · subst ey
    obtain ⟨z, hd, vs, rel, dd⟩ := dk_rd I.hok e
    refine wpAny_notIn_of (kV_is ry) hd dd.mapOf ?_
    rw [← (rel.val k).isSome_eq, ← l]
    exact h _ (I.tok _)
  · subst ey
    cases (show u = Value.ref b from ry)
    obtain ⟨z, hd, xs, rel, dd⟩ := dt_rd I.hok e
    refine wpAny_notIn_heap (tupleKind_room_in1 hu) (key_of I.hok eb) hd dd ?_
    have q := (rel.val k).isSome_eq
    rw [Option.isSome_map] at q
    rw [← q, ← l]
    exact h _ (I.tok _)
theorem d_write {h' : Heap} {t' : Nat} {ob : HO} (I : Inv X pins σ H s) (mu : Mut (H a)) (hs : Heap.SameBut a s.heap h') (he : ∃ q, h'.get? a = some q) (new : ObjOk X.prog X.w (upd H a ob) h' a ob) :
    Inv X pins σ (upd H a ob) { s with heap := h', toks := t' } :=
  I.write (x := a) (e := a) mu (.inl rfl) (fun b q hb z => (hs.2 b hb).trans z) he new
theorem dk_new {P : Program} {w : World} {H' : Hp} {h' : Heap} {kvs : List (Key × V)} {vs : List (Key × Value)} (z : kvs.length ≤ sizeLine) (hd : (a == sysModules) = false) (rel : KV kvs vs) (dd : h'.DictOf (mixKind P w) a vs) :
    ObjOk P w H' h' a (.dK kvs) := ⟨z, hd, vs, rel, dd⟩
theorem d_setItem {H' : Hp} {Q : Unit → Shared → Prop} (hu : A.units + 1 < cLine) (I : Inv X pins σ H s) (g : DPut H a y v H') (ry : RelV y u) (rv : RelV v r) (h : ∀ s', Inv X pins σ H' s' → Q () s') :
    wpAny (model X.prog X.w) A (setItem (.ref a) u r) Q E s := by
  rcases g with ⟨kvs, k, e, ey, l, eH⟩ | ⟨kvs, k, b, e, ey, eb, l, eH⟩
  · subst ey eH
    obtain ⟨z, hd, vs, rel, dd⟩ := dk_of I.hok e
    have hz : vs.length ≤ sizeLine := by rw [← rel.length]; exact z
    have hl : (putK kvs k v).length ≤ sizeLine := by have := length_putK kvs k v; omega
    refine wpAny_setItem_pairs (hsz := hz) (kV_is ry) dd fun h' dd' hs => h _ ?_
    have he : ∃ q, h'.get? a = some q := let ⟨q, _, _, hq, _⟩ := dd'; ⟨q, hq⟩
    exact d_write I (by rw [e]; exact True.intro) hs he (dk_new hl hd (rel.put k rv) dd')
  · subst ey eH
    cases (show u = Value.ref b from ry)
    obtain ⟨z, hd, xs, rel, dd⟩ := dt_of I.hok e
    have hz : xs.length ≤ sizeLine := by rw [← Paired.length rel]; exact z
    have hl : (putK kvs k v).length ≤ sizeLine := by have := length_putK kvs k v; omega
    refine wpAny_setItem_heap (hsz := hz) (tupleKind_room_in1 hu) (key_of I.hok eb) dd fun h' dd' hs => h _ ?_
    obtain ⟨q, es, ep, hq, h2, h3, h4, _, h5⟩ := dd'
    refine d_write I (by rw [e]; exact True.intro) hs ⟨q, hq⟩ ⟨hl, hd, _, (rel.put k eb rv).keeps fun c ys ec => ?_, q, es, ep, hq, h2, h3, h4, h5⟩
    rw [upd_ne (ne_of ec e (fun z => nomatch z))]
    exact ec
end
section
variable {X : Cx} {pins : List (Addr × Obj)} {σ : St} {H : Hp} {s : Shared} {a : Addr} {kvs : List (Key × V)} {k : Key} {u : Value} {A : Around} {E : Value → Shared → Prop}
theorem d_delItem {Q : Unit → Shared → Prop} (I : Inv X pins σ H s) (e : H a = some (.dK kvs)) (ry : RelV (kV k) u) (l : (valV kvs k).isSome = true) (h : ∀ s', Inv X pins σ (upd H a (.dK (dropK kvs k))) s' → Q () s') :
    wpAny (model X.prog X.w) A (delItem (.ref a) u) Q E s := by
  obtain ⟨z, hd, vs, rel, dd⟩ := dk_of I.hok e
  refine wpAny_delItem_slot dd.typeIs (by decide) PySem.F.slot_dict_delitem
    (call_meetsIn PySem.F.slot_dict_delitem dd.typeIs PySem.F.entry_dict_delitem (PySem.F.args_dict_delitem_2 _ _) (meets_dict_delitem_pairs (mixKind X.prog X.w) a (kV_is ry)) ⟨vs, dd, by rw [← rel.length]; exact z, by rw [← (rel.val k).isSome_eq]; exact l, fun h' dd' hs => h _ ?_⟩)
  have he : ∃ q, h'.get? a = some q := let ⟨q, _, _, hq, _⟩ := dd'; ⟨q, hq⟩
  exact d_write I (by rw [e]; exact True.intro) hs he (dk_new (Nat.le_trans (dropK_le kvs k) z) hd (rel.drop k) dd')
theorem d_pop {v : V} {more : List Value} {Q : Value → Shared → Prop} (I : Inv X pins σ H s) (e : H a = some (.dK kvs)) (ry : RelV (kV k) u) (l : valV kvs k = some v) (hm : more = [] ∨ ∃ x, more = [x])
    (h : ∀ w' s', Inv X pins σ (upd H a (.dK (dropK kvs k))) s' → RelV v w' → Q w' s') : wpAny (model X.prog X.w) A (call (.builtin "dict.pop") (.ref a :: u :: more)) Q E s := by
  obtain ⟨z, hd, vs, rel, dd⟩ := dk_of I.hok e
  obtain ⟨w', hw, rw'⟩ := RelO.some_of (v := v) (o := valueAt vs k) (by rw [← l]; exact rel.val k)
  have hp : (keyPart u).isSome = true := by
    cases k with
    | inl i => obtain ⟨t, q⟩ := (show ∃ t, u = Value.int i t from ry); subst q; rfl
    | inr x => obtain ⟨t, q⟩ := (show ∃ t, u = Value.str x t from ry); subst q; rfl
  have ha : argsOk "dict.pop" ⟨.ref a :: u :: more, []⟩ := by
    rcases hm with q | ⟨x, q⟩
    · subst q; exact PySem.F.args_dict_pop_2 _ _
    · subst q; exact PySem.F.args_dict_pop_3 _ _ _
  refine call_meetsIn PySem.F.slot_dict_pop dd.typeIs PySem.F.entry_dict_pop ha (meets_dict_pop_there (mixKind X.prog X.w) a (kV_is ry) more hm hp)
    ⟨vs, w', dd, by rw [← rel.length]; exact z, hw, fun h' dd' hs => h w' _ ?_ rw'⟩
  have he : ∃ q, h'.get? a = some q := let ⟨q, _, _, hq, _⟩ := dd'; ⟨q, hq⟩
  exact d_write I (by rw [e]; exact True.intro) hs he (dk_new (Nat.le_trans (dropK_le kvs k) z) hd (rel.drop k) dd')
theorem d_popD {r : Value} {Q : Value → Shared → Prop} (I : Inv X pins σ H s) (e : H a = some (.dK kvs)) (ry : RelV (kV k) u) (l : valV kvs k = none) (h : ∀ s', Inv X pins σ H s' → Q r s') :
    wpAny (model X.prog X.w) A (call (.builtin "dict.pop") [.ref a, u, r]) Q E s := by
  obtain ⟨z, hd, vs, rel, dd⟩ := dk_of I.hok e
  have hn : valueAt vs k = none := RelO.none_of (by rw [← l]; exact rel.val k)
  have hp : (keyPart u).isSome = true := by
    cases k with
    | inl i => obtain ⟨t, q⟩ := (show ∃ t, u = Value.int i t from ry); subst q; rfl
    | inr x => obtain ⟨t, q⟩ := (show ∃ t, u = Value.str x t from ry); subst q; rfl
  exact call_meetsIn PySem.F.slot_dict_pop dd.typeIs PySem.F.entry_dict_pop (PySem.F.args_dict_pop_3 _ _ _) (meets_dict_pop_default (mixKind X.prog X.w) a (kV_is ry) hd hp r) ⟨vs, dd, hn, h _ (I.tok _)⟩
theorem d_len {Q : Value → Shared → Prop} (I : Inv X pins σ H s) (e : Rd H a (.dK kvs)) (h : ∀ t s', Inv X pins σ H s' → Q (.int kvs.length t) s') : wpAny (model X.prog X.w) A (call (.builtin "len") [.ref a]) Q E s := by
  obtain ⟨z, hd, vs, rel, dd⟩ := dk_rd I.hok e
  refine call_len_dict hd dd (by rw [← rel.length]; rw [sizeLine_eq] at z; omega) ?_
  rw [← rel.length]
  exact h _ _ (I.tok _)
end
def NoSl (i : Expr) : Prop := ∀ ov iv, subscripted i false ov iv = operate [ov, iv] (getItem ov iv)
theorem subD_of {prog : Program} {w : World} {A : Around} {E : Value → Shared → Prop} {s : Shared} {env : Env} {value slice : Expr} {pos : Pos} {T id : String} {Q : Value → Shared → Prop}
    (hl : typeLookup (.type T) "__getitem__" = pure (some (.builtin id))) (hs : NoSl slice)
    (h : wpAny (model prog w) A (eval value env) (fun o s₁ => wpAny (model prog w) A (eval slice env) (fun i s₂ => s₂.TypeIs o T ∧ wpAny (model prog w) A (getItem o i) Q E s₂) E s₁) E s) :
    wpAny (model prog w) A (eval (.Subscript value slice pos) env) Q E s := by
  refine Subscript_ (wpAny_mono h (fun o s₁ h₁ => wpAny_mono h₁ (fun i s₂ h₂ => ?_) fun _ _ x => x) fun _ _ x => x)
  obtain ⟨hT, h₂⟩ := h₂
  unfold subscriptTail
  refine wpAny_bind ?_
  rw [getitemInPython_of_ne hT.not_modules]
  refine wpAny_bind (wpAny_specialOf hT hl ?_)
  have fin : wpAny (model prog w) A (subscripted slice false o i) (fun r s₃ => wpAny (model prog w) A (letTemporaryGo value o r >>= fun _ => pure r) Q E s₃) E s₂ := by
    rw [hs o i]
    exact wpAny_operating (wpAny_mono h₂ (fun r s₃ h₃ => wpAny_bind (wpAny_letTemporaryGo (wpAny_pure h₃))) fun _ _ x => x)
  first
    | exact wpAny_pure (wpAny_bind fin)
    | exact wpAny_bind (wpAny_pure (wpAny_bind fin))
    | exact wpAny_bind fin
theorem dict_typeIs {X : Cx} {pins : List (Addr × Obj)} {σ : St} {H : Hp} {s : Shared} {a : Addr} {y : V} {o : Option V} (I : Inv X pins σ H s) (g : DGet H a y o) : s.TypeIs (.ref a) "dict" := by
  rcases g with ⟨kvs, k, e, _, _⟩ | ⟨kvs, k, b, e, _, _, _⟩
  · obtain ⟨_, _, vs, _, dd⟩ := dk_rd I.hok e
    exact dd.typeIs
  · obtain ⟨_, _, xs, _, dd⟩ := dt_rd I.hok e
    exact dd.typeIs
def tDGet (td ty : TE) : TE := fun σ H Q => td σ H fun x H1 => ty σ H1 fun y H2 => ∃ a v, x = .ref a ∧ DGet H2 a y (some v) ∧ Q v H2
def tDIn (ty td : TE) : TE := fun σ H Q => ty σ H fun y H1 => td σ H1 fun x H2 => ∃ a o, x = .ref a ∧ DGet H2 a y o ∧ Q (.bl o.isSome) H2
def tDNotIn (ty td : TE) : TE := fun σ H Q => ty σ H fun y H1 => td σ H1 fun x H2 => ∃ a o, x = .ref a ∧ DGet H2 a y o ∧ Q (.bl (!o.isSome)) H2
def sDPut (td ty tv : TE) : TS := fun D σ H => tv σ H fun v H1 => td σ H1 fun x H2 => ty σ H2 fun y H3 => ∃ a H4, x = .ref a ∧ DPut H3 a y v H4 ∧ D.nx σ H4
section
variable {X : Cx} {o i e value : Expr} {pos pos' tpos : Pos} {td ty tv : TE}
theorem pe_dget (hu : X.A.units + 1 < cLine) (ho : PE X o td) (hi : PE X i ty) (hs : NoSl i) : PE X (.Subscript o i pos) (tDGet td ty) := by
  intro pins s σ H Q I h
  refine subD_of PySem.F.slot_dict_getitem.lookup hs (thn (ho pins s σ H _ I h) fun u s1 ⟨x, H1, I1, rx, q1⟩ => thn (hi pins s1 σ H1 _ I1 q1) fun iv s2 ⟨y, H2, I2, ry, a, v, ex, g, q2⟩ => ?_)
  subst ex
  obtain rfl : u = Value.ref a := rx
  exact ⟨dict_typeIs I2 g, d_getItem hu I2 g ry fun w' s3 I3 rw' => ⟨v, H2, I3, rw', q2⟩⟩
theorem pc_din (hu : X.A.units + 1 < cLine) (hi : PE X i ty) (ho : PE X o td) : PC X .In i o (tDIn ty td) := by
  intro pins s σ H Q I h
  refine thn (hi pins s σ H _ I h) fun iv s1 ⟨y, H1, I1, ry, q1⟩ => thn (ho pins s1 σ H1 _ I1 q1) fun u s2 ⟨x, H2, I2, rx, a, ov, ex, g, q2⟩ => ?_
  subst ex
  obtain rfl : u = Value.ref a := rx
  exact d_in hu I2 g ry fun s3 I3 => ⟨.bl ov.isSome, H2, I3, rfl, q2⟩
theorem pc_dnotin (hu : X.A.units + 1 < cLine) (hi : PE X i ty) (ho : PE X o td) : PC X .NotIn i o (tDNotIn ty td) := by
  intro pins s σ H Q I h
  refine thn (hi pins s σ H _ I h) fun iv s1 ⟨y, H1, I1, ry, q1⟩ => thn (ho pins s1 σ H1 _ I1 q1) fun u s2 ⟨x, H2, I2, rx, a, ov, ex, g, q2⟩ => ?_
  subst ex
  obtain rfl : u = Value.ref a := rx
  exact d_notIn hu I2 g ry fun s3 I3 => ⟨.bl (!ov.isSome), H2, I3, rfl, q2⟩
theorem ps_dput (hu : X.A.units + 1 < cLine) (ho : PE X o td) (hi : PE X i ty) (hv : PE X value tv) (hs : swapsWith value (some (.Subscript o i pos')) pos.line X.env = pure false) :
    PS X (.Assign [.Subscript o i pos'] value pos) (sDPut td ty tv) := by
  intro pins s σ H D I h
  refine wpAny_Assign_Subscript (thn (hv pins s σ H _ I h) fun r s1 ⟨v, H1, I1, rv, q1⟩ => thn (ho pins s1 σ H1 _ I1 q1) fun u s2 ⟨x, H2, I2, rx, q2⟩ => thn (hi pins s2 σ H2 _ I2 q2) fun iv s3 ⟨y, H3, I3, ry, a, H4, ex, g, q3⟩ => ?_) hs
  subst ex
  obtain rfl : u = Value.ref a := rx
  exact d_setItem hu I3 g ry rv fun s4 I4 => ⟨σ, H4, I4, q3⟩
end
theorem dk_empty {P : Program} {w : World} {H : Hp} (h : Heap) (hb : sysModules < h.objs.size) : ObjOk P w H (h.push { cls := .type "dict", data := .dict #[] }) h.objs.size (.dK []) :=
  ⟨Nat.zero_le _, beq_eq_false_iff_ne.mpr (Ne.symm (Nat.ne_of_lt hb)), [], .nil, Heap.DictOf.new h⟩
def tDNewK : TE := fun _ H Q => ∀ p, H p = none → Q (.ref p) (upd H p (.dK []))
section
variable {X : Cx} {pos : Pos}
theorem pe_dnewK : PE X (.Dict [] [] pos) tDNewK := fun pins s σ H Q I h =>
  wpAny_Dict_empty ⟨.ref s.heap.objs.size, _, I.laid (a := s.heap.objs.size) (o := .dK []) (t' := s.toks) (fun _ _ q => Heap.get?_push_of_some _ q) (Nat.le_refl _) (dk_empty s.heap I.big), rfl, h _ (I.hok.fresh (Nat.le_refl _))⟩
end
def tPairs : List (TE × TE) → St → Hp → (List (V × V) → Hp → Prop) → Prop
  | [], _, H, Q => Q [] H
  | (tk, tv) :: r, σ, H, Q => tk σ H fun x H1 => tv σ H1 fun y H2 => tPairs r σ H2 fun ps H3 => Q ((x, y) :: ps) H3
abbrev VV : List (V × V) → List (Value × Value) → Prop := Paired fun p q => RelV p.1 q.1 ∧ RelV p.2 q.2
def PPs (X : Cx) (pos : Pos) (keys : List (Option Expr)) (values : List Expr) (trs : List (TE × TE)) : Prop :=
  ∀ (pins : List (Addr × Obj)) (s : Shared) (σ : St) (H : Hp) (Q : List (V × V) → Hp → Prop), Inv X pins σ H s → tPairs trs σ H Q →
    wpAny (model X.prog X.w) X.A (evalPairs (pairTrees keys values X.env pos)) (fun vs s' => ∃ ps H', Inv X pins σ H' s' ∧ VV ps vs ∧ Q ps H') X.xe s
theorem pps_nil {X : Cx} {pos : Pos} : PPs X pos [] [] [] := fun pins s σ H Q I h => pairTrees_nil_walk ⟨[], H, I, .nil, h⟩
theorem pps_cons {X : Cx} {pos : Pos} {k v : Expr} {ks : List (Option Expr)} {vs : List Expr} {tk tv : TE} {trs : List (TE × TE)} (hk : PE X k tk) (hv : PE X v tv) (hr : PPs X pos ks vs trs) :
    PPs X pos (some k :: ks) (v :: vs) ((tk, tv) :: trs) := fun pins s σ H Q I h =>
  pairTrees_cons_walk (thn (hk pins s σ H _ I h) fun u s1 ⟨x, H1, I1, rx, q1⟩ => thn (hv pins s1 σ H1 _ I1 q1) fun w2 s2 ⟨y, H2, I2, ry, q2⟩ =>
    thn (hr pins s2 σ H2 _ I2 q2) fun ws s3 ⟨ps, H3, I3, rel, q3⟩ => ⟨(x, y) :: ps, H3, I3, .cons ⟨rx, ry⟩ rel, q3⟩)
def mergeK (kvs more : List (Key × V)) : List (Key × V) := more.foldl (fun acc kv => putK acc kv.1 kv.2) kvs
theorem KV.merge : ∀ {more : List (Key × V)} {rs : List (Key × Value)} {kvs : List (Key × V)} {vs : List (Key × Value)}, KV more rs → KV kvs vs → KV (mergeK kvs more) (merged vs rs) := by
  intro more rs kvs vs r
  unfold KV at r
  induction r generalizing kvs vs with
  | nil => intro q; exact q
  | @cons p q ps qs h t ih =>
    intro r0
    have e : KV (putK kvs p.1 p.2) (stored vs q.1 q.2) := by
      have := r0.put p.1 h.2
      rw [← h.1]; exact this
    exact ih e
theorem length_mergeK : ∀ (more kvs : List (Key × V)), (mergeK kvs more).length ≤ kvs.length + more.length
  | [], kvs => by show kvs.length ≤ kvs.length + 0; omega
  | p :: r, kvs => by
    have h1 := length_mergeK r (putK kvs p.1 p.2)
    have h2 := length_putK kvs p.1 p.2
    show (mergeK (putK kvs p.1 p.2) r).length ≤ _
    rw [List.length_cons]; omega
theorem carries_of {P : Program} {w : World} : ∀ {kvs : List (Key × V)} {ws : List (Value × Value)}, VV (kvs.map fun kv => (kV kv.1, kv.2)) ws → ∃ rs, Carries (mixKind P w) ws rs ∧ KV kvs rs
  | [], _, r => by rw [List.map_nil] at r; cases r; exact ⟨[], True.intro, .nil⟩
  | p :: kvs, _, r => by
    rw [List.map_cons] at r
    cases r with
    | @cons a b as bs h t =>
      obtain ⟨rs, c, q⟩ := carries_of (P := P) (w := w) t
      obtain ⟨b1, b2⟩ := b
      exact ⟨(p.1, b2) :: rs, ⟨kV_is h.1, rfl, c⟩, .cons ⟨rfl, h.2⟩ q⟩
def tDisp (trs : List (TE × TE)) : TE := fun σ H Q => ∀ p, H p = none → tPairs trs σ (upd H p (.dK [])) fun ps H2 => H2 p = some (.dK []) ∧ ∃ kvs : List (Key × V), ps = kvs.map (fun kv => (kV kv.1, kv.2)) ∧ kvs.length ≤ 15 ∧ Q (.ref p) (upd H2 p (.dK (mergeK [] kvs)))
theorem pe_disp {X : Cx} {pos : Pos} {keys : List (Option Expr)} {values : List Expr} {trs : List (TE × TE)} (h : PPs X pos keys values trs) (hall : keys.all (·.isSome) = true) (hl : keys.length = values.length) (h0 : keys ≠ [])
    (h15 : keys.length ≤ 15) : PE X (.Dict keys values pos) (tDisp trs) := by
  intro pins s σ H Q I q
  have hn := I.hok.fresh (Nat.le_refl s.heap.objs.size)
  have I1 := I.laid (a := s.heap.objs.size) (o := .dK []) (h' := s.heap.push { cls := .type "dict", data := .dict #[] }) (t' := s.toks) (fun _ _ q => Heap.get?_push_of_some _ q) (Nat.le_refl _) (dk_empty s.heap I.big)
  refine wpAny_Dict_walk (knd := mixKind X.prog X.w) hall hl h0 h15 (thn (h pins _ σ _ _ I1 (q _ hn)) fun ws s2 ⟨ps, H2, I2, rel, e, kvs, ep, lk, q2⟩ => ?_)
  subst ep
  obtain ⟨rs, c, rk⟩ := carries_of (P := X.prog) (w := X.w) rel
  obtain ⟨z, hd, vs0, r0, dd⟩ := dk_of I2.hok e
  cases r0
  refine ⟨rs, c, dd, fun h' dd' hs => ⟨.ref s.heap.objs.size, _, ?_, rfl, q2⟩⟩
  have hz : (mergeK [] kvs).length ≤ sizeLine := by
    have h1 := length_mergeK kvs []
    rw [List.length_nil] at h1
    rw [sizeLine_eq]; omega
  have he : ∃ q, h'.get? s.heap.objs.size = some q := let ⟨q, _, _, hq, _⟩ := dd'; ⟨q, hq⟩
  exact d_write I2 (by rw [e]; exact True.intro) hs he (dk_new hz hd (rk.merge .nil) dd')
structure M1 (X : Cx) (o : Expr) (m : Str) (apos : Pos) (e : Expr) (cpos : Pos) : Prop where
  base : attributeBase o m X.env (eval o X.env) = eval o X.env
  few : ((backTo cpos (starEach [e] X.env)).all (fun x => !x.1) && (backToKw cpos (keywordEach [] X.env)).all (fun x => x.1.isSome)
    && decide (([e] : List Expr).length + ([] : List Keyword).length + (if ([] : List Keyword).isEmpty then 0 else 1) < 30)) = true
  line : (apos.endLine == cpos.line) = true
  trees : backTo cpos (starEach [e] X.env) = [(false, eval e X.env)]
structure M2 (X : Cx) (o : Expr) (m : Str) (apos : Pos) (e f : Expr) (cpos : Pos) : Prop where
  base : attributeBase o m X.env (eval o X.env) = eval o X.env
  few : ((backTo cpos (starEach [e, f] X.env)).all (fun x => !x.1) && (backToKw cpos (keywordEach [] X.env)).all (fun x => x.1.isSome)
    && decide (([e, f] : List Expr).length + ([] : List Keyword).length + (if ([] : List Keyword).isEmpty then 0 else 1) < 30)) = true
  line : (apos.endLine == cpos.line) = true
  trees : backTo cpos (starEach [e, f] X.env) = [(false, eval e X.env), (false, eval f X.env)]
def IsD (H : Hp) (a : Addr) : Prop := (∃ kvs, Rd H a (.dK kvs)) ∨ ∃ kvs, Rd H a (.dT kvs)
theorem isD_at {X : Cx} {pins : List (Addr × Obj)} {σ : St} {H : Hp} {s : Shared} {a : Addr} (I : Inv X pins σ H s) (d : IsD H a) :
    s.TypeIs (.ref a) "dict" ∧ (∀ b, Value.ref a = .ref b → ∃ ob, s.heap.get? b = some ob ∧ ob.dict = none) ∧ (a == sysModules) = false := by
  rcases d with ⟨kvs, e⟩ | ⟨kvs, e⟩
  · obtain ⟨_, hd, vs, _, dd⟩ := dk_rd I.hok e
    refine ⟨dd.typeIs, fun b q => ?_, hd⟩
    cases q
    obtain ⟨ob, _, _, h1, h2, _⟩ := dd
    exact ⟨ob, h1, h2.2.1⟩
  · obtain ⟨_, hd, xs, _, dd⟩ := dt_rd I.hok e
    refine ⟨dd.typeIs, fun b q => ?_, hd⟩
    cases q
    obtain ⟨ob, _, _, h1, h2, _⟩ := dd
    exact ⟨ob, h1, h2.2.1⟩
section
variable {X : Cx} {pins : List (Addr × Obj)} {σ : St} {H : Hp} {s : Shared} {a : Addr} {y d : V} {u r : Value} {o : Option V} {A : Around} {E : Value → Shared → Prop}
end
def tDPop1 (td ty : TE) : TE := fun σ H Q => td σ H fun x H1 => ∃ a, x = .ref a ∧ IsD H1 a ∧ ty σ H1 fun y H2 => ∃ kvs k v, H2 a = some (.dK kvs) ∧ y = kV k ∧ valV kvs k = some v ∧ Q v (upd H2 a (.dK (dropK kvs k)))
def tDPop2 (td ty tx : TE) : TE := fun σ H Q => td σ H fun x H1 => ∃ a, x = .ref a ∧ IsD H1 a ∧ ty σ H1 fun y H2 => tx σ H2 fun z H3 => ∃ kvs k, H3 a = some (.dK kvs) ∧ y = kV k ∧
  (∀ v, valV kvs k = some v → Q v (upd H3 a (.dK (dropK kvs k)))) ∧ (valV kvs k = none → Q z H3)
section
variable {X : Cx} {o e f : Expr} {apos cpos : Pos} {td ty tx : TE}
theorem pe_dpop1 (ho : PE X o td) (he : PE X e ty) (m : M1 X o "pop" apos e cpos) : PE X (.Call (.Attribute o "pop" apos) [e] [] cpos) (tDPop1 td ty) := by
  intro pins s σ H Q I h
  refine wpAny_Call_method m.base m.few m.line PySem.F.plainAttrs_dict PySem.F.slot_dict_pop PySem.F.type_dict_pop (thn (ho pins s σ H _ I h) fun u s1 ⟨x, H1, I1, rx, a, ex, d, q1⟩ => ?_)
  subst ex
  obtain rfl : u = Value.ref a := rx
  obtain ⟨t1, t2, _⟩ := isD_at I1 d
  refine ⟨t1, t2, ?_⟩
  rw [m.trees]
  refine Calls.callWith_builtin rfl (Calls.evalArgs_plain (Calls.spliced_cons (thn (he pins s1 σ H1 _ I1 q1) fun iv s2 ⟨y, H2, I2, ry, kvs, k, v, ea, ey, l, q2⟩ => Calls.spliced_nil ?_)))
  subst ey
  exact d_pop I2 ea ry l (.inl rfl) fun w' s3 I3 rw' => ⟨v, _, I3, rw', q2⟩
theorem pe_dpop2 (ho : PE X o td) (he : PE X e ty) (hf : PE X f tx) (m : M2 X o "pop" apos e f cpos) : PE X (.Call (.Attribute o "pop" apos) [e, f] [] cpos) (tDPop2 td ty tx) := by
  intro pins s σ H Q I h
  refine wpAny_Call_method m.base m.few m.line PySem.F.plainAttrs_dict PySem.F.slot_dict_pop PySem.F.type_dict_pop (thn (ho pins s σ H _ I h) fun u s1 ⟨x, H1, I1, rx, a, ex, d, q1⟩ => ?_)
  subst ex
  obtain rfl : u = Value.ref a := rx
  obtain ⟨t1, t2, _⟩ := isD_at I1 d
  refine ⟨t1, t2, ?_⟩
  rw [m.trees]
  refine Calls.callWith_builtin rfl (Calls.evalArgs_plain (Calls.spliced_cons (thn (he pins s1 σ H1 _ I1 q1) fun iv s2 ⟨y, H2, I2, ry, q2⟩ =>
    Calls.spliced_cons (thn (hf pins s2 σ H2 _ I2 q2) fun fv s3 ⟨z, H3, I3, rz, kvs, k, ea, ey, q3, q4⟩ => Calls.spliced_nil ?_))))
  subst ey
  cases l : valV kvs k with
  | some v => exact d_pop I3 ea ry l (.inr ⟨fv, rfl⟩) fun w' s4 I4 rw' => ⟨v, _, I4, rw', q3 v l⟩
  | none => exact d_popD I3 ea ry l fun s4 I4 => ⟨z, H3, I4, rz, q4 l⟩
end
section
variable {X : Cx} {pins : List (Addr × Obj)} {σ : St} {H : Hp} {s : Shared} {a : Addr} {kvs : List (Key × V)} {A : Around} {E : Value → Shared → Prop}
end
section
variable {X : Cx} {pins : List (Addr × Obj)} {σ : St} {H : Hp} {s : Shared} {a : Addr} {y : V} {u : Value} {A : Around} {E : Value → Shared → Prop}
end
end L2
namespace L2
open PySem PySem.Spec PyProof.Rows
section
variable {X : Cx}
theorem call_lenD : CallR X (.builtin "len") (fun xs H Q => ∃ a kvs, xs = [V.ref a] ∧ H a = some (.dK kvs) ∧ Q (.int kvs.length) H) := by
  intro pins s σ H xs us Q I r h
  obtain ⟨a, kvs, rfl, ha, q⟩ := h
  obtain ⟨u, rfl, ru⟩ := vals1 r
  cases ru
  exact d_len I (.inl ha) fun t s' I' => ⟨.int kvs.length, H, I', ⟨t, rfl⟩, q⟩
end
section
variable {κ : Type} [DecidableEq κ]
theorem nd_snoc : ∀ {l : List κ} {k : κ}, l.Nodup → ¬ k ∈ l → (l ++ [k]).Nodup
  | [], k, _, _ => by simp
  | a :: r, k, h, hk => by
    obtain ⟨h1, h2⟩ := List.nodup_cons.mp h
    show (a :: (r ++ [k])).Nodup
    refine List.nodup_cons.mpr ⟨fun m => ?_, nd_snoc h2 fun m => hk (List.mem_cons.mpr (Or.inr m))⟩
    rcases List.mem_append.mp m with q | q
    · exact h1 q
    · exact hk (List.mem_cons.mpr (Or.inl (List.mem_singleton.mp q).symm))
theorem dropK_pos {p : κ × V} {r : List (κ × V)} {k : κ} (e : p.1 = k) : dropK (p :: r) k = dropK r k := by
  unfold dropK
  rw [List.filter_cons, if_neg (by simp [e])]
theorem dropK_neg {p : κ × V} {r : List (κ × V)} {k : κ} (e : ¬ p.1 = k) : dropK (p :: r) k = p :: dropK r k := by
  unfold dropK
  rw [List.filter_cons, if_pos (by simp [e])]
theorem dropK_no : ∀ {kvs : List (κ × V)} {k : κ}, ¬ k ∈ kvs.map (·.1) → dropK kvs k = kvs
  | [], _, _ => rfl
  | p :: r, k, h => by
    have h' : ¬ k ∈ r.map (·.1) := fun m => by
      obtain ⟨q, hq, e⟩ := List.mem_map.mp m
      exact h (List.mem_map.mpr ⟨q, List.mem_cons.mpr (Or.inr hq), e⟩)
    rw [dropK_neg fun e => h (List.mem_map.mpr ⟨p, List.mem_cons.mpr (Or.inl rfl), e⟩), dropK_no h']
end
end L2
set_option Elab.async false
set_option linter.all false
set_option maxRecDepth 100000
namespace L2
open PySem PySem.Spec PyProof.Rows
section
variable {X : Cx} {K : PySem.W.Frag}
end
end L2
set_option Elab.async false
set_option linter.all false
namespace L2
open PySem
end L2
set_option Elab.async false
set_option linter.all false
set_option maxRecDepth 100000
namespace L2
open PySem
def endStep (u : Int) (cs : List Int) : List Int := (List.range (cs.length - 1)).map fun (k : Nat) => (u + (k : Int)) * cs.getD k 0 + cs.getD (k + 1) 0
def endC (l : Nat) (u : Int) : Nat → List Int
  | 0 => List.replicate (l + 1) 1
  | n + 1 => endStep u (endC l u n)
def endF (l : Nat) (u : Int) : Int := (endC l u l).getD 0 0
def moStep (n : Nat) (cs : List Int) : List Int := 0 :: (List.range n).map fun (j : Nat) => cs.getD j 0 + ((j : Int) + 1) * cs.getD (j + 1) 0
def moC (n : Nat) : Nat → List Int
  | 0 => 1 :: List.replicate n 0
  | s + 1 => moStep n (moC n s)
def manyOf (n c : Int) : Int := if 1 ≤ c ∧ c ≤ n then (moC n.toNat n.toNat).getD c.toNat 0 else 0
def ext1 (r : List Int) : List (List Int) := (List.range (maxL r + 2).toNat).map fun (j : Nat) => r ++ [(j : Int)]
def allC : Nat → List (List Int)
  | 0 => [[0]]
  | n + 1 => (allC n).flatMap ext1
def rowFine (n : Nat) (r : List Int) : Bool := !r.isEmpty && decide (r.length ≤ 6) && decide (0 ≤ maxL r) && decide (maxL r + 1 ≤ (n : Int) + 1)
theorem chk6 : ((List.range 6).all fun m => decide ((allC m).length ≤ 203) && (allC m).all (rowFine m) && decide (endF (m + 1) 0 = ((allC m).length : Int)) && ((List.range (m + 2)).all fun c => decide (manyOf ((m : Int) + 1) (c : Int) = (((allC m).countP fun r => decide (maxL r + 1 = (c : Int)) : Nat) : Int)))) = true := by decide +kernel
theorem m6 {n : Int} (h1 : 1 ≤ n) (h6 : n ≤ 6) : (allC (n.toNat - 1)).length ≤ 203 ∧ (∀ r ∈ allC (n.toNat - 1), rowFine (n.toNat - 1) r = true) ∧ endF n.toNat 0 = ((allC (n.toNat - 1)).length : Int) ∧
    ∀ c : Int, manyOf n c = (((allC (n.toNat - 1)).countP fun r => decide (maxL r + 1 = c) : Nat) : Int) := by
  have q := List.all_eq_true.mp chk6 (n.toNat - 1) (List.mem_range.mpr (by omega))
  rw [Bool.and_eq_true, Bool.and_eq_true, Bool.and_eq_true, List.all_eq_true, List.all_eq_true] at q
  obtain ⟨⟨⟨q1, q2⟩, q3⟩, q4⟩ := q
  rw [show n.toNat - 1 + 1 = n.toNat by omega] at q3
  refine ⟨of_decide_eq_true q1, q2, of_decide_eq_true q3, fun c => ?_⟩
  by_cases hc : 0 ≤ c ∧ c ≤ n
  · have q5 := of_decide_eq_true (q4 c.toNat (List.mem_range.mpr (by omega)))
    rw [show ((n.toNat - 1 : Nat) : Int) + 1 = n by omega, Int.toNat_of_nonneg hc.1] at q5
    exact q5
  · unfold manyOf
    rw [if_neg (fun z => hc ⟨by omega, z.2⟩)]
    have : (allC (n.toNat - 1)).countP (fun r => decide (maxL r + 1 = c)) = 0 := by
      rw [List.countP_eq_zero]
      intro r hr
      have q6 := q2 r hr
      unfold rowFine at q6
      simp only [Bool.and_eq_true, decide_eq_true_eq] at q6
      intro e
      have e := of_decide_eq_true e
      omega
    rw [this]; rfl
end L2
set_option Elab.async false
set_option linter.all false
namespace L2
open PySem PySem.Spec PyProof.Rows
section
variable {X : Cx} {K : PySem.W.Frag}
end
end L2
set_option Elab.async false
set_option linter.all false
namespace L2
open PySem PySem.Spec PyProof.Rows
end L2
set_option Elab.async false
set_option linter.all false
set_option maxRecDepth 100000
namespace PySem
open Sem (wp)
open AutoSeq1 (wpAny_loadPart')
section
variable {prog : Program} {w : World} {A : Around} {E : Value → Shared → Prop} {s : Shared}
end
section
variable {prog : Program} {w : World} {A : Around} {E : Value → Shared → Prop} {s : Shared}
end
end PySem
namespace L2
open PySem PySem.Spec PyProof.Rows
theorem Inv.turnL {X : Cx} {pins : List (Addr × Obj)} {σ : St} {H : Hp} {s : Shared} {h' : Heap} {t' : Nat} {wr : List Addr} (I : Inv X pins σ H s) (k : ∀ b o, b ∉ wr → s.heap.get? b = some o → h'.get? b = some o) (f : ∀ b ∈ wr, FpOk X pins H b) : Inv X pins σ H { s with heap := h', toks := t' } := by
  have nit : ∀ b u, H b = some u → b ∉ wr := fun b u e z => by rw [(f b z).1] at e; cases e
  refine I.step (g' := s.gens) (d' := s.drawn) (ch := wr) (fun b hb => ?_) (fun b o _ _ hc e _ => k b o hc e) (fun b o _ _ hc e _ => ⟨o.slots, k b o hc e⟩) (fun _ _ _ _ n => n)
    (fun b o hc e => ⟨o, k b o hc e⟩) (fun _ _ e => e) (fun _ _ _ e => e) (fun b ps e => ⟨#[], by rw [e]; simp⟩) (fun m hm => ?_) (fun b u e => ?_) I.bare
  · obtain ⟨_, a2, _, a4, a5, a6⟩ := f b hb
    exact ⟨a4, a2, a5, a6⟩
  · obtain ⟨o, es, ep, ho, r⟩ := hm
    exact ⟨o, es, ep, k _ o (fun z => (f _ z).2.1 rfl) ho, r⟩
  · refine (I.hok b u e).stay (fun c v hc q => k c v ?_ q) (fun _ q => q) fun _ _ q => q
    rcases hc with z | z
    · rw [z]; exact nit b u e
    · exact nit c _ z
theorem Inv.turnNew {X : Cx} {pins : List (Addr × Obj)} {σ : St} {H : Hp} {s : Shared} {h' : Heap} {t' : Nat} {wr : List Addr} {T : Addr} {xs : List V} {its : List Value} (I : Inv X pins σ H s) (k : ∀ b o, b ∉ wr → s.heap.get? b = some o → h'.get? b = some o) (f : ∀ b ∈ wr, FpOk X pins H b)
    (hT : s.heap.objs.size ≤ T) (hz : xs.length ≤ sizeLine) (r : Vals xs its) (ht : h'.IsTuple T its.toArray) : Inv X pins σ (upd H T (.tup xs)) { s with heap := h', toks := t' } := by
  have hn : H T = none := I.hok.fresh hT
  have nT : ∀ b o, s.heap.get? b = some o → b ≠ T := fun b o e z => absurd (Heap.lt_size e) (by rw [z]; exact Nat.not_lt.mpr hT)
  have nit : ∀ b u, H b = some u → b ∉ wr := fun b u e z => by rw [(f b z).1] at e; cases e
  refine I.step (g' := s.gens) (d' := s.drawn) (ch := wr) (fun b hb => ?_) (fun b o _ _ hc e _ => k b o hc e) (fun b o _ _ hc e _ => ⟨o.slots, k b o hc e⟩) (fun b o _ e n => by rw [upd_ne (nT b o e)]; exact n)
    (fun b o hc e => ⟨o, k b o hc e⟩) (fun b xs e => by rw [upd_ne (ne_of_none e hn)]; exact e) (fun b o u e => by rw [upd_ne (ne_of_none e hn)]; exact e) (fun b ps e => ⟨#[], by rw [upd_ne (ne_of_none e hn), e]; simp⟩) (fun m hm => ?_) (fun b u e => ?_) I.bare
  · obtain ⟨_, a2, _, a4, a5, a6⟩ := f b hb
    exact ⟨a4, a2, a5, a6⟩
  · obtain ⟨o, es, ep, ho, r⟩ := hm
    exact ⟨o, es, ep, k _ o (fun z => (f _ z).2.1 rfl) ho, r⟩
  · by_cases hb : b = T
    · subst hb
      rw [upd_same] at e
      cases e
      exact ⟨hz, its, r, ht⟩
    · rw [upd_ne hb] at e
      refine (I.hok b u e).stay (fun c v hc q => k c v ?_ q) (fun c q => by rw [upd_ne (ne_of_none q hn)]; exact q) fun c ys q => by rw [upd_ne (ne_of_none q hn)]; exact q
      rcases hc with z | z
      · rw [z]; exact nit b u e
      · exact nit c _ z
end L2
set_option Elab.async false
set_option linter.all false
set_option maxRecDepth 100000
namespace PySem
open Sem (wp)
open AutoSeq1 (wpAny_loadPart')
section
variable {prog : Program} {w : World} {A : Around} {E : Value → Shared → Prop} {s : Shared}
end
section
variable {prog : Program} {w : World} {A : Around} {E : Value → Shared → Prop} {s : Shared}
end
end PySem
namespace L2
open PySem PySem.Spec PyProof.Rows
end L2
set_option Elab.async false
set_option linter.all false
set_option maxRecDepth 100000
namespace PySem
open Sem (wp)
open AutoSeq1 (wpAny_loadPart')
namespace RV
theorem mro : mroOf (.type "reversed") = pure [.type "reversed", .type "object"] := by rw [mroOf_type]; kernel_rfl
theorem sub : isSubtype (.type "reversed") (.type "reversed") = pure true := by rw [isSubtype_type]; kernel_rfl
end RV
section
variable {prog : Program} {w : World} {A : Around} {E : Value → Shared → Prop} {s : Shared}
end
end PySem
set_option Elab.async false
set_option linter.all false
set_option maxRecDepth 100000
namespace HT
open PySem PySem.Spec PyProof.Rows
section
open PySem.SeqAt
open PySem.AutoSeq1 (wpAny_loadPart')
open PySem.MeetsSeq PySem.MeetsSeq2 PySem.MeetsSeq3
end
section
variable {prog : Program} {w : World} {A : Around} {E : Value → Shared → Prop} {s : Shared}
end
end HT
namespace L2
open PySem PySem.Spec PyProof.Rows
section
variable {X : Cx} {K : PySem.W.Frag}
def Itv (x : Int) (n : Nat) : It := ⟨fun i _ => i < n, fun i H v H' => H' = H ∧ v = .int (x - i), fun i _ => n ≤ i⟩
theorem turn_rev {P : Program} {w : World} {tg : Expr} (it : Addr) (lo : Int) (n : Nat) : Turn P w K tg (Itv lo n) [it] it (fun i h => IsRangeIter h it (lo + (i : Nat) * (-1)) ((n : Int) - (i : Nat)) (-1)) where
  mem := by simp
  obj := fun i h st b hb => by
    have e : b = it := by simpa using hb
    subst e
    exact ⟨_, st, fun v z => by
      have z' : Data.fields _ = Data.cell v := z
      cases z'⟩
  keep := fun i h h' st k => k it (by simp) _ st
  item := by
    intro X hP hw hK hc i pins s σ H E I hf st hg
    subst hP hw hK
    obtain ⟨f0, f1, f2, f3, f4, f5⟩ := hf it (by simp)
    have W := Walks.range (prog := X.prog) (w := X.w) (I.ok.hd hc) it lo (-1) n
    refine W.item i s _ _ hg st fun v h' tk hv st' kk => ?_
    obtain ⟨t, rfl⟩ := hv
    have I1 : Inv X pins σ H { s with heap := h', toks := tk } := I.turned (fun b o hb e => kk b o (by simpa using hb) e) f0 f1 f3 f4 f5
    refine ⟨_, rfl, go_of (s := { s with heap := h', toks := tk }) (n := "range_iterator") st' rfl rfl (by decide) ⟨.int (lo - i), H, I1, ⟨t, ?_⟩, ⟨rfl, rfl⟩, st', fun b hb => (hf b hb).1⟩⟩
    rw [show lo + (i : Int) * (-1) = lo - i by omega]
  done := by
    intro X hP hw hK hc i pins s σ H E I hf st hg
    subst hP hw hK
    obtain ⟨f0, f1, f2, f3, f4, f5⟩ := hf it (by simp)
    exact wpAny_pyNext_range_end (I.ok.hd hc) st (by have : n ≤ i := hg; omega) fun h' eb => ⟨rfl, I.turned (t' := s.toks) (fun b o hb e => eb b o hb e) f0 f1 f3 f4 f5⟩
  self := fun _ _ _ _ _ st h => wpAny_pyIter_rangeiter st h
end
end L2
set_option Elab.async false
set_option linter.all false
set_option maxRecDepth 100000
namespace PySem
open Sem (wp)
open AutoSeq1 (wpAny_loadPart')
section
variable {prog : Program} {w : World} {A : Around} {E : Value → Shared → Prop} {s : Shared}
end
end PySem
namespace L2
open PySem PySem.Spec PyProof.Rows
section
variable {X : Cx} {K : PySem.W.Frag}
end
end L2
set_option Elab.async false
set_option linter.all false
set_option maxRecDepth 100000
namespace L2
open PySem PySem.Spec PyProof.Rows
section
variable {X : Cx} {K : PySem.W.Frag}
def eqVs : List V → List V → Bool
  | [], [] => true
  | x :: xs, y :: ys => eqV x y && eqVs xs ys
  | _, _ => false
theorem range_succ_all (n : Nat) (f : Nat → Bool) : (List.range (n + 1)).all f = (f 0 && (List.range n).all fun j => f (j + 1)) := by
  rw [List.range_succ_eq_map, List.all_cons, List.all_map]; rfl
theorem eqVs_range : ∀ (xs ys : List V), ((List.range (min xs.length ys.length)).all (fun j => eqV (xs.getD j .non) (ys.getD j .non)) && (xs.length == ys.length)) = eqVs xs ys
  | [], [] => rfl
  | [], _ :: _ => by simp [eqVs]
  | _ :: _, [] => by simp [eqVs]
  | x :: xs, y :: ys => by
    rw [List.length_cons, List.length_cons, Nat.succ_min_succ, range_succ_all]
    have h := eqVs_range xs ys
    show (eqV x y && (List.range (min xs.length ys.length)).all (fun j => eqV (xs.getD j .non) (ys.getD j .non)) && (xs.length + 1 == ys.length + 1)) = (eqV x y && eqVs xs ys)
    rw [← h, Bool.and_assoc]
    congr 2
    simp
theorem eqVs_len {xs ys : List V} (h : xs.length ≠ ys.length) : eqVs xs ys = false := by
  rw [← eqVs_range, Bool.and_eq_false_iff]; right; simpa using h
theorem vals_at {xs : List V} {us : List Value} (r : Vals xs us) (j : Nat) (h : j < us.toArray.size) : RelV (xs.getD j .non) us.toArray[j] ∧ j < xs.length := by
  have hl := r.length
  have hj : j < xs.length := by simp at h; omega
  obtain ⟨u, e, ru⟩ := r.get (List.getElem?_eq_getElem hj)
  have : us.toArray[j] = u := by
    have h2 : j < us.length := by simpa using h
    rw [List.getElem?_eq_getElem h2] at e
    simpa using Option.some.inj e
  rw [this, List.getD_eq_getElem?_getD, List.getElem?_eq_getElem hj]
  exact ⟨ru, hj⟩
theorem flat_at {xs : List V} (h : xs.all flatV = true) (j : Nat) : flatV (xs.getD j .non) = true := by
  rw [List.getD_eq_getElem?_getD]
  cases e : xs[j]? with
  | none => rfl
  | some x => exact List.all_eq_true.mp h x (List.mem_of_getElem? e)
theorem flats_eqAt {A : Around} {s : Shared} {xs ys : List V} {its its2 : List Value} (r1 : Vals xs its) (r2 : Vals ys its2) (f1 : xs.all flatV = true) (f2 : ys.all flatV = true) (j : Nat) (h1 : j < its.toArray.size) (h2 : j < its2.toArray.size) :
    SeqAt.EqAt A s its.toArray[j] its2.toArray[j] (eqV (xs.getD j .non) (ys.getD j .non)) :=
  eqAt_V (vals_at r1 j h1).1 (vals_at r2 j h2).1 (flat_at f1 j) (flat_at f2 j)
def SqEqF (K : PySem.W.Frag) (g : Bool → V) : R2 := fun x y H Q => ∃ (a b : Addr) (xs ys : List V), x = .ref a ∧ y = .ref b ∧ ((SqT K H a xs ∧ SqT K H b ys) ∨ (SqL K H a xs ∧ SqL K H b ys)) ∧ xs.all flatV = true ∧ ys.all flatV = true ∧ Q (g (eqVs xs ys)) H
theorem op_neF (hu : X.A.units < cLine) (h : X.K = K := by rfl) : OpR X (compareOp .NotEq) (SqEqF K fun b => .bl (!b)) := by
  subst h
  intro pins s σ H x y v u Q I rx ry h
  obtain ⟨a, b, ns, ms, rfl, rfl, hq, f1, f2, q⟩ := h
  cases rx
  cases ry
  rcases hq with ⟨ha, hb⟩ | ⟨ha, hb⟩
  · obtain ⟨its, r1, p1, _⟩ := I.tuple ha
    obtain ⟨its2, r2, p2, _⟩ := I.tuple hb
    have l1 : its.toArray.size = ns.length := by rw [List.size_toArray, ← r1.length]
    have l2 : its2.toArray.size = ms.length := by rw [List.size_toArray, ← r2.length]
    refine SeqAt.RcNeAt.tuples p1 p2 hu (fun j h1 h2 => flats_eqAt r1 r2 f1 f2 j h1 h2) _ _ _ _ ?_
    rw [l1, l2, eqVs_range]
    exact ⟨.bl _, H, I, rfl, q⟩
  · obtain ⟨its, r1, p1, _⟩ := I.list ha
    obtain ⟨its2, r2, p2, _⟩ := I.list hb
    have l1 : its.toArray.size = ns.length := by rw [List.size_toArray, ← r1.length]
    have l2 : its2.toArray.size = ms.length := by rw [List.size_toArray, ← r2.length]
    by_cases hl : ns.length = ms.length
    · refine SeqAt.RcNeAt.lists p1.isList p2.isList (by rw [l1, l2, hl]) hu (fun j h1 h2 => flats_eqAt r1 r2 f1 f2 j h1 h2) _ _ _ _ ?_
      have e := eqVs_range ns ms
      rw [← hl, Nat.min_self] at e
      simp only [beq_self_eq_true, Bool.and_true] at e
      rw [l1, e]
      exact ⟨.bl _, H, I, rfl, q⟩
    · rw [eqVs_len hl] at q
      exact SeqAt.RcNeAt.lists_lengths p1.isList p2.isList (by rw [l1, l2]; simpa using hl) hu _ _ _ _ ⟨.bl _, H, I, rfl, q⟩
end
end L2
set_option Elab.async false
set_option linter.all false
namespace L2
open PySem
def En : Nat → Int → Int
  | 0, _ => 1
  | n + 1, u => u * En n u + En n (u + 1)
def nf (f w : Int) : Int := if w = f then f + 1 else f
def pre : Nat → Int → List Int → Int
  | _, _, [] => 0
  | m, f, w :: r => w * En (r.length + m) f + pre m (nf f w) r
end L2
set_option Elab.async false
set_option linter.all false
set_option maxRecDepth 100000
namespace L2
open PySem PySem.Spec PyProof.Rows
section
variable {X : Cx} {K : PySem.W.Frag}
theorem passE0 : Passes (CXE X.prog X.w) X E0 := by
  intro pins σ H e s' x y h
  obtain ⟨ea, cls, H', B, _, _, _, _, _, _, _, _, _, hE⟩ := h
  exact hE.elim
end
end L2
set_option Elab.async false
set_option linter.all false
namespace L2
open PySem
end L2
set_option Elab.async false
set_option linter.all false
set_option maxRecDepth 100000
namespace L2
open PySem PySem.Spec PyProof.Rows
end L2
set_option Elab.async false
set_option linter.all false
set_option maxRecDepth 100000
namespace L2
open PySem PySem.Spec PyProof.Rows
section
variable {X : Cx} {N' : List Str} {M : List (Option Nat)} {scope : Scope} {tg elt iter : Expr} {ifs : List Expr} {pos : Pos} {g : TG} {tc : TT} {te : TE} {wi : TI}
end
end L2
set_option Elab.async false
set_option linter.all false
namespace L2
open PySem
theorem getD_lt {α : Type} {l : List α} {i : Nat} (h : i < l.length) (d : α) : l.getD i d = l[i] := by rw [List.getD_eq_getElem?_getD, List.getElem?_eq_getElem h]; rfl
theorem getD_app1 {α : Type} {l m : List α} {i : Nat} (h : i < l.length) (d : α) : (l ++ m).getD i d = l.getD i d := by
  rw [List.getD_eq_getElem?_getD, List.getElem?_append_left h, List.getD_eq_getElem?_getD]
theorem getD_app2 {α : Type} (l : List α) (x : α) (d : α) : (l ++ [x]).getD l.length d = x := by
  rw [List.getD_eq_getElem?_getD, List.getElem?_append_right (Nat.le_refl _), Nat.sub_self]; rfl
def relab (L : List Int) (old new : Int) : List Int := L.map fun l => if l = old then new else l
def mg (L : List Int) (p : Nat × Nat) : List Int := relab L (L.getD p.2 0) (L.getD p.1 0)
def lotN (ws : List Int) (k : Int) (i : Nat) : List Nat := (List.range i).filter fun j => decide (ws.getD j 0 = k)
end L2
set_option Elab.async false
set_option linter.all false
namespace L2
open PySem
theorem getRef {qs : List Addr} {j : Nat} {y : V} (h : (qs.map V.ref)[j]? = some y) : ∃ q, y = V.ref q ∧ qs[j]? = some q ∧ j < qs.length := by
  rw [List.getElem?_map] at h
  cases e : qs[j]? with
  | none => rw [e] at h; cases h
  | some q => rw [e] at h; exact ⟨q, (Option.some.inj h).symm, rfl, (List.getElem?_eq_some_iff.mp e).1⟩
end L2
namespace L2
open PySem
end L2
namespace L2
open PySem PySem.Spec PyProof.Rows
section
variable {X : Cx} {K : PySem.W.Frag} {pos : Pos}
theorem kpg_tup {es : List Expr} {k : Nat} {t : TGs} {n : Nat} (hc : X.calm = true) (h : PGs X es t)
    (hn : (assignEach es X.env).length = n := by rfl) (hst : (assignEach es X.env).findIdx? (·.1) = none := by rfl) (hK : X.K = K := by rfl) : PG X (.Tuple es k pos) (gTup K n t) := by
  subst hK; exact pg_tup hc h hn hst
theorem frm_two {M : List (Option Nat)} {n : Nat} (h0 : M[0]? = some none := by rfl) (h1 : M[1]? = some none := by rfl) : Frm M (gTup K n (gCons (gName 0) (gCons (gName 1) gNil))) := fun v σ H Q q => by
  obtain ⟨a, xs, e, hq, hl, v1, r, e1, v2, r2, e2, e3, q⟩ := q
  refine ⟨a, xs, e, hq, hl, v1, r, e1, v2, r2, e2, e3, q, by rw [List.length_set, List.length_set], fun k j ek => ?_⟩
  have n0 : 0 ≠ k := by rintro rfl; rw [h0] at ek; cases ek
  have n1 : 1 ≠ k := by rintro rfl; rw [h1] at ek; cases ek
  rw [List.getElem?_set_ne n1, List.getElem?_set_ne n0]
end
end L2
namespace L2
open PySem
theorem lcY {te : TE} {σ : St} {H : Hp} {N : V → Hp → Prop} {N' : Hp → Prop} (h : te σ H N) : tYes σ H (fun b H3 => if b = true then te σ H3 N else N' H3) := by
  unfold tYes
  exact iteT h
end L2
set_option Elab.async false
set_option linter.all false
set_option maxRecDepth 100000
namespace L2
open PySem PySem.Spec PyProof.Rows
section
variable {prog : Program} {w : World} {A : Around} {R : Result → Shared → Prop} {s : Shared}
end
abbrev TM := St → Hp → List V → (List V → Hp → Prop) → Prop
section
variable {X : Cx}
end
end L2
set_option Elab.async false
set_option linter.all false
set_option maxRecDepth 100000
namespace L2
open PySem PySem.Spec PyProof.Rows
section
variable {X : Cx} {N' : List Str} {M : List (Option Nat)} {scope : Scope} {tg elt iter tg2 iter2 : Expr} {ifs ifs2 : List Expr} {ks ks2 : List Nat} {pos : Pos} {g g2 : TG} {tc tc2 : TT} {te : TE} {wi wi2 : TI}
end
end L2
set_option Elab.async false
set_option linter.all false
set_option maxRecDepth 100000
namespace L2
open PySem PySem.W PyProof.Rows
section
variable {r : Nat → Int}
end
end L2
set_option Elab.async false
set_option linter.all false
set_option maxRecDepth 100000
namespace L2
open PySem PySem.Spec PyProof.Rows
end L2
set_option Elab.async false
set_option linter.all false
namespace L2
open PySem
end L2
set_option Elab.async false
set_option linter.all false
namespace L2
open PySem
end L2
namespace L2
open PySem
end L2
set_option Elab.async false
set_option linter.all false
namespace L2
open PySem
def hdL (ws : List Int) (k : Nat) : Int := (((lotN ws (k : Int) ws.length).headD 0 : Nat) : Int)
def tlL (ws : List Int) (k : Nat) : Int := (((lotN ws (k : Int) ws.length).getLastD 0 : Nat) : Int)
def lieS (a0 a1 b0 b1 : Int) : Str := if a0 = b0 ∧ a1 = b1 then "same" else if a1 < b0 ∨ b1 < a0 then "apart" else if b0 < a0 ∧ a1 < b1 then "inside" else if a0 < b0 ∧ b1 < a1 then "around" else "crossing"
end L2
set_option Elab.async false
set_option linter.all false
set_option maxRecDepth 100000
namespace L2
open PySem PySem.Spec PyProof.Rows
section
variable {X : Cx} {K : PySem.W.Frag}
end
end L2
set_option Elab.async false
set_option linter.all false
namespace L2
open PySem
end L2
namespace L2
theorem ixN_pos {n : Nat} {i : Int} (h0 : 0 ≤ i) (h1 : i < n) : ixN n i = some i.toNat := by unfold ixN; rw [if_pos h0, if_pos h1]
end L2
set_option Elab.async false
set_option linter.all false
set_option maxRecDepth 100000
namespace L2
open PySem PySem.Spec PyProof.Rows
section
variable {X : Cx} {K : PySem.W.Frag}
end
end L2
set_option Elab.async false
set_option linter.all false
set_option maxRecDepth 100000
namespace L2
open PySem
end L2
set_option Elab.async false
set_option linter.all false
set_option maxRecDepth 100000
namespace L2
open PySem PySem.Spec PyProof.Rows
section
variable {X : Cx} {K : PySem.W.Frag}
end
end L2
set_option Elab.async false
set_option linter.all false
set_option maxRecDepth 100000
namespace L2
open PySem
end L2
set_option Elab.async false
set_option linter.all false
set_option maxRecDepth 100000
namespace L2
open PySem PySem.Spec PyProof.Rows
section
variable {X : Cx}
end
abbrev TuAt (H : Hp) (ps : List Addr) (xss : List (List Int)) : Prop := Paired (fun a (xs : List Int) => H a = some (.tup (xs.map V.int))) ps xss
end L2
set_option Elab.async false
set_option linter.all false
set_option maxRecDepth 100000
namespace L2
open PySem
def suitsB (ar cr : Nat → Nat → Bool) (C : List Int) (h : Int) : Bool :=
  (List.range C.length).all fun k => !(ar k C.length && decide (C.getD k 0 ≤ h)) && !(cr k C.length && decide (C.getD k 0 = h))
def comp (ar cr : Nat → Nat → Bool) (n g : Nat) : Nat → List Int → Option (List Int)
  | 0, _ => none
  | d + 1, C => if C.length = n then some C else
      (List.range g).findSome? fun (h : Nat) => if suitsB ar cr C ((h : Int) + 1) then comp ar cr n g d (C ++ [(h : Int) + 1]) else none
def GoodH (ar cr : Nat → Nat → Bool) (g : Nat) (F : List Int) : Prop := ∀ i, i < F.length → suitsB ar cr (F.take i) (F.getD i 0) = true ∧ 1 ≤ F.getD i 0 ∧ F.getD i 0 ≤ (g : Int)
variable {ar cr : Nat → Nat → Bool} {n g : Nat}
theorem good_snoc {C : List Int} {h : Int} (c : GoodH ar cr g C) (s : suitsB ar cr C h = true) (h1 : 1 ≤ h) (h2 : h ≤ g) : GoodH ar cr g (C ++ [h]) := fun i hi => by
  rw [List.length_append] at hi
  simp only [List.length_cons, List.length_nil] at hi
  by_cases e : i = C.length
  · rw [e, getD_app2, List.take_left]; exact ⟨s, h1, h2⟩
  · rw [getD_app1 (by omega), List.take_append_of_le_length (by omega)]; exact c i (by omega)
theorem comp_good : ∀ (d : Nat) (C F : List Int), C.length ≤ n → GoodH ar cr g C → comp ar cr n g d C = some F → GoodH ar cr g F ∧ F.length = n
  | 0, C, F, _, _, h => by unfold comp at h; cases h
  | d + 1, C, F, hl, hc, h => by
    unfold comp at h
    by_cases e : C.length = n
    · rw [if_pos e] at h
      cases h
      exact ⟨hc, e⟩
    · rw [if_neg e] at h
      obtain ⟨x, hx, h⟩ := List.exists_of_findSome?_eq_some h
      have hx := List.mem_range.mp hx
      by_cases s : suitsB ar cr C ((x : Int) + 1) = true
      · rw [if_pos s] at h
        exact comp_good d _ F (by rw [List.length_append]; simp only [List.length_cons, List.length_nil]; omega) (good_snoc hc s (by omega) (by omega)) h
      · rw [if_neg s] at h; cases h
def IsH (ar cr : Nat → Nat → Bool) (n : Nat) (F : List Int) : Prop := ∃ g, 1 ≤ g ∧ comp ar cr n g (n + 1) [] = some F ∧ ∀ g', 1 ≤ g' → g' < g → comp ar cr n g' (n + 1) [] = none
theorem IsH.good {F : List Int} (a : IsH ar cr n F) : ∃ g, GoodH ar cr g F ∧ F.length = n := by
  obtain ⟨g, g1, e1, l1⟩ := a
  exact ⟨g, comp_good (n + 1) [] F (by simp) (fun i hi => by simp at hi) e1⟩
def arW (ws : List Int) (k j : Nat) : Bool := decide (lieS (hdL ws k) (tlL ws k) (hdL ws j) (tlL ws j) = "around")
def crW (ws : List Int) (k j : Nat) : Bool := decide (lieS (hdL ws k) (tlL ws k) (hdL ws j) (tlL ws j) = "crossing")
end L2
namespace L2
open PySem PySem.Spec PyProof.Rows
section
variable {X : Cx} {K : PySem.W.Frag}
end
end L2
set_option Elab.async false
set_option linter.all false
set_option maxRecDepth 100000
namespace L2
open PySem
variable {ar cr : Nat → Nat → Bool} {n g : Nat}
end L2
set_option Elab.async false
set_option linter.all false
set_option maxRecDepth 100000
namespace L2
open PySem PySem.W PyProof.Rows
variable {n : Nat}
end L2
set_option Elab.async false
set_option linter.all false
set_option maxRecDepth 100000
namespace L2
open PySem PySem.Spec PyProof.Rows
section
variable {X : Cx} {K : PySem.W.Frag}
theorem refs_vals (ps : List Addr) : Vals (ps.map V.ref) (ps.map Value.ref) := by
  induction ps with
  | nil => exact .nil
  | cons a ps ih => exact .cons rfl ih
end
end L2
set_option Elab.async false
set_option linter.all false
set_option maxRecDepth 100000
namespace PySem
open Sem (wp)
section
variable {prog : Program} {w : World} {A : Around} {E : Value → Shared → Prop} {s : Shared}
end
end PySem
namespace PySem.W
open PySem PySem.Calls PyProof.Rows PyProof.V PySem.Spec
section
variable {prog : Program} {w : World} {d r : Addr} {kvs : List (Value × Value)} {ep : Nat}
end
end PySem.W
namespace L2
open PySem PySem.Spec PyProof.Rows
section
variable {X : Cx} {K : PySem.W.Frag}
end
end L2
set_option Elab.async false
set_option linter.all false
set_option maxRecDepth 100000
namespace L2
open PySem PySem.Spec PyProof.Rows
inductive Dd where
  | non | bl (b : Bool) | int (i : Int) | str (x : Str) | lst (l : List Dd) | tup (l : List Dd)
mutual
def DAt (K : PySem.W.Frag) (H : Hp) : Dd → V → Prop
  | .non, v => v = .non
  | .bl b, v => v = .bl b
  | .int i, v => v = .int i
  | .str x, v => v = .str x
  | .lst l, v => ∃ (a : Addr) (vs : List V), v = .ref a ∧ SqL K H a vs ∧ DAts K H l vs
  | .tup l, v => ∃ (a : Addr) (vs : List V), v = .ref a ∧ SqT K H a vs ∧ DAts K H l vs
def DAts (K : PySem.W.Frag) (H : Hp) : List Dd → List V → Prop
  | [], vs => vs = []
  | d :: l, vs => ∃ (v : V) (r : List V), vs = v :: r ∧ DAt K H d v ∧ DAts K H l r
end
mutual
def eqD : Dd → Dd → Bool
  | .non, .non => true
  | .bl a, .bl b => a == b
  | .int a, .int b => a == b
  | .str a, .str b => a == b
  | .bl a, .int b => (if a then 1 else 0) == b
  | .int a, .bl b => a == (if b then 1 else 0)
  | .lst l, .lst m => eqDs l m
  | .tup l, .tup m => eqDs l m
  | _, _ => false
def eqDs : List Dd → List Dd → Bool
  | [], [] => true
  | d :: l, e :: m => eqD d e && eqDs l m
  | _, _ => false
end
mutual
def depD : Dd → Nat
  | .lst l => depDs l + 1
  | .tup l => depDs l + 1
  | _ => 0
def depDs : List Dd → Nat
  | [] => 0
  | d :: l => max (depD d) (depDs l)
end
mutual
theorem eqD_refl : ∀ d : Dd, eqD d d = true
  | .non => rfl
  | .bl b => by simp [eqD]
  | .int i => by simp [eqD]
  | .str x => by simp [eqD]
  | .lst l => by rw [eqD]; exact eqDs_refl l
  | .tup l => by rw [eqD]; exact eqDs_refl l
theorem eqDs_refl : ∀ l : List Dd, eqDs l l = true
  | [] => rfl
  | d :: l => by rw [eqDs, eqD_refl d, eqDs_refl l]; rfl
end
theorem DAts.length {K : PySem.W.Frag} {H : Hp} : ∀ {l : List Dd} {vs : List V}, DAts K H l vs → vs.length = l.length
  | [], vs, h => by rw [DAts] at h; rw [h]; rfl
  | d :: l, vs, h => by
    rw [DAts] at h
    obtain ⟨v, r, rfl, _, h2⟩ := h
    rw [List.length_cons, List.length_cons, DAts.length h2]
theorem DAts.get {K : PySem.W.Frag} {H : Hp} : ∀ {l : List Dd} {vs : List V} {j : Nat}, DAts K H l vs → j < l.length → ∃ v, vs[j]? = some v ∧ DAt K H (l.getD j .non) v
  | [], vs, j, h, hj => by simp at hj
  | d :: l, vs, j, h, hj => by
    rw [DAts] at h
    obtain ⟨v, r, rfl, h1, h2⟩ := h
    cases j with
    | zero => exact ⟨v, rfl, h1⟩
    | succ j =>
      obtain ⟨v', e, h3⟩ := DAts.get h2 (by simpa using hj)
      exact ⟨v', by simpa using e, by simpa using h3⟩
theorem depD_get : ∀ {l : List Dd} {j : Nat}, j < l.length → depD (l.getD j .non) ≤ depDs l
  | [], j, h => by simp at h
  | d :: l, 0, h => by rw [depDs]; exact Nat.le_max_left _ _
  | d :: l, j + 1, h => by
    rw [depDs]
    have : j < l.length := by simpa using h
    exact Nat.le_trans (by simpa using depD_get this) (Nat.le_max_right _ _)
theorem eqDs_len : ∀ {l m : List Dd}, l.length ≠ m.length → eqDs l m = false
  | [], [], h => absurd rfl h
  | [], _ :: _, _ => rfl
  | _ :: _, [], _ => rfl
  | d :: l, e :: m, h => by rw [eqDs, eqDs_len (by simpa using h)]; simp
theorem eqDs_all : ∀ {l m : List Dd}, l.length = m.length → (List.range l.length).all (fun j => eqD (l.getD j .non) (m.getD j .non)) = eqDs l m
  | [], [], _ => rfl
  | [], _ :: _, h => by simp at h
  | _ :: _, [], h => by simp at h
  | d :: l, e :: m, h => by
    rw [eqDs, List.length_cons, List.range_succ_eq_map, List.all_cons, List.all_map, ← eqDs_all (l := l) (m := m) (by simpa using h)]
    rfl
section
variable {X : Cx} {K : PySem.W.Frag} {pins : List (Addr × Obj)} {σ : St} {H : Hp} {s : Shared}
mutual
theorem dat_uniq (I : Inv X pins σ H s) : ∀ (d e : Dd) (v : V), DAt X.K H d v → DAt X.K H e v → d = e
  | .non, e, v, h1, h2 => by
    rw [DAt] at h1; subst h1
    cases e <;> rw [DAt] at h2 <;> first | rfl | (cases h2; done) | (obtain ⟨_, _, z, _⟩ := h2; cases z)
  | .bl b, e, v, h1, h2 => by
    rw [DAt] at h1; subst h1
    cases e <;> rw [DAt] at h2 <;> first | (cases h2; rfl) | (cases h2; done) | (obtain ⟨_, _, z, _⟩ := h2; cases z)
  | .int i, e, v, h1, h2 => by
    rw [DAt] at h1; subst h1
    cases e <;> rw [DAt] at h2 <;> first | (cases h2; rfl) | (cases h2; done) | (obtain ⟨_, _, z, _⟩ := h2; cases z)
  | .str x, e, v, h1, h2 => by
    rw [DAt] at h1; subst h1
    cases e <;> rw [DAt] at h2 <;> first | (cases h2; rfl) | (cases h2; done) | (obtain ⟨_, _, z, _⟩ := h2; cases z)
  | .lst l, e, v, h1, h2 => by
    rw [DAt] at h1
    obtain ⟨a, vs, rfl, hS, hD⟩ := h1
    cases e with
    | lst m =>
      rw [DAt] at h2
      obtain ⟨b, ws, eb, hS2, hD2⟩ := h2
      cases eb
      have := I.list_inj hS hS2
      subst this
      rw [dats_uniq I l m vs hD hD2]
    | tup m =>
      rw [DAt] at h2
      obtain ⟨b, ws, eb, hS2, hD2⟩ := h2
      cases eb
      obtain ⟨_, _, ⟨o, n, e1, c1, _⟩, _⟩ := I.list hS
      obtain ⟨_, _, ⟨o2, e2, c2, _⟩, _⟩ := I.tuple hS2
      rw [e1] at e2; cases e2
      rw [c1] at c2; exact absurd c2 (by decide)
    | _ => rw [DAt] at h2; cases h2
  | .tup l, e, v, h1, h2 => by
    rw [DAt] at h1
    obtain ⟨a, vs, rfl, hS, hD⟩ := h1
    cases e with
    | tup m =>
      rw [DAt] at h2
      obtain ⟨b, ws, eb, hS2, hD2⟩ := h2
      cases eb
      have := I.tuple_inj hS hS2
      subst this
      rw [dats_uniq I l m vs hD hD2]
    | lst m =>
      rw [DAt] at h2
      obtain ⟨b, ws, eb, hS2, hD2⟩ := h2
      cases eb
      obtain ⟨_, _, ⟨o, n, e1, c1, _⟩, _⟩ := I.list hS2
      obtain ⟨_, _, ⟨o2, e2, c2, _⟩, _⟩ := I.tuple hS
      rw [e1] at e2; cases e2
      rw [c1] at c2; exact absurd c2 (by decide)
    | _ => rw [DAt] at h2; cases h2
theorem dats_uniq (I : Inv X pins σ H s) : ∀ (l m : List Dd) (vs : List V), DAts X.K H l vs → DAts X.K H m vs → l = m
  | [], m, vs, h1, h2 => by
    rw [DAts] at h1; subst h1
    cases m with
    | nil => rfl
    | cons _ _ => rw [DAts] at h2; obtain ⟨_, _, z, _⟩ := h2; cases z
  | d :: l, m, vs, h1, h2 => by
    rw [DAts] at h1
    obtain ⟨v, r, rfl, hd, hl⟩ := h1
    cases m with
    | nil => rw [DAts] at h2; cases h2
    | cons e m =>
      rw [DAts] at h2
      obtain ⟨v', r', z, he, hm⟩ := h2
      cases z
      rw [dat_uniq I d e v hd he, dats_uniq I l m r hl hm]
end
theorem eqAt_D (I : Inv X pins σ H s) : ∀ (n : Nat) (d e : Dd) {A : Around} {v x : V} {u w : Value}, depD d ≤ n → A.units + n < cLine → DAt X.K H d v → DAt X.K H e x → RelV v u → RelV x w → SeqAt.EqAt A s u w (eqD d e) := by
  intro n
  induction n with
  | zero =>
    intro d e A v x u w hn hu h1 h2 r1 r2
    have hu' : A.units < cLine := by omega
    cases d with
    | lst l => rw [depD] at hn; omega
    | tup l => rw [depD] at hn; omega
    | non =>
      rw [DAt] at h1; subst h1; cases r1
      cases e with
      | non => rw [DAt] at h2; subst h2; cases r2; exact SeqAt.EqAt.same _
      | bl b => rw [DAt] at h2; subst h2; cases r2; exact SeqAt.EqAt.none_bool b
      | int b => rw [DAt] at h2; subst h2; obtain ⟨t, rfl⟩ := r2; exact SeqAt.EqAt.none_int b t
      | str b => rw [DAt] at h2; subst h2; obtain ⟨t, rfl⟩ := r2; exact SeqAt.EqAt.none_str b t
      | lst m => rw [DAt] at h2; obtain ⟨b, ws, rfl, hS, _⟩ := h2; cases r2; obtain ⟨_, _, p, _⟩ := I.list hS; exact SeqAt.EqAt.none_list p.isList hu'
      | tup m => rw [DAt] at h2; obtain ⟨b, ws, rfl, hS, _⟩ := h2; cases r2; obtain ⟨_, _, p, _⟩ := I.tuple hS; exact SeqAt.EqAt.none_tuple p hu'
    | bl a =>
      rw [DAt] at h1; subst h1; cases r1
      cases e with
      | non => rw [DAt] at h2; subst h2; cases r2; exact SeqAt.EqAt.bool_none a
      | bl b => rw [DAt] at h2; subst h2; cases r2; exact SeqAt.EqAt.bool_bool a b
      | int b => rw [DAt] at h2; subst h2; obtain ⟨t, rfl⟩ := r2; exact SeqAt.EqAt.bool_int a b t
      | str b => rw [DAt] at h2; subst h2; obtain ⟨t, rfl⟩ := r2; exact SeqAt.EqAt.bool_str a b t
      | lst m => rw [DAt] at h2; obtain ⟨b, ws, rfl, hS, _⟩ := h2; cases r2; obtain ⟨_, _, p, _⟩ := I.list hS; exact SeqAt.EqAt.bool_list a p.isList hu'
      | tup m => rw [DAt] at h2; obtain ⟨b, ws, rfl, hS, _⟩ := h2; cases r2; obtain ⟨_, _, p, _⟩ := I.tuple hS; exact SeqAt.EqAt.bool_tuple a p hu'
    | int a =>
      rw [DAt] at h1; subst h1; obtain ⟨t', rfl⟩ := r1
      cases e with
      | non => rw [DAt] at h2; subst h2; cases r2; exact SeqAt.EqAt.int_none a t'
      | bl b => rw [DAt] at h2; subst h2; cases r2; exact SeqAt.EqAt.int_bool a t' b
      | int b => rw [DAt] at h2; subst h2; obtain ⟨t, rfl⟩ := r2; exact SeqAt.EqAt.int_int a t' b t
      | str b => rw [DAt] at h2; subst h2; obtain ⟨t, rfl⟩ := r2; exact SeqAt.EqAt.int_str a t' b t
      | lst m => rw [DAt] at h2; obtain ⟨b, ws, rfl, hS, _⟩ := h2; cases r2; obtain ⟨_, _, p, _⟩ := I.list hS; exact SeqAt.EqAt.int_list a t' p.isList hu'
      | tup m => rw [DAt] at h2; obtain ⟨b, ws, rfl, hS, _⟩ := h2; cases r2; obtain ⟨_, _, p, _⟩ := I.tuple hS; exact SeqAt.EqAt.int_tuple a t' p hu'
    | str a =>
      rw [DAt] at h1; subst h1; obtain ⟨t', rfl⟩ := r1
      cases e with
      | non => rw [DAt] at h2; subst h2; cases r2; exact SeqAt.EqAt.str_none a t'
      | bl b => rw [DAt] at h2; subst h2; cases r2; exact SeqAt.EqAt.str_bool a t' b
      | int b => rw [DAt] at h2; subst h2; obtain ⟨t, rfl⟩ := r2; exact SeqAt.EqAt.str_int a t' b t
      | str b => rw [DAt] at h2; subst h2; obtain ⟨t, rfl⟩ := r2; exact SeqAt.EqAt.str_str a t' b t
      | lst m => rw [DAt] at h2; obtain ⟨b, ws, rfl, hS, _⟩ := h2; cases r2; obtain ⟨_, _, p, _⟩ := I.list hS; exact SeqAt.EqAt.str_list a t' p.isList hu'
      | tup m => rw [DAt] at h2; obtain ⟨b, ws, rfl, hS, _⟩ := h2; cases r2; obtain ⟨_, _, p, _⟩ := I.tuple hS; exact SeqAt.EqAt.str_tuple a t' p hu'
  | succ n ih =>
    intro d e A v x u w hn hu h1 h2 r1 r2
    have hu' : A.units < cLine := by omega
    by_cases hd : depD d ≤ n
    · exact ih d e hd (by omega) h1 h2 r1 r2
    cases d with
    | lst l =>
      have hdl : depDs l ≤ n := by rw [depD] at hn; omega
      have h1' := h1
      rw [DAt] at h1
      obtain ⟨a, vs, rfl, hS, hD⟩ := h1
      cases r1
      obtain ⟨its, rv, p1, _⟩ := I.list hS
      cases e with
      | non => rw [DAt] at h2; subst h2; cases r2; exact SeqAt.EqAt.list_none p1.isList hu'
      | bl b => rw [DAt] at h2; subst h2; cases r2; exact SeqAt.EqAt.list_bool b p1.isList hu'
      | int b => rw [DAt] at h2; subst h2; obtain ⟨t, rfl⟩ := r2; exact SeqAt.EqAt.list_int b t p1.isList hu'
      | str b => rw [DAt] at h2; subst h2; obtain ⟨t, rfl⟩ := r2; exact SeqAt.EqAt.list_str b t p1.isList hu'
      | tup m => rw [DAt] at h2; obtain ⟨b, ws, rfl, hS2, _⟩ := h2; cases r2; obtain ⟨_, _, p, _⟩ := I.tuple hS2; exact SeqAt.EqAt.list_tuple p1.isList p hu'
      | lst m =>
        have h2' := h2
        rw [DAt] at h2
        obtain ⟨b, ws, rfl, hS2, hD2⟩ := h2
        cases r2
        obtain ⟨its2, rv2, p2, _⟩ := I.list hS2
        by_cases eab : a = b
        · subst eab
          rw [dat_uniq I _ _ _ h1' h2', eqD_refl]
          exact SeqAt.EqAt.same _
        · refine SeqAt.EqAt.of_refs eab ?_
          have l1 : its.toArray.size = l.length := by rw [List.size_toArray, ← rv.length, hD.length]
          have l2 : its2.toArray.size = m.length := by rw [List.size_toArray, ← rv2.length, hD2.length]
          rw [eqD]
          by_cases hl : l.length = m.length
          · have := SeqAt.RcAt.lists (A := A) (e := fun j => eqD (l.getD j .non) (m.getD j .non)) p1.isList p2.isList (by rw [l1, l2, hl]) hu' (fun j q1 q2 => by
              obtain ⟨v1, g1, d1⟩ := hD.get (j := j) (by omega)
              obtain ⟨v2, g2, d2⟩ := hD2.get (j := j) (by omega)
              obtain ⟨u1, e1, R1⟩ := rv.get g1
              obtain ⟨u2, e2, R2⟩ := rv2.get g2
              have E1 : its.toArray[j] = u1 := by
                have : its.toArray[j]? = some u1 := by rw [List.getElem?_toArray]; exact e1
                rw [Array.getElem?_eq_getElem q1] at this; exact Option.some.inj this
              have E2 : its2.toArray[j] = u2 := by
                have : its2.toArray[j]? = some u2 := by rw [List.getElem?_toArray]; exact e2
                rw [Array.getElem?_eq_getElem q2] at this; exact Option.some.inj this
              rw [E1, E2]
              exact ih _ _ (Nat.le_trans (depD_get (by omega)) hdl) (show A.units + 1 + n < cLine by omega) d1 d2 R1 R2)
            rw [l1, eqDs_all hl] at this
            exact this
          · rw [eqDs_len hl]
            exact SeqAt.RcAt.lists_lengths p1.isList p2.isList (by rw [l1, l2]; simpa using hl) hu'
    | tup l =>
      have hdl : depDs l ≤ n := by rw [depD] at hn; omega
      have h1' := h1
      rw [DAt] at h1
      obtain ⟨a, vs, rfl, hS, hD⟩ := h1
      cases r1
      obtain ⟨its, rv, p1, _⟩ := I.tuple hS
      cases e with
      | non => rw [DAt] at h2; subst h2; cases r2; exact SeqAt.EqAt.tuple_none p1 hu'
      | bl b => rw [DAt] at h2; subst h2; cases r2; exact SeqAt.EqAt.tuple_bool b p1 hu'
      | int b => rw [DAt] at h2; subst h2; obtain ⟨t, rfl⟩ := r2; exact SeqAt.EqAt.tuple_int b t p1 hu'
      | str b => rw [DAt] at h2; subst h2; obtain ⟨t, rfl⟩ := r2; exact SeqAt.EqAt.tuple_str b t p1 hu'
      | lst m => rw [DAt] at h2; obtain ⟨b, ws, rfl, hS2, _⟩ := h2; cases r2; obtain ⟨_, _, p, _⟩ := I.list hS2; exact SeqAt.EqAt.tuple_list p1 p.isList hu'
      | tup m =>
        have h2' := h2
        rw [DAt] at h2
        obtain ⟨b, ws, rfl, hS2, hD2⟩ := h2
        cases r2
        obtain ⟨its2, rv2, p2, _⟩ := I.tuple hS2
        by_cases eab : a = b
        · subst eab
          rw [dat_uniq I _ _ _ h1' h2', eqD_refl]
          exact SeqAt.EqAt.same _
        · refine SeqAt.EqAt.of_refs eab ?_
          have l1 : its.toArray.size = l.length := by rw [List.size_toArray, ← rv.length, hD.length]
          have l2 : its2.toArray.size = m.length := by rw [List.size_toArray, ← rv2.length, hD2.length]
          rw [eqD]
          have := SeqAt.RcAt.tuples (A := A) (e := fun j => eqD (l.getD j .non) (m.getD j .non)) p1 p2 hu' (fun j q1 q2 => by
            obtain ⟨v1, g1, d1⟩ := hD.get (j := j) (by omega)
            obtain ⟨v2, g2, d2⟩ := hD2.get (j := j) (by omega)
            obtain ⟨u1, e1, R1⟩ := rv.get g1
            obtain ⟨u2, e2, R2⟩ := rv2.get g2
            have E1 : its.toArray[j] = u1 := by
              have : its.toArray[j]? = some u1 := by rw [List.getElem?_toArray]; exact e1
              rw [Array.getElem?_eq_getElem q1] at this; exact Option.some.inj this
            have E2 : its2.toArray[j] = u2 := by
              have : its2.toArray[j]? = some u2 := by rw [List.getElem?_toArray]; exact e2
              rw [Array.getElem?_eq_getElem q2] at this; exact Option.some.inj this
            rw [E1, E2]
            exact ih _ _ (Nat.le_trans (depD_get (by omega)) hdl) (show A.units + 1 + n < cLine by omega) d1 d2 R1 R2)
          rw [l1, l2] at this
          by_cases hl : l.length = m.length
          · rw [← hl, Nat.min_self, eqDs_all hl, beq_self_eq_true, Bool.and_true] at this
            exact this
          · rw [eqDs_len hl]
            rw [show (l.length == m.length) = false by simpa using hl, Bool.and_false] at this
            exact this
    | _ => exact absurd (show (0 : Nat) ≤ n from Nat.zero_le _) hd
theorem rcAt_D (I : Inv X pins σ H s) {n : Nat} : ∀ (d e : Dd) {A : Around} {v x : V} {u w : Value}, depD d ≤ n + 1 → A.units + (n + 1) < cLine → DAt X.K H d v → DAt X.K H e x → RelV v u → RelV x w → SeqAt.RcAt A s u w (eqD d e) := by
  intro d e A v x u w hn hu h1 h2 r1 r2
  have hu' : A.units < cLine := by omega
  cases d with
  | non =>
    rw [DAt] at h1; subst h1; cases r1
    cases e with
    | non => rw [DAt] at h2; subst h2; cases r2; exact SeqAt.RcAt.none_none
    | bl b => rw [DAt] at h2; subst h2; cases r2; exact SeqAt.RcAt.none_bool b
    | int b => rw [DAt] at h2; subst h2; obtain ⟨t, rfl⟩ := r2; exact SeqAt.RcAt.none_int b t
    | str b => rw [DAt] at h2; subst h2; obtain ⟨t, rfl⟩ := r2; exact SeqAt.RcAt.none_str b t
    | lst m => rw [DAt] at h2; obtain ⟨b, ws, rfl, hS2, _⟩ := h2; cases r2; obtain ⟨_, _, p2, _⟩ := I.list hS2; exact SeqAt.RcAt.none_list p2.isList hu'
    | tup m => rw [DAt] at h2; obtain ⟨b, ws, rfl, hS2, _⟩ := h2; cases r2; obtain ⟨_, _, p2, _⟩ := I.tuple hS2; exact SeqAt.RcAt.none_tuple p2 hu'
  | bl a =>
    rw [DAt] at h1; subst h1; cases r1
    cases e with
    | non => rw [DAt] at h2; subst h2; cases r2; exact SeqAt.RcAt.bool_none a
    | bl b => rw [DAt] at h2; subst h2; cases r2; exact SeqAt.RcAt.bool_bool a b
    | int b => rw [DAt] at h2; subst h2; obtain ⟨t, rfl⟩ := r2; exact SeqAt.RcAt.bool_int a b t
    | str b => rw [DAt] at h2; subst h2; obtain ⟨t, rfl⟩ := r2; exact SeqAt.RcAt.bool_str a b t
    | lst m => rw [DAt] at h2; obtain ⟨b, ws, rfl, hS2, _⟩ := h2; cases r2; obtain ⟨_, _, p2, _⟩ := I.list hS2; exact SeqAt.RcAt.bool_list a p2.isList hu'
    | tup m => rw [DAt] at h2; obtain ⟨b, ws, rfl, hS2, _⟩ := h2; cases r2; obtain ⟨_, _, p2, _⟩ := I.tuple hS2; exact SeqAt.RcAt.bool_tuple a p2 hu'
  | int a =>
    rw [DAt] at h1; subst h1; obtain ⟨t', rfl⟩ := r1
    cases e with
    | non => rw [DAt] at h2; subst h2; cases r2; exact SeqAt.RcAt.int_none a t'
    | bl b => rw [DAt] at h2; subst h2; cases r2; exact SeqAt.RcAt.int_bool a t' b
    | int b => rw [DAt] at h2; subst h2; obtain ⟨t, rfl⟩ := r2; exact SeqAt.RcAt.int_int a t' b t
    | str b => rw [DAt] at h2; subst h2; obtain ⟨t, rfl⟩ := r2; exact SeqAt.RcAt.int_str a t' b t
    | lst m => rw [DAt] at h2; obtain ⟨b, ws, rfl, hS2, _⟩ := h2; cases r2; obtain ⟨_, _, p2, _⟩ := I.list hS2; exact SeqAt.RcAt.int_list a t' p2.isList hu'
    | tup m => rw [DAt] at h2; obtain ⟨b, ws, rfl, hS2, _⟩ := h2; cases r2; obtain ⟨_, _, p2, _⟩ := I.tuple hS2; exact SeqAt.RcAt.int_tuple a t' p2 hu'
  | str a =>
    rw [DAt] at h1; subst h1; obtain ⟨t', rfl⟩ := r1
    cases e with
    | non => rw [DAt] at h2; subst h2; cases r2; exact SeqAt.RcAt.str_none a t'
    | bl b => rw [DAt] at h2; subst h2; cases r2; exact SeqAt.RcAt.str_bool a t' b
    | int b => rw [DAt] at h2; subst h2; obtain ⟨t, rfl⟩ := r2; exact SeqAt.RcAt.str_int a t' b t
    | str b => rw [DAt] at h2; subst h2; obtain ⟨t, rfl⟩ := r2; exact SeqAt.RcAt.str_str a t' b t
    | lst m => rw [DAt] at h2; obtain ⟨b, ws, rfl, hS2, _⟩ := h2; cases r2; obtain ⟨_, _, p2, _⟩ := I.list hS2; exact SeqAt.RcAt.str_list a t' p2.isList hu'
    | tup m => rw [DAt] at h2; obtain ⟨b, ws, rfl, hS2, _⟩ := h2; cases r2; obtain ⟨_, _, p2, _⟩ := I.tuple hS2; exact SeqAt.RcAt.str_tuple a t' p2 hu'
  | lst l =>
    have hdl : depDs l ≤ n := by rw [depD] at hn; omega
    have h1' := h1
    rw [DAt] at h1
    obtain ⟨a, vs, rfl, hS, hD⟩ := h1
    cases r1
    obtain ⟨its, rv, p1, _⟩ := I.list hS
    cases e with
    | non => rw [DAt] at h2; subst h2; cases r2; exact SeqAt.RcAt.list_none p1.isList hu'
    | bl b => rw [DAt] at h2; subst h2; cases r2; exact SeqAt.RcAt.list_bool b p1.isList hu'
    | int b => rw [DAt] at h2; subst h2; obtain ⟨t, rfl⟩ := r2; exact SeqAt.RcAt.list_int b t p1.isList hu'
    | str b => rw [DAt] at h2; subst h2; obtain ⟨t, rfl⟩ := r2; exact SeqAt.RcAt.list_str b t p1.isList hu'
    | lst m => 
      have h2' := h2
      rw [DAt] at h2
      obtain ⟨b, ws, rfl, hS2, hD2⟩ := h2
      cases r2
      obtain ⟨its2, rv2, p2, _⟩ := I.list hS2
      have l1 : its.toArray.size = l.length := by rw [List.size_toArray, ← rv.length, hD.length]
      have l2 : its2.toArray.size = m.length := by rw [List.size_toArray, ← rv2.length, hD2.length]
      rw [eqD]
      by_cases hl : l.length = m.length
      · have := SeqAt.RcAt.lists (A := A) (e := fun j => eqD (l.getD j .non) (m.getD j .non)) p1.isList p2.isList (by rw [l1, l2, hl]) hu' (fun j q1 q2 => by
        obtain ⟨v1, g1, d1⟩ := hD.get (j := j) (by omega)
        obtain ⟨v2, g2, d2⟩ := hD2.get (j := j) (by omega)
        obtain ⟨u1, e1, R1⟩ := rv.get g1
        obtain ⟨u2, e2, R2⟩ := rv2.get g2
        have E1 : its.toArray[j] = u1 := by
          have : its.toArray[j]? = some u1 := by rw [List.getElem?_toArray]; exact e1
          rw [Array.getElem?_eq_getElem q1] at this; exact Option.some.inj this
        have E2 : its2.toArray[j] = u2 := by
          have : its2.toArray[j]? = some u2 := by rw [List.getElem?_toArray]; exact e2
          rw [Array.getElem?_eq_getElem q2] at this; exact Option.some.inj this
        rw [E1, E2]
        exact eqAt_D I n _ _ (Nat.le_trans (depD_get (by omega)) hdl) (show A.units + 1 + n < cLine by omega) d1 d2 R1 R2)
        rw [l1, eqDs_all hl] at this
        exact this
      · rw [eqDs_len hl]
        exact SeqAt.RcAt.lists_lengths p1.isList p2.isList (by rw [l1, l2]; simpa using hl) hu'
    | tup m => rw [DAt] at h2; obtain ⟨b, ws, rfl, hS2, _⟩ := h2; cases r2; obtain ⟨_, _, p2, _⟩ := I.tuple hS2; exact SeqAt.RcAt.list_tuple p1.isList p2 hu'
  | tup l =>
    have hdl : depDs l ≤ n := by rw [depD] at hn; omega
    have h1' := h1
    rw [DAt] at h1
    obtain ⟨a, vs, rfl, hS, hD⟩ := h1
    cases r1
    obtain ⟨its, rv, p1, _⟩ := I.tuple hS
    cases e with
    | non => rw [DAt] at h2; subst h2; cases r2; exact SeqAt.RcAt.tuple_none p1 hu'
    | bl b => rw [DAt] at h2; subst h2; cases r2; exact SeqAt.RcAt.tuple_bool b p1 hu'
    | int b => rw [DAt] at h2; subst h2; obtain ⟨t, rfl⟩ := r2; exact SeqAt.RcAt.tuple_int b t p1 hu'
    | str b => rw [DAt] at h2; subst h2; obtain ⟨t, rfl⟩ := r2; exact SeqAt.RcAt.tuple_str b t p1 hu'
    | lst m => rw [DAt] at h2; obtain ⟨b, ws, rfl, hS2, _⟩ := h2; cases r2; obtain ⟨_, _, p2, _⟩ := I.list hS2; exact SeqAt.RcAt.tuple_list p1 p2.isList hu'
    | tup m => 
      have h2' := h2
      rw [DAt] at h2
      obtain ⟨b, ws, rfl, hS2, hD2⟩ := h2
      cases r2
      obtain ⟨its2, rv2, p2, _⟩ := I.tuple hS2
      have l1 : its.toArray.size = l.length := by rw [List.size_toArray, ← rv.length, hD.length]
      have l2 : its2.toArray.size = m.length := by rw [List.size_toArray, ← rv2.length, hD2.length]
      rw [eqD]
      have := SeqAt.RcAt.tuples (A := A) (e := fun j => eqD (l.getD j .non) (m.getD j .non)) p1 p2 hu' (fun j q1 q2 => by
        obtain ⟨v1, g1, d1⟩ := hD.get (j := j) (by omega)
        obtain ⟨v2, g2, d2⟩ := hD2.get (j := j) (by omega)
        obtain ⟨u1, e1, R1⟩ := rv.get g1
        obtain ⟨u2, e2, R2⟩ := rv2.get g2
        have E1 : its.toArray[j] = u1 := by
          have : its.toArray[j]? = some u1 := by rw [List.getElem?_toArray]; exact e1
          rw [Array.getElem?_eq_getElem q1] at this; exact Option.some.inj this
        have E2 : its2.toArray[j] = u2 := by
          have : its2.toArray[j]? = some u2 := by rw [List.getElem?_toArray]; exact e2
          rw [Array.getElem?_eq_getElem q2] at this; exact Option.some.inj this
        rw [E1, E2]
        exact eqAt_D I n _ _ (Nat.le_trans (depD_get (by omega)) hdl) (show A.units + 1 + n < cLine by omega) d1 d2 R1 R2)
      rw [l1, l2] at this
      by_cases hl : l.length = m.length
      · rw [← hl, Nat.min_self, eqDs_all hl, beq_self_eq_true, Bool.and_true] at this
        exact this
      · rw [eqDs_len hl]
        rw [show (l.length == m.length) = false by simpa using hl, Bool.and_false] at this
        exact this
def rEqD (K : PySem.W.Frag) (g : Bool → V) : R2 := fun x y H Q => ∃ (d e : Dd), DAt K H d x ∧ DAt K H e y ∧ depD d ≤ 30 ∧ Q (g (eqD d e)) H
theorem op_eqD (hu : X.A.units + 40 < cLine) (h : X.K = K := by rfl) : OpR X (compareOp .Eq) (rEqD K V.bl) := by
  subst h
  intro pins s σ H x y v u Q I rx ry h
  obtain ⟨d, e, h1, h2, hd, q⟩ := h
  exact rcAt_D I (n := 30) d e (by omega) (by omega) h1 h2 rx ry _ _ _ _ ⟨.bl _, H, I, rfl, q⟩
theorem hu40 {A : Around} {k : Nat} (hr : Room k A) : A.units + 40 < cLine := Nat.lt_of_le_of_lt (Nat.add_le_add_left (by decide : 40 ≤ 64) _) hr.units
end
end L2
set_option Elab.async false
set_option linter.all false
set_option maxRecDepth 100000
namespace L2
open PySem PySem.Spec PyProof.Rows
section
variable {X : Cx} {K : PySem.W.Frag}
theorem vals_strs : ∀ {zs : List Str} {us : List Value}, Vals (zs.map V.str) us → ∃ l : List (Str × Tok), us = strValues l ∧ l.map (·.1) = zs
  | [], us, h => by cases h; exact ⟨[], rfl, rfl⟩
  | z :: zs, us, h => by
    cases h with
    | cons r t =>
      obtain ⟨k, rfl⟩ := r
      obtain ⟨l, rfl, rfl⟩ := vals_strs t
      exact ⟨(z, k) :: l, rfl, rfl⟩
def rJoin (K : PySem.W.Frag) : V → List V → Hp → VK → Prop := fun x vs H Q => ∃ (u : Str) (p : Addr) (zs : List Str), x = .str u ∧ vs = [.ref p] ∧ SqL K H p (zs.map V.str) ∧ JoinOk u zs = true ∧ Q (.str (Txt.join u zs)) H
theorem mt_join (h : X.K = K := by rfl) : MtR X "str.join" (rJoin K) := by
  subst h
  intro pins s σ H x vs v us Q I rx rv h
  obtain ⟨u, p, zs, rfl, rfl, hH, hok, q⟩ := h
  obtain ⟨t, rfl⟩ := rx
  obtain ⟨w, rfl, rw_⟩ := rv.one
  cases rw_
  obtain ⟨its, r, pl, hz⟩ := I.list hH
  obtain ⟨l, rfl, hl⟩ := vals_strs r
  exact SC.join pl.isList hl hok fun t' k => ⟨.str _, H, I.tok _, ⟨_, rfl⟩, q⟩
theorem joinOk_small {u : Str} {zs : List Str} {B : Nat} (hB : ∀ y ∈ zs, y.length ≤ B) (h : zs.length * B + zs.length * u.length ≤ 16777216) : JoinOk u zs = true := by
  unfold JoinOk
  rw [PySem.StrLaws.joinFits hB h]; rfl
theorem glue_snoc (l : List Str) (z : Str) : Txt.join (Str.ofString "") (l ++ [z]) = Txt.join (Str.ofString "") l ++ z := by
  have e0 : (Str.ofString "").cps = #[] := by decide
  show Builtin.Str.glued _ _ = Builtin.Str.glued _ _ ++ z
  unfold Builtin.Str.glued
  cases l with
  | nil => 
    show (⟨z.cps⟩ : Str) = ⟨(Str.empty).cps ++ z.cps⟩
    rw [show (Str.empty).cps = #[] from rfl, Array.empty_append]
  | cons a l =>
    show (⟨(l ++ [z]).foldl _ a.cps⟩ : Str) = ⟨l.foldl _ a.cps ++ z.cps⟩
    rw [List.foldl_append]
    show (⟨l.foldl _ a.cps ++ (Str.ofString "").cps ++ z.cps⟩ : Str) = _
    rw [e0, Array.append_empty]
def iRngD (ta : TA) : TI := fun σ H R => ta σ H fun vs H1 => ∃ i j : Int, vs = [.int i, .int j, .int (-1)] ∧ (-(2 ^ 40) ≤ i ∧ i < 2 ^ 40 ∧ -(2 ^ 40) ≤ j ∧ j < 2 ^ 40) ∧ R (Itv i (i - j).toNat) H1
theorem pi_rangeD {tg : Expr} {a b c : Expr} {ta : TA} {p pos : Pos} (hg : Gl X "range") (hm : X.mg "range" = none) (ha : PA X [a, b, c] ta) (hs : starEach [a, b, c] X.env = (false, eval a X.env) :: starEach [b, c] X.env := by rfl) (hs2 : (backTo pos (starEach [b, c] X.env)).any (·.1) = false := by rfl) :
    PI X tg (.Call (.Name "range" p) [a, b, c] [] pos) (iRngD ta) := by
  intro pins s σ H R I h
  refine Call_ (ld_blt I hg hm boot_range (PyProof.Rows.callWith_type1 (thn (ha pos pins s σ H _ I h) fun us s1 ⟨vs, H1, I1, r1, q1⟩ => ?_) hs hs2))
  obtain ⟨i, j, e, ⟨g1, g2, g3, g4⟩, q⟩ := q1
  subst e
  cases r1 with
  | cons r rr =>
    cases rr with
    | cons r' rr =>
      cases rr with
      | cons r'' rr =>
        cases rr
        obtain ⟨t, rfl⟩ := r
        obtain ⟨t', rfl⟩ := r'
        obtain ⟨t'', rfl⟩ := r''
        refine call_range_3 (by decide) ?_ (Or.inl (PyProof.noPylong_small (by omega)))
        have hsz : Builtin.Range.rangeSize i j (-1) = ((i - j).toNat : Int) := by
          unfold Builtin.Range.rangeSize
          rw [if_neg (by decide), show (-(-1 : Int)) = 1 by decide, Int.ediv_one]
          split <;> omega
        have hsm : Builtin.Range.small i j (-1) = true := by
          unfold Builtin.Range.small
          rw [hsz]
          simp only [Builtin.Range.rangeFitsLong, Bool.and_eq_true, Bool.or_eq_true, decide_eq_true_eq, beq_iff_eq, show ¬ ((-1 : Int) > 0) by decide, if_false]
          omega
        refine wpAny_pyIter_range (IsRange.new ..) hsm ?_
        rw [hsz]
        have I2 : Inv X pins σ H1 { s1 with heap := s1.heap.push { cls := .type "range", data := .fields #[.int i t, .int j t', .int (-1) t''] }, toks := s1.toks } := I1.kept fun b o e => Heap.get?_push_of_some _ e
        refine ⟨(s1.heap.push { cls := .type "range", data := .fields #[.int i t, .int j t', .int (-1) t''] }).objs.size, [(s1.heap.push { cls := .type "range", data := .fields #[.int i t, .int j t', .int (-1) t''] }).objs.size], _, _, H1, rfl,
          I2.kept (t' := s1.toks) fun b o e => Heap.get?_push_of_some _ e, turn_rev _ i (i - j).toNat, ?_, fun b hb => ?_, q⟩
        · have e1 : i + ((0 : Nat) : Int) * (-1) = i := by simp
          have e2 : (((i - j).toNat : Nat) : Int) - ((0 : Nat) : Int) = ((i - j).toNat : Int) := by simp
          show IsRangeIter _ _ (i + ((0 : Nat) : Int) * (-1)) ((((i - j).toNat : Nat) : Int) - ((0 : Nat) : Int)) (-1)
          rw [e1, e2]
          exact Heap.get?_push_size _ rfl
        · have e : b = (s1.heap.push { cls := .type "range", data := .fields #[.int i t, .int j t', .int (-1) t''] }).objs.size := by simpa using hb
          subst e
          exact I2.fpOk (Nat.le_refl _) (I2.hok.fresh (Nat.le_refl _))
end
end L2
set_option Elab.async false
set_option linter.all false
set_option maxRecDepth 100000
namespace L2
open PySem
theorem paired_getM {α β : Type} {F : α → β → Prop} : ∀ {l1 : List α} {l2 : List β} {j : Nat} {a : α}, Paired F l1 l2 → l1[j]? = some a → ∃ b, F a b ∧ l2[j]? = some b := by
  intro l1 l2 j a h e
  induction h generalizing j with
  | nil => simp at e
  | cons r t ih =>
    cases j with
    | zero => simp at e; subst e; exact ⟨_, r, rfl⟩
    | succ j => obtain ⟨b, q, e2⟩ := ih (by simpa using e); exact ⟨b, q, by simpa using e2⟩
end L2
set_option Elab.async false
set_option linter.all false
set_option maxRecDepth 100000
namespace L2
open PySem PySem.Spec PyProof.Rows
open PySem.StrLaws (occBody occ_eq subAt_one partsFrom partsBetween_eq strSub_toList)
section
variable {X : Cx} {K : PySem.W.Frag}
end
end L2
set_option Elab.async false
set_option linter.all false
set_option maxRecDepth 100000
namespace L2
open PySem
end L2
set_option Elab.async false
set_option linter.all false
set_option maxRecDepth 100000
namespace L2
open PySem PySem.Spec PyProof.Rows
section
variable {X : Cx} {K : PySem.W.Frag}
end
theorem seq_c {v : V} {i : Nat} {B : TS} {D : Ends} {σ : St} {H : Hp} (h : B D (σ.set i (some v)) H) : tSeq (tAsg (tC v) (gName i)) B D σ H := h
end L2
set_option Elab.async false
set_option linter.all false
set_option maxRecDepth 100000
namespace L2
open PySem
def neL (L : List (List Int)) : List (List Int) := L.filter fun l => decide (0 < l.length)
section
variable {ws F : List Int} (hw : isWay ws = true) (hH : IsH (arW ws) (crW ws) (fresh 0 ws).toNat F)
include hw hH in
include hw hH in
include hw hH in
include hw hH in
include hw hH in
end
end L2
set_option Elab.async false
set_option linter.all false
set_option maxRecDepth 100000
namespace L2
open PySem PySem.Spec PyProof.Rows
section
variable {prog : Program} {w : World} {A : Around} {E : Value → Shared → Prop} {s : Shared}
end
section
variable {X : Cx} {K : PySem.W.Frag}
end
end L2
set_option Elab.async false
set_option linter.all false
set_option maxRecDepth 100000
namespace L2
open PySem PySem.Spec PyProof.Rows
section
variable {X : Cx}
end
end L2
set_option Elab.async false
set_option linter.all false
set_option maxRecDepth 100000
namespace L2
open PySem PySem.Spec PyProof.Rows
section
variable {X : Cx} {K : PySem.W.Frag}
end
end L2
set_option Elab.async false
set_option linter.all false
set_option maxRecDepth 100000
namespace L2
open PySem PySem.Spec PyProof.Rows
theorem atI_strs {R : List Str} {i : Nat} (h : i < R.length) : atI (R.map V.str) (i : Int) = some (V.str (R.getD i "")) := atI_nat (by rw [List.getElem?_map, List.getElem?_eq_getElem h, List.getD_eq_getElem?_getD, List.getElem?_eq_getElem h]; rfl)
theorem seq_a {te : TE} {i : Nat} {B : TS} {D : Ends} {σ : St} {H : Hp} (h : te σ H fun x H1 => B D (σ.set i (some x)) H1) : tSeq (tAsg te (gName i)) B D σ H := h
theorem seq_by2 {A B : TS} {D : Ends} {σ : St} {H : Hp} (P : St → Hp → Prop) (hA : ∀ N : St → Hp → Prop, (∀ σ H, P σ H → N σ H) → A { D with nx := N } σ H) (hB : ∀ σ H, P σ H → B D σ H) : tSeq A B D σ H := hA _ hB
end L2
set_option Elab.async false
set_option linter.all false
set_option maxRecDepth 100000
namespace L2
open PySem PySem.Spec PyProof.Rows
structure CalM (P : Program) (w : World) (K : PySem.W.Frag) (mg : Str → Option Value) (base : Heap) (C : Addr) (k : Nat) (m : Str) (sp : Sp) : Prop where
  ex : ∃ f fd ps, FnOk P w K mg base CX0 k f fd ps sp ∧ Meth K C m f ∧ Binds K fd ps []
structure CalME (P : Program) (w : World) (K : PySem.W.Frag) (mg : Str → Option Value) (base : Heap) (C : Addr) (k : Nat) (m : Str) (sp : Sp) : Prop where
  ex : ∃ f fd ps, FnOk P w K mg base (CXE P w) k f fd ps sp ∧ Meth K C m f ∧ Binds K fd ps []
structure CalK (P : Program) (w : World) (K : PySem.W.Frag) (mg : Str → Option Value) (base : Heap) (C : Addr) (k : Nat) (x : Str) (sp : Sp) : Prop where
  ex : ∃ f fd ps, FnOk P w K mg base CX0 k f fd ps sp ∧ Mk K C f ∧ mg x = some (.ref C) ∧ Binds K fd ps []
structure CalKE (P : Program) (w : World) (K : PySem.W.Frag) (mg : Str → Option Value) (base : Heap) (C : Addr) (k : Nat) (x : Str) (sp : Sp) : Prop where
  ex : ∃ f fd ps, FnOk P w K mg base (CXE P w) k f fd ps sp ∧ Mk K C f ∧ mg x = some (.ref C) ∧ Binds K fd ps []
section
variable {X : Cx} {k : Nat} {C : Addr} {x m : Str} {sp : Sp} {E : XK} {e o : Expr} {es : List Expr} {ta : TE} {t : TA} {p pos apos : Pos}
theorem pe_calM {pl : Sem Bool} (c : CalM X.prog X.w X.K X.mg X.base C k m sp) (cl : Cls X.K C) (hr : Room k X.A) (he : PE X o ta) (ha : PA X (e :: es) t)
    (hst : starEach (e :: es) X.env = (false, eval e X.env) :: starEach es X.env := by rfl) (hpl : (backTo pos (starEach es X.env)).any (·.1) = false := by rfl)
    (ht : eval (.Call (.Attribute o m apos) (e :: es) [] pos) X.env = (do
      let ov ← eval o X.env
      standAt apos.atName
      let (f, first) ← holding [ov] (getMethod ov m pl)
      callWith pos f first (backTo pos (starEach (e :: es) X.env)) (backToKw pos (keywordEach [] X.env))) := by rfl) :
    PE X (.Call (.Attribute o m apos) (e :: es) [] pos) (tMeth C m sp [] E0 ta t) := by
  obtain ⟨f, fd, ps, F, hm, hb⟩ := c.ex
  exact pe_meth (pl := pl) he cl hm F hr hb .nil pass0 ha hst hpl ht
theorem pe_calM0 {pl : Sem Bool} (c : CalM X.prog X.w X.K X.mg X.base C k m sp) (cl : Cls X.K C) (hr : Room k X.A) (he : PE X o ta)
    (ht : eval (.Call (.Attribute o m apos) [] [] pos) X.env = (do
      let ov ← eval o X.env
      standAt apos.atName
      let (f, first) ← holding [ov] (getMethod ov m pl)
      callWith pos f first (backTo pos (starEach [] X.env)) (backToKw pos (keywordEach [] X.env))) := by rfl) :
    PE X (.Call (.Attribute o m apos) [] [] pos) (tMeth C m sp [] E0 ta tNil) := by
  obtain ⟨f, fd, ps, F, hm, hb⟩ := c.ex
  exact pe_meth0 (pl := pl) he cl hm F hr hb .nil pass0 ht
theorem pe_calME {pl : Sem Bool} (c : CalME X.prog X.w X.K X.mg X.base C k m sp) (cl : Cls X.K C) (hr : Room k X.A) (hx : Passes (CXE X.prog X.w) X E) (he : PE X o ta) (ha : PA X (e :: es) t)
    (hst : starEach (e :: es) X.env = (false, eval e X.env) :: starEach es X.env := by rfl) (hpl : (backTo pos (starEach es X.env)).any (·.1) = false := by rfl)
    (ht : eval (.Call (.Attribute o m apos) (e :: es) [] pos) X.env = (do
      let ov ← eval o X.env
      standAt apos.atName
      let (f, first) ← holding [ov] (getMethod ov m pl)
      callWith pos f first (backTo pos (starEach (e :: es) X.env)) (backToKw pos (keywordEach [] X.env))) := by rfl) :
    PE X (.Call (.Attribute o m apos) (e :: es) [] pos) (tMeth C m sp [] E ta t) := by
  obtain ⟨f, fd, ps, F, hm, hb⟩ := c.ex
  exact pe_meth (pl := pl) he cl hm F hr hb .nil hx ha hst hpl ht
theorem pe_calK (c : CalK X.prog X.w X.K X.mg X.base C k x sp) (hr : Room (k + 1) X.A) (hg : Gl X x) (ha : PA X (e :: es) t) (hdb : (x == ("__debug__" : Str)) = false := by decide)
    (he : starEach (e :: es) X.env = (false, eval e X.env) :: starEach es X.env := by rfl) (hpl : (backTo pos (starEach es X.env)).any (·.1) = false := by rfl) :
    PE X (.Call (.Name x p) (e :: es) [] pos) (tMake C sp [] E0 t) := by
  obtain ⟨f, fd, ps, F, M, hm, hb⟩ := c.ex
  exact pe_make M F hr hg hm hb .nil pass0 ha hdb he hpl
theorem pe_calKE (c : CalKE X.prog X.w X.K X.mg X.base C k x sp) (hr : Room (k + 1) X.A) (hg : Gl X x) (hx : Passes (CXE X.prog X.w) X E) (ha : PA X (e :: es) t) (hdb : (x == ("__debug__" : Str)) = false := by decide)
    (he : starEach (e :: es) X.env = (false, eval e X.env) :: starEach es X.env := by rfl) (hpl : (backTo pos (starEach es X.env)).any (·.1) = false := by rfl) :
    PE X (.Call (.Name x p) (e :: es) [] pos) (tMake C sp [] E t) := by
  obtain ⟨f, fd, ps, F, M, hm, hb⟩ := c.ex
  exact pe_make M F hr hg hm hb .nil hx ha hdb he hpl
end
end L2
set_option Elab.async false
set_option linter.all false
set_option maxRecDepth 100000
namespace L2
open PySem PySem.Spec PyProof.Rows
def sgZ (z : Str) (i : Nat) : Str := ⟨#[z.cps.toList.getD i 0]⟩
def Its (z : Str) : It := ⟨fun i _ => i < z.length, fun i H x H' => H' = H ∧ x = .str (sgZ z i), fun i _ => z.length ≤ i⟩
theorem turn_strA {P : Program} {w : World} {K : PySem.W.Frag} {tg : Expr} (it : Addr) (z : Str) (t : Tok) : Turn P w K tg (Its z) [it] it (fun i h => h.IsStrIter it "str_ascii_iterator" z t i) where
  mem := by simp
  obj := fun i h st b hb => by
    have e : b = it := by simpa using hb
    subst e
    obtain ⟨o, e, c, d⟩ := st
    exact ⟨o, e, fun v z => by rw [d] at z; cases z⟩
  keep := fun i h h' st k => let ⟨o, ho, r⟩ := st; ⟨o, k it (by simp) o ho, r⟩
  item := by
    intro X hP hw hK hc i pins s σ H E I hf st hg
    subst hP hw hK
    obtain ⟨f0, f1, f2, f3, f4, f5⟩ := hf it (by simp)
    have hi : i < z.cps.size := hg
    refine wpAny_pyNext_ascii_item st (c := z.cps[i]) (by simp [hi]) fun h' st' sb => ?_
    have I1 : Inv X pins σ H { s with heap := h', toks := s.toks + 1 } := I.turned (fun b o hb e => sb.extBut b o hb e) f0 f1 f3 f4 f5
    obtain ⟨o, e, c, d⟩ := id st'
    refine ⟨_, rfl, go_of (s := { s with heap := h', toks := s.toks + 1 }) e c d (by decide) ⟨.str (sgZ z i), H, I1, ⟨s.toks, ?_⟩, ⟨rfl, rfl⟩, st', fun b hb => (hf b hb).1⟩⟩
    unfold sgZ
    rw [List.getD_eq_getElem?_getD, Array.getElem?_toList, Array.getElem?_eq_getElem hi]; rfl
  done := by
    intro X hP hw hK hc i pins s σ H E I hf st hg
    subst hP hw hK
    obtain ⟨f0, f1, f2, f3, f4, f5⟩ := hf it (by simp)
    have hi : z.cps.size ≤ i := hg
    exact wpAny_pyNext_ascii_end (I.ok.hd hc) st (by simp [hi]) fun h' eb => ⟨rfl, I.turned (t' := s.toks) (fun b o hb e => eb b o hb e) f0 f1 f3 f4 f5⟩
  self := fun _ _ _ _ _ st h => wpAny_pyIter_striter_ascii st h
theorem turn_strW {P : Program} {w : World} {K : PySem.W.Frag} {tg : Expr} (it : Addr) (z : Str) (t : Tok) : Turn P w K tg (Its z) [it] it (fun i h => h.IsStrIter it "str_iterator" z t i) where
  mem := by simp
  obj := fun i h st b hb => by
    have e : b = it := by simpa using hb
    subst e
    obtain ⟨o, e, c, d⟩ := st
    exact ⟨o, e, fun v z => by rw [d] at z; cases z⟩
  keep := fun i h h' st k => let ⟨o, ho, r⟩ := st; ⟨o, k it (by simp) o ho, r⟩
  item := by
    intro X hP hw hK hc i pins s σ H E I hf st hg
    subst hP hw hK
    obtain ⟨f0, f1, f2, f3, f4, f5⟩ := hf it (by simp)
    have hi : i < z.cps.size := hg
    refine wpAny_pyNext_wide_item st (c := z.cps[i]) (by simp [hi]) fun h' st' sb => ?_
    have I1 : Inv X pins σ H { s with heap := h', toks := s.toks + 1 } := I.turned (fun b o hb e => sb.extBut b o hb e) f0 f1 f3 f4 f5
    obtain ⟨o, e, c, d⟩ := id st'
    refine ⟨_, rfl, go_of (s := { s with heap := h', toks := s.toks + 1 }) e c d (by decide) ⟨.str (sgZ z i), H, I1, ⟨s.toks, ?_⟩, ⟨rfl, rfl⟩, st', fun b hb => (hf b hb).1⟩⟩
    unfold sgZ
    rw [List.getD_eq_getElem?_getD, Array.getElem?_toList, Array.getElem?_eq_getElem hi]; rfl
  done := by
    intro X hP hw hK hc i pins s σ H E I hf st hg
    subst hP hw hK
    obtain ⟨f0, f1, f2, f3, f4, f5⟩ := hf it (by simp)
    have hi : z.cps.size ≤ i := hg
    exact wpAny_pyNext_wide_end (I.ok.hd hc) st (by simp [hi]) fun h' eb => ⟨rfl, I.turned (t' := s.toks) (fun b o hb e => eb b o hb e) f0 f1 f3 f4 f5⟩
  self := fun _ _ _ _ _ st h => wpAny_pyIter_striter_wide st h
def iStr (tl : TE) : TI := fun σ H R => tl σ H fun x H1 => ∃ z : Str, x = .str z ∧ R (Its z) H1
section
variable {X : Cx} {K : PySem.W.Frag} {tg : Expr}
theorem pi_str {l : Expr} {tl : TE} (hl : PE X l tl) : PI X tg l (iStr tl) := by
  intro pins s σ H R I h
  refine thn (hl pins s σ H _ I h) fun v s1 ⟨x, H1, I1, r1, q1⟩ => ?_
  obtain ⟨z, e, q⟩ := q1
  subst e
  obtain ⟨t, rfl⟩ := r1
  have fin : ∀ b ∈ [s1.heap.objs.size], FpOk X pins H1 b := fun b hb => by
    have e : b = s1.heap.objs.size := by simpa using hb
    subst e
    exact I1.fpOk (Nat.le_refl _) (I1.hok.fresh (Nat.le_refl _))
  cases ha : z.cps.all (· < 128)
  · refine wpAny_pyIter_wide ha ?_
    exact ⟨s1.heap.objs.size, [s1.heap.objs.size], _, _, H1, rfl, I1.kept (t' := s1.toks) fun b o e => Heap.get?_push_of_some _ e, turn_strW _ z t, ⟨_, Heap.get?_push_size _ rfl, rfl, rfl⟩, fin, q⟩
  · refine wpAny_pyIter_ascii ha ?_
    exact ⟨s1.heap.objs.size, [s1.heap.objs.size], _, _, H1, rfl, I1.kept (t' := s1.toks) fun b o e => Heap.get?_push_of_some _ e, turn_strA _ z t, ⟨_, Heap.get?_push_size _ rfl, rfl, rfl⟩, fin, q⟩
theorem lc_str {M : List (Option Nat)} {σ : St} {g : TG} {tc : TT} {te : TE} {F : List V → Hp → Prop} {H : Hp} {z : Str} (Pv : Nat → List V → Hp → Prop) (hz : z.length ≤ sizeLine) (h0 : Pv 0 [] H) (hl : ∀ i ys H, i ≤ z.length → Pv i ys H → ys.length ≤ i)
    (hs : ∀ i ys H, i < z.length → Pv i ys H → g (.str (sgZ z i)) (inSt M σ) H fun σ2 H2 => tc σ2 H2 fun b H3 => if b = true then te σ2 H3 fun v H4 => Pv (i + 1) (ys ++ [v]) H4 else Pv (i + 1) ys H3)
    (hd : ∀ ys H, Pv z.length ys H → F ys H) : LcGoal (Its z) M σ g tc te F H := by
  refine ⟨fun i m ys H => m = z.length - i ∧ i ≤ z.length ∧ Pv i ys H, ⟨z.length, by simp, Nat.zero_le _, h0⟩, ?_⟩
  rintro i m ys H ⟨rfl, hi, p⟩
  have hy := hl i ys H hi p
  refine ⟨by omega, ?_⟩
  by_cases hlt : i < z.length
  · refine .inr ⟨hlt, by omega, Pv (i + 1), fun ys' H' p' => ⟨z.length - (i + 1), by omega, rfl, hlt, p'⟩, fun x H' y => ?_⟩
    obtain ⟨e, y⟩ := y
    subst e y
    exact hs i ys _ hlt p
  · have e : i = z.length := by omega
    subst e
    exact .inl ⟨Nat.le_refl _, hd ys H p⟩
theorem op_leS : OpR X (compareOp .LtE) (fun x y H Q => ∃ i j, x = .str i ∧ y = .str j ∧ Q (.bl (!decide (j.cps.toList < i.cps.toList))) H) := by
  intro pins s σ H x y v u Q I rx ry h
  obtain ⟨i, j, rfl, rfl, q⟩ := h
  obtain ⟨t, rfl⟩ := rx
  obtain ⟨t', rfl⟩ := ry
  exact PySem.P.le_str ⟨.bl _, H, I, rfl, q⟩
end
end L2
set_option Elab.async false
set_option linter.all false
set_option maxRecDepth 100000
namespace L2
open PySem PySem.Spec PyProof.Rows
def stepS (σ : List Str) (v : Str) : List Str := if σ.any (· == v) then σ else σ ++ [v]
def firstMetS (val : Nat → Str) (i : Nat) : List Str := ((List.range i).map val).foldl stepS []
theorem firstMetS_zero (val : Nat → Str) : firstMetS val 0 = [] := rfl
theorem firstMetS_succ (val : Nat → Str) (i : Nat) : firstMetS val (i + 1) = stepS (firstMetS val i) (val i) := by
  unfold firstMetS; rw [List.range_succ, List.map_append, List.foldl_append]; rfl
theorem firstMetS_length_le (val : Nat → Str) : ∀ i, (firstMetS val i).length ≤ i
  | 0 => by rw [firstMetS_zero]; exact Nat.le_refl _
  | i + 1 => by
    rw [firstMetS_succ]; unfold stepS
    have ih := firstMetS_length_le val i
    split
    · omega
    · rw [List.length_append, List.length_singleton]; omega
theorem stepS_any (σ : List Str) (v k : Str) : (stepS σ v).any (· == k) = (σ.any (· == k) || decide (k = v)) := by
  unfold stepS
  by_cases h : σ.any (· == v) = true
  · rw [if_pos h]
    by_cases e : k = v
    · subst e; rw [h]; simp
    · simp [e]
  · rw [if_neg h, List.any_append]
    by_cases e : k = v
    · subst e; simp
    · have hb : (v == k) = false := by simpa [beq_iff_eq] using (fun h' : v = k => e h'.symm)
      simp [hb, e]
theorem stepS_length (σ : List Str) (v : Str) : (stepS σ v).length = if σ.any (· == v) then σ.length else σ.length + 1 := by
  unfold stepS; split <;> simp
section
variable {prog : Program} {w : World} {A : Around} {R : Result → Shared → Prop} {I : Addr} {fp wr : List Addr} {G : Array GenState → Array GenState → Prop} {n : Nat} {P : Nat → Value → Prop} {St : Nat → Shared → Prop}
theorem codeAny_set_update_loopZ (W : WalksS prog w A.in1 I fp wr G n P St) (S : Addr) (hSf : S ∉ fp)
    (val : Nat → Str) (hval : ∀ i v, P i v → ∃ t, v = .str (val i) t) (hb : n + 1 < scanBound) :
    ∀ (k i : Nat) (s : Shared), n - i = k → i ≤ n → St i s →
      s.heap.SetOf (strKind prog w) S (fun k' => (firstMetS val i).any (· == k')) (firstMetS val i).length →
      (∀ s', Moved (S :: wr) G s s' → s'.heap.SetOf (strKind prog w) S (fun k' => (firstMetS val n).any (· == k')) (firstMetS val n).length → R (.ok (.ret .none)) s') →
      codeAny (model prog w) A (.builtin "set.update.loop" ⟨[.ref S, .ref I], []⟩) R s := by
  have hSw : S ∉ wr := fun h => hSf (W.sub _ h)
  have hsub : ∀ b ∈ wr, b ∈ S :: wr := fun b hb => List.mem_cons_of_mem _ hb
  intro k
  induction k with
  | zero =>
    intro i s hk hi hst hS hR
    have hin : i = n := by omega
    subst hin
    refine codeAny_builtin F.entry_set_update_loop ?_
    rw [Around.under_plainId F.plain_set_update_loop _]
    show wpAny _ A.in1 (pyNext (.ref I) >>= _) _ _ s
    refine wpAny_bind (W.done s _ _ hst fun s' hm => ?_)
    show wpAny _ A.in1 (ret Value.none) _ _ s'
    exact wpAny_pure (hR s' (hm.mono hsub) (by
      obtain ⟨o, es, ep, t, ho, rest⟩ := hS
      exact ⟨o, es, ep, t, hm.heap S _ hSw ho, rest⟩))
  | succ k ih =>
    intro i s hk hi hst hS hR
    have hlt : i < n := by omega
    refine codeAny_builtin F.entry_set_update_loop ?_
    rw [Around.under_plainId F.plain_set_update_loop _]
    show wpAny _ A.in1 (pyNext (.ref I) >>= _) _ _ s
    refine wpAny_bind (W.item i s _ _ hlt hst fun v s' hP hst' hm => ?_)
    obtain ⟨t, rfl⟩ := hval i v hP
    have hS' : s'.heap.SetOf (strKind prog w) S (fun k' => (firstMetS val i).any (· == k')) (firstMetS val i).length := by
      obtain ⟨o, es, ep, tb, ho, rest⟩ := hS
      exact ⟨o, es, ep, tb, hm.heap S _ hSw ho, rest⟩
    show wpAny _ A.in1 (holding [Value.str (val i) t] (setAdd S (.str (val i) t)) >>= _) _ _ s'
    refine wpAny_bind (wpAny_holding ?_)
    unfold setAdd
    refine wpAny_holding ?_
    refine wpAny_bind ((strKind prog w).pyHash (k := val i) (strKind_is _ _ _ _) ?_)
    have hroom : (firstMetS val i).length + 1 < scanBound := by have := firstMetS_length_le val i; omega
    refine wpAny_setAddHashed_of (knd := strKind prog w) (s := { s' with toks := s'.toks + 1 }) (strKind_is _ _ _ _) rfl hS' hroom fun h' hsb hS2 => ?_
    have hSi : h'.SetOf (strKind prog w) S (fun k' => (firstMetS val (i + 1)).any (· == k')) (firstMetS val (i + 1)).length :=
      SetOf_congr hS2 (fun k' => by rw [firstMetS_succ, stepS_any]) (by rw [firstMetS_succ, stepS_length])
    refine wpAny_pure ⟨plainId_quiet F.plain_set_update_loop _, ih (i + 1) _ (by omega) hlt (W.frame _ s' _ _ hst' (Nat.le_succ _) fun b hb o e => ?_) hSi fun s'' hm'' hS'' => ?_⟩
    · rw [hsb.2 b (fun h : b = S => hSf (by rw [← h]; exact hb))]; exact e
    · refine hR s'' (Moved.trans W.gtrans ((hm.mono hsub).then_heap (Nat.le_succ _) fun b o hb e => ?_) hm'') hS''
      rw [hsb.2 b (fun h : b = S => hb (by rw [h]; exact List.mem_cons_self))]; exact e
end
section
variable {prog : Program} {w : World} {A : Around} {E : Value → Shared → Prop} {s : Shared}
set_option maxHeartbeats 3200000 in
theorem call_set_listZ {l : Addr} {items : Array Value} {ns : List Str} {Q : Value → Shared → Prop}
    (hh : A.handled = none) (hl : s.heap.IsList l items) (hi : ∀ (i : Nat) (v : Value), items[i]? = some v → ∃ t, v = .str (ns.getD i "") t) (hb : items.size + 1 < scanBound)
    (h : ∀ (h' : Heap) (tk : Nat), h'.SetOf (strKind prog w) s.heap.objs.size (fun k' => (firstMetS (fun i => ns.getD i "") items.size).any (· == k')) (firstMetS (fun i => ns.getD i "") items.size).length →
      (∀ b o, b < s.heap.objs.size → s.heap.get? b = some o → h'.get? b = some o) → Q (.ref s.heap.objs.size) { s with heap := h', toks := tk }) :
    wpAny (model prog w) A (call (.type "set") [.ref l]) Q E s := by
  obtain ⟨c, tl, hmro⟩ := F.called_set.mro
  have hmade := F.called_set.made
  have hsub := F.called_set.sub
  refine wpAny_call (codeAny_of_tree ?_)
  show wpAny _ _ (callAny (.type "set") _) _ _ _
  refine wpAny_pure ⟨Code.quiet_builtin _ (by decide +kernel), codeAny_builtin F.entry_type_call ?_⟩
  rw [Around.under_plain (weight_type_call_type "set" [.ref l] []) rfl]
  have h1 := F.called_set.notType
  have h2 := F.called_set.canCreate
  have hct := F.typeCall_set_1 (.ref l)
  repeat (any_goals (first | assumption | wp_step))
  refine codeAny_mono (code_set_new_1 (.ref l) (E := E) (Q₁ := fun obj s₁ => ∃ led : Bool, obj = .ref s.heap.objs.size ∧ s₁ = { s with heap := s.heap.push { cls := .type "set", dict := none, data := .set #[] 0 (.fresh 0 0 led) } }) fun led => ⟨led, rfl, rfl⟩) fun r s₁ hr => ?_
  cases r with
  | error e => exact hr
  | ok fl =>
    cases fl with
    | ret obj =>
      obtain ⟨led, rfl, rfl⟩ := hr
      have hS : (s.heap.push { cls := .type "set", dict := none, data := .set #[] 0 (.fresh 0 0 led) }).get? s.heap.objs.size = some { cls := .type "set", dict := none, data := .set #[] 0 (.fresh 0 0 led) } := Heap.get?_push_size _ rfl
      have hT : Shared.TypeIs { s with heap := s.heap.push { cls := .type "set", dict := none, data := .set #[] 0 (.fresh 0 0 led) } } (.ref s.heap.objs.size) "set" := ⟨_, hS, rfl⟩
      have hli := F.called_set.init.lookup
      have hbi := F.called_set.init.bind (.ref s.heap.objs.size)
      repeat (any_goals (first | assumption | wp_step))
      refine codeAny_mono (codeAny_call_builtin (R := wants (fun r s₂ => r = .none ∧ ∃ h' tk, s₂ = { s with heap := h', toks := tk } ∧
          h'.SetOf (strKind prog w) s.heap.objs.size (fun k' => (firstMetS (fun i => ns.getD i "") items.size).any (· == k')) (firstMetS (fun i => ns.getD i "") items.size).length ∧
          (∀ b o, b < s.heap.objs.size → s.heap.get? b = some o → h'.get? b = some o)) E) F.called_set.init.plain F.entry_set_init (check_set_init_1 hT ?_)) fun r₂ s₂ hr₂ => ?_
      · obtain ⟨ol, hol, hcl, nl, hdl⟩ := hl
        obtain ⟨ocls, odict, odata, oslots⟩ := ol
        simp only at hcl hdl
        subst hcl; subst hdl
        have hol' : (s.heap.push { cls := .type "set", dict := none, data := .set #[] 0 (.fresh 0 0 led) }).get? l = some { cls := .type "list", dict := odict, data := .seq items nl, slots := oslots } := Heap.get?_push_of_some _ hol
        have hsls := F.sub_list_set
        have hslf := F.sub_list_frozenset
        have hne : (Value.type "list" == Value.type "dict") = false := by decide
        have hl1 : (s.heap.push { cls := .type "set", dict := none, data := .set #[] 0 (.fresh 0 0 led) }).IsList l items := ⟨_, hol', rfl, nl, rfl⟩
        unfold Builtin.«set.__init__» noKeywords Builtin.Frozenset.updateFrom
        generalize hPI : pyIter = PI
        wp_walk
        subst hPI
        refine wpAny_pyIter_list hl1 ?_
        refine wpAny_bind (wpAny_runValue ?_)
        have hlS : l < s.heap.objs.size := Heap.lt_size hol
        have hh3 : A.in1.in1.in1.handled = none := by simp [hh]
        have hneI : l ≠ (s.heap.push { cls := .type "set", dict := none, data := .set #[] 0 (.fresh 0 0 led) }).objs.size := by
          rw [Heap.size_push]; exact Nat.ne_of_lt (Nat.lt_succ_of_lt hlS)
        have hSf : s.heap.objs.size ∉ [(s.heap.push { cls := .type "set", dict := none, data := .set #[] 0 (.fresh 0 0 led) }).objs.size, l] := by
          rw [Heap.size_push]; simp only [List.mem_cons, List.mem_singleton, List.not_mem_nil, or_false, not_or]
          exact ⟨Nat.ne_of_lt (Nat.lt_succ_self _), Nat.ne_of_gt hlS⟩
        have hval : ∀ (i : Nat) (v : Value), items[i]? = some v → ∃ t, v = .str ((fun i => ns.getD i "") i) t := hi
        refine codeAny_set_update_loopZ ((Walks.list hh3 _ l hneI items).toS) s.heap.objs.size
          hSf (fun i => ns.getD i "") hval hb (items.size - 0) 0 _ (by omega) (Nat.zero_le _)
          ⟨⟨_, Heap.get?_push_size _ rfl, rfl, rfl⟩, (hl1.push _)⟩ ?hS0 ?hR
        case hS0 =>
          have hget : ((s.heap.push { cls := .type "set", dict := none, data := .set #[] 0 (.fresh 0 0 led) }).push { cls := .type "list_iterator", data := .fields #[.ref l, .int 0 0] }).get? s.heap.objs.size
              = some { cls := .type "set", dict := none, data := .set #[] 0 (.fresh 0 0 led) } := Heap.get?_push_of_some _ hS
          exact PyProof.Rows.SetOf_congr ((PyProof.Rows.setObjOf_fresh (knd := strKind prog w) led).setOf hget (by unfold scanBound; omega)) (fun _ => rfl) rfl
        case hR =>
          intro s' hm hS'
          obtain ⟨h', g', d', tk', os'⟩ := s'
          have eg : g' = s.gens := hm.gens
          have ed : d' = s.drawn := hm.drawn
          have eo : os' = s.os := hm.os
          subst eg; subst ed; subst eo
          show wpAny _ _ _ _ _ _
          refine wpAny_pure ?_
          show wpAny _ _ (ret Value.none) _ _ _
          refine wpAny_pure ⟨rfl, h', tk', rfl, hS', fun b o hb e => ?_⟩
          have hb1 : b ≠ s.heap.objs.size := Nat.ne_of_lt hb
          have hb2 : b ≠ (s.heap.push { cls := .type "set", dict := none, data := .set #[] 0 (.fresh 0 0 led) }).objs.size := by
            rw [Heap.size_push]; exact Nat.ne_of_lt (Nat.lt_succ_of_lt hb)
          exact hm.heap b o (by simp only [List.mem_cons, List.mem_singleton, List.not_mem_nil, or_false, not_or]; exact ⟨hb1, hb2⟩) (Heap.get?_push_of_some _ (Heap.get?_push_of_some _ e))
      · cases r₂ with
        | error e => exact hr₂
        | ok fl₂ =>
          cases fl₂ with
          | ret r =>
            obtain ⟨rfl, h', tk, rfl, hS', hk'⟩ := hr₂
            repeat (any_goals (first | assumption | wp_step))
            exact h _ _ hS' hk'
          | _ => exact hr₂.elim
    | _ => exact hr.elim
end
theorem firstMetS_take (ns : List Str) : ∀ n, n ≤ ns.length → (firstMetS (fun i => ns.getD i "") n) = (ns.take n).foldl stepS []
  | 0, _ => rfl
  | n + 1, h => by
    rw [firstMetS_succ, firstMetS_take ns n (by omega), List.take_succ, List.getElem?_eq_getElem (by omega), List.foldl_append, List.getD_eq_getElem?_getD, List.getElem?_eq_getElem (by omega)]; rfl
def setS (ns : List Str) : List Str := ns.foldl stepS []
theorem setS_snoc (ns : List Str) (z : Str) : setS (ns ++ [z]) = stepS (setS ns) z := by unfold setS; rw [List.foldl_append]; rfl
theorem mem_stepS {σ : List Str} {v x : Str} : x ∈ stepS σ v ↔ x ∈ σ ∨ x = v := by
  unfold stepS
  split
  · rename_i h
    obtain ⟨y, hy, e⟩ := List.any_eq_true.mp h
    have e : y = v := by simpa using e
    subst e
    exact ⟨.inl, fun h => h.elim id fun e => by rw [e]; exact hy⟩
  · simp
theorem mem_setS (ns : List Str) : ∀ x, x ∈ setS ns ↔ x ∈ ns := by
  refine snoc_ind (P := fun ns => ∀ x, x ∈ setS ns ↔ x ∈ ns) (fun x => Iff.rfl) (fun ns z ih x => ?_) ns
  rw [setS_snoc, mem_stepS, ih]; simp
theorem setS_len (ns : List Str) : (setS ns).length ≤ ns.length ∧ ((setS ns).length = ns.length ↔ ns.Nodup) := by
  refine snoc_ind (P := fun ns => (setS ns).length ≤ ns.length ∧ ((setS ns).length = ns.length ↔ ns.Nodup)) ⟨Nat.le_refl _, ⟨fun _ => List.nodup_nil, fun _ => rfl⟩⟩ (fun ns z ⟨h1, h2⟩ => ?_) ns
  rw [setS_snoc]
  unfold stepS
  by_cases h : z ∈ ns
  · rw [if_pos (List.any_eq_true.mpr ⟨z, (mem_setS ns z).mpr h, by simp⟩)]
    refine ⟨by simp; omega, fun e => absurd e (by simp; omega), fun e => ?_⟩
    rw [List.nodup_append] at e
    exact absurd rfl (e.2.2 z h z (by simp))
  · rw [if_neg (fun q => by obtain ⟨y, hy, e⟩ := List.any_eq_true.mp q; exact h (by rw [← (show y = z by simpa using e)]; exact (mem_setS ns y).mp hy))]
    refine ⟨by simp; omega, fun e => ?_, fun e => ?_⟩
    · rw [List.nodup_append]
      refine ⟨h2.mp (by simp at e; omega), by simp, fun a ha b hb q => h (by rw [← (show b = z by simpa using hb), ← q]; exact ha)⟩
    · rw [List.nodup_append] at e
      have := h2.mpr e.1
      simp; omega
section
variable {X : Cx} {K : PySem.W.Frag}
def zSet (P : Program) (w : World) (a : Addr) (n : Nat) : HO := .ext fun h => ∃ S : Str → Bool, h.SetOf (strKind P w) a S n
theorem kc_setZ (hc : X.calm = true := by rfl) (h : X.K = K := by rfl) : CallR X (.type "set") (fun xs H Q => ∃ (a : Addr) (ns : List Str), xs = [.ref a] ∧ SqL K H a (ns.map V.str) ∧ ns.length ≤ 1000 ∧
    ∀ (p : Addr), H p = none → Q (.ref p) (upd H p (zSet X.prog X.w p (setS ns).length))) := by
  subst h
  intro pins s σ H xs us Q I r h
  obtain ⟨a, ns, rfl, ha, hl, q⟩ := h
  obtain ⟨u, rfl, ru⟩ := vals1 r
  cases ru
  obtain ⟨its, r1, p1, _⟩ := I.list ha
  have l1 : its.toArray.size = ns.length := by rw [List.size_toArray, ← r1.length, List.length_map]
  refine call_set_listZ (items := its.toArray) (ns := ns) (I.ok.hd hc) p1.isList (fun i v hv => ?_) (by rw [l1]; unfold scanBound; omega) fun h' tk hS hk => ?_
  · have hi : i < its.length := by
      have := (Array.getElem?_eq_some_iff.mp hv).1
      simpa using this
    have hi2 : i < ns.length := by rw [← l1]; simpa using hi
    obtain ⟨u, hu, ru⟩ := r1.get (i := i) (x := V.str ns[i]) (by rw [List.getElem?_map, List.getElem?_eq_getElem hi2]; rfl)
    have hv' : its[i]? = some v := by simpa using hv
    rw [hv'] at hu
    cases hu
    obtain ⟨t, rfl⟩ := ru
    exact ⟨t, by rw [List.getD_eq_getElem?_getD, List.getElem?_eq_getElem hi2]; rfl⟩
  · rw [l1, firstMetS_take ns ns.length (Nat.le_refl _), List.take_length] at hS
    refine ⟨.ref s.heap.objs.size, _, I.laid (t' := tk) (o := zSet X.prog X.w s.heap.objs.size (setS ns).length) (fun b o e => hk b o (Heap.lt_size e) e) (Nat.le_refl _) ⟨⟨_, hS⟩, ?_, fun h1 h2 ⟨S, hS1⟩ k => ?_⟩, rfl, q _ (I.hok.fresh (Nat.le_refl _))⟩
    · obtain ⟨o, es, ep, t, ho, _⟩ := hS
      exact ⟨o, ho⟩
    · obtain ⟨o, es, ep, t, ho, rest⟩ := hS1
      exact ⟨S, o, es, ep, t, k o ho, rest⟩
theorem kc_lenZ : CallR X (.builtin "len") (fun xs H Q => ∃ (a : Addr) (n : Nat), xs = [.ref a] ∧ H a = some (zSet X.prog X.w a n) ∧ Q (.int n) H) := by
  intro pins s σ H xs us Q I r h
  obtain ⟨a, n, rfl, ha, q⟩ := h
  obtain ⟨u, rfl, ru⟩ := vals1 r
  cases ru
  obtain ⟨⟨S, o, es, ep, t, ho, hex, hd, _, _, hb, hf, hn⟩, _⟩ := (show ObjOk X.prog X.w H s.heap a (zSet X.prog X.w a n) from I.hok a _ ha)
  have hb4 : es.size < 4096 := by unfold scanBound at hb; omega
  refine call_len_set ho hex hd hf (by omega) ?_
  rw [hn]
  exact ⟨.int n, H, I.tok _, ⟨_, rfl⟩, q⟩
end
end L2
set_option Elab.async false
set_option linter.all false
set_option maxRecDepth 100000
namespace L2
open PySem PySem.Spec PyProof.Rows
abbrev Wds := List (Str × Int)
def wT (w : Str × Int) : HO := .tup [.str w.1, .int w.2]
def WAt (H : Hp) (as : List Addr) (W : Wds) : Prop := Paired (fun (a : Addr) (w : Str × Int) => H a = some (wT w)) as W
theorem WAt.same {H H' : Hp} {as : List Addr} {W : Wds} (h : WAt H as W) (s : Same H H') : WAt H' as W := L2.Paired.mapP h fun a w e => s a _ e
def wD (w : Str × Int) : Dd := .tup [.str w.1, .int w.2]
theorem WAt.dat {K : PySem.W.Frag} {H : Hp} : ∀ {as : List Addr} {W : Wds}, WAt H as W → DAts K H (W.map wD) (as.map V.ref)
  | _, _, .nil => by rw [List.map_nil, DAts]; rfl
  | a :: as, w :: W, .cons e t => by
    rw [List.map_cons, DAts]
    refine ⟨.ref a, as.map V.ref, rfl, ?_, WAt.dat t⟩
    unfold wD
    rw [DAt]
    refine ⟨a, _, rfl, SqT.of e, ?_⟩
    rw [DAts]
    refine ⟨_, _, rfl, by rw [DAt], ?_⟩
    rw [DAts]
    refine ⟨_, _, rfl, by rw [DAt], ?_⟩
    rw [DAts]
theorem dep_wD : ∀ W : Wds, depDs (W.map wD) ≤ 1
  | [] => by rw [List.map_nil, depDs]; omega
  | w :: W => by
    have e : depD (wD w) = 1 := by unfold wD; simp [depD, depDs]
    rw [List.map_cons, depDs, e]
    have := dep_wD W
    omega
def letN (c : Nat) : Bool := decide (97 ≤ c) && decide (c ≤ 122)
def isNm (z : Str) : Bool := (decide (1 ≤ (z.length : Int)) && decide ((z.length : Int) ≤ 12)) && z.cps.toList.all letN
def woodsOk (W : Wds) : Bool := ((decide (1 ≤ (W.length : Int)) && decide ((W.length : Int) ≤ 6)) && decide ((W.map (·.1)).Nodup)) && W.all fun w => isNm w.1 && (decide (0 ≤ w.2) && decide (w.2 ≤ 99))
def countW (W : Wds) (z : Str) : Option Int := (W.find? fun w => decide (w.1 = z)).map (·.2)
theorem woodsOk_iff {W : Wds} : woodsOk W = true ↔ (1 ≤ W.length ∧ W.length ≤ 6) ∧ (W.map (·.1)).Nodup ∧ ∀ w ∈ W, isNm w.1 = true ∧ 0 ≤ w.2 ∧ w.2 ≤ 99 := by
  unfold woodsOk
  rw [Bool.and_eq_true, Bool.and_eq_true, Bool.and_eq_true, List.all_eq_true, decide_eq_true_iff, decide_eq_true_iff, decide_eq_true_iff]
  constructor
  · rintro ⟨⟨⟨a, b⟩, c⟩, d⟩
    refine ⟨⟨by omega, by omega⟩, c, fun w hw => ?_⟩
    have := d w hw
    rw [Bool.and_eq_true, Bool.and_eq_true, decide_eq_true_iff, decide_eq_true_iff] at this
    exact ⟨this.1, this.2.1, this.2.2⟩
  · rintro ⟨⟨a, b⟩, c, d⟩
    refine ⟨⟨⟨by omega, by omega⟩, c⟩, fun w hw => ?_⟩
    obtain ⟨x, y, z⟩ := d w hw
    rw [Bool.and_eq_true, Bool.and_eq_true, decide_eq_true_iff, decide_eq_true_iff]
    exact ⟨x, y, z⟩
theorem countW_cons (w : Str × Int) (W : Wds) (z : Str) : countW (w :: W) z = if w.1 = z then some w.2 else countW W z := by
  unfold countW
  rw [List.find?_cons]
  by_cases e : w.1 = z
  · rw [decide_eq_true e, if_pos e]; rfl
  · rw [decide_eq_false e, if_neg e]
theorem countW_none : ∀ {W : Wds} {z : Str}, countW W z = none ↔ z ∉ W.map (·.1)
  | [], z => by simp [countW]
  | v :: W, z => by
    rw [countW_cons, List.map_cons, List.mem_cons]
    by_cases e : v.1 = z
    · rw [if_pos e]; simp [e]
    · rw [if_neg e, countW_none]
      exact ⟨fun h q => q.elim (fun q => e q.symm) h, fun h q => h (.inr q)⟩
theorem lt1 (c d : Nat) : (([c] : List Nat) < [d]) ↔ c < d := by
  constructor
  · intro h
    rcases List.cons_lt_cons_iff.mp h with h | ⟨_, h⟩
    · exact h
    · exact absurd h (by simp)
  · intro h
    exact List.cons_lt_cons_iff.mpr (.inl h)
theorem a_cps : ("a" : Str).cps.toList = [97] := by decide +kernel
theorem z_cps : ("z" : Str).cps.toList = [122] := by decide +kernel
theorem le_a (z : Str) (i : Nat) : (!decide ((sgZ z i).cps.toList < ("a" : Str).cps.toList)) = decide (97 ≤ z.cps.toList.getD i 0) := by
  rw [a_cps]
  show (!decide (([z.cps.toList.getD i 0] : List Nat) < [97])) = _
  rw [decide_eq_decide.mpr (lt1 _ _), ← decide_not]
  exact decide_eq_decide.mpr (by omega)
theorem le_z (z : Str) (i : Nat) : (!decide (("z" : Str).cps.toList < (sgZ z i).cps.toList)) = decide (z.cps.toList.getD i 0 ≤ 122) := by
  rw [z_cps]
  show (!decide (([122] : List Nat) < [z.cps.toList.getD i 0])) = _
  rw [decide_eq_decide.mpr (lt1 _ _), ← decide_not]
  exact decide_eq_decide.mpr (by omega)
theorem all_letN (z : Str) : ((List.range z.length).map fun i => letN (z.cps.toList.getD i 0)).all id = z.cps.toList.all letN := by
  have e : (List.range z.length).map (fun i => z.cps.toList.getD i 0) = z.cps.toList := by
    refine List.ext_getElem (by simp [Str.length]) fun i h1 h2 => ?_
    simp at h1 h2 ⊢
    rw [Array.getElem?_eq_getElem h2]; rfl
  rw [List.all_map]
  conv => rhs; rw [← e, List.all_map]
  rfl
def abcT : Str := "abcdefghijklmnopqrstuvwxyz"
theorem abc_at (s : Int) : atI abcT.cps.toList (s % 26) = some (97 + (s % 26).toNat) := by
  have h0 : 0 ≤ s % 26 := Int.emod_nonneg _ (by decide)
  have h1 : s % 26 < 26 := Int.emod_lt_of_pos _ (by decide)
  generalize s % 26 = t at h0 h1
  have e : abcT.cps.toList = (List.range 26).map (97 + ·) := by decide +kernel
  rw [e]
  obtain ⟨n, rfl⟩ : ∃ n : Nat, t = n := ⟨t.toNat, by omega⟩
  refine atI_nat ?_
  rw [List.getElem?_map, List.getElem?_eq_getElem (by rw [List.length_range]; omega), List.getElem_range]
  rfl
def sgN (s : Int) : Str := ⟨#[97 + (s % 26).toNat]⟩
theorem glue_cps (S : List Int) : (Txt.join (Str.ofString "") (S.map sgN)).cps.toList = S.map fun s => 97 + (s % 26).toNat := by
  refine snoc_ind (P := fun S => (Txt.join (Str.ofString "") (S.map sgN)).cps.toList = S.map fun s => 97 + (s % 26).toNat) rfl (fun S z ih => ?_) S
  rw [List.map_append, List.map_singleton, glue_snoc, List.map_append, List.map_singleton, ← ih]
  exact Array.toList_append
def nmS (S : List Int) : Str := Txt.join (Str.ofString "") (S.map sgN)
theorem nmS_ok {S : List Int} (h1 : 1 ≤ S.length) (h2 : S.length ≤ 12) : isNm (nmS S) = true := by
  have e := glue_cps S
  have hl : (nmS S).length = S.length := by
    show (nmS S).cps.size = _
    rw [← Array.length_toList, show (nmS S).cps.toList = _ from e, List.length_map]
  unfold isNm
  rw [hl, show (nmS S).cps.toList = _ from e, decide_eq_true (by omega), decide_eq_true (by omega), List.all_map, Bool.true_and, Bool.true_and]
  refine List.all_eq_true.mpr fun s _ => ?_
  have h0 : 0 ≤ s % 26 := Int.emod_nonneg _ (by decide)
  have h1 : s % 26 < 26 := Int.emod_lt_of_pos _ (by decide)
  show letN (97 + (s % 26).toNat) = true
  unfold letN
  rw [decide_eq_true (by omega), decide_eq_true (by omega)]; rfl
theorem nmS_at (S : List Int) (k : Nat) (h : k < S.length) : (nmS S).cps.toList.getD k 0 = 97 + (S.getD k 0 % 26).toNat := by
  rw [show (nmS S).cps.toList = _ from glue_cps S, List.getD_eq_getElem?_getD, List.getElem?_map, List.getElem?_eq_getElem h, List.getD_eq_getElem?_getD, List.getElem?_eq_getElem h]; rfl
def NmL (k : Nat) (c : Int) (S : List Str) : Prop := ∀ j, j < S.length → isNm (S.getD j "") = true ∧ (S.getD j "").cps.toList.getD k 0 = 97 + ((c + 5 * j) % 26).toNat
theorem NmL.snoc {k : Nat} {c : Int} {S : List Str} {z : Str} (h : NmL k c S) (h1 : isNm z = true) (h2 : z.cps.toList.getD k 0 = 97 + ((c + 5 * S.length) % 26).toNat) : NmL k c (S ++ [z]) := by
  intro j hj
  rw [List.length_append, List.length_singleton] at hj
  rw [List.getD_eq_getElem?_getD, List.getElem?_append]
  by_cases e : j < S.length
  · rw [if_pos e, ← List.getD_eq_getElem?_getD]
    exact h j e
  · rw [if_neg e, show j - S.length = 0 by omega, show j = S.length by omega]
    exact ⟨h1, h2⟩
def stkF (l : Addr) : List (Str × V) := putF "stock" (.ref l) []
end L2
set_option Elab.async false
set_option linter.all false
set_option maxRecDepth 100000
namespace L2
open PySem PySem.Spec PyProof.Rows
section
variable {c : TT} {t u B : TS} {D : Ends} {σ : St} {H H' : Hp}
theorem if_P (b : Bool) (P : Hp → Prop) (hc : ∀ N : Bool → Hp → Prop, (∀ H', P H' → N b H') → c σ H N) (ht : b = true → ∀ H', P H' → t D σ H') (hu : b = false → ∀ H', P H' → u D σ H') : tIfS c t u D σ H := by
  refine hc _ fun H' p => ?_
  cases b
  · exact iteF (hu rfl H' p)
  · exact iteT (ht rfl H' p)
theorem if_N (b : Bool) (P : Hp → Prop) (hc : ∀ N : Bool → Hp → Prop, (∀ H', P H' → N b H') → c σ H N) (ht : b = true → ∀ H', P H' → t D σ H') (hu : b = false → ∀ H', P H' → D.nx σ H') : tIfS c t tNext D σ H := if_P b P hc ht hu
theorem seq_ifN (b : Bool) (P : Hp → Prop) (hc : ∀ N : Bool → Hp → Prop, (∀ H', P H' → N b H') → c σ H N) (ht : b = true → ∀ H', P H' → t { D with nx := B D } σ H') (hu : b = false → ∀ H', P H' → B D σ H') : tSeq (tIfS c t tNext) B D σ H := if_P b P hc ht hu
theorem chainV {te : TE} {lo hi x : Int} {Q : VK} (he : ∀ Q : VK, Q (.int x) H' → te σ H Q) (h : Q (.bl (decide (lo ≤ x) && decide (x ≤ hi))) H') :
    tChain (rI0 fun i j => V.bl (decide (i ≤ j))) (rI0 fun i j => V.bl (decide (i ≤ j))) (tC (V.int lo)) te (tC (V.int hi)) σ H Q := by
  refine he _ ⟨lo, x, rfl, rfl, _, rfl, ?_⟩
  by_cases g : lo ≤ x
  · rw [decide_eq_true g] at h ⊢
    exact iteT ⟨x, hi, rfl, rfl, h⟩
  · rw [decide_eq_false g] at h ⊢
    exact iteF h
theorem chainI {te : TE} {lo hi x : Int} {N : Bool → Hp → Prop} (he : ∀ Q : VK, Q (.int x) H' → te σ H Q) (h : N (decide (lo ≤ x) && decide (x ≤ hi)) H') :
    tTest (tChain (rI0 fun i j => V.bl (decide (i ≤ j))) (rI0 fun i j => V.bl (decide (i ≤ j))) (tC (V.int lo)) te (tC (V.int hi))) σ H N := chainV he ⟨_, rfl, h⟩
end
theorem bl_snoc (f : Nat → Bool) (i : Nat) : ((List.range i).map f).map V.bl ++ [V.bl (f i)] = ((List.range (i + 1)).map f).map V.bl := by rw [List.range_succ, List.map_append, List.map_append]; rfl
theorem str_snoc {l : List Str} {z : Str} : l.map V.str ++ [V.str z] = (l ++ [z]).map V.str := by rw [List.map_append]; rfl
theorem ref_snoc {l : List Addr} {z : Addr} : l.map V.ref ++ [V.ref z] = (l ++ [z]).map V.ref := by rw [List.map_append]; rfl
theorem map_take_snoc {α β : Type} {l : List α} {i : Nat} {x : α} (h : l[i]? = some x) (f : α → β) : (l.take (i + 1)).map f = (l.take i).map f ++ [f x] := by rw [take_snoc h, List.map_append]; rfl
theorem paired_getR {α β : Type} {F : α → β → Prop} : ∀ {l1 : List α} {l2 : List β} {j : Nat} {b : β}, Paired F l1 l2 → l2[j]? = some b → ∃ a, F a b ∧ l1[j]? = some a
  | _, _, j, b, .nil, e => by simp at e
  | a :: _, _ :: _, 0, b, .cons r t, e => by simp at e; subst e; exact ⟨a, r, rfl⟩
  | _ :: _, _ :: _, j + 1, b, .cons r t, e => by
    obtain ⟨a, h1, h2⟩ := paired_getR t (show _ = some b by simpa using e)
    exact ⟨a, h1, by simpa using h2⟩
theorem iteD {c A B : Prop} [Decidable c] (hc : c) (h : A) : if decide c = true then A else B := by rw [if_pos (decide_eq_true hc)]; exact h
theorem atI_nt {rs : List Int} {j : Nat} {r : Int} (h : rs[j]? = some r) : atI (rs.map V.int) (j : Int) = some (V.int r) := atI_nat (by rw [List.getElem?_map, h]; rfl)
theorem atI_intZ {rs : List Int} {i : Int} {j : Nat} {r : Int} (e : i = (j : Int)) (h : rs[j]? = some r) : atI (rs.map V.int) i = some (V.int r) := by rw [e]; exact atI_nt h
theorem atI_strZ {R : List Str} {i : Int} {j : Nat} (e : i = (j : Int)) (h : j < R.length) : atI (R.map V.str) i = some (V.str (R.getD j "")) := by rw [e]; exact atI_strs h
theorem lim_ok {ls : List Int} (h : ls.all (fun l => decide (0 < l) && decide (l.natAbs.log2 < 9000)) = true) : ∀ l ∈ ls, LimOk l := fun l hl => by
  have := List.all_eq_true.mp h l hl
  rw [Bool.and_eq_true, decide_eq_true_iff, decide_eq_true_iff] at this
  exact this
theorem seq_l {wi : TI} {M : List (Option Nat)} {g : TG} {tc : TT} {te : TE} {i : Nat} {B : TS} {D : Ends} {σ : St} {H : Hp} (h : tLc wi M g tc te σ H fun ys H' => ∀ p, H' p = none → B D (σ.set i (some (V.ref p))) (upd H' p (.lst ys))) :
    tSeq (fun D σ H => tLc wi M g tc te σ H fun ys H' => ∀ p, H' p = none → D.nx (σ.set i (some (V.ref p))) (upd H' p (.lst ys))) B D σ H := h
theorem gN {i : Nat} {v : V} {σ : St} {H : Hp} {Q : St → Hp → Prop} (h : Q (σ.set i (some v)) H) : gName i v σ H Q := h
theorem dStr (x y : Str) : decide (V.str x = V.str y) = decide (x = y) := decide_eq_decide.mpr ⟨fun e => V.str.inj e, fun e => congrArg V.str e⟩
theorem dInt (x y : Int) : decide (V.int x = V.int y) = decide (x = y) := decide_eq_decide.mpr ⟨fun e => V.int.inj e, fun e => congrArg V.int e⟩
theorem bF {b : Bool} (h : ¬ b = true) : b = false := by
  cases b
  · rfl
  · exact absurd rfl h
theorem nT {b : Bool} (h : (!b) = true) : b = false := by
  cases b
  · rfl
  · exact absurd h (by decide)
theorem nF {b : Bool} (h : (!b) = false) : b = true := by
  cases b
  · exact absurd h (by decide)
  · rfl
end L2
set_option Elab.async false
set_option linter.all false
set_option maxRecDepth 100000
namespace L2
open PySem PySem.Spec PyProof.Rows
section
variable {X : Cx} {K : PySem.W.Frag}
theorem op_inS : OpR X (compareOp .In) (fun x y H Q => ∃ (c : Nat) (j : Str), x = .str ⟨#[c]⟩ ∧ y = .str j ∧ Q (.bl (decide (c ∈ j.cps.toList))) H) := by
  intro pins s σ H x y v u Q I rx ry h
  obtain ⟨i, j, rfl, rfl, q⟩ := h
  obtain ⟨t, rfl⟩ := rx
  obtain ⟨t', rfl⟩ := ry
  refine in_str ⟨.bl _, H, I, rfl, ?_⟩
  rw [PySem.StrLaws.found_one]
  exact q
end
theorem abc_in (c : Nat) : decide (c ∈ abcT.cps.toList) = letN c := by
  have e : abcT.cps.toList = (List.range 26).map (97 + ·) := by decide +kernel
  unfold letN
  rw [e, ← Bool.decide_and]
  refine decide_eq_decide.mpr ?_
  rw [List.mem_map]
  constructor
  · rintro ⟨j, hj, rfl⟩
    rw [List.mem_range] at hj
    omega
  · rintro ⟨h1, h2⟩
    exact ⟨c - 97, List.mem_range.mpr (by omega), by omega⟩
end L2
namespace L2
open PySem PySem.Spec PyProof.Rows
theorem getStrZ {S : List Str} {i : Nat} {y : V} (h : (S.map V.str)[i]? = some y) : ∃ z, y = V.str z ∧ S[i]? = some z ∧ i < S.length := by
  rw [List.getElem?_map] at h
  cases e : S[i]? with
  | none => rw [e] at h; cases h
  | some z => rw [e] at h; exact ⟨z, (Option.some.inj h).symm, rfl, (List.getElem?_eq_some_iff.mp e).1⟩
theorem flat_strs (s : List Str) : (s.map V.str).all flatV = true := by rw [List.all_map]; exact List.all_eq_true.mpr fun _ _ => rfl
end L2
set_option Elab.async false
set_option linter.all false
set_option maxRecDepth 100000
namespace L2
open PySem PySem.Spec PyProof.Rows
abbrev Hol := List (Option Nat)
def tE (T : List (List Int)) (r c : Nat) : Int := (T.getD r []).getD c 0
def tgt (T : List (List Int)) (R C : List Int) (r c : Nat) : Prop := R.getD r 0 + C.getD c 0 = tE T r c
instance {T R C r c} : Decidable (tgt T R C r c) := by unfold tgt; infer_instance
section
variable {T : List (List Int)} {R C : List Int} {Hd Hd1 : Hol} {S Si : List Nat} {row i h k m : Nat}
structure HInv (T : List (List Int)) (m k : Nat) (R C : List Int) (Hd : Hol) : Prop where
  lT : T.length = m
  lr : ∀ r, r < m → (T.getD r []).length = k
  lR : R.length = m
  lC : C.length = k
  lH : Hd.length = k
  t0 : ∀ r c, 0 ≤ tE T r c
  fe : ∀ r c, r < m → c < k → tE T r c ≤ R.getD r 0 + C.getD c 0
  ti : ∀ c h, Hd[c]? = some (some h) → h < m ∧ tgt T R C h c
  on : ∀ h, Hd.count (some h) ≤ 1
  c0 : ∀ c, 0 ≤ C.getD c 0
  cf : ∀ c : Nat, Hd[c]? = some none → C.getD c 0 = 0
  r0 : ∀ r, 0 ≤ R.getD r 0
def valC (T : List (List Int)) (Hd : Hol) (c : Nat) : Int := match Hd.getD c none with
  | none => 0
  | some r => tE T r c
def rOf (R : List Int) : Option Nat → Int
  | none => 0
  | some r => R.getD r 0
theorem sum_cnt (f : Nat → Int) : ∀ (Hd : Hol) (m : Nat), (∀ h, some h ∈ Hd → h < m) → (Hd.map fun o : Option Nat => match o with | none => 0 | some r => f r).sum = ((List.range m).map fun r => f r * (Hd.count (some r) : Int)).sum
  | [], m, _ => by
    have : ∀ l : List Nat, (l.map fun r => f r * (([] : Hol).count (some r) : Int)).sum = 0 := fun l => by
      induction l with
      | nil => rfl
      | cons a l ih => rw [List.map_cons, List.sum_cons, ih]; simp
    rw [this]; rfl
  | o :: Hd, m, h => by
    have ih := sum_cnt f Hd m (fun x hx => h x (List.mem_cons_of_mem _ hx))
    rw [List.map_cons, List.sum_cons, ih]
    cases o with
    | none =>
      have : ∀ r, (none :: Hd).count (some r) = Hd.count (some r) := fun r => by rw [List.count_cons_of_ne (by simp)]
      simp only [this]
      omega
    | some x =>
      have hx : x < m := h x List.mem_cons_self
      have key : ∀ n, ((List.range n).map fun r => f r * ((some x :: Hd).count (some r) : Int)).sum = (if x < n then f x else 0) + ((List.range n).map fun r => f r * (Hd.count (some r) : Int)).sum := fun n => by
        induction n with
        | zero => rfl
        | succ n ihn =>
          rw [List.range_succ, List.map_append, List.map_append, List.sum_append, List.sum_append, ihn]
          simp only [List.map_cons, List.map_nil, List.sum_cons, List.sum_nil]
          by_cases e : x = n
          · rw [e, List.count_cons_self, if_neg (Nat.lt_irrefl _), if_pos (Nat.lt_succ_self _)]
            rw [show ((Hd.count (some n) + 1 : Nat) : Int) = (Hd.count (some n) : Int) + 1 by omega, Int.mul_add]; omega
          · rw [List.count_cons_of_ne (by simpa using e)]
            by_cases e2 : x < n
            · rw [if_pos e2, if_pos (by omega)]; omega
            · rw [if_neg e2, if_neg (by omega)]; omega
      rw [key m, if_pos hx]
theorem sum_range_getD (R : List Int) : ((List.range R.length).map fun r => R.getD r 0).sum = R.sum := by
  have : (List.range R.length).map (fun r => R.getD r 0) = R := by
    refine List.ext_getElem (by simp) fun i h1 h2 => ?_
    simp at h1 ⊢
    rw [List.getElem?_eq_getElem h1]; rfl
  rw [this]
theorem sum_map_add (f g : Nat → Int) : ∀ l : List Nat, (l.map fun c => f c + g c).sum = (l.map f).sum + (l.map g).sum
  | [] => rfl
  | a :: l => by rw [List.map_cons, List.sum_cons, sum_map_add f g l, List.map_cons, List.map_cons, List.sum_cons, List.sum_cons]; omega
theorem sum_congr {f g : Nat → Int} : ∀ {l : List Nat}, (∀ c ∈ l, f c = g c) → (l.map f).sum = (l.map g).sum
  | [], _ => rfl
  | a :: l, h => by rw [List.map_cons, List.sum_cons, List.map_cons, List.sum_cons, h a List.mem_cons_self, sum_congr fun c hc => h c (List.mem_cons_of_mem _ hc)]
theorem HInv.sum (I : HInv T m k R C Hd) (all : ∀ h, h < m → Hd.count (some h) = 1) : ((List.range k).map (valC T Hd)).sum = R.sum + C.sum := by
  have e1 : ((List.range k).map (valC T Hd)).sum = ((List.range k).map fun c => rOf R (Hd.getD c none) + C.getD c 0).sum := sum_congr fun c hc => by
    have hl : c < Hd.length := by rw [I.lH]; exact List.mem_range.mp hc
    unfold valC
    cases e : Hd.getD c none with
    | none => rw [I.cf c (by rw [List.getElem?_eq_getElem hl]; rw [List.getD_eq_getElem?_getD, List.getElem?_eq_getElem hl] at e; exact congrArg some e)]; rfl
    | some r =>
      have := (I.ti c r (by rw [List.getElem?_eq_getElem hl]; rw [List.getD_eq_getElem?_getD, List.getElem?_eq_getElem hl] at e; exact congrArg some e)).2
      exact this.symm
  rw [e1, sum_map_add, ← I.lC, sum_range_getD]
  have e2 : ((List.range C.length).map fun c => rOf R (Hd.getD c none)).sum = (Hd.map (rOf R)).sum := by
    rw [I.lC, ← I.lH]
    have : (List.range Hd.length).map (fun c => rOf R (Hd.getD c none)) = Hd.map (rOf R) := by
      refine List.ext_getElem (by simp) fun i h1 h2 => ?_
      simp at h1 ⊢
      rw [List.getElem?_eq_getElem h1]; rfl
    rw [this]
  rw [e2]
  have e3 := sum_cnt (fun r => R.getD r 0) Hd m (fun x hx => by
    obtain ⟨j, hj, ej⟩ := List.getElem_of_mem hx
    exact (I.ti j x (by rw [List.getElem?_eq_getElem hj, ej])).1)
  have e4 : (Hd.map (rOf R)) = Hd.map fun o : Option Nat => match o with | none => 0 | some r => R.getD r 0 := List.map_congr_left fun o _ => by cases o <;> rfl
  rw [e4, e3]
  have e5 : ((List.range m).map fun r => R.getD r 0 * (Hd.count (some r) : Int)).sum = ((List.range m).map fun r => R.getD r 0).sum := sum_congr fun r hr => by
    rw [all r (List.mem_range.mp hr)]; simp
  rw [e5, ← I.lR, sum_range_getD]
end
end L2
set_option Elab.async false
set_option linter.all false
set_option maxRecDepth 100000
namespace L2
open PySem PySem.Spec PyProof.Rows
section
variable {X : Cx} {K : PySem.W.Frag}
end
theorem kpe_fld {X : Cx} {K : PySem.W.Frag} {e : Expr} {f : Str} {ta : TE} {pos : Pos} (he : PE X e ta) (hb : attributeBase e f X.env (eval e X.env) = eval e X.env) (h : X.K = K := by rfl) : PE X (.Attribute e f pos) (tFld K ta f) := by subst h; exact pe_fld he hb
section
variable {C : Addr} {H H' : Hp} {p dx t rp cp hd g : Addr} {ts : List Addr} {T : List (List Int)} {R Cc R' : List Int} {Hd Hd' : Hol}
end
end L2
namespace L2
open PySem PySem.Spec PyProof.Rows
section
variable {C : Addr} {H H' : Hp} {p dx t rp cp hd rc : Addr} {ts : List Addr} {T : List (List Int)} {R Cc : List Int} {Hd Hd' : Hol}
end
end L2
set_option Elab.async false
set_option linter.all false
set_option maxRecDepth 100000
namespace L2
open PySem PySem.Spec PyProof.Rows
end L2
namespace L2
open PySem PySem.Spec PyProof.Rows
section
variable {tab : List (List Int)} {m cols : Nat} {tot tot' : Int} {yss yss' : List (List Int)} {R C R' C' : List Int}
end
end L2
namespace L2
open PySem PySem.Spec PyProof.Rows
end L2
set_option Elab.async false
set_option linter.all false
set_option maxRecDepth 100000
namespace L2
open PySem PySem.Spec PyProof.Rows
def Pat (ws us : List Int) (J : List Nat) : Prop := ∀ i ∈ J, ∀ j ∈ J, ws.getD i 0 = ws.getD j 0 ↔ us.getD i 0 = us.getD j 0
section
variable {ws us vs : List Int} {tot tot' tot2 : Int} {yss yss' yss2 : List (List Int)} {R C R' C' R2 C2 : List Int}
theorem Pat.symm {J : List Nat} (h : Pat ws us J) : Pat us ws J := fun i hi j hj => (h i hi j hj).symm
end
section
variable {X : Cx}
end
end L2
namespace L2
open PySem PySem.Spec PyProof.Rows
section
variable {ws us vs : List Int} {tot tot' tot2 : Int} {yss yss' yss2 : List (List Int)} {R C R' C' R2 C2 : List Int}
end
end L2
set_option Elab.async false
set_option linter.all false
set_option maxRecDepth 100000
namespace PySem
open Sem (wp)
section
variable {prog : Program} {w : World} {A : Around} {R : Result → Shared → Prop} {I : Addr} {fp wr : List Addr} {n : Nat} {P : Nat → Value → Prop} {St : Nat → Heap → Prop} {d : Value}
end
section
variable {prog : Program} {w : World} {A : Around} {R : Result → Shared → Prop} {I : Addr} {fp wr : List Addr} {P : Nat → Value → Prop} {St : Nat → Heap → Prop} {d : Value}
end
section
variable {prog : Program} {w : World} {A : Around} {E : Value → Shared → Prop} {s : Shared} {d : Value}
end
end PySem
namespace L2
open PySem PySem.Spec PyProof.Rows
section
variable {X : Cx} {K : PySem.W.Frag}
end
end L2
set_option Elab.async false
set_option linter.all false
set_option maxRecDepth 100000
namespace PySem
open Sem (wp)
open AutoSeq1 (wpAny_loadPart')
section
variable {prog : Program} {w : World} {A : Around} {E : Value → Shared → Prop} {s : Shared}
end
section
variable {prog : Program} {w : World} {A : Around} {E : Value → Shared → Prop} {s : Shared}
end
end PySem
namespace L2
open PySem PySem.Spec PyProof.Rows
end L2
set_option Elab.async false
set_option linter.all false
set_option maxRecDepth 100000
namespace L2
open PySem PySem.Spec PyProof.Rows
section
variable {K : PySem.W.Frag} {a : Addr} {xs : List V} {σ0 : St} {g : TG} {tc : TT} {tm : TM} {F : List V → Hp → Prop} {H : Hp} {ys0 : List V}
end
end L2
namespace L2
open PySem
end L2
namespace L2
open PySem PySem.Spec PyProof.Rows
end L2
namespace L2
open PySem
end L2
set_option Elab.async false
set_option linter.all false
set_option maxRecDepth 100000
namespace L2
open PySem PySem.Spec PyProof.Rows
section
variable {X : Cx} {N' : List Str} {M : List (Option Nat)} {scope : Scope} {tg elt iter tg2 iter2 : Expr} {ifs ifs2 : List Expr} {ks ks2 : List Nat} {pos : Pos} {g g2 : TG} {tc tc2 : TT} {te : TE} {wi wi2 : TI}
end
abbrev Best := Option (Int × List Int)
end L2
set_option Elab.async false
set_option linter.all false
set_option maxRecDepth 100000
namespace L2
open PySem PySem.Spec PyProof.Rows
def gV : Best → V
  | none => .non
  | some (g, _) => .int g
def FrP (H H' : Hp) (p : Addr) : Prop := ∀ x u, H x = some u → x ≠ p → H' x = some u
section
variable {K : PySem.W.Frag} {C : Addr} {H H' : Hp} {p dx t o : Addr} {lv : V} {ts : List Addr} {T : List (List Int)} {b : Best}
end
end L2
set_option Elab.async false
set_option linter.all false
set_option maxRecDepth 100000
namespace L2
open PySem PySem.Spec PyProof.Rows
section
variable {X : Cx} {K : PySem.W.Frag}
end
structure NwAt (H0 H : Hp) (p : Addr) (n : Nat) (ps : List Addr) (R : List (List Int)) (B : Nat) : Prop where
  fr : FrP H0 H p
  hp : H p = some (.lst (ps.map V.ref))
  hR : TuAt H ps R
  ok : ∀ r ∈ R, isWay r = true ∧ r.length = n
  hb : R.length ≤ B
section
variable {H0 H H' : Hp} {p : Addr} {n B B' : Nat} {ps : List Addr} {R : List (List Int)}
theorem NwAt.len (h : NwAt H0 H p n ps R B) : ps.length ≤ B := by rw [h.hR.length]; exact h.hb
end
end L2
set_option maxRecDepth 100000
set_option linter.all false
namespace PySem
open Sem (wp)
section
variable {prog : Program} {w : World} {A : Around} {E : Value → Shared → Prop} {h : Heap} {g : Array GenState} {d : Drawn} {t : Nat} {os : OsState} {a : Addr} {its : Array Value} {n : Nat}
end
end PySem
set_option maxRecDepth 100000
set_option linter.all false
namespace PySem
open Sem (wp)
section
variable {prog : Program} {w : World} {K : Type} [DecidableEq K] {knd : KeyKind prog w K} {A : Around} {R : Result → Shared → Prop} {I : Addr} {fp wr : List Addr} {n : Nat} {P : Nat → Value → Prop} {St : Nat → Heap → Prop} {d : Addr} {key : Nat → K} {val : Nat → Value}
end
end PySem
namespace PySem
section
variable {prog : Program} {w : World} {K : Type} [DecidableEq K] {knd : KeyKind prog w K} {A : Around} {E : Value → Shared → Prop} {s : Shared} {key : Nat → K} {val : Nat → Value} {l : Addr} {its : Array Value} {n0 : Nat}
end
end PySem
set_option Elab.async false
set_option linter.all false
set_option maxRecDepth 100000
namespace L2
open PySem PySem.Spec PyProof.Rows
end L2
set_option Elab.async false
set_option linter.all false
set_option maxRecDepth 100000
namespace L2
open PySem PySem.Spec PyProof.Rows
section
variable {X : Cx} {K : PySem.W.Frag}
end
end L2
set_option Elab.async false
set_option linter.all false
set_option maxRecDepth 100000
namespace L2
open PySem PySem.Spec PyProof.Rows
section
variable {X : Cx} {K : PySem.W.Frag}
end
end L2
set_option Elab.async false
set_option linter.all false
set_option maxRecDepth 100000
namespace L2
open PySem PySem.Spec PyProof.Rows
section
variable {prog : Program} {w : World} {A : Around} {R : Result → Shared → Prop} {s : Shared}
end
end L2
set_option Elab.async false
set_option linter.all false
set_option maxRecDepth 100000
namespace L2
open PySem PySem.Spec PyProof.Rows
end L2
set_option Elab.async false
set_option linter.all false
set_option maxRecDepth 100000
namespace PySem
open Sem (wp)
section
variable {M : Model} {A : Around} {E : Value → Shared → Prop} {s : Shared} {env : Env}
end
end PySem
set_option Elab.async false
set_option linter.all false
set_option maxRecDepth 100000
namespace L2
open PySem PySem.Spec PyProof.Rows
section
variable {M : Model} {A : Around} {E : Value → Shared → Prop} {s : Shared}
end
section
variable {X : Cx} {N' : List Str} {M : List (Option Nat)} {scope : Scope} {tg elt iter : Expr} {ifs : List Expr} {pos : Pos} {g : TG} {tc : TT} {te : TE} {wi : TI} {E : XK}
end
end L2
set_option Elab.async false
set_option linter.all false
set_option maxRecDepth 100000
namespace L2
open PySem PySem.Spec PyProof.Rows
def dn (t : Int) : Nat → Int
  | 0 => 1
  | n + 1 => dn t n * (t - n)
def totW (W : Wds) : Int := (W.map (·.2)).sum
theorem tot_go : ∀ W : Wds, (∀ w ∈ W, 0 ≤ w.2 ∧ w.2 ≤ 99) → 0 ≤ totW W ∧ totW W ≤ 99 * W.length
  | [], _ => ⟨by decide, by decide⟩
  | w :: W, h => by
    have ih := tot_go W fun x hx => h x (List.mem_cons_of_mem _ hx)
    have := h w List.mem_cons_self
    unfold totW at *
    rw [List.map_cons, List.sum_cons, List.length_cons]
    omega
theorem tot_ok {W : Wds} (hW : woodsOk W = true) : 0 ≤ totW W ∧ totW W ≤ 594 := by
  obtain ⟨w1, w2, w3⟩ := woodsOk_iff.mp hW
  have := tot_go W fun w hw => (w3 w hw).2
  omega
end L2
namespace L2
open PySem PySem.Spec PyProof.Rows
theorem inV_strs (z : Str) (S : List Str) : inV (.str z) (S.map V.str) = decide (z ∈ S) := by
  unfold inV
  rw [List.any_map]
  by_cases h : z ∈ S
  · rw [decide_eq_true h, List.any_eq_true]
    exact ⟨z, h, by show eqV (.str z) (.str z) = true; unfold eqV; simp⟩
  · rw [decide_eq_false h]
    cases e : S.any ((fun y => eqV y (.str z)) ∘ V.str) with
    | false => rfl
    | true =>
      obtain ⟨x, hx, e⟩ := List.any_eq_true.mp e
      have e : eqV (.str x) (.str z) = true := e
      unfold eqV at e
      simp at e
      exact absurd (e ▸ hx) h
end L2
namespace L2
open PySem PySem.Spec PyProof.Rows
end L2
namespace L2
open PySem PySem.Spec PyProof.Rows
end L2
namespace L2
open PySem PySem.Spec PyProof.Rows
theorem eqVs_strs : ∀ S : List Str, eqVs (S.map V.str) (S.map V.str) = true
  | [] => rfl
  | z :: S => by
    show (eqV (.str z) (.str z) && eqVs (S.map V.str) (S.map V.str)) = true
    rw [eqVs_strs S]
    show ((z == z) && true) = true
    simp
end L2
set_option Elab.async false
set_option linter.all false
set_option maxRecDepth 100000
namespace PySem
open Sem (wp)
section
variable {prog : Program} {w : World} {A : Around} {E : Value → Shared → Prop} {s : Shared}
end
end PySem
namespace L2
open PySem PySem.Spec PyProof.Rows
section
variable {X : Cx} {K : PySem.W.Frag}
theorem entry_dict_itemiterator_iter : entryFor table "dict_itemiterator.__iter__" = some Builtin.«dict_keyiterator.__iter__» :=
  entryFor_alias (id' := "dict_keyiterator.__iter__") (by kernel_rfl) rfl (by decide +kernel) (by kernel_rfl)
theorem wpAny_pyIter_itemiter {prog : Program} {w : World} {A : Around} {E : Value → Shared → Prop} {s : Shared} {it d : Addr} {i n ep : Nat} {ok ov : Value} {Q : Value → Shared → Prop} (hit : IsItemIter s.heap it d i n ep ok ov) (h : Q (.ref it) s) : wpAny (model prog w) A (pyIter (.ref it)) Q E s := by
  have hT : s.TypeIs (.ref it) "dict_itemiterator" := ⟨_, hit, rfl⟩
  refine wpAny_pyIter_slot hT F.slot_dict_itemiterator_iter (wpAny_call_entry F.slot_dict_itemiterator_iter hT entry_dict_itemiterator_iter ?_ (F.args_dict_itemiterator_iter_1 _))
  show wpAny _ _ (ret (.ref it)) _ _ s
  exact wpAny_pure ⟨_, rfl, "dict_itemiterator", _, hT, F.slot_dict_itemiterator_next.lookup, h⟩
end
end L2
set_option Elab.async false
set_option linter.all false
set_option maxRecDepth 100000
namespace PySem
open Sem (wp)
section
variable {prog : Program} {w : World} {A : Around} {E : Value → Shared → Prop} {s : Shared}
end
end PySem
set_option Elab.async false
set_option linter.all false
set_option maxRecDepth 100000
namespace L2
open PySem PySem.Spec PyProof.Rows
section
variable {X : Cx} {K : PySem.W.Frag}
abbrev hT (P : Program) (w : World) (k : List Key) : Int := (tupleKind (mixKind P w)).hash k
end
end L2
set_option Elab.async false
set_option linter.all false
set_option maxRecDepth 100000
namespace L2
open PySem PySem.Spec PyProof.Rows
def hI (L : List Int) : Int := reduceHash (Builtin.Tuple.tupleHashOf (L.map hashInt))
theorem hT_int (P : Program) (w : World) (L : List Int) : hT P w (L.map Sum.inl) = hI L := by
  show reduceHash (Builtin.Tuple.tupleHashOf ((L.map (Sum.inl : Int → Key)).map (keyH w))) = _
  rw [List.map_map]; rfl
def pl : Nat → Nat → Nat → List (List Int)
  | 0, _, _ => [[]]
  | f + 1, m, s => [] :: (List.range (s + 1 - m)).flatMap fun i => (pl f (m + i) (s - (m + i))).map (((m + i : Nat) : Int) :: ·)
theorem pl_hash : ((pl 9 1 9).map hI).Nodup := by decide +kernel
inductive Rise : Int → List Int → Prop
  | nil (m : Int) : Rise m []
  | cons {m a : Int} {L : List Int} : m ≤ a → Rise a L → Rise m (a :: L)
theorem mem_pl : ∀ (f : Nat) (m s : Nat) (L : List Int), 1 ≤ m → Rise (m : Int) L → L.sum ≤ (s : Int) → L.length ≤ f → L ∈ pl f m s
  | 0, _, _, L, _, _, _, hl => by
    have : L = [] := List.length_eq_zero_iff.mp (by omega)
    rw [this]; exact List.mem_singleton.mpr rfl
  | f + 1, m, s, [], _, _, _, _ => List.mem_cons_self
  | f + 1, m, s, a :: L, hm, hr, hs, hl => by
    cases hr with
    | cons h1 h2 =>
      have pos : ∀ {x : Int} {L : List Int}, 0 ≤ x → Rise x L → 0 ≤ L.sum := by
        intro x L hx h
        induction h with
        | nil => simp
        | cons a _ ih => rw [List.sum_cons]; have := ih (by omega); omega
      have p0 := pos (by omega) h2
      rw [List.sum_cons] at hs
      rw [List.length_cons] at hl
      obtain ⟨n, rfl⟩ := Int.eq_ofNat_of_zero_le (show 0 ≤ a by omega)
      refine List.mem_cons_of_mem _ (List.mem_flatMap.mpr ⟨n - m, List.mem_range.mpr (by omega), List.mem_map.mpr ⟨L, ?_, ?_⟩⟩)
      · rw [show m + (n - m) = n by omega]
        exact mem_pl f n (s - n) L (by omega) h2 (by omega) (by omega)
      · rw [show m + (n - m) = n by omega]
def GoodK (L : List Int) : Prop := Rise 1 L ∧ L.sum ≤ 9
theorem Rise.len {m : Int} {L : List Int} (h : Rise m L) (hm : 1 ≤ m) : (L.length : Int) ≤ L.sum := by
  induction h with
  | nil => simp
  | cons a _ ih =>
    have := ih (by omega)
    rw [List.length_cons, List.sum_cons]; omega
theorem GoodK.mem {L : List Int} (h : GoodK L) : L ∈ pl 9 1 9 := by
  have := h.1.len (Int.le_refl _)
  have h2 := h.2
  exact mem_pl 9 1 9 L (Nat.le_refl _) h.1 h.2 (by omega)
theorem nodup_on {α β : Type} (f : α → β) : ∀ {l : List α}, (l.map f).Nodup → ∀ {x y : α}, x ∈ l → y ∈ l → f x = f y → x = y
  | [], _, _, _, hx, _, _ => by simp at hx
  | a :: l, h, x, y, hx, hy, e => by
    rw [List.map_cons, List.nodup_cons] at h
    rcases List.mem_cons.mp hx with e1 | h1
    · rcases List.mem_cons.mp hy with e2 | h2
      · rw [e1, e2]
      · exact absurd (List.mem_map.mpr ⟨y, h2, by rw [← e, e1]⟩) h.1
    · rcases List.mem_cons.mp hy with e2 | h2
      · exact absurd (List.mem_map.mpr ⟨x, h1, by rw [e, e2]⟩) h.1
      · exact nodup_on f h.2 h1 h2 e
theorem good_hash : ∀ {l : List (List Int)}, l.Nodup → (∀ k ∈ l, GoodK k) → (l.map hI).Nodup
  | [], _, _ => List.nodup_nil
  | a :: l, h, hg => by
    rw [List.nodup_cons] at h
    rw [List.map_cons, List.nodup_cons]
    refine ⟨fun hm => ?_, good_hash h.2 fun k hk => hg k (List.mem_cons_of_mem _ hk)⟩
    obtain ⟨b, hb, e⟩ := List.mem_map.mp hm
    have := nodup_on hI pl_hash (hg b (List.mem_cons_of_mem _ hb)).mem (hg a List.mem_cons_self).mem e
    exact h.1 (this ▸ hb)
theorem Rise.all {m : Int} {L : List Int} (h : Rise m L) : ∀ x ∈ L, m ≤ x := by
  induction h with
  | nil => intro x hx; simp at hx
  | cons a _ ih =>
    intro x hx
    rcases List.mem_cons.mp hx with rfl | hx
    · exact a
    · exact Int.le_trans a (ih x hx)
abbrev Tab := List (List Int × Int)
def encT (D : Tab) : List (List Key × V) := D.map fun kv => (kv.1.map (Sum.inl : Int → Key), V.int kv.2)
structure GoodT (D : Tab) : Prop where
  nd : (D.map (·.1)).Nodup
  good : ∀ k ∈ D.map (·.1), GoodK k
theorem sub_lenK {α : Type} [DecidableEq α] : ∀ {l m : List α}, l.Nodup → (∀ x ∈ l, x ∈ m) → l.length ≤ m.length
  | [], _, _, _ => Nat.zero_le _
  | a :: l, m, hn, hs => by
    rw [List.nodup_cons] at hn
    have ha := hs a List.mem_cons_self
    have := sub_lenK (m := m.erase a) hn.2 fun x hx => (List.mem_erase_of_ne (show x ≠ a from fun e => hn.1 (by rw [← e]; exact hx))).mpr (hs x (List.mem_cons_of_mem _ hx))
    rw [List.length_erase_of_mem ha] at this
    have h0 : 0 < m.length := List.length_pos_of_mem ha
    rw [List.length_cons]; omega
theorem GoodT.len {D : Tab} (h : GoodT D) : D.length ≤ 97 := by
  have h1 : (D.map (·.1)).length ≤ (pl 9 1 9).length := by
    exact sub_lenK h.nd fun k hk => (h.good k hk).mem
  rw [List.length_map] at h1
  exact Nat.le_trans h1 (by decide +kernel)
theorem GoodT.hash {P : Program} {w : World} {D : Tab} (h : GoodT D) : ((encT D).map fun kv => hT P w kv.1).Nodup := by
  have : (encT D).map (fun kv => hT P w kv.1) = (D.map (·.1)).map hI := by
    unfold encT
    rw [List.map_map, List.map_map]
    exact List.map_congr_left fun kv _ => hT_int P w kv.1
  rw [this]
  exact good_hash h.nd h.good
end L2
set_option Elab.async false
set_option linter.all false
set_option maxRecDepth 100000
namespace L2
open PySem PySem.Spec PyProof.Rows
def without (N R : List Str) : List Str := N.filter fun z => decide (z ∉ R)
end L2
set_option Elab.async false
set_option linter.all false
set_option maxRecDepth 100000
namespace L2
open PySem PySem.Spec PyProof.Rows
section
variable {X : Cx}
end
section
variable {X : Cx}
end
end L2
set_option Elab.async false
set_option linter.all false
set_option maxRecDepth 100000
namespace L2
open PySem PySem.Spec PyProof.Rows
theorem sum_nonneg : ∀ {l : List Int}, (∀ x ∈ l, 0 ≤ x) → 0 ≤ l.sum
  | [], _ => by simp
  | a :: l, h => by
    rw [List.sum_cons]
    have := h a List.mem_cons_self
    have := sum_nonneg fun x hx => h x (List.mem_cons_of_mem _ hx)
    omega
end L2
namespace L2
end L2
namespace L2
open PySem PySem.Spec PyProof.Rows
end L2
namespace L2
open PySem PySem.Spec PyProof.Rows
end L2
set_option Elab.async false
set_option linter.all false
set_option maxRecDepth 100000
namespace L2
open PySem PySem.Spec PyProof.Rows
end L2
namespace L2
open PySem PySem.Spec PyProof.Rows
section
variable {X : Cx} {K : PySem.W.Frag}
def tTry4 (C D F G : Addr) (n : Nat) (tb : XK → TS) (th tk tl tm : TS) : TS := fun Z σ H => tb (fun c _ H' => (c = .ref C ∧ th Z (List.replicate n none) H') ∨ (c = .ref D ∧ tk Z (List.replicate n none) H') ∨ (c = .ref F ∧ tl Z (List.replicate n none) H') ∨ (c = .ref G ∧ tm Z (List.replicate n none) H')) Z σ H
theorem ps_try4 {x y z t : Str} {C D F G : Addr} {body : List Stmt} {b₀ c₀ d₀ e₀ : Stmt} {suite tuite vuite wuite : List Stmt} {tb : XK → TS} {th tk tl tm : TS} {np hpos np2 hpos2 np3 hpos3 np4 hpos4 pos : Pos} (hst : X.stack = X.env :: X.outer) (hfm : X.env.frame = some X.env.locals) (hc : X.calm = true)
    (hg : Gl X x) (hm : X.mg x = some (.ref C)) (hq : PySem.W.excIn X.K C bmV "ValueError.__new__" = true) (hg2 : Gl X y) (hm2 : X.mg y = some (.ref D)) (hq2 : PySem.W.excIn X.K D bmV "ValueError.__new__" = true) (hg3 : Gl X z) (hm3 : X.mg z = some (.ref F)) (hq3 : PySem.W.excIn X.K F bmV "ValueError.__new__" = true) (hg4 : Gl X t) (hm4 : X.mg t = some (.ref G)) (hq4 : PySem.W.excIn X.K G bmV "ValueError.__new__" = true) (hne : PySem.W.exmOne X.K (.ref D) (.ref C) = some false) (hne2 : PySem.W.exmOne X.K (.ref F) (.ref C) = some false) (hne3 : PySem.W.exmOne X.K (.ref F) (.ref D) = some false) (hne4 : PySem.W.exmOne X.K (.ref G) (.ref C) = some false) (hne5 : PySem.W.exmOne X.K (.ref G) (.ref D) = some false) (hne6 : PySem.W.exmOne X.K (.ref G) (.ref F) = some false)
    (hb : ∀ pins E, PSs (tryCx X pins E) body (tb E)) (hh : ∀ pins ea, PSs (hndCx X pins ea) (b₀ :: suite) th) (hk : ∀ pins ea, PSs (hndCx X pins ea) (c₀ :: tuite) tk) (hl : ∀ pins ea, PSs (hndCx X pins ea) (d₀ :: vuite) tl) (hv : ∀ pins ea, PSs (hndCx X pins ea) (e₀ :: wuite) tm) (hd : (x == ("__debug__" : Str)) = false := by decide) (hd2 : (y == ("__debug__" : Str)) = false := by decide) (hd3 : (z == ("__debug__" : Str)) = false := by decide) (hd4 : (t == ("__debug__" : Str)) = false := by decide) :
    PS X (.Try body [.ExceptHandler (some (.Name x np)) none (b₀ :: suite) hpos, .ExceptHandler (some (.Name y np2)) none (c₀ :: tuite) hpos2, .ExceptHandler (some (.Name z np3)) none (d₀ :: vuite) hpos3, .ExceptHandler (some (.Name t np4)) none (e₀ :: wuite) hpos4] [] [] pos) (tTry4 C D F G X.N.length tb th tk tl tm) := by
  intro pins s σ H Z I h
  have back : ∀ {A : Around} {cm : Bool} {E : Value → Shared → Prop} {f : Flow} {s' : Shared}, SP (X.alt (X.pn ++ pins) A cm E) [] Z f s' → SP X pins Z f s' := fun {A cm E f s'} q => by
    have un : ∀ {σ' : St} {H' : Hp}, Inv (X.alt (X.pn ++ pins) A cm E) [] σ' H' s' → Inv X pins σ' H' s' := fun {σ' H'} J =>
      ⟨I.ok, J.os, J.bare, J.base, J.loc, J.cell, J.free, J.freeC, fun p hp => J.pin p (by simpa using hp), J.hok, J.len⟩
    cases f with
    | next => obtain ⟨σ', H', J, q⟩ := q; exact ⟨σ', H', un J, q⟩
    | brk => obtain ⟨σ', H', J, q⟩ := q; exact ⟨σ', H', un J, q⟩
    | cont => obtain ⟨σ', H', J, q⟩ := q; exact ⟨σ', H', un J, q⟩
    | ret v => obtain ⟨x', σ', H', J, r, q⟩ := q; exact ⟨x', σ', H', un J, r, q⟩
  have I0 : Inv (tryCx X pins (fun c _ H' => (c = .ref C ∧ th Z (List.replicate X.N.length none) H') ∨ (c = .ref D ∧ tk Z (List.replicate X.N.length none) H') ∨ (c = .ref F ∧ tl Z (List.replicate X.N.length none) H') ∨ (c = .ref G ∧ tm Z (List.replicate X.N.length none) H'))) [] σ H s := I.alt rfl I.ok.hd fun p hp => by simpa using hp
  refine wpAny_Try_except (wpAny_mono (hb pins _ [] s σ H Z I0 h) (fun f s1 q => ?_) (fun e s1 q => ?_))
  · have q' := back q
    cases f with
    | next => exact wpAny_execs_nil q'
    | brk => exact q'
    | cont => exact q'
    | ret v => exact q'
  · obtain ⟨ea, cls, H', B, σ', rfl, J, ⟨a0, fl⟩, c1, c2, c3, c4, hE⟩ := q
    rw [hst] at fl
    refine wpAny_looks_onW (by rw [I.ok.frames, hst]) hfm fl fun h4 hheld hsm4 => ?_
    refine wpAny_landsW hheld fun h5 fl5 hsm5 => ?_
    have sm5 := hsm4.trans hsm5
    have J5 := J.slots fl5.1 sm5 c1 c2 c3 (fun p hp => c4 p (by simpa using hp))
    obtain ⟨ob, hob, hobc⟩ := fl5.there
    have Jh : Inv (hndCx X pins ea) [] σ' H' { s1 with heap := h5 } := J5.alt rfl (fun z => by cases z) fun p hp => hp
    have fin : ∀ {bs : List Stmt} {c : Stmt} {t : TS}, (∀ pins ea, PSs (hndCx X pins ea) (c :: bs) t) → t Z (List.replicate X.N.length none) H' → ∀ (hp : Pos),
        codeAny (model X.prog X.w) (X.A.mark (some (.ref ea))) (.handlers (.ref ea) [.ExceptHandler none none (c :: bs) hp] X.env) (fun r s₂ => match r with | .ok f => SP X pins Z f s₂ | .error x => cameBackBy (model X.prog X.w) X.A X.env X.xe x s₂) { s1 with heap := h5 } := fun {bs c t} ht hz hp => by
      refine codeAny_handlers_suite ?_
      refine lands_againW fl5 fun h6 fl6 hsm6 => ?_
      have J6 := J.slots fl6.1 (sm5.trans hsm6) c1 c2 c3 (fun p hp => c4 p (by simpa using hp))
      have Jh6 : Inv (hndCx X pins ea) [] σ' H' { s1 with heap := h6 } := J6.alt rfl (fun z => by cases z) fun p hp => hp
      have Jw : Inv (hndCx X pins ea) [] (List.replicate X.N.length none) H' { s1 with heap := h6 } := Jh6.weak (by rw [List.length_replicate]; exact Jh6.len.symm) fun i v e => by
        rw [List.getElem?_replicate] at e
        split at e <;> cases e
      exact wpAny_mono (ht pins ea [] _ _ H' Z Jw hz) (fun f s2 q2 => back q2) fun _ _ z => z.elim
    refine wpAny_handleBy_cons (codeAny_handlers_test (ld_glob Jh hg hm ?_ hd)) (by intro q; cases q)
    rcases hE with ⟨hcls, hE⟩ | ⟨hcls, hE⟩ | ⟨hcls, hE⟩ | ⟨hcls, hE⟩
    · subst hcls
      obtain ⟨bm, N, nm, q, bs, hdct, sn, sub, ab, col, dd, k0, k1, k2, k3, k5, mN, hC, hN, hni, TL⟩ := excObj Jh.ok.mod.kin hq
      refine wpAny_excMatches_sub_self (Jh.bk _ _ hC) hob hobc (TL.hasType (by decide +kernel)) ?_
      exact fin hh hE hpos
    · subst hcls
      have LT : PySem.W.Looks (model X.prog X.w) h5 (typeOf (.ref ea)) (.ref D) := by
        rw [← hobc]
        exact (PySem.W.Looks.ld hob).andThen .now
      refine (PySem.W.exm_one (M := model X.prog X.w) (c := .ref C) Jh.kIn LT hne) _ _ _ { s1 with heap := h5 } (fun b o e => e) ?_
      show wpAny _ _ (handleBy _ _ _) _ _ _
      refine wpAny_handleBy_cons (codeAny_handlers_test (ld_glob Jh hg2 hm2 ?_ hd2)) (by intro q; cases q)
      obtain ⟨bm, N, nm, q, bs, hdct, sn, sub, ab, col, dd, k0, k1, k2, k3, k5, mN, hC, hN, hni, TL⟩ := excObj Jh.ok.mod.kin hq2
      refine wpAny_excMatches_sub_self (Jh.bk _ _ hC) hob hobc (TL.hasType (by decide +kernel)) ?_
      exact fin hk hE hpos2
    · subst hcls
      have LT : PySem.W.Looks (model X.prog X.w) h5 (typeOf (.ref ea)) (.ref F) := by
        rw [← hobc]
        exact (PySem.W.Looks.ld hob).andThen .now
      refine (PySem.W.exm_one (M := model X.prog X.w) (c := .ref C) Jh.kIn LT hne2) _ _ _ { s1 with heap := h5 } (fun b o e => e) ?_
      show wpAny _ _ (handleBy _ _ _) _ _ _
      refine wpAny_handleBy_cons (codeAny_handlers_test (ld_glob Jh hg2 hm2 ?_ hd2)) (by intro q; cases q)
      refine (PySem.W.exm_one (M := model X.prog X.w) (c := .ref D) Jh.kIn LT hne3) _ _ _ { s1 with heap := h5 } (fun b o e => e) ?_
      show wpAny _ _ (handleBy _ _ _) _ _ _
      refine wpAny_handleBy_cons (codeAny_handlers_test (ld_glob Jh hg3 hm3 ?_ hd3)) (by intro q; cases q)
      obtain ⟨bm, N, nm, q, bs, hdct, sn, sub, ab, col, dd, k0, k1, k2, k3, k5, mN, hC, hN, hni, TL⟩ := excObj Jh.ok.mod.kin hq3
      refine wpAny_excMatches_sub_self (Jh.bk _ _ hC) hob hobc (TL.hasType (by decide +kernel)) ?_
      exact fin hl hE hpos3
    · subst hcls
      have LT : PySem.W.Looks (model X.prog X.w) h5 (typeOf (.ref ea)) (.ref G) := by
        rw [← hobc]
        exact (PySem.W.Looks.ld hob).andThen .now
      refine (PySem.W.exm_one (M := model X.prog X.w) (c := .ref C) Jh.kIn LT hne4) _ _ _ { s1 with heap := h5 } (fun b o e => e) ?_
      show wpAny _ _ (handleBy _ _ _) _ _ _
      refine wpAny_handleBy_cons (codeAny_handlers_test (ld_glob Jh hg2 hm2 ?_ hd2)) (by intro q; cases q)
      refine (PySem.W.exm_one (M := model X.prog X.w) (c := .ref D) Jh.kIn LT hne5) _ _ _ { s1 with heap := h5 } (fun b o e => e) ?_
      show wpAny _ _ (handleBy _ _ _) _ _ _
      refine wpAny_handleBy_cons (codeAny_handlers_test (ld_glob Jh hg3 hm3 ?_ hd3)) (by intro q; cases q)
      refine (PySem.W.exm_one (M := model X.prog X.w) (c := .ref F) Jh.kIn LT hne6) _ _ _ { s1 with heap := h5 } (fun b o e => e) ?_
      show wpAny _ _ (handleBy _ _ _) _ _ _
      refine wpAny_handleBy_cons (codeAny_handlers_test (ld_glob Jh hg4 hm4 ?_ hd4)) (by intro q; cases q)
      obtain ⟨bm, N, nm, q, bs, hdct, sn, sub, ab, col, dd, k0, k1, k2, k3, k5, mN, hC, hN, hni, TL⟩ := excObj Jh.ok.mod.kin hq4
      refine wpAny_excMatches_sub_self (Jh.bk _ _ hC) hob hobc (TL.hasType (by decide +kernel)) ?_
      exact fin hv hE hpos4
end
end L2
namespace L2
open PySem PySem.Spec PyProof.Rows
end L2
namespace L2
open PySem PySem.Spec PyProof.Rows
end L2
set_option Elab.async false
set_option linter.all false
set_option maxRecDepth 100000
namespace L2
open PySem PySem.Spec PyProof.Rows
end L2
namespace L2
open PySem PySem.Spec PyProof.Rows
end L2
namespace L2
open PySem PySem.Spec PyProof.Rows
section
variable {X : Cx}
theorem idxS_before : ∀ (S : List Str) (z : Str) (m : Nat), m < S.idxOf z → S.getD m "" ≠ z
  | [], _, _, h => by simp at h
  | a :: r, z, m, h => by
    rw [List.idxOf_cons] at h
    by_cases e : a = z
    · subst e; simp at h
    · have e' : (a == z) = false := beq_eq_false_iff_ne.mpr e
      rw [e'] at h
      cases m with
      | zero => exact e
      | succ m => exact idxS_before r z m (by simp at h; omega)
end
end L2
namespace L2
open PySem PySem.Spec PyProof.Rows
theorem le_tot : ∀ {W : Wds} {w : Str × Int}, (∀ v ∈ W, 0 ≤ v.2) → w ∈ W → w.2 ≤ totW W
  | v :: W, w, h, hm => by
    show w.2 ≤ ((v :: W).map (·.2)).sum
    rw [List.map_cons, List.sum_cons]
    have h0 : 0 ≤ (W.map (·.2)).sum := sum_nonneg fun x hx => by
      obtain ⟨u, hu, rfl⟩ := List.mem_map.mp hx
      exact h u (List.mem_cons_of_mem _ hu)
    have hv := h v List.mem_cons_self
    rcases List.mem_cons.mp hm with rfl | hm
    · omega
    · have := le_tot (fun u hu => h u (List.mem_cons_of_mem _ hu)) hm
      have e : totW W = (W.map (·.2)).sum := rfl
      omega
theorem tot_two (W : Wds) : totW (W.map fun w => (w.1, w.2 + 2)) = totW W + 2 * (W.length : Int) := by
  induction W with
  | nil => rfl
  | cons v W ih =>
    have e : ∀ (x : Str × Int) (V : Wds), totW (x :: V) = x.2 + totW V := fun x V => by
      show ((x :: V).map (·.2)).sum = _
      rw [List.map_cons, List.sum_cons]; rfl
    rw [List.map_cons, e, e, ih, List.length_cons]
    push_cast
    omega
end L2
namespace L2
open PySem PySem.Spec PyProof.Rows
end L2
namespace L2
open PySem PySem.Spec PyProof.Rows
end L2
set_option Elab.async false
set_option linter.all false
set_option maxRecDepth 100000
namespace L2
open PySem PySem.Spec PyProof.Rows
def Zp : Nat → (Nat → Nat → Int) → Int
  | 0, F => F 0 0
  | n + 1, F => Zp n (fun a b => F (a + 1) b) + Zp n (fun a b => F a (b + 1))
def bc (n s : Nat) : Int := Zp n fun a _ => if a = s then 1 else 0
def th (c : Int) : List Int → Int → Nat → Int
  | [], u, n => if u = c ∧ n = 0 then 1 else 0
  | p :: S, u, n => th c S u n + ((List.range n).map fun s => bc n (s + 1) * dn p (s + 1) * th c S (u + 1) (n - (s + 1))).sum
def ta : List Int → Nat → Int
  | [], n => if n = 0 then 1 else 0
  | p :: S, n => ta S n + ((List.range n).map fun s => bc n (s + 1) * dn p (s + 1) * ta S (n - (s + 1))).sum
def GoodP (j : Nat) (k : List Int) : Prop := ∃ u n : Nat, k = [(u : Int), (n : Int)] ∧ u ≤ j ∧ n ≤ 9
def kPs : List (List Int) := (List.range 7).flatMap fun (u : Nat) => (List.range 10).map fun (n : Nat) => [(u : Int), (n : Int)]
theorem kPs_hash : (kPs.map hI).Nodup := by decide +kernel
theorem GoodP.mem {j : Nat} (hj : j ≤ 6) {k : List Int} (h : GoodP j k) : k ∈ kPs := by
  obtain ⟨u, n, rfl, h1, h2⟩ := h
  exact List.mem_flatMap.mpr ⟨u, List.mem_range.mpr (by omega), List.mem_map.mpr ⟨n, List.mem_range.mpr (by omega), rfl⟩⟩
theorem goodP_hash {j : Nat} (hj : j ≤ 6) : ∀ {l : List (List Int)}, l.Nodup → (∀ k ∈ l, GoodP j k) → (l.map hI).Nodup
  | [], _, _ => List.nodup_nil
  | a :: l, h, hg => by
    rw [List.nodup_cons] at h
    rw [List.map_cons, List.nodup_cons]
    refine ⟨fun hm => ?_, goodP_hash hj h.2 fun k hk => hg k (List.mem_cons_of_mem _ hk)⟩
    obtain ⟨b, hb, e⟩ := List.mem_map.mp hm
    have := nodup_on hI kPs_hash ((hg b (List.mem_cons_of_mem _ hb)).mem hj) ((hg a List.mem_cons_self).mem hj) e
    exact h.1 (this ▸ hb)
structure GoodQ (j : Nat) (D : Tab) : Prop where
  nd : (D.map (·.1)).Nodup
  good : ∀ k ∈ D.map (·.1), GoodP j k
theorem GoodQ.len {j : Nat} (hj : j ≤ 6) {D : Tab} (h : GoodQ j D) : D.length ≤ 70 := by
  have h1 : (D.map (·.1)).length ≤ kPs.length := sub_lenK h.nd fun k hk => (h.good k hk).mem hj
  rw [List.length_map] at h1
  exact Nat.le_trans h1 (by decide +kernel)
theorem GoodQ.hash {P : Program} {w : World} {j : Nat} (hj : j ≤ 6) {D : Tab} (h : GoodQ j D) : ((encT D).map fun kv => hT P w kv.1).Nodup := by
  have : (encT D).map (fun kv => hT P w kv.1) = (D.map (·.1)).map hI := by
    unfold encT
    rw [List.map_map, List.map_map]
    exact List.map_congr_left fun kv _ => hT_int P w kv.1
  rw [this]
  exact goodP_hash hj h.nd h.good
end L2
set_option Elab.async false
set_option linter.all false
set_option maxRecDepth 100000
namespace L2
open PySem PySem.Spec PyProof.Rows
section
variable {X : Cx} {K : PySem.W.Frag}
end
def hole (H : Hp) (a : Addr) : Hp := fun b => if b = a then none else H b
end L2
set_option Elab.async false
set_option linter.all false
set_option maxRecDepth 100000
namespace L2
open PySem PySem.Spec PyProof.Rows
def CodeO (c : Addr) (qual : Str) : HO := .ext fun h => ∃ o vs t, h.get? c = some o ∧ o.data = .fields vs ∧ vs[1]? = some (.str qual t)
def TabOk (H : Hp) (P : Addr) (pos : Pos) (qual : Str) : Prop := ∃ ps : Array Value, H P = some (.tbl ps) ∧ TriplesOk ps.toList ∧ (codeAmong pos ps.toList = none ∨ ∃ c, codeAmong pos ps.toList = some (.ref c) ∧ H c = some (CodeO c qual))
def BmAt (mg : Str → Option Value) (base : Heap) : Prop := ∃ bm ob, mg "__builtins__" = some (.ref bm) ∧ bm ≠ builtinsNs ∧ base.get? bm = some ob ∧ ob.cls = .type "module" ∧ ob.dict = some builtinsNs ∧ ob.data = .plain
theorem TabOk.same {H H' : Hp} {P : Addr} {pos : Pos} {qual : Str} (h : TabOk H P pos qual) (s : Same H H') : TabOk H' P pos qual := by
  obtain ⟨ps, h1, h2, h3⟩ := h
  refine ⟨ps, s _ _ h1, h2, ?_⟩
  rcases h3 with h3 | ⟨c, h3, h4⟩
  · exact .inl h3
  · exact .inr ⟨c, h3, s _ _ h4⟩
theorem hole_same {H H' : Hp} {P : Addr} (s : Same H H') : Same (hole H P) (hole H' P) := fun b o e => by
  unfold hole at e ⊢
  by_cases q : b = P
  · rw [if_pos q] at e; cases e
  · rw [if_neg q] at e ⊢; exact s b o e
theorem hole_le (H : Hp) (P : Addr) : Same (hole H P) H := fun b o e => by
  unfold hole at e
  by_cases q : b = P
  · rw [if_pos q] at e; cases e
  · rw [if_neg q] at e; exact e
section
variable {X : Cx} {pins : List (Addr × Obj)} {σ : St} {H : Hp} {s : Shared}
theorem Inv.pin1 (I : Inv X pins σ H s) {a : Addr} {o : Obj} (h1 : s.heap.get? a = some o) (h2 : H a = none) (h3 : a ≠ X.env.locals) (h4 : a ∉ X.fs) (h5 : ∀ v, o.data ≠ .cell v) : Inv X ((a, o) :: pins) σ H s :=
  I.pins_of fun p hp => by
    rcases List.mem_cons.mp hp with rfl | hp
    · exact ⟨h1, h2, h3, h4, h5⟩
    · exact I.pin p (List.mem_append_right _ hp)
theorem Inv.unpin {p : Addr × Obj} (I : Inv X (p :: pins) σ H s) : Inv X pins σ H s := I.pins_of fun q hq => I.pin q (List.mem_append_right _ (List.mem_cons_of_mem _ hq))
structure OwnR (X : Cx) (pins : List (Addr × Obj)) (a : Addr) : Prop where
  ab : X.s₀.heap.objs.size ≤ a
  nl : a ≠ X.env.locals
  nc : ∀ x c, X.env.cells.lookup x = some c → c ≠ a
  np : ∀ p ∈ X.pn ++ pins, p.1 ≠ a
  nf : a ∉ X.fs
theorem Inv.ownR (I : Inv X pins σ H s) {a : Addr} (h : s.heap.objs.size ≤ a) : OwnR X pins a where
  ab := Nat.le_trans I.sz h
  nl := Nat.ne_of_gt (Nat.lt_of_lt_of_le I.lt h)
  nc := fun x c e => by
    obtain ⟨v, o, ho, _⟩ := I.cell x c e
    exact Nat.ne_of_lt (Nat.lt_of_lt_of_le (Heap.lt_size ho) h)
  np := fun p hp => Nat.ne_of_lt (Nat.lt_of_lt_of_le (Heap.lt_size (I.pin p hp).1) h)
  nf := I.nofs h
theorem Inv.repin {a : Addr} {o o' : Obj} {h' : Heap} {t' : Nat} (I : Inv X ((a, o) :: pins) σ H s) (O : OwnR X pins a) (k : ∀ b u, b ≠ a → s.heap.get? b = some u → h'.get? b = some u) (e : h'.get? a = some o') (hd : ∀ v, o'.data ≠ .cell v) :
    Inv X ((a, o') :: pins) σ H { s with heap := h', toks := t' } := by
  obtain ⟨_, h2, h3, h4, _⟩ := I.pin (a, o) (List.mem_append_right _ List.mem_cons_self)
  exact ((Inv.unpin I).turned (t' := t') k h2 h3 (.inr O.ab) O.nc O.np).pin1 e h2 h3 h4 hd
end
section
variable {X : Cx} {pins : List (Addr × Obj)} {σ : St} {H : Hp} {s : Shared} {lps : Arguments} {lb : Expr} {lsc : Scope} {lpos : Pos} {cl : List (Str × Addr)} {c P : Addr} {E : Value → Shared → Prop} {Qv : Value → Shared → Prop}
abbrev lamObj (X : Cx) (lps : Arguments) (lb : Expr) (lsc : Scope) (cl : List (Str × Addr)) (c' : Addr) (ctv : Value) : Obj := PySem.W.kla_obj "<lambda>" (X.env.qual ++ "<lambda>") lps lb lsc cl ((X.mg "__name__").getD .none) c' ctv
theorem mk_lam (I : Inv X pins σ H s) (hdef : defaultsOf lps X.env = ([], [])) (hcl : closureFor lsc X.env = pure cl) (hcode : X.env.code = .ref c) (hC : PySem.W.CodeHd X.base c P) (hbm : BmAt X.mg X.base) (hT : TabOk H P lpos (X.env.qual ++ "<lambda>"))
    (h : ∀ (f c' : Addr) (ctv : Value) (H' : Hp) (s' : Shared), Inv X ((f, lamObj X lps lb lsc cl c' ctv) :: pins) σ H' s' → H' c' = some (CodeO c' (X.env.qual ++ "<lambda>")) → TabOk H' P lpos (X.env.qual ++ "<lambda>") → Same (hole H P) H' → Qv (.ref f) s') :
    wpAny (model X.prog X.w) X.A (eval (.Lambda lps lb lsc lpos) X.env) Qv E s := by
  obtain ⟨ps, hP, htr, hor⟩ := hT
  have hPh : s.heap.get? P = some (PySem.W.tabObj ps) := I.hok P _ hP
  obtain ⟨bm, ob, b1, b2, b3, b4, b5, b6⟩ := hbm
  have hg : s.heap.Ns mainGlobals X.mg := I.ok.mod.glob.keeps I.bk
  have hbm' := I.bs bm ob b3
  have hgP : mainGlobals ≠ P := fun q => by
    obtain ⟨o, es, ep, e, hd, _⟩ := hg
    rw [q, hPh] at e; cases e; cases hd
  have hbP : bm ≠ P := fun q => by
    have := hbm'.2
    rw [q, hP] at this; cases this
  have hbG : bm ≠ mainGlobals := fun q => by
    obtain ⟨o, es, ep, e, hd, _⟩ := hg
    rw [q, e] at hbm'; cases hbm'.1; rw [hd] at b6; cases b6
  have hb : s.heap.BuiltinsAt X.mg P := ⟨bm, ob, b1, b2, hbG, hbP, hbm'.1, b4, b5, b6⟩
  have hC' : PySem.W.CodeHd s.heap c P := hC.keeps I.bk
  refine PySem.W.kla_eval hdef ?_
  rcases hor with hno | ⟨c', hyes, hc'⟩
  · refine PySem.W.kla_makeFunction (mg := X.mg) hcl I.ok.glob hg hcode hC' hPh htr hno hgP hb fun c' ctv h' tk hx hge hlt hrec htb => ?_
    have hc0 : H c' = none := I.hok.fresh hge
    have cP : c' ≠ P := fun e => by rw [e, hP] at hc0; cases hc0
    have kk : ∀ b o, b ≠ P → s.heap.get? b = some o → (h'.push (lamObj X lps lb lsc cl c' ctv)).get? b = some o := fun b o hb e => Heap.get?_push_of_some _ (hx b o hb e)
    have hH' : ∀ b u, H b = some u → b ≠ P → upd (upd H P (.tbl (ps ++ #[rawInt lpos.line, rawInt lpos.col, .ref c']))) c' (CodeO c' (X.env.qual ++ "<lambda>")) b = some u := fun b u e hb => by
      rw [upd_ne (ne_of_none e hc0), upd_ne hb]; exact e
    have hPn : upd (upd H P (.tbl (ps ++ #[rawInt lpos.line, rawInt lpos.col, .ref c']))) c' (CodeO c' (X.env.qual ++ "<lambda>")) P = some (.tbl (ps ++ #[rawInt lpos.line, rawInt lpos.col, .ref c'])) := by
      rw [upd_ne cP.symm, upd_same]
    have hcn : upd (upd H P (.tbl (ps ++ #[rawInt lpos.line, rawInt lpos.col, .ref c']))) c' (CodeO c' (X.env.qual ++ "<lambda>")) c' = some (CodeO c' (X.env.qual ++ "<lambda>")) := upd_same
    have hno' : ∀ b, H b = none → b ≠ c' → upd (upd H P (.tbl (ps ++ #[rawInt lpos.line, rawInt lpos.col, .ref c']))) c' (CodeO c' (X.env.qual ++ "<lambda>")) b = none := fun b e hb => by
      rw [upd_ne hb, upd_ne (fun z => by rw [z, hP] at e; cases e)]; exact e
    have hcd2 : ∀ b u, upd (upd H P (.tbl (ps ++ #[rawInt lpos.line, rawInt lpos.col, .ref c']))) c' (CodeO c' (X.env.qual ++ "<lambda>")) b = some u → b = c' ∨ b = P ∨ (H b = some u ∧ b ≠ P ∧ b ≠ c') := fun b u e => by
      by_cases h1 : b = c'
      · exact .inl h1
      · by_cases h2 : b = P
        · exact .inr (.inl h2)
        · rw [upd_ne h1, upd_ne h2] at e; exact .inr (.inr ⟨e, h2, h1⟩)
    generalize upd (upd H P (.tbl (ps ++ #[rawInt lpos.line, rawInt lpos.col, .ref c']))) c' (CodeO c' (X.env.qual ++ "<lambda>")) = H' at hH' hPn hcn hno' hcd2
    have hsz : s.heap.objs.size ≤ h'.objs.size := Nat.le_trans hge (Nat.le_of_lt hlt)
    have I' : Inv X pins σ H' { s with heap := h'.push (lamObj X lps lb lsc cl c' ctv), toks := tk } := by
      refine I.un (t' := tk) ⟨fun b o e n hb _ => kk b o (fun z => by rw [z, hP] at n; cases n) e, fun b o e n hb _ => ⟨o.slots, kk b o (fun z => by rw [z, hP] at n; cases n) e⟩,
        fun b o e n _ => hno' b n (fun z => by rw [z] at e; exact absurd (Heap.lt_size e) (Nat.not_lt.mpr hge)), fun b o e _ => ?_, fun b xs e => hH' b _ e (fun z => by rw [z, hP] at e; cases e), fun b o u e => hH' b _ e (fun z => by rw [z, hP] at e; cases e), fun b qs e => ?_⟩ (fun b u e => ?_)
      · by_cases hb : b = P
        · exact ⟨_, by rw [hb]; exact Heap.get?_push_of_some _ htb⟩
        · exact ⟨o, kk b o hb e⟩
      · by_cases hb : b = P
        · rw [hb, hP] at e; cases e
          exact ⟨_, by rw [hb]; exact hPn⟩
        · exact ⟨#[], by rw [hH' b _ e hb]; simp⟩
      · rcases hcd2 b u e with rfl | rfl | ⟨e1, e2, e3⟩
        · rw [hcn] at e; cases e
          obtain ⟨c2, oc, vs, t, q1, q2, q3, q4⟩ := hrec
          cases q1
          refine ⟨⟨oc, vs, t, Heap.get?_push_of_some _ q2, q3, q4⟩, ⟨oc, Heap.get?_push_of_some _ q2⟩, fun h1 h2 ⟨o1, v1, t1, z1, z2, z3⟩ kp => ⟨o1, v1, t1, kp _ z1, z2, z3⟩⟩
        · rw [hPn] at e; cases e
          exact Heap.get?_push_of_some _ htb
        · refine (I.hok b u e1).stay (fun d v hd q => kk d v (fun z => ?_) q) (fun d q => hH' d _ q (fun z => by rw [z, hP] at q; cases q)) fun d xs q => hH' d _ q (fun z => by rw [z, hP] at q; cases q)
          rcases hd with hd | hd
          · exact e2 (hd.symm.trans z)
          · rw [z, hP] at hd; cases hd
    have hfn : H' h'.objs.size = none := hno' _ (I.hok.fresh hsz) (Nat.ne_of_gt hlt)
    refine h _ c' ctv H' _ (I'.pin1 (Heap.get?_push_size _ rfl) hfn (I.ownR hsz).nl (I.ownR hsz).nf fun v z => by cases z) hcn ⟨_, hPn, ?_, .inr ⟨c', ?_, hcn⟩⟩ fun b o e => ?_
    · rw [Array.toList_append]; exact TriplesOk_snoc _ _ _ _ htr
    · rw [Array.toList_append]; exact codeAmong_snoc _ htr hno
    · have hb : b ≠ P := fun z => by rw [z] at e; unfold hole at e; rw [if_pos rfl] at e; cases e
      exact hH' b o (hole_le H P b o e) hb
  · refine PySem.W.kla_makeFunctionHit (mg := X.mg) hcl I.ok.glob hg hcode hC' hPh htr hyes hb fun ctv h' tk hk hsz => ?_
    have I' : Inv X pins σ H { s with heap := h'.push (lamObj X lps lb lsc cl c' ctv), toks := tk } := I.kept (t' := tk) fun b u e => Heap.get?_push_of_some _ (hk b u e)
    exact h _ c' ctv H _ (I'.pin1 (Heap.get?_push_size _ rfl) (I.hok.fresh hsz) (I.ownR hsz).nl (I.ownR hsz).nf fun v z => by cases z) hc' ⟨ps, hP, htr, .inr ⟨c', hyes, hc'⟩⟩ (hole_le H P)
end
section
variable {X : Cx} {pins : List (Addr × Obj)} {σ : St} {H : Hp} {s : Shared} {lps : Arguments} {lb : Expr} {lsc : Scope} {lpos : Pos} {cl : List (Str × Addr)}
def lamCx (X : Cx) (N : List Str) (qual : Str) (sc : Scope) (f c' : Addr) (cl : List (Str × Addr)) (A : Around) (s : Shared) (H : Hp) : Cx where
  prog := X.prog
  w := X.w
  K := X.K
  mg := X.mg
  base := X.base
  A := A.deeper (PySem.W.envX qual sc s.heap.objs.size f (.ref c') cl)
  N := N
  s₀ := s
  H₀ := H
  env := PySem.W.envX qual sc s.heap.objs.size f (.ref c') cl
  outer := X.stack
  stack := PySem.W.envX qual sc s.heap.objs.size f (.ref c') cl :: X.stack
  ex := []
  calm := true
  fn := fun _ => false
  pn := []
  xe := fun _ _ => False
structure LamOk (X : Cx) (lps : Arguments) (lb : Expr) (lsc : Scope) (cl : List (Str × Addr)) (x : Str) (fr : List Str) (ix : List Nat) : Prop where
  kind : lsc.kind = .function
  co : lsc.isCoroutine = false
  gen : lsc.isGenerator = false
  par : lsc.names.lookup x = some .local
  nocell : ∀ y ∈ lsc.names, y.2 ≠ .cell
  free : ∀ q ∈ lsc.names, q.2 = .free → q.1 ∈ fr
  sub : ∀ q ∈ cl, X.env.cells.lookup q.1 = some q.2
  has : ∀ y ∈ fr, ∃ c, cl.lookup y = some c
  isf : ∀ y ∈ fr, lsc.names.lookup y = some .free ∧ X.env.scope.names.lookup y = some .cell
  pl : Paired (fun i y => X.N[i]? = some y) ix fr
  bind : ∀ (qual : Str) (pm cdv ctv u : Value), bindArgs (PySem.W.kla_fn "<lambda>" qual lps lb lsc cl pm cdv ctv) ⟨[u], []⟩ = pure [(x, u)]
abbrev lamSt (σ : St) (ix : List Nat) (v : V) : St := some v :: ix.map fun i => (σ[i]?).getD none
theorem run_lam {x : Str} {fr : List Str} {ix : List Nat} {te : TE} {A : Around} {v : V} {u : Value} {f c' : Addr} {ctv : Value} {Q : VK} {E : Value → Shared → Prop} (L : LamOk X lps lb lsc cl x fr ix) (I : Inv X pins σ H s) (hf : (f, lamObj X lps lb lsc cl c' ctv) ∈ X.pn ++ pins)
    (hc : H c' = some (CodeO c' (X.env.qual ++ "<lambda>"))) (hA : A.frames = some X.stack) (hAh : A.handled = none) (hdp : A.depth < recursionLimit) (hb : PE (lamCx X (x :: fr) (X.env.qual ++ "<lambda>") lsc f c' cl A s H) lb te) (r : RelV v u) (q : te (lamSt σ ix v) H Q) :
    wpAny (model X.prog X.w) A (call (.ref f) [u]) (EP X pins σ Q) E s := by
  obtain ⟨⟨oc, vs, t, e1, e2, e3⟩, _, _⟩ := I.hok c' _ hc
  refine wpAny_call (PySem.W.kla_callFunE hdp (I.pin _ hf).1 rfl L.co L.gen rfl ⟨c', oc, vs, t, rfl, e1, e2, e3⟩ ?_)
  rw [L.bind]
  refine wpAny_pure (wpAny_newFunctionEnv L.nocell (fun y hy => by rw [List.mem_singleton.mp hy]; exact L.par) (fun h₁ hns hsb => ⟨(I.nolimit).fresh _ hsb, ?_⟩) L.kind)
  show codeAny _ _ (.expr lb (PySem.W.envX (X.env.qual ++ "<lambda>") lsc s.heap.objs.size f (.ref c') cl)) _ _
  have hk₁ : ∀ b o, s.heap.get? b = some o → h₁.get? b = some o := fun b o e => hsb.extBut b o (Nat.ne_of_lt (Heap.lt_size e)) (Heap.get?_push_of_some _ e)
  have cls : ∀ y c, cl.lookup y = some c → X.env.cells.lookup y = some c := fun y c e => L.sub (y, c) (PySem.mem_of_lookup e)
  have J : Inv (lamCx X (x :: fr) (X.env.qual ++ "<lambda>") lsc f c' cl A s H) [] (lamSt σ ix v) H { s with heap := h₁, toks := s.toks + [(x, u)].length } := by
    refine ⟨⟨I.ok.mod, L.kind, rfl, rfl, Nat.le_refl _, fun y z c h1 h2 => I.ok.inj y z c (cls y c h1) (cls z c h2), fun y hy => ?_, fun y c h => absurd h (by show ¬ (false = true); decide), fun _ => hAh, Around.frames_deeper hA, .inr ⟨rfl, rfl⟩, fun b z => absurd (show b ∈ ([] : List Addr) from z) (by simp), I.bs, Nat.le_trans I.ok.bsz I.sz, fun b _ _ z => absurd (show b ∈ ([] : List Addr) from z) (by simp), fun b z => absurd (show b ∈ ([] : List Addr) from z) (by simp), I.stack, I.stkFree⟩,
      rfl, I.bare, Un.kept hk₁, ⟨_, hns, fun i y v' h1 h2 h3 => ?_⟩, fun y c e => ?_, I.hok.fresh (Nat.le_refl _), fun y c e => I.freeC y c (cls y c e), fun p hp => absurd (show p ∈ ([] : List (Addr × Obj)) from hp) (by simp), I.hok.kept hk₁, ?_⟩
    · have hy : lsc.names.lookup y = some .cell ∨ lsc.names.lookup y = some .free := hy
      rcases hy with hy | hy
      · exact absurd rfl (L.nocell _ (PySem.mem_of_lookup hy))
      · exact L.has y (L.free _ (PySem.mem_of_lookup hy) rfl)
    · cases i with
      | zero =>
        have h1 : some x = some y := h1
        have h2 : some (some v) = some (some v') := h2
        cases h1; cases h2
        exact ⟨u, r, .inl ⟨L.par, by simp⟩⟩
      | succ j =>
        have h1 : fr[j]? = some y := h1
        have h2 : (ix.map fun i => (σ[i]?).getD none)[j]? = some (some v') := h2
        obtain ⟨n, hn, hj⟩ := paired_getR L.pl h1
        rw [List.getElem?_map, hj] at h2
        have h2 : (σ[n]?).getD none = some v' := by injection h2
        have h2 : σ[n]? = some (some v') := by
          cases e : σ[n]? with
          | none => rw [e] at h2; cases h2
          | some z => rw [e] at h2; rw [show z = some v' from h2]
        obtain ⟨g1, g2⟩ := L.isf y (List.mem_of_getElem? h1)
        obtain ⟨m, hm, hl⟩ := I.loc
        obtain ⟨u', r', l⟩ := hl n y v' hn h2 (.inr (.inl g2))
        rcases l with ⟨k, _⟩ | ⟨_, c, e, z⟩
        · have k : X.env.scope.names.lookup y = some .local := k
          rw [g2] at k; cases k
        · obtain ⟨c2, e2⟩ := L.has y (List.mem_of_getElem? h1)
          have := cls y c2 e2
          rw [e] at this
          cases this
          obtain ⟨oz, z1, z2⟩ := z
          exact ⟨u', r', .inr ⟨.inr g1, c, e2, oz, hk₁ _ _ z1, z2⟩⟩
    · obtain ⟨w0, o, ho, hd⟩ := I.cell y c (cls y c e)
      exact ⟨w0, o, hk₁ _ _ ho, hd⟩
    · show (some v :: ix.map fun i => (σ[i]?).getD none).length = (x :: fr).length
      rw [List.length_cons, List.length_cons, List.length_map, L.pl.length]
  refine PySem.W.kla_codeExpr (wpAny_mono (hb [] _ _ H _ J q) (fun u2 s2 hs => ?_) fun _ _ z => False.elim z)
  obtain ⟨v2, H2, J2, r2, q2⟩ := hs
  exact ⟨v2, H2, I.call' J2.os J2.base J2.hok J2.bare (fun b z => absurd (show b ∈ ([] : List Addr) from z) (by simp)), r2, q2⟩
theorem vals_rfs : ∀ {as : List Addr} {its : List Value}, Vals (as.map V.ref) its → its = as.map Value.ref
  | [], _, .nil => rfl
  | a :: as, _, .cons r t => by
    obtain rfl : _ = Value.ref a := r
    rw [vals_rfs t]; rfl
end
section
variable {X : Cx} {P0 : List (Addr × Obj)} {σ : St} {H2 : Hp} {l It S q : Addr} {as : List Addr} {R : Result → Shared → Prop} {kf : Nat → Int}
end
section
variable {X : Cx} {lps : Arguments} {lb : Expr} {lsc : Scope} {lpos : Pos} {cl : List (Str × Addr)} {c P : Addr} {x : Str} {fr : List Str} {ix : List Nat} {te : TE}
end
end L2
set_option Elab.async false
set_option linter.all false
set_option maxRecDepth 100000
namespace L2
open PySem PySem.Spec PyProof.Rows
section
variable {P : Program} {w : World} {K : PySem.W.Frag} {mg : Str → Option Value} {base : Heap}
theorem Fun.okC {x qual : Str} {st : Stmt} {f c : Addr} {fd : FuncData} {N ps : List Str} {k : Nat} {sp : Sp} (F : Fun K x qual st f fd) (hc : fd.code = .ref c) (S : FnScope N ps (defScope st)) (len : ∀ vs H Q E, sp vs H Q E → vs.length = ps.length)
    (hbody : ∀ (cdv : Value), cdv = .ref c → ∀ (A : Around) (outer : List Env) (s : Shared) (H : Hp) (vs : List V) (Q : VK) (E : XK), Room k (A.deeper (envOfC qual (defScope st) s.heap.objs.size f cdv)) → sp vs H Q E →
      ∃ t, PSs (cxOf CX0 P w K mg base N qual (defScope st) f cdv A outer s H E).nox (defBody st) t ∧ t { nx := fun _ H' => Q .non H', rt := Q } (start N vs) H) : FnOk P w K mg base CX0 (k + 1) f fd ps sp := by
  obtain ⟨oc, od, kV, doc, pm, an, cdv, ct, osl, rfl, lk, hcd⟩ := F.ex
  refine fn_of lk hcd S len fun A outer s H vs Q E hr hsp => ?_
  obtain ⟨t, h, q⟩ := hbody cdv hc A outer s H vs Q E hr hsp
  exact ⟨t, h.nox, q⟩
end
theorem law_callT {P : Program} {w : World} {K : PySem.W.Frag} {mg mb : Str → Option Value} {CX : CXT} {k : Nat} {fa a : Addr} {fd : FuncData} {x : Str} {sp : Sp} {s₁ : Shared} {vs : List Value} {ns : List Int} {tabs : List (Addr × Addr)}
    (KX : K.In s₁.heap) (hns : s₁.heap.Ns mainGlobals mg) (hb : s₁.heap.Ns builtinsNs mb) (hbb : ∀ x : Str, x ≠ "__name__" → mb x = bootBuiltins x) (hlim : s₁.heap.NoLimit) (hg : s₁.gens = #[]) (hbm : BmAt mg s₁.heap)
    (ha : s₁.heap.get? a = some { cls := .type "list", data := .seq vs.toArray }) (hi : IntsAre vs ns) (hl : ns.length ≤ sizeLine) (hr : Room k callerA)
    (hT : ∀ q ∈ tabs, PySem.W.CodeHd s₁.heap q.1 q.2 ∧ s₁.heap.get? q.2 = some (PySem.W.tabObj #[]) ∧ K.lookup q.2 = none)
    (F : ∀ base : Heap, K.In base → base.Ns mainGlobals mg → BmAt mg base → FnOk P w K mg base CX k fa fd [x] sp) (hbind : ∀ (s : Shared) (u : Value), BindsTo s fd ⟨[u], []⟩ [(x, u)])
    (hsp : ∀ H : Hp, (∀ q ∈ tabs, H q.2 = some (.tbl #[])) → SqL K H a (ns.map V.int) → sp [.ref a] H (fun v _ => v = .bl true) fun _ _ _ => False)
    (hCX : ∀ H e s', CX [] H s₁ (fun _ _ _ => False) e s' → False) :
    codeAny (model P w) callerA (.call (.ref fa) ⟨[.ref a], []⟩) (fun r s' => r = .ok (.ret (.bool true)) ∧ OldK s₁.heap s'.heap ∧ s'.os = s₁.os ∧ AllBare s'.gens) s₁ := by
  have rv := vals_ints hi
  have lenV := hi.length
  have core : ∀ H : Hp, (∀ b, H b = none ∨ (∃ o xs, H b = some (.frz o (.lst xs)) ∧ b = a) ∨ (H b = some (.tbl #[]) ∧ b ∈ tabs.map (·.2))) → (∀ q ∈ tabs, H q.2 = some (.tbl #[])) → SqL K H a (ns.map V.int) → HOk P w H s₁.heap → (∀ b, H b ≠ none → K.lookup b = none) →
      codeAny (model P w) callerA (.call (.ref fa) ⟨[.ref a], []⟩) (fun r s' => r = .ok (.ret (.bool true)) ∧ OldK s₁.heap s'.heap ∧ s'.os = s₁.os ∧ AllBare s'.gens) s₁ := by
    intro H hO hTH hS hok hK
    have base_of : ∀ {b : Addr} {o : Obj}, s₁.heap.get? b = some o → H b = none → (hidT s₁.heap H).get? b = some o := fun e n => hidT_get e n
    have noA : ∀ {b : Addr} {o : Obj}, s₁.heap.get? b = some o → (∀ ys n, o.data ≠ .seq ys n) → (∀ ys, o.data ≠ .fields ys) → H b = none := fun {b o} e d1 d2 => by
      rcases hO b with z | ⟨ob, xs, z, rfl⟩ | ⟨z, _⟩
      · exact z
      · rw [ha] at e; cases e
        exact absurd rfl (d1 _ _)
      · have := hok b _ z
        have this : s₁.heap.get? b = some { cls := .none, data := .fields #[] } := this
        rw [this] at e; cases e
        exact absurd rfl (d2 _)
    have nsK : ∀ {b : Addr} {m : Str → Option Value}, s₁.heap.Ns b m → (hidT s₁.heap H).Ns b m := fun {b m} ⟨o, es, ep, e, d, r⟩ => ⟨o, es, ep, base_of e (noA e (fun _ _ z => by rw [d] at z; cases z) (fun _ z => by rw [d] at z; cases z)), d, r⟩
    have hKb : K.In (hidT s₁.heap H) := fun b o e => base_of (KX b o e) (by
      cases q : H b with
      | none => rfl
      | some u => rw [hK b (by rw [q]; simp)] at e; cases e)
    have hM : Mod K mg (hidT s₁.heap H) := ⟨hKb, nsK hns, ⟨mb, nsK hb, hbb⟩, let ⟨mc, h1, h2⟩ := hlim; ⟨mc, nsK h1, h2⟩⟩
    have hbm' : BmAt mg (hidT s₁.heap H) := by
      obtain ⟨bm, ob, b1, b2, b3, b4, b5, b6⟩ := hbm
      exact ⟨bm, ob, b1, b2, base_of b3 (noA b3 (fun _ _ z => by rw [b6] at z; cases z) (fun _ z => by rw [b6] at z; cases z)), b4, b5, b6⟩
    have e0 : Env0 P w K mg (hidT s₁.heap H) callerA [] s₁ H := ⟨rfl, hM, fun b o e => of_hidT e, Nat.le_of_eq (hidT_size _ _), trivial, fun b hb => absurd (show b ∈ ([] : List Addr) from hb) (by simp), hok, .of_eq hg⟩
    refine codeAny_mono ((F _ hKb (nsK hns) hbm').run callerA [] s₁ H ⟨[.ref a], []⟩ [.ref a] [.ref a] _ _ hr e0 (hbind s₁ (.ref a)) (.cons rfl .nil) (hsp H hTH hS)) fun r s' h => ?_
    cases r with
    | error e => exact (hCX H e s' h).elim
    | ok fl =>
      cases fl with
      | next => exact False.elim h
      | brk => exact False.elim h
      | cont => exact False.elim h
      | ret u =>
        obtain ⟨v, H', os, bare, un, hok', r', q⟩ := h
        have q' : v = .bl true := q
        subst q'
        obtain rfl : u = Value.bool true := r'
        refine ⟨rfl, ⟨fun b o e => ?_, fun b o e => un.there b o e (by simp)⟩, os, bare⟩
        rcases hO b with z | ⟨ob, xs, z, _⟩ | ⟨z, hm⟩
        · exact .inl (un.keep b o e z (by intro z; exact absurd (show b ∈ ([] : List Addr) from z) (by simp)) (by simp))
        · have z2 := un.frzs b ob _ z
          obtain ⟨e1, _⟩ := hok b _ z
          obtain ⟨e2, _⟩ := hok' b _ z2
          rw [e] at e1; cases e1
          exact .inl e2
        · obtain ⟨p, hp, rfl⟩ := List.mem_map.mp hm
          obtain ⟨more, z2⟩ := un.tbls _ _ z
          obtain ⟨c1, c2, _⟩ := hT p hp
          have e2 : s'.heap.get? p.2 = some { cls := .none, data := .fields (#[] ++ more) } := hok' _ _ z2
          rw [c2] at e; cases e
          exact .inr (.inl ⟨(c1.tab c2).isCodeTable, rfl, #[], more, rfl, e2⟩)
  have hTa : ∀ q ∈ tabs, q.2 ≠ a := fun q hq e => by
    have := (hT q hq).2.1
    rw [e, ha] at this; cases this
  have inT : ∀ b, b ∈ tabs.map (·.2) → b ≠ a := fun b hb => by
    obtain ⟨q, hq, rfl⟩ := List.mem_map.mp hb
    exact hTa q hq
  cases hk : K.lookup a with
  | some o =>
    have e := KX a o hk
    rw [ha] at e
    cases e
    refine core (fun b => if b ∈ tabs.map (·.2) then some (.tbl #[]) else none) (fun b => ?_) (fun q hq => if_pos (List.mem_map.mpr ⟨q, hq, rfl⟩)) (.inr ⟨_, vs.toArray, _, hk, rfl, rfl, rfl, by rw [List.size_toArray, lenV]; exact hl, by simpa using rv⟩) (fun b u z => ?_) fun b z => ?_
    · by_cases hb' : b ∈ tabs.map (·.2)
      · exact .inr (.inr ⟨if_pos hb', hb'⟩)
      · exact .inl (if_neg hb')
    · by_cases hb' : b ∈ tabs.map (·.2)
      · have z' := (if_pos hb').symm.trans z
        cases z'
        obtain ⟨q, hq, rfl⟩ := List.mem_map.mp hb'
        exact (hT q hq).2.1
      · have z' := (if_neg hb').symm.trans z
        cases z'
    · by_cases hb' : b ∈ tabs.map (·.2)
      · obtain ⟨q, hq, rfl⟩ := List.mem_map.mp hb'
        exact (hT q hq).2.2
      · exact absurd (if_neg hb') z
  | none =>
    refine core (fun b => if b ∈ tabs.map (·.2) then some (.tbl #[]) else if b = a then some (.frz { cls := .type "list", data := .seq vs.toArray } (.lst (ns.map V.int))) else none) (fun b => ?_) (fun q hq => if_pos (List.mem_map.mpr ⟨q, hq, rfl⟩)) (.inl (.inr ⟨{ cls := .type "list", data := .seq vs.toArray }, ?_⟩)) (fun b u z => ?_) fun b z => ?_
    · by_cases hb' : b ∈ tabs.map (·.2)
      · exact .inr (.inr ⟨if_pos hb', hb'⟩)
      · by_cases hba : b = a
        · exact .inr (.inl ⟨_, _, by (try dsimp only); rw [if_neg hb', if_pos hba], hba⟩)
        · exact .inl (by (try dsimp only); rw [if_neg hb', if_neg hba])
    · dsimp only
      rw [if_neg (fun hm => inT a hm rfl), if_pos rfl]
    · try dsimp only at z
      by_cases hb' : b ∈ tabs.map (·.2)
      · rw [if_pos hb'] at z
        cases z
        obtain ⟨q, hq, rfl⟩ := List.mem_map.mp hb'
        exact (hT q hq).2.1
      · rw [if_neg hb'] at z
        by_cases hba : b = a
        · rw [if_pos hba] at z
          cases z
          subst hba
          exact ⟨ha, by rw [List.length_map]; exact hl, vs, _, rv, ha⟩
        · rw [if_neg hba] at z; cases z
    · try dsimp only at z
      by_cases hb' : b ∈ tabs.map (·.2)
      · obtain ⟨q, hq, rfl⟩ := List.mem_map.mp hb'
        exact (hT q hq).2.2
      · rw [if_neg hb'] at z
        by_cases hba : b = a
        · rw [hba]; exact hk
        · exact absurd (if_neg hba) z
theorem walk_ofT {l : PySem.W.OpenLaw} {n k : Nat} {q : Program} {loose : List Str} {XP : (Str → Option Value) → Heap → Prop} {YP : World → Heap → Prop} {d : DefRec} {K : Params → PySem.W.Frag} {CX : World → CXT} {sp : World → List (Addr × Addr) → Sp} {x : Str} {ts : List Addr}
    (hn : l.most = some n) (hn2 : n ≤ sizeLine) (hdf : d.params.defaults = []) (hr : Room k callerA)
    (hY : ∀ (w : World) (h : Heap), YP w h → (K w.params).In h ∧ ∀ P ∈ ts, h.get? P = some (PySem.W.tabObj #[]))
    (F : ∀ (w : World) (mg : Str → Option Value) (fa : Addr) (h : Heap), (K w.params).In h → h.Ns mainGlobals mg → mg d.name = some (.ref fa) →
      ∃ (fd : FuncData) (tabs : List (Addr × Addr)), (∀ q ∈ tabs, PySem.W.codeHdIn (K w.params) q.1 q.2 = true ∧ q.2 ∈ ts ∧ (K w.params).lookup q.2 = none) ∧ (∀ (s : Shared) (u : Value), BindsTo s fd ⟨[u], []⟩ [(x, u)]) ∧
        ∀ base : Heap, (K w.params).In base → base.Ns mainGlobals mg → BmAt mg base → FnOk l.prog w (K w.params) mg base (CX w) k fa fd [x] (sp w tabs))
    (hsp : ∀ (w : World) (tabs : List (Addr × Addr)) (H : Hp) (a : Addr) (ns : List Int), ns.length ≤ n → (∀ q ∈ tabs, H q.2 = some (.tbl #[])) → SqL (K w.params) H a (ns.map V.int) → sp w tabs [.ref a] H (fun v _ => v = .bl true) fun _ _ _ => False)
    (hCX : ∀ (w : World) (H : Hp) (s : Shared) (e : Value) (s' : Shared), CX w [] H s (fun _ _ _ => False) e s' → False) :
    PySem.W.WalkO q loose XP YP l.row.toRowW d [] (fun f vs => PySem.call f vs) := by
  refine Att.attach_call hn hdf fun w s₀ s₁ mg mb fa o pm cd doc a vs ns G Y ho hd hcd hmg hobj hints hlen hg => ?_
  obtain ⟨KX, hts⟩ := hY w _ Y
  obtain ⟨fd, tabs, hT, hb, hF⟩ := F w mg fa _ KX G.T.g hmg
  obtain ⟨bm, ob, b1, b2, b3, b4, b5, b6⟩ := G.T.bmain
  exact law_callT KX G.T.g G.T.b G.T.builtins G.T.nolimit hg ⟨bm, ob, b1, b2, b3, b4, b5, b6⟩ hobj hints (Nat.le_trans hlen hn2) hr (fun q hq => ⟨PySem.W.codeHd_of_K KX (hT q hq).1, hts _ (hT q hq).2.1, (hT q hq).2.2⟩) hF hb (fun H hO hS => hsp w tabs H a ns hlen hO hS) fun H e s' => hCX w H s₁ e s'
end L2
set_option Elab.async false
set_option linter.all false
set_option maxRecDepth 100000
namespace L2
open PySem PySem.Spec PyProof.Rows
section
variable {X : Cx} {K : PySem.W.Frag}
end
end L2
set_option Elab.async false
set_option linter.all false
set_option maxRecDepth 100000
namespace L2
open PySem PySem.Spec PyProof.Rows
theorem hole_keep {H : Hp} {P : Addr} {pos : Pos} {q : Str} (h : TabOk H P pos q) {b : Addr} {o : HO} (e : H b = some o) (hne : ∀ ps, o ≠ .tbl ps) : hole H P b = some o := by
  obtain ⟨ps, hP, _⟩ := h
  unfold hole
  rw [if_neg (fun z => by rw [z, hP] at e; cases e; exact hne _ rfl)]; exact e
theorem hole_seq {K : PySem.W.Frag} {H : Hp} {P a : Addr} {pos : Pos} {q : Str} {xs : List V} (h : TabOk H P pos q) (hs : SqL K H a xs) : SqL K (hole H P) a xs := by
  rcases hs with (e | ⟨u, e⟩) | e
  · exact .inl (.inl (hole_keep h e fun _ z => by cases z))
  · exact .inl (.inr ⟨u, hole_keep h e fun _ z => by cases z⟩)
  · exact .inr e
end L2
set_option maxRecDepth 100000
set_option Elab.async false
set_option linter.all false
namespace PyProof.Rows
open PySem
section
variable {prog : Program} {w : World} {A : Around} {E : Value → Shared → Prop} {s : Shared} {a₀ : Array Keyed}
theorem sortRuns_up {st : SortSt} {Q : Unit → SortSt → Prop} (h0 : IntKeys a₀) (hB : SBase a₀ st) (h2 : 2 ≤ a₀.size) (h64 : a₀.size < 64) (hs : SortedTo (arrOf st) a₀.size)
    (h : ∀ st', arrOf st' = arrOf st → failedOf st' = none → Q () st') : wpS (model prog w) A E s sortRuns' Q st := by
  rw [sortRuns'_eq]
  refine wpS_bind (wpS_get ?_)
  dsimp only
  have hmr : minRun' a₀.size a₀.size 0 = a₀.size := by
    obtain ⟨f, hf⟩ : ∃ f, a₀.size = f + 1 := ⟨a₀.size - 1, by omega⟩
    have : minRun' (f + 1) a₀.size 0 = a₀.size := by rw [minRun'_succ, if_pos h64]; rfl
    rwa [← hf] at this
  simp only [hB.size, hmr]
  refine wpS_bind (wpS_mono (wpS_forRange
    (I := fun x c st' => (x = 0 ∧ c = (none, 0) ∧ st' = st) ∨ (1 ≤ x ∧ c = (none, a₀.size) ∧ arrOf st' = arrOf st ∧ failedOf st' = none ∧ pendingOf st' = #[(0, a₀.size, 0)]))
    (Q := fun c st' => c = (none, a₀.size) ∧ arrOf st' = arrOf st ∧ failedOf st' = none ∧ pendingOf st' = #[(0, a₀.size, 0)]) ?step ?fin (.inl ⟨rfl, rfl, rfl⟩)) ?post)
  case fin =>
    rintro c st' (⟨hx, _, _⟩ | ⟨_, hc, hD⟩)
    · omega
    · exact ⟨hc, hD⟩
  case step =>
    rintro x c st' _ hx (⟨rfl, rfl, rfl⟩ | ⟨hx1, rfl, hD⟩)
    · dsimp only
      rw [if_neg (by omega)]
      simp only [Nat.sub_zero, Nat.min_self, Nat.zero_add]
      rw [countRun0_eq]
      refine wpS_bind (wpS_bind (wpS_ascLoop h0 (Nat.le_refl _) (Nat.le_refl 1) (by omega) hB (fun i j hij hj => by
        have : i = j := by omega
        subst this; exact Int.le_refl _) fun n hn1 hn2 hsn hor => ?_))
      dsimp only
      have hnn : n = a₀.size := by
        rcases hor with e | e
        · exact e
        · by_cases hn : n < a₀.size
          · have := hs (n - 1) n (by omega) hn; omega
          · omega
      subst hnn
      rw [if_pos (by simp)]
      refine wpS_pure ?_
      dsimp only
      rw [if_neg (Nat.lt_irrefl _)]
      refine wpS_bind (wpS_get ?_)
      have hb : (pendingOf st').back? = none := by rw [hB.pend]; rfl
      rw [hb]
      dsimp only
      exact wpS_bind (wpS_modify (wpS_pure (.inr ⟨by omega, rfl, rfl, hB.failed, by show (pendingOf st').push _ = _; rw [hB.pend]; rfl⟩)))
    · dsimp only
      rw [if_pos (Nat.le_refl _)]
      exact wpS_pure ⟨rfl, hD⟩
  case post =>
    rintro c st' ⟨rfl, hD⟩
    dsimp only
    refine wpS_bind (wpS_mono (wpS_forRange (I := fun _ c st'' => st'' = st' ∧ c = (none, ())) (Q := fun c st'' => st'' = st' ∧ c = (none, ())) ?_ (fun _ _ hh => hh) ⟨rfl, rfl⟩) ?_)
    · rintro x c st'' _ _ ⟨rfl, rfl⟩
      refine wpS_bind (wpS_get ?_)
      rw [if_pos (by rw [hD.2.2]; exact Nat.le_refl 1)]
      exact wpS_pure ⟨rfl, rfl⟩
    · rintro c st'' ⟨rfl, rfl⟩
      exact wpS_pure (h _ hD.1 hD.2.1)
end
end PyProof.Rows
namespace PyProof.Rows
open PySem
section
variable {prog : Program} {w : World} {A : Around} {E : Value → Shared → Prop} {s : Shared} {vs : List Value} {kz : List Int} {keys : Array Value} {P : PySem.Fin → Shared → Prop} {a kS : Addr} {e1 : Nat}
theorem srt_end (hk : IntsAre keys.toList kz) (hup : kz.Pairwise (· ≤ ·)) (hlen : kz.length = vs.length) (h64 : vs.length < 64)
    (h : ∀ st : SortSt, arrOf st = keys.zip vs.toArray → failedOf st = none → wpAny (model prog w) A (ksk_tail a false e1 (.ref kS) st) P E s) :
    wpAny (model prog w) A (ksk_end a false vs.toArray e1 (.ref kS) keys) P E s := by
  have hsz : keys.size = vs.length := by
    have h1 := hk.length
    rw [Array.length_toList] at h1
    omega
  have hzs : (keys.zip vs.toArray).size = vs.length := by rw [Array.size_zip, hsz, List.size_toArray, Nat.min_self]
  unfold ksk_end
  try dsimp only
  rw [if_neg Bool.false_ne_true, if_neg Bool.false_ne_true]
  by_cases h2 : vs.toArray.size < 2
  · rw [if_pos h2, if_pos h2]
    refine wpAny_bind (wpAny_pure ?_)
    rw [StateT.run_pure]
    refine wpAny_bind (wpAny_pure ?_)
    exact h (SortSt.mk' general' (keys.zip vs.toArray) #[] 7 none) rfl rfl
  · rw [if_neg h2, if_neg h2]
    rw [List.size_toArray] at h2
    rw [ksk_kind hk (by rw [hsz]; omega)]
    refine wpAny_bind (wpAny_pure ?_)
    have up : SortedTo (arrOf (SortSt.mk' oneType' (keys.zip vs.toArray) #[] 7 none)) (keys.zip vs.toArray).size := by
      intro i j hij hj
      show K (keys.zip vs.toArray) i ≤ K (keys.zip vs.toArray) j
      have hi : i < (keys.zip vs.toArray).size := by omega
      rw [K_eq hi, K_eq hj]
      have num : ∀ m (hm : m < (keys.zip vs.toArray).size), numOf ((keys.zip vs.toArray)[m]).1 = kz.getD m 0 := fun m hm => by
        have hm1 : m < keys.size := by omega
        have e1 : ((keys.zip vs.toArray)[m]).1 = keys[m] := by simp
        have e2 : (keys.toList.map numOf)[m]? = kz[m]? := by rw [hk.nums]
        rw [List.getElem?_map, Array.getElem?_toList, Array.getElem?_eq_getElem hm1] at e2
        rw [e1, List.getD_eq_getElem?_getD, ← e2]; rfl
      rw [num i hi, num j hj]
      rcases Nat.lt_or_eq_of_le hij with e | e
      · exact ksk_at (T := (· ≤ ·)) hup e (by omega)
      · subst e; exact Int.le_refl _
    refine wpAny_bind (wpAny_mono (sortRuns_up (a₀ := keys.zip vs.toArray) (st := SortSt.mk' oneType' (keys.zip vs.toArray) #[] 7 none)
      (Q := fun _ st' => arrOf st' = keys.zip vs.toArray ∧ failedOf st' = none)
      (ksk_intKeys hk) ⟨Array.Perm.refl _, rfl, rfl, rfl⟩ (by rw [hzs]; omega) (by rw [hzs]; exact h64) up fun st' a1 a2 => ⟨a1, a2⟩) ?_ fun _ _ e => e)
    rintro ⟨⟨⟩, st'⟩ s' ⟨rfl, hp, hf⟩
    exact h st' hp hf
end
end PyProof.Rows
namespace L2
open PySem PySem.Spec PyProof.Rows
section
variable {X : Cx} {pins : List (Addr × Obj)} {σ : St} {H : Hp} {s : Shared}
theorem Inv.land {a : Addr} {o : HO} {h' : Heap} {t' : Nat} (I : Inv X pins σ H s) (O : OwnR X pins a) (hn : H a = none) (k : ∀ b u, b ≠ a → s.heap.get? b = some u → h'.get? b = some u) (new : ObjOk X.prog X.w (upd H a o) h' a o) :
    Inv X pins σ (upd H a o) { s with heap := h', toks := t' } := by
  have nit : ∀ b u, H b = some u → b ≠ a := fun b u e z => by rw [z, hn] at e; cases e
  refine I.step (g' := s.gens) (d' := s.drawn) (ch := [a]) (fun b hb => ?_) (fun b o _ _ hc e _ => k b o (fun z => hc (by simp [z])) e) (fun b o _ _ hc e _ => ⟨o.slots, k b o (fun z => hc (by simp [z])) e⟩) (fun b _ hc _ n => by rw [upd_ne (fun z => hc (by simp [z]))]; exact n)
    (fun b o hc e => ⟨o, k b o (fun z => hc (by simp [z])) e⟩) (fun b _ e => by rw [upd_ne (nit b _ e)]; exact e) (fun b _ _ e => by rw [upd_ne (nit b _ e)]; exact e) (fun b ps e => ⟨#[], by rw [upd_ne (nit b _ e), e]; simp⟩) (fun m hm => ?_) (fun b u e => ?_) I.bare
  · have e : b = a := by simpa using hb
    subst e
    exact ⟨.inr O.ab, O.nl, O.nc, O.np⟩
  · obtain ⟨o, es, ep, ho, r⟩ := hm
    exact ⟨o, es, ep, k _ o (Ne.symm O.nl) ho, r⟩
  · by_cases hb : b = a
    · subst hb; rw [upd_same] at e; cases e; exact new
    · rw [upd_ne hb] at e
      refine (I.hok b u e).stay (fun c v hc q => k c v ?_ q) (fun c q => by rw [upd_ne (nit c _ q)]; exact q) fun c xs q => by rw [upd_ne (nit c _ q)]; exact q
      rcases hc with z | z
      · rw [z]; exact nit b u e
      · exact nit c _ z
end
section
variable {X : Cx} {P0 : List (Addr × Obj)} {σ : St} {H2 : Hp} {l q : Addr} {as : List Addr} {kf : Nat → Int}
theorem take_map_range (n : Nat) : ((List.range (n + 1)).map kf) = ((List.range n).map kf) ++ [kf n] := by
  rw [List.range_succ, List.map_append]; rfl
theorem sort_key {s : Shared} {Q : Value → Shared → Prop} {E : Value → Shared → Prop} (I : Inv X P0 σ H2 s) (hsq : SqL X.K H2 l (as.map V.ref)) (h64 : as.length < 64)
    (hup : ((List.range as.length).map kf).Pairwise (· ≤ ·))
    (turn : ∀ (i : Nat) (a : Addr), as[i]? = some a → ∀ (pins : List (Addr × Obj)) (s : Shared) (H : Hp), Inv X pins σ H s → (∀ p ∈ P0, p ∈ pins) → Same H2 H →
      wpAny (model X.prog X.w) X.A.in1.in1 (call (.ref q) [.ref a]) (EP X pins σ fun v H' => v = .int (kf i) ∧ Same H H') (fun _ _ => False) s)
    (hQ : ∀ D s' H', H2 D = none → Inv X P0 σ H' s' → Same H2 H' → H' D = some (.lst (as.map V.ref)) → Q (.ref D) s') :
    wpAny (model X.prog X.w) X.A (call (.builtin "sorted") [.ref l] [(Str.ofString "key", .ref q)]) Q E s := by
  have hls : s.heap.IsList l (as.map Value.ref).toArray := by
    obtain ⟨its, r', pl, _⟩ := I.list hsq
    rw [vals_rfs r'] at pl
    exact pl.isList
  have hvl : (as.map Value.ref).length = as.length := List.length_map ..
  generalize hvs : as.map Value.ref = vs at hls hvl
  refine call_function_entry_kw kind_sorted plain_sorted entry_sorted (ksk_s1 _ _) ?_
  unfold Builtin.«sorted»
  refine wpAny_bind (m := checkCount "sorted" 1 1 _) (wpAny_pure ?_)
  refine wpAny_bind (collect_list hls ?_ (by rw [sizeLine_eq]; omega))
  refine wpAny_bind (wpAny_newList ?_ (by rw [sizeLine_eq]; omega))
  have hsz : ((s.heap.push (seqObj "list" #[] 0)).update s.heap.objs.size (Obj.mapSeq (· ++ vs.toArray))).objs.size = s.heap.objs.size + 1 := by
    rw [Heap.size_update, size_push']
  have hoL : (((s.heap.push (seqObj "list" #[] 0)).update s.heap.objs.size (Obj.mapSeq (· ++ vs.toArray))).push (seqObj "list" vs.toArray 0)).get? (s.heap.objs.size + 1) = some (seqObj "list" vs.toArray 0) := by
    rw [← hsz]; exact Heap.get?_push_size _ rfl
  have keep : ∀ b o, s.heap.get? b = some o → (((s.heap.push (seqObj "list" #[] 0)).update s.heap.objs.size (Obj.mapSeq (· ++ vs.toArray))).push (seqObj "list" vs.toArray 0)).get? b = some o := fun b o q => by
    have hlt : b < s.heap.objs.size := Heap.lt_size q
    rw [Heap.get?_push_ne _ _ _ (by rw [hsz]; exact Nat.ne_of_lt (Nat.lt_succ_of_lt hlt)), Heap.get?_update_ne _ _ _ _ (Nat.ne_of_lt hlt), Heap.get?_push_ne _ _ _ (Nat.ne_of_lt hlt)]
    exact q
  show wpAny _ _ _ _ _ { s with heap := ((s.heap.push (seqObj "list" #[] 0)).update s.heap.objs.size (Obj.mapSeq (· ++ vs.toArray))).push (seqObj "list" vs.toArray 0) }
  rw [hsz]
  have I0 := I.kept (t' := s.toks) keep
  have oD := I.ownR (a := s.heap.objs.size + 1) (Nat.le_succ _)
  have fD : H2 (s.heap.objs.size + 1) = none := I.hok.fresh (Nat.le_succ _)
  have hszB : (((s.heap.push (seqObj "list" #[] 0)).update s.heap.objs.size (Obj.mapSeq (· ++ vs.toArray))).push (seqObj "list" vs.toArray 0)).objs.size = s.heap.objs.size + 2 := by rw [size_push', hsz]
  generalize hD : s.heap.objs.size + 1 = D at hoL oD fD
  generalize hhB : ((s.heap.push (seqObj "list" #[] 0)).update s.heap.objs.size (Obj.mapSeq (· ++ vs.toArray))).push (seqObj "list" vs.toArray 0) = hB at hoL I0 hszB
  have I1 : Inv X ((D, seqObj "list" vs.toArray 0) :: P0) σ H2 { s with heap := hB } := Inv.pin1 I0 hoL fD oD.nl oD.nf fun v z => by cases z
  refine wpAny_bind (wpAny_holding (wpAny_call_entry_kw slot_list_sort ⟨_, hoL, rfl⟩ entry_list_sort ?body (ksk_l1 _ _)))
  show wpAny (model X.prog X.w) X.A.in1.in1 (Builtin.«list.sort» ⟨[.ref D], [(Str.ofString "key", .ref q)]⟩) _ _ _
  rw [ksk_t1]
  unfold ksk_tree
  have s1 := Heap.SameBut.update hB D (Obj.mapSeq fun _ => (#[] : Array Value))
  obtain ⟨e1, ho1⟩ : ∃ e1, (hB.update D (Obj.mapSeq fun _ => (#[] : Array Value))).get? D = some (seqObj "list" #[] e1) := ⟨_, get?_update_seq hoL fun _ => #[]⟩
  have I2 : Inv X ((D, seqObj "list" #[] e1) :: P0) σ H2 { s with heap := hB.update D (Obj.mapSeq fun _ => (#[] : Array Value)) } := Inv.repin (s := { s with heap := hB }) (t' := s.toks) I1 oD (fun b u hb e => (s1.2 b hb).trans e) ho1 fun v z => by cases z
  refine wpAny_bind (listItems_at hoL rfl ?_)
  refine wpAny_bind (listUpdate_at hoL rfl ?_ (by rw [List.size_toArray, sizeLine_eq]; omega) (Nat.zero_le _))
  refine wpAny_bind (seqEpoch_at ho1 rfl ?_)
  refine wpAny_bind (wpAny_newTuple ?_ (by show vs.length ≤ _; rw [sizeLine_eq]; omega))
  refine wpAny_bind (wpAny_newList ?_ (Nat.zero_le _))
  refine wpAny_holding ?_
  have hkS : ((hB.update D (Obj.mapSeq fun _ => (#[] : Array Value))).push (seqObj "tuple" vs.toArray 0)).objs.size = hB.objs.size + 1 := by rw [size_push', Heap.size_update]
  have oK := I2.ownR (a := hB.objs.size + 1) (by show (hB.update D (Obj.mapSeq fun _ => (#[] : Array Value))).objs.size ≤ _; rw [Heap.size_update]; exact Nat.le_succ _)
  have fK : H2 (hB.objs.size + 1) = none := I2.hok.fresh (by show (hB.update D (Obj.mapSeq fun _ => (#[] : Array Value))).objs.size ≤ _; rw [Heap.size_update]; exact Nat.le_succ _)
  have I3 : Inv X ((D, seqObj "list" #[] e1) :: P0) σ H2 { s with heap := ((hB.update D (Obj.mapSeq fun _ => (#[] : Array Value))).push (seqObj "tuple" vs.toArray 0)).push (seqObj "list" #[] 0) } := I2.kept (t' := s.toks) fun b u e => Heap.get?_push_of_some _ (Heap.get?_push_of_some _ e)
  have gK : (((hB.update D (Obj.mapSeq fun _ => (#[] : Array Value))).push (seqObj "tuple" vs.toArray 0)).push (seqObj "list" #[] 0)).get? (hB.objs.size + 1) = some (seqObj "list" #[] 0) := by
    rw [← hkS]; exact Heap.get?_push_size _ rfl
  have hKD : hB.objs.size + 1 ≠ D := by rw [hszB, ← hD]; omega
  show wpAny _ _ (ksk_rest D (.ref q) false vs.toArray e1 (.ref ((hB.update D (Obj.mapSeq fun _ => (#[] : Array Value))).push (seqObj "tuple" vs.toArray 0)).objs.size)) _ _ _
  rw [hkS]
  generalize hB.objs.size + 1 = kS at oK fK gK hKD
  generalize (((hB.update D (Obj.mapSeq fun _ => (#[] : Array Value))).push (seqObj "tuple" vs.toArray 0)).push (seqObj "list" #[] 0)) = hC at I3 gK
  have I4 : Inv X ((kS, seqObj "list" #[] 0) :: (D, seqObj "list" #[] e1) :: P0) σ H2 { s with heap := hC } := Inv.pin1 I3 gK fK oK.nl oK.nf fun v z => by cases z
  have oD1 : ∀ ob : Obj, OwnR X ((kS, ob) :: P0) D := fun ob => ⟨oD.ab, oD.nl, oD.nc, fun p hp => by
    rcases List.mem_append.mp hp with hp | hp
    · exact oD.np p (List.mem_append_left _ hp)
    · rcases List.mem_cons.mp hp with rfl | hp
      · exact hKD
      · exact oD.np p (List.mem_append_right _ hp), oD.nf⟩
  have oK0 : OwnR X P0 kS := ⟨oK.ab, oK.nl, oK.nc, fun p hp => by
    rcases List.mem_append.mp hp with hp | hp
    · exact oK.np p (List.mem_append_left _ hp)
    · exact oK.np p (List.mem_append_right _ (List.mem_cons_of_mem _ hp)), oK.nf⟩
  unfold ksk_rest
  refine wpAny_bind (wpAny_rule ?_)
  first
    | rw [List.forIn_toArray]
    | (rw [← Array.forIn_toList]; simp only [List.toList_toArray])
    | rw [← Array.forIn_toList]
  refine wpAny_bind (ksk_fold (fun i s' => ∃ H' kA e, Inv X ((kS, seqObj "list" kA e) :: (D, seqObj "list" #[] e1) :: P0) σ H' s' ∧ Same H2 H' ∧ IntsAre kA.toList ((List.range i).map kf)) vs 0 _
    ⟨H2, #[], 0, I4, Same.refl _, by simpa using IntsAre.nil⟩ ?step ?done)
  case step =>
    rintro j x s' hx ⟨H', kA, e, I5, sm, hk⟩
    simp only [Nat.zero_add] at hk ⊢
    have hj : j < vs.length := (List.getElem?_eq_some_iff.mp hx).1
    obtain ⟨a1, ha1, rfl⟩ : ∃ a1, as[j]? = some a1 ∧ x = .ref a1 := by
      rw [← hvs, List.getElem?_map] at hx
      cases e : as[j]? with
      | none => rw [e] at hx; cases hx
      | some z => rw [e] at hx; cases hx; exact ⟨z, rfl, rfl⟩
    have hz : kA.size ≤ vs.length := by
      have h1 := hk.length
      rw [Array.length_toList, List.length_map, List.length_range] at h1
      omega
    refine wpAny_bind (wpAny_attempt (wpAny_mono (turn j a1 ha1 _ _ H' I5 (fun p hp => List.mem_cons_of_mem _ (List.mem_cons_of_mem _ hp)) sm) (fun v s'' he => ?_) fun _ _ hF => hF.elim))
    obtain ⟨v2, H3, I6, r2, rfl, sm2⟩ := he
    obtain ⟨t2, rfl⟩ := r2
    try dsimp only
    have pK := I6.pin (kS, seqObj "list" kA e) (List.mem_append_right _ List.mem_cons_self)
    have s2 := Heap.SameBut.update s''.heap kS (Obj.mapSeq (·.push (.int (kf j) t2)))
    obtain ⟨c2, hc2⟩ : ∃ c2, (s''.heap.update kS (Obj.mapSeq (·.push (.int (kf j) t2)))).get? kS = some (seqObj "list" (kA.push (.int (kf j) t2)) c2) := ⟨_, get?_update_seq pK.1 (·.push (.int (kf j) t2))⟩
    have ea : (kA.push (Value.int (kf j) t2)).toList = kA.toList ++ [Value.int (kf j) t2] := by simp
    refine wpAny_bind (listUpdate_at pK.1 rfl ?_ (by rw [sizeLine_eq]; omega) (Nat.le_trans (Nat.le_of_eq (Array.size_push ..)) (by rw [sizeLine_eq]; omega)))
    exact wpAny_pure ⟨rfl, H3, kA.push (.int (kf j) t2), c2, Inv.repin (t' := s''.toks) I6 oK (fun b u hb e => (s2.2 b hb).trans e) hc2 (fun v z => by cases z), sm.trans sm2, by rw [ea, take_map_range]; exact ksk_snoc hk⟩
  case done =>
    rintro s' ⟨H', kA, e, I5, sm, hk⟩
    rw [Nat.zero_add, hvl] at hk
    have pK := I5.pin (kS, seqObj "list" kA e) (List.mem_append_right _ List.mem_cons_self)
    have pD := I5.pin (D, seqObj "list" #[] e1) (List.mem_append_right _ (List.mem_cons_of_mem _ List.mem_cons_self))
    try dsimp only
    refine wpAny_bind (listItems_at pK.1 rfl ?_)
    refine srt_end hk hup (by rw [List.length_map, List.length_range, hvl]) (by omega) fun st harr hfl => ?_
    have hks : kA.size = vs.length := by
      have h1 := hk.length
      rw [Array.length_toList, List.length_map, List.length_range] at h1
      omega
    have hout : (arrOf st).map (·.2) = vs.toArray := by
      rw [harr]
      apply Array.ext
      · rw [Array.size_map, Array.size_zip, hks, List.size_toArray, Nat.min_self]
      · intro i h1 h2; simp
    have s1' := Heap.SameBut.update s'.heap kS (Obj.mapSeq fun _ => (#[] : Array Value))
    have na1 : (s'.heap.update kS (Obj.mapSeq fun _ => (#[] : Array Value))).get? D = some (seqObj "list" #[] e1) := (s1'.2 D hKD.symm).trans pD.1
    have s2' := Heap.SameBut.update (s'.heap.update kS (Obj.mapSeq fun _ => (#[] : Array Value))) D (Obj.mapSeq fun _ => vs.toArray)
    obtain ⟨c2, hc2⟩ : ∃ c2, ((s'.heap.update kS (Obj.mapSeq fun _ => (#[] : Array Value))).update D (Obj.mapSeq fun _ => vs.toArray)).get? D = some (seqObj "list" vs.toArray c2) := ⟨_, get?_update_seq na1 fun _ => vs.toArray⟩
    unfold ksk_tail
    try dsimp only
    rw [hout]
    refine wpAny_bind (listUpdate_at pK.1 rfl ?_ (by rw [hks, sizeLine_eq]; omega) (Nat.zero_le _))
    refine wpAny_bind (wpAny_letGo ?_)
    refine wpAny_bind (seqEpoch_at na1 rfl ?_)
    refine wpAny_bind (listUpdate_at na1 rfl ?_ (Nat.zero_le _) (by show vs.toArray.size ≤ _; rw [List.size_toArray, sizeLine_eq]; omega))
    rw [hfl]
    simp only [bne_self_eq_false, Bool.false_eq_true, if_false]
    have I6 : Inv X P0 σ H' { s' with heap := s'.heap.update kS (Obj.mapSeq fun _ => (#[] : Array Value)) } := (Inv.unpin (Inv.unpin I5)).turned (t' := s'.toks) (fun b u hb e => (s1'.2 b hb).trans e) pK.2.1 pK.2.2.1 (.inr oK0.ab) oK0.nc oK0.np
    have I7 := Inv.land (t' := s'.toks) (o := .lst (as.map V.ref)) I6 oD pD.2.1 (fun b u hb e => (s2'.2 b hb).trans e) (show ObjOk X.prog X.w _ _ _ (.lst (as.map V.ref)) from ⟨le_line (by rw [List.length_map]; omega), vs, c2, by rw [← hvs]; exact refs_vals as, hc2⟩)
    refine wpAny_pure ⟨_, rfl, wpAny_pure ⟨_, rfl, hQ D _ _ fD I7 (fun b u e => ?_) upd_same⟩⟩
    rw [upd_ne (fun z => by rw [z, fD] at e; cases e)]
    exact sm _ _ e
end
end L2
namespace L2
open PySem PySem.Spec PyProof.Rows
section
variable {X : Cx} {lps : Arguments} {lb : Expr} {lsc : Scope} {lpos : Pos} {cl : List (Str × Addr)} {c P : Addr} {x : Str} {fr : List Str} {ix : List Nat} {te : TE}
def tSortL (K : PySem.W.Frag) (P : Addr) (lpos : Pos) (qual : Str) (ix : List Nat) (te : TE) (t : TA) : TE := fun σ H Q => t σ H fun vs H1 => ∃ (l : Addr) (as : List Addr) (kf : Nat → Int), vs = [.ref l] ∧ SqL K (hole H1 P) l (as.map V.ref) ∧ as.length < 64 ∧ TabOk H1 P lpos qual ∧
  ((List.range as.length).map kf).Pairwise (· ≤ ·) ∧ (∀ (i : Nat) (a : Addr), as[i]? = some a → ∀ H', Same (hole H1 P) H' → te (lamSt σ ix (.ref a)) H' fun v H'' => v = .int (kf i) ∧ Same H' H'') ∧
  ∀ (D : Addr) (H' : Hp), Same (hole H1 P) H' → TabOk H' P lpos qual → H' D = some (.lst (as.map V.ref)) → hole H1 P D = none → Q (.ref D) H'
theorem pe_sortL {e : Expr} {t : TA} {p pos kpos : Pos} {k : Nat} (hr : Room (k + 2) X.A) (hg : Gl X "sorted") (hm : X.mg "sorted" = none) (hdef : defaultsOf lps X.env = ([], [])) (hcl : closureFor lsc X.env = pure cl) (hcode : X.env.code = .ref c) (hC : PySem.W.CodeHd X.base c P) (hbm : BmAt X.mg X.base)
    (L : LamOk X lps lb lsc cl x fr ix) (hb : ∀ (f c' : Addr) (s : Shared) (H : Hp), PE (lamCx X (x :: fr) (X.env.qual ++ "<lambda>") lsc f c' cl X.A.in1.in1 s H) lb te) (ha : PA X [e] t) (he : starEach [e] X.env = [(false, eval e X.env)] := by rfl) :
    PE X (.Call (.Name "sorted" p) [e] [⟨some "key", .Lambda lps lb lsc lpos, kpos⟩] pos) (tSortL X.K P lpos (X.env.qual ++ "<lambda>") ix te t) := by
  intro pins s σ H Q I hh
  refine wpAny_Call_Name_kw (ld_blt I hg hm PyProof.Rows.Boot.«sorted» ?_ (by decide) (by decide))
  refine PyProof.Rows.callWith_kw (thn (ha pos pins s σ H _ I hh) fun us s1 ⟨vs, H1, I1, r, q⟩ => ?_) (by rw [he]; rfl) (by rw [he]; rfl)
  obtain ⟨l, as, kf, rfl, hsq, h64, hT, hup, ht, hQ⟩ := q
  obtain ⟨u, rfl, ru⟩ := vals1 r
  cases ru
  show wpAny _ _ (evalAll ((do let v ← eval (.Lambda lps lb lsc lpos) X.env; standAt pos; pure v) :: (backToKw pos (keywordEach [] X.env)).map (·.2))) _ _ s1
  refine wpAny_evalAll_cons (wpAny_bind (mk_lam I1 hdef hcl hcode hC hbm hT fun f c' ctv H' s' I' hc' hT' sm => wpAny_bind (wpAny_standAt (wpAny_pure ?_))))
  refine wpAny_evalAll_nil ?_
  have hsq' : SqL X.K H' l (as.map V.ref) := sm.seq hsq
  refine sort_key (kf := kf) I' hsq' h64 hup (fun i a hi pins2 s2 H2 I2 hp sm2 => ?_) fun D s2 H2 hD I2 sm2 hl => ?_
  · exact run_lam L I2 (List.mem_append_right _ (hp _ List.mem_cons_self)) (sm2 _ _ hc') I2.ok.frames hr.hd (by have := hr.in1.in1.depth; exact this) (hb f c' s2 H2) (v := .ref a) rfl (ht i a hi H2 (sm.trans sm2))
  · refine ⟨.ref D, H2, Inv.unpin I2, rfl, hQ D H2 (sm.trans sm2) (hT'.same sm2) hl ?_⟩
    cases e : hole H1 P D with
    | none => rfl
    | some o => rw [sm _ _ e] at hD; cases hD
end
end L2
namespace L2
open PySem PySem.Spec PyProof.Rows
section
variable {X : Cx} {K : PySem.W.Frag}
def rRemoveS : V → List V → Hp → VK → Prop := fun x vs H Q => ∃ (l : Addr) (S : List Str) (z : Str), x = .ref l ∧ vs = [.str z] ∧ H l = some (.lst (S.map V.str)) ∧ z ∈ S ∧ Q .non (upd H l (.lst ((S.eraseIdx (S.idxOf z)).map V.str)))
theorem vals_erase {vs : List V} {its : List Value} (r : Vals vs its) : ∀ j, Vals (vs.eraseIdx j) (its.eraseIdx j) := by
  induction r with
  | nil => intro j; exact .nil
  | cons a _ ih =>
    intro j
    cases j with
    | zero => assumption
    | succ j => exact .cons a (ih j)
theorem erase_mapG {α β : Type} (f : α → β) : ∀ (l : List α) (j : Nat), (l.eraseIdx j).map f = (l.map f).eraseIdx j
  | [], _ => rfl
  | _ :: _, 0 => rfl
  | a :: l, j + 1 => by
    show f a :: (l.eraseIdx j).map f = f a :: (l.map f).eraseIdx j
    rw [erase_mapG f l j]
theorem vals_of_get : ∀ {vs : List V} {its : List Value}, vs.length = its.length → (∀ (j : Nat) v, vs[j]? = some v → ∃ u, its[j]? = some u ∧ RelV v u) → Vals vs its
  | [], [], _, _ => .nil
  | [], _ :: _, h, _ => by simp at h
  | _ :: _, [], h, _ => by simp at h
  | v :: vs, u :: its, h, g => by
    obtain ⟨u', e, r⟩ := g 0 v rfl
    cases e
    exact .cons r (vals_of_get (by simpa using h) fun j v hv => g (j + 1) v (by simpa using hv))
theorem mt_removeS : MtM X "list.remove" rRemoveS := by
  intro pins s σ H x vs v us Q I rx rv h
  obtain ⟨l, S, z, rfl, rfl, hH, hz, q⟩ := h
  cases rx
  obtain ⟨u, rfl, t2, rfl⟩ := rv.one
  obtain ⟨hzz, its, n, r, hlen, e⟩ := I.lstM hH
  have hj : S.idxOf z < S.length := List.idxOf_lt_length_of_mem hz
  have l1 : its.toArray.size = S.length := by rw [List.size_toArray, ← r.length, List.length_map]
  have at_ : ∀ m (hm : m < its.toArray.size), ∃ t, its.toArray[m] = .str (S.getD m "") t := fun m hm => by
    have hm' : m < S.length := by omega
    obtain ⟨w, hw, t, rfl⟩ := r.get (show (S.map V.str)[m]? = some (V.str (S.getD m "")) by rw [List.getElem?_map, List.getElem?_eq_getElem hm', getD_lt hm']; rfl)
    refine ⟨t, ?_⟩
    have : its[m]? = some its.toArray[m] := by simp
    rw [this] at hw
    exact Option.some.inj hw
  have hsl : its.toArray.size ≤ sizeLine := by rw [l1]; rw [List.length_map] at hzz; exact hzz
  refine call_meets F.slot_list_remove ⟨_, e, rfl⟩ F.entry_list_remove (F.args_list_remove_2 _ _) (MeetsSeq.list_remove l its.toArray n (.str z t2) (fun y => match y with | .str i _ => i == z | _ => false) (fun y hy => ?_) (S.idxOf z) (by omega) ?_ (fun m hm hmj => ?_) hsl) ⟨e, ?_⟩
  · obtain ⟨m, hm, rfl⟩ := Array.mem_iff_getElem.mp hy
    obtain ⟨t, q1⟩ := at_ m hm
    rw [q1]
    exact eqGives_str _ _ _ _
  · obtain ⟨t, q1⟩ := at_ (S.idxOf z) (by omega)
    rw [q1]
    show (S.getD (S.idxOf z) "" == z) = true
    rw [List.getD_eq_getElem?_getD, List.getElem?_eq_getElem hj]
    simp
  · obtain ⟨t, q1⟩ := at_ m hm
    rw [q1]
    show (S.getD m "" == z) = false
    exact beq_eq_false_iff_ne.mpr (idxS_before S z m hmj)
  · refine ⟨.non, _, I.lset (its' := its.eraseIdx (S.idxOf z)) hH e ?_ (show Vals ((S.eraseIdx (S.idxOf z)).map V.str) _ by rw [erase_mapG]; exact vals_erase r _) ?_, rfl, q⟩
    · apply Array.toList_inj.mp
      simp [Array.toList_eraseIdxIfInBounds]
    · rw [List.length_map]
      have := List.length_eraseIdx_le S (S.idxOf z)
      rw [List.length_map] at hzz
      omega
theorem is_kV {P : Program} {w : World} {k : Key} {u : Value} (h : (mixKind P w).is k u = true) : RelV (kV k) u := by
  rcases keyIs_shape h with ⟨i, t, rfl, rfl⟩ | ⟨x, t, rfl, rfl⟩
  · exact ⟨t, rfl⟩
  · exact ⟨t, rfl⟩
theorem call_listD (hc : X.calm = true := by rfl) : CallR X (.type "list") (fun xs H Q => ∃ (d : Addr) (kvs : List (Key × V)), xs = [.ref d] ∧ H d = some (.dK kvs) ∧ ∀ l, H l = none → Q (.ref l) (upd H l (.lst (kvs.map fun p => kV p.1)))) := by
  intro pins s σ H xs us Q I r h
  obtain ⟨d, kvs, rfl, hd, q⟩ := h
  obtain ⟨u, rfl, ru⟩ := vals1 r
  cases ru
  obtain ⟨hz, lo, vs, rel, o, es, ep, hm⟩ := dk_of I.hok hd
  have hl := rel.length
  refine PySem.W.kdl_call (PySem.W.kdl_dict (kvs := vs) (ep := ep) (knd := mixKind X.prog X.w) lo) (I.ok.hd hc) ⟨o, es, hm⟩ (by omega) fun h' tk acc' c' hk hS hacc => ?_
  refine ⟨.ref s.heap.objs.size, _, I.laid (t' := tk) hk (Nat.le_refl _) (show ObjOk X.prog X.w _ _ _ (.lst (kvs.map fun p => kV p.1)) from ⟨by rw [List.length_map]; exact hz, acc'.toList, c', ?_, by rw [Array.toArray_toList]; exact hS⟩), rfl, q _ (I.hok.fresh (Nat.le_refl _))⟩
  have hal : acc'.toList.length = kvs.length := by rw [Array.length_toList, hacc.1]; omega
  refine vals_of_get (by rw [List.length_map, hal]) fun j v hv => ?_
  rw [List.getElem?_map] at hv
  cases ek : kvs[j]? with
  | none => rw [ek] at hv; cases hv
  | some p =>
    rw [ek] at hv; cases hv
    have hj : j < acc'.toList.length := by rw [hal]; exact (List.getElem?_eq_some_iff.mp ek).1
    obtain ⟨k, x, e1, e2⟩ := hacc.2 j acc'.toList[j] (by rw [← Array.getElem?_toList, List.getElem?_eq_getElem hj])
    refine ⟨acc'.toList[j], List.getElem?_eq_getElem hj, ?_⟩
    have ekk : p.1 = k := by
      have e3 := congrArg (fun l => l[j]?) rel.keys
      simp only [List.getElem?_map, ek, e1, Option.map_some] at e3
      exact Option.some.inj e3
    show RelV (kV p.1) _
    rw [ekk]
    exact is_kV e2
end
end L2
namespace L2
open PySem PySem.Spec PyProof.Rows
section
variable {X : Cx} {K : PySem.W.Frag}
theorem Inv.freezeK {pins : List (Addr × Obj)} {σ : St} {H : Hp} {s : Shared} {d : Addr} {kvs : List (Key × V)} {o : Obj} (I : Inv X pins σ H s) (h : H d = some (.dK kvs)) (ho : s.heap.get? d = some o) : Inv X pins σ (upd H d (.frz o (.dK kvs))) s := by
  have nt : ∀ {b : Addr} {u : HO}, H b = some u → (∀ kvs, u ≠ .dK kvs) → b ≠ d := fun {b u} e n z => by rw [z, h] at e; cases e; exact n _ rfl
  refine I.step (h' := s.heap) (g' := s.gens) (t' := s.toks) (d' := s.drawn) (ch := []) (fun b hb => absurd hb (by simp)) (fun b o _ _ _ e _ => e) (fun b o _ _ _ e _ => ⟨o.slots, e⟩) (fun b o _ e n => ?_) (fun b o _ e => ⟨o, e⟩)
    (fun b xs e => by rw [upd_ne (nt e fun _ z => by cases z)]; exact e) (fun b o u e => by rw [upd_ne (nt e fun _ z => by cases z)]; exact e) (fun b ps e => ⟨#[], by rw [upd_ne (nt e fun _ z => by cases z), e]; simp⟩) (fun m hm => hm) ?_ I.bare
  · have : b ≠ d := fun z => by rw [z, h] at n; cases n
    rw [upd_ne this]; exact n
  · intro b u e
    by_cases hb : b = d
    · subst hb
      rw [upd_same] at e; cases e
      refine ⟨ho, (I.hok b _ h).stay (fun c v _ q => q) (fun c q => ?_) fun c xs q => ?_⟩
      · rw [upd_ne (nt q fun _ z => by cases z)]; exact q
      · rw [upd_ne (nt q fun _ z => by cases z)]; exact q
    · rw [upd_ne hb] at e
      refine (I.hok b u e).stay (fun c v _ q => q) (fun c q => ?_) fun c xs q => ?_
      · rw [upd_ne (nt q fun _ z => by cases z)]; exact q
      · rw [upd_ne (nt q fun _ z => by cases z)]; exact q
theorem Inv.thaw {pins pins' : List (Addr × Obj)} {σ σ' : St} {H H' : Hp} {s s' : Shared} {d : Addr} {kvs kvs' : List (Key × V)} {o : Obj} (I : Inv X pins σ H s) (h : H d = some (.dK kvs)) (J : Inv X pins' σ' H' s') (h' : H' d = some (.frz o (.dK kvs'))) : Inv X pins' σ' (upd H' d (.dK kvs')) s' := by
  have nf : ∀ b ob u, X.H₀ b = some (.frz ob u) → b ≠ d := fun b ob u e z => by
    have := I.base.frzs b ob u e
    rw [z, h] at this; cases this
  have nt : ∀ {b : Addr} {u : HO}, H' b = some u → (∀ ob, u ≠ .frz ob (.dK kvs')) → b ≠ d := fun {b u} e n z => by rw [z, h'] at e; cases e; exact n _ rfl
  have nn : ∀ {b : Addr}, H' b = none → upd H' d (.dK kvs') b = none := fun {b} e => by
    rw [upd_ne (fun z => by rw [z, h'] at e; cases e)]; exact e
  refine ⟨J.ok, J.os, J.bare, ⟨J.base.keep, J.base.slot, fun b o e n hx => nn (J.base.free b o e n hx), J.base.there, fun b xs e => ?_, fun b ob u e => ?_, fun b ps e => ?_⟩, J.loc, J.cell, nn J.free, fun x c e => nn (J.freeC x c e), fun p hp => ?_, fun b u e => ?_, J.len⟩
  · have := J.base.tups b xs e
    rw [upd_ne (nt this fun _ z => by cases z)]; exact this
  · rw [upd_ne (nf b ob u e)]; exact J.base.frzs b ob u e
  · obtain ⟨more, e1⟩ := J.base.tbls b ps e
    exact ⟨more, by rw [upd_ne (nt e1 fun _ z => by cases z)]; exact e1⟩
  · obtain ⟨a1, a2, a3⟩ := J.pin p hp
    exact ⟨a1, nn a2, a3⟩
  · by_cases hb : b = d
    · subst hb
      rw [upd_same] at e; cases e
      obtain ⟨_, q⟩ := (show s'.heap.get? b = some o ∧ ObjOk X.prog X.w H' s'.heap b (.dK kvs') from J.hok b _ h')
      refine q.stay (fun c v _ q => q) (fun c q => ?_) fun c xs q => ?_
      · rw [upd_ne (nt q fun _ z => by cases z)]; exact q
      · rw [upd_ne (nt q fun _ z => by cases z)]; exact q
    · rw [upd_ne hb] at e
      refine (J.hok b u e).stay (fun c v _ q => q) (fun c q => ?_) fun c xs q => ?_
      · rw [upd_ne (nt q fun _ z => by cases z)]; exact q
      · rw [upd_ne (nt q fun _ z => by cases z)]; exact q
def tThaw (t : TE) : TE := fun σ H Q => ∃ d kvs, H d = some (.dK kvs) ∧ t σ H fun v H' => ∃ o, H' d = some (.frz o (.dK kvs)) ∧ Q v (upd H' d (.dK kvs))
theorem pe_thaw {e : Expr} {t : TE} (h : PE X e t) : PE X e (tThaw t) := by
  intro pins s σ H Q I q
  obtain ⟨d, kvs, hd, q⟩ := q
  refine thn (h pins s σ H _ I q) fun u s' ⟨v, H', J, r, o, e1, q1⟩ => ?_
  exact ⟨v, _, Inv.thaw I hd J e1, r, q1⟩
theorem Inv.dictK {pins : List (Addr × Obj)} {σ : St} {H : Hp} {s : Shared} {d : Addr} {kvs : List (Key × V)} {o : Obj} (I : Inv X pins σ H s) (h : H d = some (.frz o (.dK kvs))) :
    s.heap.get? d = some o ∧ kvs.length ≤ sizeLine ∧ (d == sysModules) = false ∧ ∃ (vs : List (Key × Value)) (es : Array DictEntry) (ep : Nat), o.data = .dict es ep ∧ KV kvs vs ∧ s.heap.DictAt (mixKind X.prog X.w) d vs ep ∧ es.size = vs.length := by
  obtain ⟨ho, hz, lo, vs, rel, o1, es, ep, h1, h2, h3, h4, h5, h6⟩ := (show s.heap.get? d = some o ∧ ObjOk X.prog X.w H s.heap d (.dK kvs) from I.hok d _ h)
  have eo : o1 = o := by rw [ho] at h1; cases h1; rfl
  subst eo
  refine ⟨ho, hz, lo, vs, es, ep, h3, rel, ⟨o1, es, h1, h2, h3, h4, h5, h6⟩, ?_⟩
  have := h5.length
  rw [Array.length_toList] at this
  exact this
def IiK (o : Obj) (d : Addr) : It :=
  ⟨fun i H => ∃ kvs kv, H d = some (.frz o (.dK kvs)) ∧ kvs[i]? = some kv,
   fun i H x H' => ∃ T k v, H T = none ∧ x = .ref T ∧ H' = upd H T (.tup [kV k, v]) ∧ ∀ kvs, H d = some (.frz o (.dK kvs)) → kvs[i]? = some (k, v),
   fun i H => ∃ kvs, H d = some (.frz o (.dK kvs)) ∧ kvs.length ≤ i⟩
theorem turn_itemsK {P : Program} {w : World} {elts : List Expr} {kk : Nat} {ps : Pos} {es : Array DictEntry} (o : Obj) (d it : Addr) (n ep : Nat) (hod : o.data = .dict es ep) (hn : es.size = n) : Turn P w K (.Tuple elts kk ps) (IiK o d) [it] it (fun i h => ∃ ok ov, IsItemIter h it d i n ep ok ov) where
  mem := by simp
  obj := fun i h ⟨ok, ov, st⟩ b hb => by
    have : b = it := by simpa using hb
    subst this
    exact ⟨_, st, fun v z => by cases z⟩
  keep := fun i h h' ⟨ok, ov, st⟩ k => ⟨ok, ov, k it (by simp) _ st⟩
  item := by
    intro X hP hw hK hc i pins s σ H E I hf ⟨ok, ov, st⟩ hg
    subst hP hw
    obtain ⟨kvs, ⟨k, v⟩, hd, hx⟩ := hg
    obtain ⟨ho, hz, lo, vs, es', ep', hod', rel, hm, hes⟩ := I.dictK hd
    rw [hod] at hod'
    injection hod' with e1 e2
    subst e1 e2
    obtain ⟨⟨k', u⟩, ⟨hkk, ru⟩, hu⟩ := paired_getM rel hx
    have hkk : k = k' := hkk
    subst hkk
    have hlen : vs.length = n := by rw [← hn, hes]
    rw [← hlen] at st
    refine wpAny_pyNext_items_item st hm hu fun key h' ek out ht hs kp => ?_
    have hTn : H s.heap.objs.size = none := I.hok.fresh (Nat.le_refl _)
    have hit : it < s.heap.objs.size := Heap.lt_size st
    have I1 : Inv X pins σ (upd H s.heap.objs.size (.tup [kV k, v])) { s with heap := h', toks := s.toks } :=
      I.turnNew (its := [key, u]) (wr := [it]) (fun c oc hc e => kp c oc (by simpa using hc) e) hf (Nat.le_refl _) (by simp [le_line]) (.cons (is_kV ek) (.cons ru .nil)) ⟨_, ht, rfl, 0, rfl⟩
    refine ⟨_, rfl, wpAny_letOwnedTupleGo_items (d := d) out fun h'' it'' sb => ?_⟩
    have hne : ∀ c ∈ [it], upd H s.heap.objs.size (.tup [kV k, v]) c = none := fun c hc => by
      have hcT : c = it := by simpa using hc
      rw [upd_ne (by rw [hcT]; exact Nat.ne_of_lt hit)]; exact (hf c hc).1
    rw [hlen] at it''
    refine ⟨.ref s.heap.objs.size, _, I1.turnL (t' := s.toks) (wr := [it]) (fun c oc hc e => (sb.2 c (by simpa using hc)).trans e) (fun c hc => ⟨hne c hc, (hf c hc).2⟩), rfl, ⟨s.heap.objs.size, k, v, hTn, rfl, rfl, fun kvs' h' => ?_⟩, ⟨_, _, it''⟩, hne⟩
    rw [hd] at h'; cases h'; exact hx
  done := by
    intro X hP hw hK hc i pins s σ H E I hf ⟨ok, ov, st⟩ hg
    subst hP hw
    obtain ⟨kvs, hd, hx⟩ := hg
    obtain ⟨ho, hz, lo, vs, es', ep', hod', rel, hm, hes⟩ := I.dictK hd
    rw [hod] at hod'
    injection hod' with e1 e2
    subst e1 e2
    have hlen : vs.length = n := by rw [← hn, hes]
    have hle : vs.length ≤ i := by have := rel.length; omega
    rw [← hlen] at st
    refine wpAny_pyNext_items_end (I.ok.hd hc) st hm (List.getElem?_eq_none hle) fun h' he => ⟨rfl, ?_⟩
    exact I.turnL (t' := s.toks) (wr := [it]) (fun c oc hc q => he c oc (by simpa using hc) q) hf
  self := fun _ _ _ _ _ ⟨_, _, st⟩ h => wpAny_pyIter_itemiter st h
def iItemsK (te : TE) : TI := fun σ H R => te σ H fun x H1 => ∃ d kvs, x = .ref d ∧ H1 d = some (.dK kvs) ∧ ∀ o, R (IiK o d) (upd H1 d (.frz o (.dK kvs)))
theorem pi_itemsK {elts : List Expr} {kk : Nat} {ps apos pos : Pos} {e : Expr} {te : TE} (he : PE X e te) (hbase : attributeBase e "items" X.env (eval e X.env) = eval e X.env := by rfl) (hline : (apos.endLine == pos.line) = true := by rfl) :
    PI X (.Tuple elts kk ps) (.Call (.Attribute e "items" apos) [] [] pos) (iItemsK te) := by
  intro pins s σ H R I h
  refine wpAny_Call_method (T := "dict") (id := "dict.items") hbase rfl hline F.plainAttrs_dict F.slot_dict_items F.type_dict_items (thn (he pins s σ H _ I h) fun v s1 ⟨x1, H1, I1, r1, q1⟩ => ?_)
  obtain ⟨d, kvs, rfl, hd, hR⟩ := q1
  cases r1
  obtain ⟨hz, lo, vs, rel, o, es, ep, h1, h2, h3, h4, h5, h6⟩ := dk_of I1.hok hd
  have hm : s1.heap.DictAt (mixKind X.prog X.w) d vs ep := ⟨o, es, h1, h2, h3, h4, h5, h6⟩
  refine ⟨hm.dictOf.typeIs, ?_, ?_⟩
  · intro b e
    cases e
    exact ⟨o, h1, h2.2.1⟩
  show wpAny _ _ (callWith pos (.builtin "dict.items") [.ref d] [] []) _ _ s1
  refine method_meetsIn F.slot_dict_items F.entry_dict_items rfl (PySem.evalArgs_none ⟨rfl, hm.dictOf.typeIs, F.args_dict_items_1 _, _, meets_dict_items (mixKind X.prog X.w) d lo, ⟨vs, hm.dictOf⟩, ?_⟩)
  show wpAny _ _ (pyIter (.ref s1.heap.objs.size)) _ _ _
  have hn : es.size = vs.length := by have := h5.length; rw [Array.length_toList] at this; exact this
  refine wpAny_pyIter_items (d := d) ⟨_, Heap.get?_push_size _ rfl, rfl, rfl⟩ (hm.push _) ?_
  have I2 := I1.freezeK hd h1
  have I3 : Inv X pins σ (upd H1 d (.frz o (.dK kvs))) { s1 with heap := (s1.heap.push { cls := .type "dict_items", data := .fields #[.ref d] }).push { cls := .type "dict_itemiterator", data := .fields #[.none, .bool false, .ref d, .int 0 0, .int vs.length 0, .int ep 0, .none, .none] }, toks := s1.toks } :=
    I2.kept fun b ob e => Heap.get?_push_of_some _ (Heap.get?_push_of_some _ e)
  have hsz : (s1.heap.push { cls := .type "dict_items", data := .fields #[.ref d] }).objs.size = s1.heap.objs.size + 1 := Heap.size_push ..
  refine ⟨_, [_], _, _, _, rfl, I3, turn_itemsK o d _ vs.length ep h3 hn, ⟨.none, .none, Heap.get?_push_size _ rfl⟩, fun b hb => ?_, hR o⟩
  have hge : s1.heap.objs.size ≤ b := by
    rw [List.mem_singleton.mp hb]
    show _ ≤ (s1.heap.push _).objs.size
    rw [hsz]; exact Nat.le_succ _
  exact I2.fpOk hge (I2.hok.fresh hge)
end
end L2
set_option maxRecDepth 100000
set_option Elab.async false
set_option linter.all false
namespace L2
open PySem PySem.Spec PyProof.Rows
section
variable {X : Cx}
def tNeverE : TE := fun _ _ _ => False
theorem pe_never {e : Expr} : PE X e tNeverE := fun _ _ _ _ _ _ h => h.elim
theorem sl_strB : SlR X (fun x lo hi H Q => ∃ u : Str, x = .str u ∧ u.length ≤ 100000 ∧ Q (.str (Txt.slice u lo hi)) H) := by
  intro pins s σ H x v vl vu lo hi sl Q I rx hs pl pu h
  obtain ⟨u, rfl, hu, q⟩ := h
  obtain ⟨t, rfl⟩ := rx
  refine ⟨"str", _, F.slot_str_getitem.lookup, typeIs_str _ _ _, ?_⟩
  have hz : u.length ≤ sizeLine := Nat.le_trans hu (by decide)
  cases pl with
  | none =>
    cases pu with
    | none => exact wpAny_getItem_str_slice (l := none) (u := none) (st := none) hs rfl (post_val_or_str ⟨Nat.le_trans (Txt.slice_le u _ _) hz, fun t' k => ⟨.str _, H, I.tok k, ⟨_, rfl⟩, q⟩⟩)
    | int j tj => exact wpAny_getItem_str_slice (l := none) (u := some (j, tj)) (st := none) hs rfl (post_val_or_str ⟨Nat.le_trans (Txt.slice_le u _ _) hz, fun t' k => ⟨.str _, H, I.tok k, ⟨_, rfl⟩, q⟩⟩)
  | int i ti =>
    cases pu with
    | none => exact wpAny_getItem_str_slice (l := some (i, ti)) (u := none) (st := none) hs rfl (post_val_or_str ⟨Nat.le_trans (Txt.slice_le u _ _) hz, fun t' k => ⟨.str _, H, I.tok k, ⟨_, rfl⟩, q⟩⟩)
    | int j tj => exact wpAny_getItem_str_slice (l := some (i, ti)) (u := some (j, tj)) (st := none) hs rfl (post_val_or_str ⟨Nat.le_trans (Txt.slice_le u _ _) hz, fun t' k => ⟨.str _, H, I.tok k, ⟨_, rfl⟩, q⟩⟩)
def repZ (u : Str) (n : Nat) : Str := ⟨(List.replicate n u.cps).foldl (· ++ ·) #[]⟩
theorem repZ_go (u : Str) : ∀ (k : Nat) (acc : Array Nat), ((List.replicate k u.cps).foldl (· ++ ·) acc).toList = acc.toList ++ (List.replicate k u.cps.toList).flatten
  | 0, acc => by simp
  | k + 1, acc => by
    rw [List.replicate_succ, List.foldl_cons, repZ_go u k, List.replicate_succ, List.flatten_cons, Array.toList_append, List.append_assoc]
theorem repZ_cps (u : Str) (n : Nat) : (repZ u n).cps.toList = (List.replicate n u.cps.toList).flatten := by
  show ((List.replicate n u.cps).foldl (· ++ ·) #[]).toList = _
  rw [repZ_go]; rfl
theorem repZ_len (u : Str) (n : Nat) : (repZ u n).length = n * u.length := by
  show (repZ u n).cps.size = _
  rw [← Array.length_toList, repZ_cps]
  induction n with
  | zero => simp
  | succ n ih =>
    rw [List.replicate_succ, List.flatten_cons, List.length_append, ih, Nat.succ_mul, Array.length_toList]
    have : u.cps.size = u.length := rfl
    omega
theorem repZ_at (u : Str) (n i : Nat) (hn : 1 ≤ n) (hi : i < u.length) : (repZ u n).cps.toList.getD i 0 = u.cps.toList.getD i 0 := by
  rw [repZ_cps]
  obtain ⟨m, rfl⟩ : ∃ m, n = m + 1 := ⟨n - 1, by omega⟩
  rw [List.replicate_succ, List.flatten_cons, List.getD_eq_getElem?_getD, List.getD_eq_getElem?_getD, List.getElem?_append_left (by rw [Array.length_toList]; exact hi)]
theorem op_mulC : OpR X (binaryOp .Mult) (fun x y H Q => ∃ (u : Str) (n : Int), x = .str u ∧ y = .int n ∧ 2 ≤ n ∧ n ≤ 1000 ∧ 1 ≤ u.length ∧ u.length ≤ 1000 ∧ Q (.str (repZ u n.toNat)) H) := by
  intro pins s σ H x y v w Q I rx ry h
  obtain ⟨u, n, rfl, rfl, h0, h1, hu1, hu, q⟩ := h
  obtain ⟨t, rfl⟩ := rx
  obtain ⟨t2, rfl⟩ := ry
  have hz : ∀ m : Nat, m ≤ 1000000 → m ≤ sizeLine := fun m hm => Nat.le_trans hm (by decide)
  obtain ⟨m, rfl⟩ : ∃ m : Nat, n = m := ⟨n.toNat, by omega⟩
  have hprod : u.length * m ≤ 1000000 := by
    have : u.length * m ≤ 1000 * 1000 := Nat.mul_le_mul hu (by omega)
    omega
  refine PySem.P.mul_str ?_ (fun a b => ?_) (fun a b => ?_) ?_
  · rw [decide_eq_false (show ¬ (m : Int) < -(2 ^ 63 : Int) by omega), decide_eq_false (show ¬ (m : Int) ≥ 2 ^ 63 by omega)]; rfl
  · have : (1000 : Int) ≤ (2 ^ 63 - 1) / (m : Int) := Int.le_ediv_of_mul_le (by omega) (by omega)
    omega
  · unfold Builtin.Str.tooLong
    rw [Int.toNat_natCast]
    exact decide_eq_false (by
      have h8 : sizeLine = 16777216 := rfl
      omega)
  · split
    · rename_i h5
      exfalso
      omega
    · split
      · rename_i h5 h6
        exfalso
        simp at h6
        omega
      · exact ⟨hz _ (by show (repZ u (m : Int).toNat).length ≤ _; rw [repZ_len, Int.toNat_natCast, Nat.mul_comm]; exact hprod), .str _, H, I.tok _, ⟨_, rfl⟩, q⟩
end
theorem slice_to_at (u : Str) (j i : Nat) (hi : i < j) (hl : j ≤ u.length) : (Txt.slice u none (some (j : Int))).cps.toList.getD i 0 = u.cps.toList.getD i 0 := by
  have h := slice_closes_to (x := u) (j := (j : Int)) ⟨by omega, by rw [Array.length_toList]; show (j : Int) ≤ (u.length : Int); omega⟩
  rw [eq_of_beq h]
  simp only [Int.toNat_zero, List.drop_zero, Int.sub_zero, Int.toNat_natCast]
  rw [List.getD_eq_getElem?_getD, List.getD_eq_getElem?_getD, List.getElem?_take, if_pos hi]
end L2
namespace L2
open PySem PySem.Spec PyProof.Rows
def roomF (st d lf ps : Addr) : List (Str × V) := putF "past" (.ref ps) (putF "lifted" (.ref lf) (putF "ring_size" .non (putF "seats" (.ref d) (putF "store" (.ref st) []))))
theorem roomF_seats (st d lf ps : Addr) : (roomF st d lf ps).lookup ("seats" : Str) = some (.ref d) := by unfold roomF; rw [lookup_putF, if_neg (by decide), lookup_putF, if_neg (by decide), lookup_putF, if_neg (by decide), lookup_putF, if_pos rfl]
theorem roomF_ring (st d lf ps : Addr) : (roomF st d lf ps).lookup ("ring_size" : Str) = some .non := by unfold roomF; rw [lookup_putF, if_neg (by decide), lookup_putF, if_neg (by decide), lookup_putF, if_pos rfl]
def seatF : List (Str × V) := putF "sheet" .non (putF "notes" .non (putF "earned" (.int 0) []))
theorem seatF_earned : seatF.lookup ("earned" : Str) = some (.int 0) := by unfold seatF; rw [lookup_putF, if_neg (by decide), lookup_putF, if_neg (by decide), lookup_putF, if_pos rfl]
def seatKv (P : List Str) (sa : List Addr) : List (Key × V) := (P.zip sa).map fun q => (.inr q.1, .ref q.2)
def ptsKv (P : List Str) : List (Key × V) := P.map fun z => (.inr z, .int 0)
def remP (P : List Str) (z : Str) : List Str := P.eraseIdx (P.idxOf z)
theorem keyS {a b : Str} : ((Sum.inr a : Key) = Sum.inr b) ↔ a = b := ⟨fun e => by injection e, fun e => by rw [e]⟩
theorem seat_none {z : Str} : ∀ {P : List Str} {sa : List Addr}, z ∉ P → valV (seatKv P sa) (.inr z) = none
  | [], _, _ => by unfold seatKv; rfl
  | _ :: _, [], _ => by unfold seatKv; rfl
  | x :: P, a :: sa, h => by
    show valV ((Sum.inr x, V.ref a) :: seatKv P sa) _ = none
    rw [valV_neg (fun e => h (by rw [keyS.mp e]; exact List.mem_cons_self)), seat_none fun hm => h (List.mem_cons_of_mem _ hm)]
theorem seat_some {z : Str} : ∀ {P : List Str} {sa : List Addr}, P.length = sa.length → z ∈ P → ∃ a ∈ sa, valV (seatKv P sa) (.inr z) = some (.ref a)
  | [], _, _, h => by cases h
  | x :: P, [], hl, _ => by simp at hl
  | x :: P, a :: sa, hl, h => by
    show ∃ b ∈ a :: sa, valV ((Sum.inr x, V.ref a) :: seatKv P sa) _ = _
    by_cases e : x = z
    · exact ⟨a, List.mem_cons_self, by rw [valV_pos (by rw [e])]⟩
    · obtain ⟨b, hb, q⟩ := seat_some (P := P) (sa := sa) (by simpa using hl) (by
        rcases List.mem_cons.mp h with h | h
        · exact absurd h.symm e
        · exact h)
      exact ⟨b, List.mem_cons_of_mem _ hb, by rw [valV_neg (fun k => e (keyS.mp k))]; exact q⟩
theorem seat_put {z : Str} {a : Addr} {P : List Str} {sa : List Addr} (hl : P.length = sa.length) (h : z ∉ P) : putK (seatKv P sa) (.inr z) (.ref a) = seatKv (P ++ [z]) (sa ++ [a]) := by
  rw [putK_new _ (seat_none h)]
  unfold seatKv
  rw [List.zip_append hl, List.map_append]; rfl
theorem dropK_cons (p : Key × V) (r : List (Key × V)) (k : Key) : dropK (p :: r) k = if p.1 = k then dropK r k else p :: dropK r k := by
  by_cases e : p.1 = k
  · rw [if_pos e, dropK_pos e]
  · rw [if_neg e, dropK_neg e]
theorem seat_keys {P : List Str} {sa : List Addr} {z : Str} (h : z ∉ P) : ¬ (Sum.inr z : Key) ∈ (seatKv P sa).map (·.1) := fun hm => by
  obtain ⟨q, hq, e⟩ := List.mem_map.mp hm
  obtain ⟨r, hr, rfl⟩ := List.mem_map.mp hq
  exact h (by rw [← keyS.mp e]; exact (List.of_mem_zip hr).1)
theorem seat_drop {z : Str} : ∀ {P : List Str} {sa : List Addr}, P.length = sa.length → P.Nodup → z ∈ P → dropK (seatKv P sa) (.inr z) = seatKv (remP P z) (sa.eraseIdx (P.idxOf z))
  | [], _, _, _, h => by cases h
  | x :: P, [], hl, _, _ => by simp at hl
  | x :: P, a :: sa, hl, hn, h => by
    show dropK ((Sum.inr x, V.ref a) :: seatKv P sa) _ = _
    have hn' := List.nodup_cons.mp hn
    unfold remP
    rw [dropK_cons, List.idxOf_cons]
    by_cases e : x = z
    · subst e
      rw [if_pos rfl, dropK_no (seat_keys hn'.1)]
      simp
    · rw [if_neg (fun k => e (keyS.mp k)), seat_drop (by simpa using hl) hn'.2 (by
        rcases List.mem_cons.mp h with h | h
        · exact absurd h.symm e
        · exact h), beq_eq_false_iff_ne.mpr e]
      rfl
theorem pts_none {z : Str} : ∀ {P : List Str}, z ∉ P → valV (ptsKv P) (.inr z) = none
  | [], _ => rfl
  | x :: P, h => by
    show valV ((Sum.inr x, V.int 0) :: ptsKv P) _ = none
    rw [valV_neg (fun e => h (by rw [keyS.mp e]; exact List.mem_cons_self)), pts_none fun hm => h (List.mem_cons_of_mem _ hm)]
theorem pts_some {z : Str} : ∀ {P : List Str}, z ∈ P → valV (ptsKv P) (.inr z) = some (.int 0)
  | [], h => by cases h
  | x :: P, h => by
    show valV ((Sum.inr x, V.int 0) :: ptsKv P) _ = _
    by_cases e : x = z
    · rw [valV_pos (by rw [e])]
    · rw [valV_neg (fun k => e (keyS.mp k))]
      exact pts_some (by
        rcases List.mem_cons.mp h with h | h
        · exact absurd h.symm e
        · exact h)
theorem pts_put {z : Str} {P : List Str} (h : z ∉ P) : putK (ptsKv P) (.inr z) (.int 0) = ptsKv (P ++ [z]) := by
  rw [putK_new _ (pts_none h)]
  unfold ptsKv
  rw [List.map_append]; rfl
theorem pts_keys {P : List Str} {z : Str} (h : z ∉ P) : ¬ (Sum.inr z : Key) ∈ (ptsKv P).map (·.1) := fun hm => by
  obtain ⟨q, hq, e⟩ := List.mem_map.mp hm
  obtain ⟨r, hr, rfl⟩ := List.mem_map.mp hq
  exact h (by rw [← keyS.mp e]; exact hr)
theorem pts_drop {z : Str} : ∀ {P : List Str}, P.Nodup → z ∈ P → dropK (ptsKv P) (.inr z) = ptsKv (remP P z)
  | [], _, h => by cases h
  | x :: P, hn, h => by
    show dropK ((Sum.inr x, V.int 0) :: ptsKv P) _ = _
    have hn' := List.nodup_cons.mp hn
    unfold remP
    rw [dropK_cons, List.idxOf_cons]
    by_cases e : x = z
    · subst e
      rw [if_pos rfl, dropK_no (pts_keys hn'.1)]
      simp
    · rw [if_neg (fun k => e (keyS.mp k)), pts_drop hn'.2 (by
        rcases List.mem_cons.mp h with h | h
        · exact absurd h.symm e
        · exact h), beq_eq_false_iff_ne.mpr e]
      rfl
theorem remP_mem {P : List Str} {z x : Str} (h : x ∈ remP P z) : x ∈ P := (List.eraseIdx_sublist P (P.idxOf z)).subset h
theorem remP_nd {P : List Str} {z : Str} (h : P.Nodup) : (remP P z).Nodup := h.sublist (List.eraseIdx_sublist P (P.idxOf z))
theorem remP_len {P : List Str} {z : Str} : (remP P z).length ≤ P.length := (List.eraseIdx_sublist P (P.idxOf z)).length_le
def FrL (A : List Addr) (H H' : Hp) : Prop := ∀ x u, H x = some u → x ∉ A → H' x = some u
theorem FrL.of {A : List Addr} {H H' : Hp} (s : Same H H') : FrL A H H' := fun x u e _ => s x u e
theorem FrL.trans {A : List Addr} {H H1 H2 : Hp} (a : FrL A H H1) (b : FrL A H1 H2) : FrL A H H2 := fun x u e n => b x u (a x u e n) n
theorem FrL.put {A : List Addr} {H H' : Hp} {d : Addr} {o : HO} (a : FrL A H H') (h : d ∈ A) : FrL A H (upd H' d o) := fun x u e n => by
  rw [upd_ne (fun z => n (by rw [z]; exact h))]; exact a x u e n
def Ld (o : HO) : Prop := (∃ xs, o = .lst xs) ∨ ∃ kvs, o = .dK kvs
def LdA (H : Hp) (A : List Addr) : Prop := ∀ a ∈ A, ∃ o, H a = some o ∧ Ld o
theorem FrL.ins {A : List Addr} {H H' : Hp} (f : FrL A H H') (hA : LdA H A) {x : Addr} {o : HO} (e : H x = some o) (n : ¬ Ld o) : H' x = some o :=
  f x o e fun z => by
    obtain ⟨o', e', l⟩ := hA x z
    rw [e] at e'; cases e'
    exact n l
theorem TabOk.fr {A : List Addr} {H H' : Hp} {P : Addr} {pos : Pos} {q : Str} (h : TabOk H P pos q) (f : FrL A H H') (hA : LdA H A) : TabOk H' P pos q := by
  obtain ⟨ps, h1, h2, h3⟩ := h
  refine ⟨ps, f.ins hA h1 (fun z => by rcases z with ⟨_, z⟩ | ⟨_, z⟩ <;> cases z), h2, ?_⟩
  rcases h3 with h3 | ⟨c, h3, h4⟩
  · exact .inl h3
  · exact .inr ⟨c, h3, f.ins hA h4 (fun z => by rcases z with ⟨_, z⟩ | ⟨_, z⟩ <;> cases z)⟩
structure RmAt (CR CS : Addr) (H : Hp) (p d : Addr) (P : List Str) : Prop where
  ob : ∃ dx st lf ps, H p = some (.ins CR dx (roomF st d lf ps))
  ds : ∃ sa, H d = some (.dK (seatKv P sa)) ∧ P.length = sa.length ∧ ∀ a ∈ sa, ∃ dx, H a = some (.ins CS dx seatF)
  nd : P.Nodup
  n9 : P.length ≤ 9
def mdKv (l0 l q l1 g w l2 : Addr) : List (Key × V) := [(.inr "left", .ref l0), (.inr "people", .ref l), (.inr "points", .ref q), (.inr "size", .int 0), (.inr "opened", .ref l1), (.inr "given", .ref g), (.inr "wrote", .ref w), (.inr "gone", .ref l2)]
structure MdAt (H : Hp) (M l q g w : Addr) (P : List Str) : Prop where
  hM : ∃ l0 l1 l2, H M = some (.dK (mdKv l0 l q l1 g w l2))
  hl : H l = some (.lst (P.map V.str))
  hq : H q = some (.dK (ptsKv P))
  hg : H g = some (.dK [])
  hw : H w = some (.dK [])
  ne : M ≠ q ∧ q ≠ g ∧ q ≠ w
section
variable {CR CS p d M l q g w : Addr} {H H' : Hp} {P P' : List Str} {A : List Addr}
theorem no_ins {C dx : Addr} {fs : List (Str × V)} : ¬ Ld (.ins C dx fs) := fun z => by rcases z with ⟨_, z⟩ | ⟨_, z⟩ <;> cases z
theorem RmAt.same (h : RmAt CR CS H p d P) (s : Same H H') : RmAt CR CS H' p d P := by
  obtain ⟨⟨dx, st, lf, ps, h1⟩, ⟨sa, h2, h3, h4⟩, h5, h6⟩ := h
  exact ⟨⟨dx, st, lf, ps, s _ _ h1⟩, ⟨sa, s _ _ h2, h3, fun a ha => let ⟨dx, e⟩ := h4 a ha; ⟨dx, s _ _ e⟩⟩, h5, h6⟩
theorem RmAt.fr (h : RmAt CR CS H p d P) (f : FrL A H H') (hA : LdA H A) (hd : d ∉ A) : RmAt CR CS H' p d P := by
  obtain ⟨⟨dx, st, lf, ps, h1⟩, ⟨sa, h2, h3, h4⟩, h5, h6⟩ := h
  exact ⟨⟨dx, st, lf, ps, f.ins hA h1 no_ins⟩, ⟨sa, f _ _ h2 hd, h3, fun a ha => let ⟨dx, e⟩ := h4 a ha; ⟨dx, f.ins hA e no_ins⟩⟩, h5, h6⟩
theorem MdAt.same (h : MdAt H M l q g w P) (s : Same H H') : MdAt H' M l q g w P := by
  obtain ⟨⟨l0, l1, l2, h1⟩, h2, h3, h4, h5, h6⟩ := h
  exact ⟨⟨l0, l1, l2, s _ _ h1⟩, s _ _ h2, s _ _ h3, s _ _ h4, s _ _ h5, h6⟩
theorem MdAt.fr (h : MdAt H M l q g w P) (f : FrL [d] H H') (hd : ∃ kvs, H d = some (.dK kvs)) (n : d ≠ M ∧ d ≠ q ∧ d ≠ g ∧ d ≠ w) : MdAt H' M l q g w P := by
  obtain ⟨⟨l0, l1, l2, h1⟩, h2, h3, h4, h5, h6⟩ := h
  obtain ⟨kvs, hd⟩ := hd
  have k : ∀ x, d ≠ x → x ∉ [d] := fun x hx z => hx (List.mem_singleton.mp z).symm
  exact ⟨⟨l0, l1, l2, f _ _ h1 (k _ n.1)⟩, f _ _ h2 (k _ fun z => by rw [z, h2] at hd; cases hd), f _ _ h3 (k _ n.2.1), f _ _ h4 (k _ n.2.2.1), f _ _ h5 (k _ n.2.2.2), h6⟩
theorem RmAt.ldA (h : RmAt CR CS H p d P) : LdA H [d] := fun a ha => by
  obtain ⟨sa, h2, _⟩ := h.ds
  rw [List.mem_singleton.mp ha]
  exact ⟨_, h2, .inr ⟨_, rfl⟩⟩
theorem MdAt.ldA (h : MdAt H M l q g w P) : LdA H [l, q] := fun a ha => by
  rcases List.mem_cons.mp ha with rfl | ha
  · exact ⟨_, h.hl, .inl ⟨_, rfl⟩⟩
  · rw [List.mem_singleton.mp ha]
    exact ⟨_, h.hq, .inr ⟨_, rfl⟩⟩
end
end L2
namespace L2
open PySem PySem.Spec PyProof.Rows
theorem roomF_no (st d lf ps : Addr) {m : Str} (h : m ≠ "past" ∧ m ≠ "lifted" ∧ m ≠ "ring_size" ∧ m ≠ "seats" ∧ m ≠ "store") : (roomF st d lf ps).lookup m = none := by
  unfold roomF
  rw [lookup_putF, if_neg h.1, lookup_putF, if_neg h.2.1, lookup_putF, if_neg h.2.2.1, lookup_putF, if_neg h.2.2.2.1, lookup_putF, if_neg h.2.2.2.2]; rfl
theorem NmL.ok12 {k : Nat} {c : Int} {S : List Str} (h : NmL k c S) (hl : S.length ≤ 12) : S.Nodup ∧ ∀ z ∈ S, isNm z = true := by
  constructor
  · rw [List.nodup_iff_pairwise_ne, List.pairwise_iff_getElem]
    intro i j hi hj hij e
    have a := (h i hi).2
    have b := (h j hj).2
    have q : ∀ m (hm : m < S.length), S.getD m "" = S[m] := fun m hm => by rw [List.getD_eq_getElem?_getD, List.getElem?_eq_getElem hm]; rfl
    rw [q i hi] at a
    rw [q j hj, ← show S[i] = S[j] from e] at b
    rw [a] at b
    omega
  · intro z hz
    obtain ⟨i, hi, rfl⟩ := List.getElem_of_mem hz
    have := (h i hi).1
    rw [List.getD_eq_getElem?_getD, List.getElem?_eq_getElem hi] at this
    exact this
def rowDr (rs : List Int) : Prop := Paired (fun (l r : Int) => 0 ≤ r ∧ r < l) [11, 8, 36, 5, 5, 2] rs
def goodZ (r : Nat) (c0 : Int) (z : Str) : Prop := z.cps.toList.getD r 0 ≠ 97 + ((c0 + 5 * (11 : Nat)) % 26).toNat
theorem NmL.lt {r : Nat} {c0 : Int} {S : List Str} (h : NmL r c0 S) {j : Nat} (hj : j < S.length) : r < (S.getD j "").length ∧ (S.getD j "").length ≤ 12 := by
  obtain ⟨h1, h2⟩ := h j hj
  refine ⟨?_, ?_⟩
  · by_cases e : r < (S.getD j "").length
    · exact e
    · rw [List.getD_eq_getElem?_getD, List.getElem?_eq_none (by rw [Array.length_toList]; exact Nat.le_of_not_lt e)] at h2
      simp at h2
      omega
  · unfold isNm at h1
    simp only [Bool.and_eq_true, decide_eq_true_eq] at h1
    have := h1.1.2
    omega
theorem NmL.good {r : Nat} {c0 : Int} {S : List Str} (h : NmL r c0 S) (hl : S.length = 11) {j : Nat} (hj : j < S.length) {z : Str} (e : z.cps.toList.getD r 0 = (S.getD j "").cps.toList.getD r 0) : goodZ r c0 z := by
  unfold goodZ
  rw [e, (h j hj).2]
  omega
end L2
namespace L2
open PySem PySem.Spec PyProof.Rows
theorem seat_isSome {z : Str} {P : List Str} {sa : List Addr} (hl : P.length = sa.length) : (valV (seatKv P sa) (.inr z)).isSome = decide (z ∈ P) := by
  by_cases h : z ∈ P
  · obtain ⟨a, _, e⟩ := seat_some hl h
    rw [e, decide_eq_true h]; rfl
  · rw [seat_none h, decide_eq_false h]; rfl
theorem seat_len {P : List Str} {sa : List Addr} (hl : P.length = sa.length) : (seatKv P sa).length = P.length := by
  unfold seatKv
  rw [List.length_map, List.length_zip, ← hl, Nat.min_self]
theorem roomF_come (st d lf ps : Addr) : (roomF st d lf ps).lookup ("come" : Str) = none := roomF_no _ _ _ _ (by decide)
theorem roomF_leave (st d lf ps : Addr) : (roomF st d lf ps).lookup ("leave" : Str) = none := roomF_no _ _ _ _ (by decide)
theorem roomF_seat (st d lf ps : Addr) : (roomF st d lf ps).lookup ("seat" : Str) = none := roomF_no _ _ _ _ (by decide)
theorem roomF_fresh (st d lf ps : Addr) : (roomF st d lf ps).lookup ("fresh_notes" : Str) = none := roomF_no _ _ _ _ (by decide)
theorem roomF_listeners (st d lf ps : Addr) : (roomF st d lf ps).lookup ("listeners" : Str) = none := roomF_no _ _ _ _ (by decide)
theorem roomF_points (st d lf ps : Addr) : (roomF st d lf ps).lookup ("points" : Str) = none := roomF_no _ _ _ _ (by decide)
theorem roomF_standings (st d lf ps : Addr) : (roomF st d lf ps).lookup ("standings" : Str) = none := roomF_no _ _ _ _ (by decide)
theorem seatKv_strs {P : List Str} {sa : List Addr} (hl : P.length = sa.length) : ((seatKv P sa).map fun p => kV p.1) = P.map V.str := by
  unfold seatKv
  rw [List.map_map]
  show (P.zip sa).map (fun q => V.str q.1) = _
  rw [show (fun q : Str × Addr => V.str q.1) = V.str ∘ Prod.fst from rfl, ← List.map_map, List.map_fst_zip (by omega)]
end L2
namespace L2
open PySem PySem.Spec PyProof.Rows
theorem lc_itemsK {M : List (Option Nat)} {σ : St} {g : TG} {tc : TT} {te : TE} {F : List V → Hp → Prop} {H : Hp} {o : Obj} {d : Addr} {kvs : List (Key × V)} (Pv : Nat → List V → Hp → Prop) (hz : kvs.length ≤ sizeLine) (h0 : Pv 0 [] H) (hl : ∀ i ys H, i ≤ kvs.length → Pv i ys H → H d = some (.frz o (.dK kvs)) ∧ ys.length ≤ i)
    (hs : ∀ i k v ys H T, kvs[i]? = some (k, v) → Pv i ys H → H T = none → g (.ref T) (inSt M σ) (upd H T (.tup [kV k, v])) fun σ2 H2 => tc σ2 H2 fun b H3 => if b = true then te σ2 H3 fun v H4 => Pv (i + 1) (ys ++ [v]) H4 else Pv (i + 1) ys H3)
    (hd : ∀ ys H, Pv kvs.length ys H → F ys H) : LcGoal (IiK o d) M σ g tc te F H := by
  refine ⟨fun i m ys H => m = kvs.length - i ∧ i ≤ kvs.length ∧ Pv i ys H, ⟨kvs.length, by simp, Nat.zero_le _, h0⟩, ?_⟩
  rintro i m ys H ⟨rfl, hi, p⟩
  obtain ⟨q, hy⟩ := hl i ys H hi p
  refine ⟨by omega, ?_⟩
  by_cases hlt : i < kvs.length
  · refine .inr ⟨⟨kvs, kvs[i], q, by simp [hlt]⟩, by omega, Pv (i + 1), fun ys' H' p' => ⟨kvs.length - (i + 1), by omega, rfl, hlt, p'⟩, fun x H' y => ?_⟩
    obtain ⟨T, k, v, hT, rfl, rfl, hy⟩ := y
    exact hs i k v ys _ T (hy kvs q) p hT
  · have e : i = kvs.length := by omega
    subst e
    exact .inl ⟨⟨kvs, q, Nat.le_refl _⟩, hd ys H p⟩
theorem seatKv_at {P : List Str} {sa : List Addr} {i : Nat} {k : Key} {v : V} (h : (seatKv P sa)[i]? = some (k, v)) : ∃ z a, P[i]? = some z ∧ sa[i]? = some a ∧ k = .inr z ∧ v = .ref a := by
  unfold seatKv at h
  rw [List.getElem?_map] at h
  cases e : (P.zip sa)[i]? with
  | none => rw [e] at h; cases h
  | some q =>
    rw [e] at h; cases h
    obtain ⟨h1, h2⟩ := List.getElem?_zip_eq_some.mp e
    exact ⟨q.1, q.2, h1, h2, rfl, rfl⟩
end L2
namespace L2
open PySem PySem.Spec PyProof.Rows
section
variable {M l q g w : Addr} {H H' : Hp} {P P' : List Str}
theorem MdAt.people (h : MdAt H M l q g w P) : DGet H M (V.str "people") (some (.ref l)) := by
  obtain ⟨l0, l1, l2, e⟩ := h.hM
  exact DGet.k (k := .inr "people") e
theorem MdAt.points (h : MdAt H M l q g w P) : DGet H M (V.str "points") (some (.ref q)) := by
  obtain ⟨l0, l1, l2, e⟩ := h.hM
  exact DGet.k (k := .inr "points") e
theorem MdAt.size (h : MdAt H M l q g w P) : DGet H M (V.str "size") (some (.int 0)) := by
  obtain ⟨l0, l1, l2, e⟩ := h.hM
  exact DGet.k (k := .inr "size") e
theorem MdAt.given (h : MdAt H M l q g w P) : DGet H M (V.str "given") (some (.ref g)) := by
  obtain ⟨l0, l1, l2, e⟩ := h.hM
  exact DGet.k (k := .inr "given") e
theorem MdAt.wrote (h : MdAt H M l q g w P) : DGet H M (V.str "wrote") (some (.ref w)) := by
  obtain ⟨l0, l1, l2, e⟩ := h.hM
  exact DGet.k (k := .inr "wrote") e
theorem MdAt.kinds (h : MdAt H M l q g w P) : l ≠ M ∧ l ≠ q ∧ l ≠ g ∧ l ≠ w := by
  obtain ⟨l0, l1, l2, e⟩ := h.hM
  refine ⟨fun z => ?_, fun z => ?_, fun z => ?_, fun z => ?_⟩
  · have := h.hl; rw [z, e] at this; cases this
  · have := h.hl; rw [z, h.hq] at this; cases this
  · have := h.hl; rw [z, h.hg] at this; cases this
  · have := h.hl; rw [z, h.hw] at this; cases this
theorem MdAt.put (h : MdAt H M l q g w P) : MdAt (upd (upd H l (.lst (P'.map V.str))) q (.dK (ptsKv P'))) M l q g w P' := by
  obtain ⟨n1, n2, n3, n4⟩ := h.kinds
  obtain ⟨⟨l0, l1, l2, e⟩, h2, h3, h4, h5, m1, m2, m3⟩ := h
  exact ⟨⟨l0, l1, l2, by rw [upd_ne m1, upd_ne n1.symm]; exact e⟩, by rw [upd_ne n2, upd_same], upd_same, by rw [upd_ne m2.symm, upd_ne n3.symm]; exact h4, by rw [upd_ne m3.symm, upd_ne n4.symm]; exact h5, m1, m2, m3⟩
end
end L2
namespace L2
open PySem PySem.Spec PyProof.Rows
theorem for_itv {x : Int} {n : Nat} {g : TG} {tb : TS} {D : Ends} {σ : St} {H : Hp} (Pv : Nat → St → Hp → Prop) (h0 : Pv 0 σ H)
    (hs : ∀ i σ H, i < n → Pv i σ H → g (.int (x - (i : Nat))) σ H fun σ2 H2 => tb { D with nx := Pv (i + 1), ct := Pv (i + 1), bk := D.nx } σ2 H2) (hd : ∀ σ H, Pv n σ H → D.nx σ H) :
    ∃ W : Nat → Nat → St → Hp → Prop, (∃ m, W 0 m σ H) ∧ ∀ i m σ H, W i m σ H →
      ((Itv x n).stop i H ∧ D.nx σ H) ∨ ((Itv x n).go i H ∧ ∃ N : St → Hp → Prop, (∀ σ' H', N σ' H' → ∃ m', m' < m ∧ W (i + 1) m' σ' H') ∧ ∀ y H', (Itv x n).yld i H y H' → g y σ H' fun σ2 H2 => tb { D with nx := N, ct := N, bk := D.nx } σ2 H2) := by
  refine ⟨fun i m σ H => m = n - i ∧ i ≤ n ∧ Pv i σ H, ⟨n, by simp, Nat.zero_le _, h0⟩, ?_⟩
  rintro i m σ H ⟨rfl, hi, p⟩
  by_cases hlt : i < n
  · refine .inr ⟨hlt, Pv (i + 1), fun σ' H' p' => ⟨n - (i + 1), by omega, rfl, hlt, p'⟩, fun y H' q => ?_⟩
    obtain ⟨rfl, rfl⟩ := q
    exact hs i σ _ hlt p
  · have e : i = n := by omega
    subst e
    exact .inl ⟨Nat.le_refl _, hd σ H p⟩
section
variable {CR CS p d M l q g w PT : Addr} {H H' : Hp} {P : List Str} {pos : Pos} {qq : Str}
theorem MdAt.hole (h : MdAt H M l q g w P) (t : TabOk H PT pos qq) : MdAt (hole H PT) M l q g w P := by
  obtain ⟨⟨l0, l1, l2, h1⟩, h2, h3, h4, h5, h6⟩ := h
  exact ⟨⟨l0, l1, l2, hole_keep t h1 fun _ z => by cases z⟩, hole_keep t h2 (fun _ z => by cases z), hole_keep t h3 (fun _ z => by cases z), hole_keep t h4 (fun _ z => by cases z), hole_keep t h5 (fun _ z => by cases z), h6⟩
theorem RmAt.hole (h : RmAt CR CS H p d P) (t : TabOk H PT pos qq) : RmAt CR CS (hole H PT) p d P := by
  obtain ⟨⟨dx, st, lf, ps, h1⟩, ⟨sa, h2, h3, h4⟩, h5, h6⟩ := h
  exact ⟨⟨dx, st, lf, ps, hole_keep t h1 fun _ z => by cases z⟩, ⟨sa, hole_keep t h2 (fun _ z => by cases z), h3, fun a ha => let ⟨dx, e⟩ := h4 a ha; ⟨dx, hole_keep t e fun _ z => by cases z⟩⟩, h5, h6⟩
end
theorem pts_get {H : Hp} {q : Addr} {P : List Str} {z : Str} (h : H q = some (.dK (ptsKv P))) (hz : z ∈ P) : DGet H q (V.str z) (some (.int 0)) := by
  have := DGet.k (k := .inr z) h
  rw [pts_some hz] at this
  exact this
end L2
namespace L2
open PySem PySem.Spec PyProof.Rows
theorem NmL.left {r : Nat} {c0 : Int} {S : List Str} {z : Str} (h : NmL r c0 (S ++ [z])) : NmL r c0 S := fun j hj => by
  have := h j (by rw [List.length_append]; omega)
  have e : (S ++ [z]).getD j "" = S.getD j "" := by
    rw [List.getD_eq_getElem?_getD, List.getElem?_append_left hj, ← List.getD_eq_getElem?_getD]
  rw [e] at this
  exact this
theorem NmL.stranger {r : Nat} {c0 : Int} {S : List Str} {z : Str} (h : NmL r c0 (S ++ [z])) (hl : S.length = 11) : ¬ goodZ r c0 z := fun g => by
  have := (h 11 (by rw [List.length_append, hl]; exact Nat.le_refl _)).2
  have e : (S ++ [z]).getD 11 "" = z := by
    rw [List.getD_eq_getElem?_getD, List.getElem?_append_right (by omega), hl]; rfl
  rw [e] at this
  exact g this
theorem Same.frL {Hz H H' : Hp} {A : List Addr} (s : Same Hz H) (f : FrL A H H') (h : ∀ a ∈ A, Hz a = none) : Same Hz H' := fun b u e => f b u (s b u e) fun z => by rw [h b z] at e; cases e
theorem nextOk {b : Bool} {z : Str} {P : List Str} {G : Str → Prop} (hg : b = true → isNm z = true → G z) (h : ∀ x ∈ P, isNm x = true ∧ G x) (ok : if b = true then isNm z = true ∧ z ∉ P ∧ P.length < 9 else z ∈ P) : ∀ x ∈ (if b = true then P ++ [z] else remP P z), isNm x = true ∧ G x := by
  cases b with
  | true =>
    rw [if_pos rfl] at ok
    rw [if_pos rfl]
    intro x hx
    rcases List.mem_append.mp hx with hx | hx
    · exact h x hx
    · rw [List.mem_singleton.mp hx]; exact ⟨ok.1, hg rfl ok.1⟩
  | false =>
    rw [if_neg Bool.false_ne_true]
    exact fun x hx => h x (remP_mem hx)
end L2

set_option Elab.async false
set_option linter.all false
set_option maxRecDepth 100000
namespace Lw
open PySem L2
def top (i : Nat) : Stmt := PySem.Challenge.pw_censers_k51_listeners_come_and_go.main.body.getD i (.Pass ⟨0, 0, 0, 0⟩)
abbrev s_law_draw : Stmt := top 36
abbrev s_law_cell : Stmt := top 37
abbrev s_law_many : Stmt := top 38
abbrev sis_name : Stmt := top 28
abbrev scheck_woods : Stmt := top 29
abbrev sTray___init__ : Stmt := inClass (top 30) 0
abbrev sSeat___init__ : Stmt := inClass (top 33) 0
abbrev sRoom___init__ : Stmt := inClass (top 34) 0
abbrev sRoom_seat : Stmt := inClass (top 34) 1
abbrev sRoom_fresh_notes : Stmt := inClass (top 34) 5
abbrev sRoom_come : Stmt := inClass (top 34) 7
abbrev sRoom_leave : Stmt := inClass (top 34) 8
abbrev sRoom_listeners : Stmt := inClass (top 34) 17
abbrev sRoom_points : Stmt := inClass (top 34) 18
abbrev sRoom_standings : Stmt := inClass (top 34) 19
abbrev s_law_num : Stmt := top 39
abbrev s_law_split : Stmt := top 40
abbrev s_law_refused : Stmt := top 41
abbrev s_law_names : Stmt := top 42
abbrev s_law_woods : Stmt := top 43
abbrev s_law_pair_of_wood : Stmt := top 44
abbrev s_law_total : Stmt := top 45
abbrev s_law_model : Stmt := top 47
abbrev s_law_name_ok : Stmt := top 48
abbrev s_law_come : Stmt := top 49
abbrev s_law_leave : Stmt := top 50
abbrev s_law_result_ok : Stmt := top 51
abbrev s_law_pairs_told : Stmt := top 52
abbrev s_law_points : Stmt := top 53
abbrev s_law_standings : Stmt := top 54
abbrev s_law_people_ok : Stmt := top 55
abbrev s_law_rich_woods : Stmt := top 57
abbrev s_law_begun : Stmt := top 56
abbrev s_law_tried : Stmt := top 58
abbrev s_law_drawn : Stmt := top 59
abbrev slaw : Stmt := top 60
structure Bs (mg : Str → Option Value) : Prop where
  all : mg "all" = none
  bool : mg "bool" = none
  int : mg "int" = none
  isinstance : mg "isinstance" = none
  len : mg "len" = none
  list : mg "list" = none
  max : mg "max" = none
  min : mg "min" = none
  range : mg "range" = none
  set : mg "set" = none
  sorted : mg "sorted" = none
  str : mg "str" = none
  sum : mg "sum" = none
  tuple : mg "tuple" = none
structure Gs (mg : Str → Option Value) : Prop where
  yes : True
  LONGEST_NAME : ∃ t, mg "LONGEST_NAME" = some (.int 12 t)
  MOST_WOODS : ∃ t, mg "MOST_WOODS" = some (.int 6 t)
  MOST_PACKETS : ∃ t, mg "MOST_PACKETS" = some (.int 99 t)
  MOST_LISTENERS : ∃ t, mg "MOST_LISTENERS" = some (.int 9 t)
def spNum : Sp := fun vs H Q _ => ∃ z : Int, vs = [.int z] ∧ Q (.bl true) H
def spRefused (K : PySem.W.Frag) : Sp := fun vs H Q _ => ∃ a : Addr, vs = [.ref a] ∧ H a = some (.lst [.str "refused"]) ∧ Q (.bl true) H
def spIsName (K : PySem.W.Frag) : Sp := fun vs H Q _ => ∃ z : Str, vs = [.str z] ∧ z.length ≤ 1000 ∧ ∀ H', Same H H' → Q (.bl (isNm z)) H'
def spCheckWoods (K : PySem.W.Frag) (C : Addr) : Sp := fun vs H Q E => ∃ (l : Addr) (as : List Addr) (W : Wds), vs = [.ref l] ∧ H l = some (.lst (as.map V.ref)) ∧ WAt H as W ∧ W.length ≤ 50 ∧ (∀ w ∈ W, w.1.length ≤ 1000) ∧ (woodsOk W = true → ∀ H', Same H H' → Q .non H') ∧ (woodsOk W = false → ∀ H', Same H H' → E (.ref C) none H')
def spInit (K : PySem.W.Frag) (C CB : Addr) : Sp := fun vs H Q E => ∃ (p dx l : Addr) (as : List Addr) (W : Wds), vs = [.ref p, .ref l] ∧ H p = some (.ins C dx []) ∧ H l = some (.lst (as.map V.ref)) ∧ WAt H as W ∧ W.length ≤ 50 ∧ (∀ w ∈ W, w.1.length ≤ 1000) ∧ (woodsOk W = true → ∀ (q : Addr) (H' : Hp), H q = none → H' q = some (.lst (as.map V.ref)) → H' p = some (.ins C dx (stkF q)) → (∀ b o, H b = some o → b ≠ p → H' b = some o) → Q .non H') ∧ (woodsOk W = false → ∀ H', Same H H' → E (.ref CB) none H')
def spLWoods (K : PySem.W.Frag) : Sp := fun vs H Q _ => ∃ c : Int, vs = [.int c] ∧ ∀ (t l : Addr) (as : List Addr) (W : Wds) (z : Str) (H' : Hp), H t = none → H l = none → Same H H' → H' t = some (.tup [.ref l, .str z]) → H' l = some (.lst (as.map V.ref)) → WAt H' as W → woodsOk W = true → countW W z = none → isNm z = true → Q (.ref t) H'
def spPairW (K : PySem.W.Frag) : Sp := fun vs H Q _ => ∃ (a : Addr) (w : Str × Int), vs = [.ref a] ∧ H a = some (wT w) ∧ Q (.bl true) H
def spLTot (K : PySem.W.Frag) : Sp := fun vs H Q _ => ∃ (l : Addr) (as : List Addr) (W : Wds), vs = [.ref l] ∧ H l = some (.lst (as.map V.ref)) ∧ WAt H as W ∧ W.length ≤ 50 ∧ ∀ H', Same H H' → Q (.int (totW W)) H'
abbrev lq51 : Str := (("Room.standings" : Str) ++ ".<locals>.") ++ "<lambda>"
def spLawT (K : PySem.W.Frag) (tabs : List (Addr × Addr)) : Sp := fun vs H Q _ => ∃ (a : Addr) (ns : List Int), vs = [.ref a] ∧ SqL K H a (ns.map V.int) ∧ ns.length ≤ 63 ∧ (∀ q ∈ tabs, H q.2 = some (.tbl #[])) ∧ ∀ H', Q (.bl true) H'
def spSeatI (K : PySem.W.Frag) (C : Addr) : Sp := fun vs H Q _ => ∃ (p dx : Addr), vs = [.ref p, .int 0, .non, .non] ∧ H p = some (.ins C dx []) ∧ ∀ H', H' p = some (.ins C dx seatF) → (∀ b o, H b = some o → b ≠ p → H' b = some o) → Q .non H'
def spRoomI (K : PySem.W.Frag) (C : Addr) : Sp := fun vs H Q _ => ∃ (p dx st : Addr), vs = [.ref p, .ref st] ∧ H p = some (.ins C dx []) ∧ ∀ (d lf ps : Addr) (H' : Hp), H d = none → H' d = some (.dK []) → H' p = some (.ins C dx (roomF st d lf ps)) → (∀ b o, H b = some o → b ≠ p → H' b = some o) → Q .non H'
def spSeat (K : PySem.W.Frag) (CR CS CN : Addr) : Sp := fun vs H Q E => ∃ (p d : Addr) (P : List Str) (z : Str), vs = [.ref p, .str z] ∧ RmAt CR CS H p d P ∧ (z ∈ P → ∀ a dx, H a = some (.ins CS dx seatF) → Q (.ref a) H) ∧ (z ∉ P → ∀ H', Same H H' → E (.ref CN) none H')
def spFresh (K : PySem.W.Frag) (CR CS : Addr) : Sp := fun vs H Q _ => ∃ (p d : Addr) (P : List Str), vs = [.ref p] ∧ RmAt CR CS H p d P ∧ Q .non H
def spCome (K : PySem.W.Frag) (CR CS CB CT CF : Addr) : Sp := fun vs H Q E => ∃ (p d : Addr) (P : List Str) (z : Str), vs = [.ref p, .str z] ∧ RmAt CR CS H p d P ∧ z.length ≤ 1000 ∧ (isNm z = false → ∀ H', Same H H' → E (.ref CB) none H') ∧ (isNm z = true → z ∈ P → ∀ H', Same H H' → E (.ref CT) none H') ∧ (isNm z = true → z ∉ P → P.length = 9 → ∀ H', Same H H' → E (.ref CF) none H') ∧ (isNm z = true → z ∉ P → P.length < 9 → ∀ H', FrL [d] H H' → RmAt CR CS H' p d (P ++ [z]) → Q .non H')
def spLeave (K : PySem.W.Frag) (CR CS CN : Addr) : Sp := fun vs H Q E => ∃ (p d : Addr) (P : List Str) (z : Str), vs = [.ref p, .str z] ∧ RmAt CR CS H p d P ∧ (z ∈ P → ∀ H', FrL [d] H H' → RmAt CR CS H' p d (remP P z) → Q .non H') ∧ (z ∉ P → ∀ H', Same H H' → E (.ref CN) none H')
def spListeners (K : PySem.W.Frag) (CR CS : Addr) : Sp := fun vs H Q _ => ∃ (p d : Addr) (P : List Str), vs = [.ref p] ∧ RmAt CR CS H p d P ∧ ∀ l H', H l = none → Same H H' → H' l = some (.lst (P.map V.str)) → Q (.ref l) H'
def spPoints (K : PySem.W.Frag) (CR CS CN : Addr) : Sp := fun vs H Q E => ∃ (p d : Addr) (P : List Str) (z : Str), vs = [.ref p, .str z] ∧ RmAt CR CS H p d P ∧ (z ∈ P → Q (.int 0) H) ∧ (z ∉ P → ∀ H', Same H H' → E (.ref CN) none H')
def spStandings (K : PySem.W.Frag) (CR CS PT : Addr) : Sp := fun vs H Q _ => ∃ (p d : Addr) (P : List Str), vs = [.ref p] ∧ RmAt CR CS H p d P ∧ TabOk H PT ⟨237, 86, 237, 107⟩ lq51 ∧ ∀ (l : Addr) (as : List Addr) (H' : Hp), Same (hole H PT) H' → TabOk H' PT ⟨237, 86, 237, 107⟩ lq51 → hole H PT l = none → H' l = some (.lst (as.map V.ref)) → WAt H' as (P.map fun z => (z, 0)) → Q (.ref l) H'
def spNames12 (K : PySem.W.Frag) : Sp := fun vs H Q _ => ∃ (c n : Int), vs = [.int c, .int n] ∧ 0 ≤ n ∧ n ≤ 12 ∧ ∀ (p : Addr) (S : List Str) (H' : Hp), H p = none → Same H H' → H' p = some (.lst (S.map V.str)) → (S.length : Int) = n → S.Nodup → (∀ z ∈ S, isNm z = true) → ∀ (r : Nat) (c0 : Int), NmL r c0 S → Q (.ref p) H'
def spRich24 (K : PySem.W.Frag) : Sp := fun vs H Q _ => ∃ (c n : Int), vs = [.int c, .int n] ∧ 1 ≤ n ∧ n ≤ 24 ∧ ∀ (t l : Addr) (as : List Addr) (W : Wds) (z : Str) (H' : Hp), Same H H' → H' t = some (.tup [.ref l, .str z]) → H' l = some (.lst (as.map V.ref)) → WAt H' as W → woodsOk W = true → n ≤ totW W → Q (.ref t) H'
def spModel (K : PySem.W.Frag) : Sp := fun vs H Q _ => ∃ (l0 : Addr) (as : List Addr), vs = [.ref l0] ∧ H l0 = some (.lst (as.map V.ref)) ∧ as.length ≤ 50 ∧ ∀ (M l q g w : Addr) (H' : Hp), Same H H' → H M = none → H l = none → H q = none → H g = none → H w = none → MdAt H' M l q g w [] → Q (.ref M) H'
def spLCome (K : PySem.W.Frag) : Sp := fun vs H Q _ => ∃ (M l q g w : Addr) (P : List Str) (z : Str), vs = [.ref M, .str z] ∧ MdAt H M l q g w P ∧ P.Nodup ∧ P.length ≤ 9 ∧ z.length ≤ 1000 ∧ (∀ (t : Addr) (x : Str) (H' : Hp), Same H H' → x = (if isNm z = false then ("BadName" : Str) else if z ∈ P then "Taken" else "Full") → (isNm z = false ∨ z ∈ P ∨ P.length = 9) → H' t = some (.tup [.str x, .non]) → Q (.ref t) H') ∧ (isNm z = true → z ∉ P → P.length < 9 → ∀ (t : Addr) (H' : Hp), FrL [l, q] H H' → MdAt H' M l q g w (P ++ [z]) → H' t = some (.tup [.str "", .non]) → Q (.ref t) H')
def spLLeave (K : PySem.W.Frag) : Sp := fun vs H Q _ => ∃ (M l q g w : Addr) (P : List Str) (z : Str), vs = [.ref M, .str z] ∧ MdAt H M l q g w P ∧ P.Nodup ∧ P.length ≤ 9 ∧ (z ∉ P → ∀ (t : Addr) (H' : Hp), Same H H' → H' t = some (.tup [.str "NoListener", .non]) → Q (.ref t) H') ∧ (z ∈ P → ∀ (t : Addr) (H' : Hp), FrL [l, q] H H' → MdAt H' M l q g w (remP P z) → H' t = some (.tup [.str "", .non]) → Q (.ref t) H')
def spResOk (K : PySem.W.Frag) : Sp := fun vs H Q _ => ∃ (t u : Addr) (x : Str), vs = [.ref t, .ref u] ∧ H t = some (.tup [.str x, .non]) ∧ H u = some (.tup [.str x, .non]) ∧ Q (.bl true) H
def spTold (K : PySem.W.Frag) : Sp := fun vs H Q _ => ∃ (l r : Addr) (as bs : List Addr) (W : Wds), vs = [.ref l, .ref r] ∧ H l = some (.lst (as.map V.ref)) ∧ H r = some (.lst (bs.map V.ref)) ∧ WAt H as W ∧ WAt H bs W ∧ W.length ≤ 50 ∧ ∀ H', Same H H' → Q (.bl true) H'
def spLPoints (K : PySem.W.Frag) (CR CS : Addr) : Sp := fun vs H Q _ => ∃ (p d : Addr) (P : List Str) (z : Str), vs = [.ref p, .str z] ∧ RmAt CR CS H p d P ∧ (z ∈ P → Q (.int 0) H) ∧ (z ∉ P → ∀ q H', Same H H' → H' q = some (.lst [.str "refused"]) → Q (.ref q) H')
def spLStand (K : PySem.W.Frag) : Sp := fun vs H Q _ => ∃ (M l q g w : Addr) (P : List Str), vs = [.ref M] ∧ MdAt H M l q g w P ∧ P.length ≤ 9 ∧ ∀ (r : Addr) (as : List Addr) (H' : Hp), Same H H' → H' r = some (.lst (as.map V.ref)) → WAt H' as (P.map fun z => (z, 0)) → Q (.ref r) H'
def spPeople (K : PySem.W.Frag) (CR CS PT : Addr) : Sp := fun vs H Q _ => ∃ (p d M l q g w : Addr) (P : List Str) (z : Str), vs = [.ref p, .ref M, .str z] ∧ RmAt CR CS H p d P ∧ MdAt H M l q g w P ∧ z ∉ P ∧ TabOk H PT ⟨237, 86, 237, 107⟩ lq51 ∧ ∀ H', Same (hole H PT) H' → TabOk H' PT ⟨237, 86, 237, 107⟩ lq51 → Q (.bl true) H'
def spBegun (K : PySem.W.Frag) : Sp := fun vs H Q _ => ∃ c : Int, vs = [.int c] ∧ ∀ (t l po : Addr) (as : List Addr) (W : Wds) (S : List Str) (z : Str) (r : Nat) (c0 : Int) (H' : Hp), Same H H' → H' t = some (.tup [.ref l, .ref po, .str z]) → H' l = some (.lst (as.map V.ref)) → WAt H' as W → woodsOk W = true → H' po = some (.lst (S.map V.str)) → S.length = 11 → NmL r c0 (S ++ [z]) → Q (.ref t) H'
def spTriedR (K : PySem.W.Frag) (CR CS : Addr) : Sp := fun vs H Q _ => ∃ (p d : Addr) (P : List Str) (t : Addr) (b : Bool) (z : Str), vs = [.ref p, .ref t] ∧ RmAt CR CS H p d P ∧ H t = some (.tup [.str (if b = true then "come" else "leave"), .str z]) ∧ z.length ≤ 1000 ∧
  (∀ (u : Addr) (x : Str) (H' : Hp), Same H H' → x = (if b = true then (if isNm z = false then ("BadName" : Str) else if z ∈ P then "Taken" else "Full") else "NoListener") → (if b = true then isNm z = false ∨ z ∈ P ∨ P.length = 9 else z ∉ P) → H' u = some (.tup [.str x, .non]) → Q (.ref u) H') ∧
  ((if b = true then isNm z = true ∧ z ∉ P ∧ P.length < 9 else z ∈ P) → ∀ (u : Addr) (H' : Hp), FrL [d] H H' → RmAt CR CS H' p d (if b = true then P ++ [z] else remP P z) → H' u = some (.tup [.str "", .non]) → Q (.ref u) H')
def spDrawn (K : PySem.W.Frag) : Sp := fun vs H Q _ => ∃ (row pl po : Addr) (rs : List Int) (P S : List Str) (r : Nat) (c0 : Int), vs = [.ref row, .ref pl, .ref po] ∧ H row = some (.lst (rs.map V.int)) ∧ H pl = some (.lst (P.map V.str)) ∧ H po = some (.lst (S.map V.str)) ∧ rowDr rs ∧ P.length ≤ 9 ∧ S.length = 11 ∧ NmL r c0 S ∧ (∀ z ∈ P, isNm z = true) ∧ ∀ (t : Addr) (b : Bool) (z : Str) (H' : Hp), Same H H' → H' t = some (.tup [.str (if b = true then "come" else "leave"), .str z]) → z.length ≤ 1000 → (b = true → isNm z = true → goodZ r c0 z) → Q (.ref t) H'

section
variable {P : Program} {w : World} {K : PySem.W.Frag} {mg : Str → Option Value} {base : Heap} {CBadTray : Addr} {CBadName : Addr} {CTaken : Addr} {CFull : Addr} {CNoListener : Addr} {CTray : Addr} {CSeat : Addr} {CRoom : Addr} {CTRoom_standings PTRoom_standings : Addr}
theorem sc_law_draw : FnScope (["_law_cell_here", "_law_limits", "_law_rest", "_law_seed", "_law_row", "_law_limit"]) (["_law_cell_here", "_law_limits"]) (defScope s_law_draw) := ⟨rfl, rfl, rfl, by decide +kernel, rfl, by decide +kernel, by decide +kernel⟩
set_option maxHeartbeats 4000000 in
theorem ok_law_draw {f : Addr} {fd : FuncData} (F : Fun K "_law_draw" "_law_draw" s_law_draw f fd) (B : Bs mg) (T : Gs mg)   : FnOk P w K mg base CX0 1 f fd ["_law_cell_here", "_law_limits"] (spDraw K) := by
  have sc := sc_law_draw
  refine F.ok sc (fun vs H Q E h => ?_) (fun cdv A outer s H vs Q E hr h => ?_)
  · obtain ⟨c, a, ls, rfl, _⟩ := h; rfl
  · obtain ⟨c, a, ls, rfl, hS, hL, hlen, k⟩ := h
    refine ⟨_, (pss_cons (ps_set (i := 2) sc.nd rfl (Or.inl rfl) (pe_ifExp (pt_cmpR op_ge (pv 0) (pe_op op_pow pe_int pe_int) (nomark _)) (pv 0) pe_int))
      (pss_cons (ps_set (i := 3) sc.nd rfl (Or.inl rfl) (pe_op op_mod (pe_op op_add (pe_op op_mulW (pe_op op_mod (pv 0) pe_int) pe_int) pe_int) pe_int))
      (pss_cons (ps_set (i := 4) sc.nd rfl (Or.inl rfl) (pe_lst pa_nil))
      (pss_cons (ps_for PassesOwn.never rfl (kpi_list (K := K) (pv 1)) (pg_name (i := 5) sc.nd rfl (Or.inl rfl))
      (pss_cons (ps_set (i := 3) sc.nd rfl (Or.inl rfl) (pe_op op_mod (pe_op op_add (pe_op op_mulW (pe_op op_mod (pe_op op_mulW (pv 3) (pv 3)) pe_int) (pe_op op_add (pv 3) pe_int)) pe_int) pe_int))
      (pss_cons (ps_expr (pe_bm PySem.F.plainAttrs_list PySem.F.slot_list_append PySem.F.type_list_append mt_append (pv 4) (pa_cons (pe_ifExp (pt_cmpR op_gt (pv 2) pe_int (nomark _)) (pe_op op_mod (pv 2) (pv 5)) (pe_op op_mod (pe_op op_add (pe_op op_fdivW (pv 3) pe_int) (pe_op op_mulW (pe_op op_mod (pv 3) pe_int) pe_int)) (pv 5))) pa_nil)))
      (pss_one (ps_set (i := 2) sc.nd rfl (Or.inl rfl) (pe_op op_fdivW (pv 2) (pv 5)))))))
      (pss_one (ps_ret (pv 4))))))), ?_⟩
    -- rest
    refine ⟨_, rfl, _, _, rfl, rfl, ⟨by decide, by decide, by decide⟩, _, _, rfl, rfl, _, rfl, ?_⟩
    refine ite_P (fun _ => True) (fun r _ => ?_) (fun Q' h => ⟨_, rfl, h _ trivial⟩) (fun Q' h => h _ trivial)
    -- seed
    refine ⟨_, rfl, _, _, rfl, rfl, p0, _, _, rfl, rfl, mulOk_r ⟨by decide, by decide⟩, _, _, rfl, rfl, _, _, rfl, rfl, p0, ?_⟩
    -- row = []
    refine ⟨Nat.zero_le _, fun p hp => ?_⟩
    have hS1 : SqL K (upd H p (.lst [])) a (ls.map V.int) := (Same.new hp).seq hS
    -- for limit in limits
    refine ⟨_, rfl, a, rfl, ⟨_, hS1⟩, for_list (K := K) (a := a) (xs := ls.map V.int) (fun i σ H2 => ∃ (r seed : Int) (rs : List Int) (v : Option V), σ = [some (.int c), some (.ref a), some (.int r), some (.int seed), some (.ref p), v] ∧ 0 ≤ seed ∧ seed < 2147483647 ∧ Same H H2 ∧ H2 p = some (.lst (rs.map V.int)) ∧ Drawn' (ls.take i) rs)
      ⟨r, _, [], none, rfl, (modB _ (by decide)).1, (modB _ (by decide)).2, Same.new hp, upd_same, .nil⟩ (fun i σ H2 _ ⟨_, _, _, _, _, _, _, s2, _, _⟩ => s2.seq hS) ?_ ?_⟩
    · rintro i y σ H2 hi ⟨r, seed, rs, v, rfl, hs0, hs1, s2, hp2, hD⟩
      obtain ⟨l, rfl, hl, hil⟩ := getI hi
      have hlim := hL l (List.mem_of_getElem? hl)
      have hrl : rs.length = i := by have := hD.length; rw [List.length_take] at this; omega
      -- seed
      refine ⟨_, rfl, _, rfl, _, _, rfl, rfl, mulOk_r ⟨by omega, by omega⟩, _, _, rfl, rfl, p0, _, rfl, _, _, rfl, rfl, _, _, rfl, rfl, mulOk_r ⟨by omega, by omega⟩, _, _, rfl, rfl, _, _, rfl, rfl, p0, ?_⟩
      -- row.append
      refine ⟨_, rfl, .inl ⟨rfl, _, SqL.of hp2⟩, _, rfl, _, _, rfl, rfl, _, rfl, ?_⟩
      refine ite_P (fun q => 0 ≤ q ∧ q < l) (fun q hq => ?_) (fun Q' h => ⟨_, rfl, _, rfl, _, _, rfl, rfl, hlim.1, h _ (modB _ hlim.1)⟩)
        (fun Q' h => ⟨_, rfl, _, _, rfl, rfl, ⟨by decide, by decide⟩, _, rfl, _, _, rfl, rfl, p0, _, _, rfl, rfl, mulOk_r ⟨by decide, by decide⟩, _, _, rfl, rfl, _, rfl, _, _, rfl, rfl, hlim.1, h _ (modB _ hlim.1)⟩)
      obtain ⟨q0, q1⟩ := hq
      refine ⟨p, _, _, rfl, rfl, hp2, lt_line (by rw [ltm]; omega), ?_⟩
      -- rest
      refine ⟨_, rfl, _, rfl, _, _, rfl, rfl, hlim, ?_⟩
      refine ⟨_, _, rs ++ [q], _, rfl, (modB _ (by decide)).1, (modB _ (by decide)).2, s2.put hp, by rw [upd_same, mapV], ?_⟩
      rw [take_snoc hl]
      exact drawn_snoc hD q0 q1
    · rintro σ H2 ⟨r, seed, rs, v, rfl, hs0, hs1, s2, hp2, hD⟩
      rw [ltm, List.take_length] at hD
      exact ⟨_, rfl, k p rs H2 hp s2 hp2 hD⟩
theorem sc_law_cell : FnScope (["_law_script", "_law_k"]) (["_law_script", "_law_k"]) (defScope s_law_cell) := ⟨rfl, rfl, rfl, by decide +kernel, rfl, by decide +kernel, by decide +kernel⟩
set_option maxHeartbeats 4000000 in
theorem ok_law_cell {f : Addr} {fd : FuncData} (F : Fun K "_law_cell" "_law_cell" s_law_cell f fd) (B : Bs mg) (T : Gs mg)   : FnOk P w K mg base CX0 1 f fd ["_law_script", "_law_k"] (spCell K) := by
  have sc := sc_law_cell
  refine F.ok sc (fun vs H Q E h => ?_) (fun cdv A outer s H vs Q E hr h => ?_)
  · obtain ⟨a, ns, kk, rfl, _⟩ := h; rfl
  · obtain ⟨a, ns, kk, rfl, hS, h0, h1, hl, k⟩ := h
    refine ⟨_, (pss_cons (ps_if (pt_cmpR op_lt (pv 1) (pe_callB (kc_len (K := K)) (by rfl) B.len PyProof.Rows.Boot.«len» (pa_cons (pv 0) pa_nil)) (nomark _)) (pss_one (ps_ret (pe_ix (kix_list (K := K)) (pv 0) (pv 1) (fun _ _ => rfl)))) pss_nil)
      (pss_one (ps_ret (pe_op op_add (pe_op op_add (pe_op op_mulW (pe_op op_mod (pe_callB (kc_sum (K := K)) (by rfl) B.sum PyProof.Rows.Boot.«sum» (pa_cons (pv 0) pa_nil)) pe_int) pe_int) (pe_op op_mulW (pe_callB (kc_len (K := K)) (by rfl) B.len PyProof.Rows.Boot.«len» (pa_cons (pv 0) pa_nil)) pe_int)) (pe_op op_mulW (pv 1) pe_int))))), ?_⟩
    refine ⟨_, rfl, _, rfl, a, _, rfl, .inl hS, _, _, rfl, rfl, _, rfl, ?_⟩
    rw [ltm]
    refine ite2 (fun hk => ?_) (fun _ => ?_)
    · have hk : kk < (ns.length : Int) := of_decide_eq_true hk
      obtain ⟨j, rfl⟩ := Int.eq_ofNat_of_zero_le h0
      have hj : j < ns.length := by omega
      refine ⟨_, rfl, _, rfl, a, _, _, _, rfl, rfl, hS, atI_nat (v := V.int (ns[j])) (by rw [List.getElem?_map, List.getElem?_eq_getElem hj]; rfl), k _⟩
    · refine ⟨_, rfl, a, ns, rfl, .inl hS, _, _, rfl, rfl, p0, _, _, rfl, rfl, mulOk_r ⟨by decide, by decide⟩, _, rfl, a, _, rfl, .inl hS, _, _, rfl, rfl, mulOk_r ⟨by decide, by decide⟩, _, _, rfl, rfl, _, rfl, _, _, rfl, rfl, mulOk_r ⟨by decide, by decide⟩, _, _, rfl, rfl, k _⟩
theorem sc_law_many : FnScope (["_law_script", "_law_few"]) (["_law_script", "_law_few"]) (defScope s_law_many) := ⟨rfl, rfl, rfl, by decide +kernel, rfl, by decide +kernel, by decide +kernel⟩
set_option maxHeartbeats 4000000 in
theorem ok_law_many {f : Addr} {fd : FuncData} (F : Fun K "_law_many" "_law_many" s_law_many f fd) (B : Bs mg) (T : Gs mg)   : FnOk P w K mg base CX0 1 f fd ["_law_script", "_law_few"] (spMany K) := by
  have sc := sc_law_many
  refine F.ok sc (fun vs H Q E h => ?_) (fun cdv A outer s H vs Q E hr h => ?_)
  · obtain ⟨a, ns, f, rfl, _⟩ := h; rfl
  · obtain ⟨a, ns, f, rfl, hS, k⟩ := h
    refine ⟨_, (pss_one (ps_ret (pe_callB kc_max2 (by rfl) B.max PyProof.Rows.Boot.«max» (pa_cons (pv 1) (pa_cons (pe_callB kc_min2 (by rfl) B.min PyProof.Rows.Boot.«min» (pa_cons (pe_callB (kc_len (K := K)) (by rfl) B.len PyProof.Rows.Boot.«len» (pa_cons (pv 0) pa_nil)) (pa_cons pe_int pa_nil))) pa_nil))))), ?_⟩
    refine ⟨_, rfl, _, rfl, a, _, rfl, .inl hS, _, _, rfl, _, _, rfl, k _ ?_ ?_⟩
    · split <;> omega
    · split <;> split <;> omega
theorem scis_name : FnScope (["text"]) (["text"]) (defScope sis_name) := ⟨rfl, rfl, rfl, by decide +kernel, rfl, by decide +kernel, by decide +kernel⟩
set_option maxHeartbeats 4000000 in
theorem okis_name {f : Addr} {fd : FuncData} (F : Fun K "is_name" "is_name" sis_name f fd) (B : Bs mg) (T : Gs mg)   : FnOk P w K mg base CX0 1 f fd ["text"] (spIsName K) := by
  have sc := scis_name
  refine F.ok sc (fun vs H Q E h => ?_) (fun cdv A outer s H vs Q E hr h => ?_)
  · obtain ⟨z, rfl, _⟩ := h; rfl
  · obtain ⟨tL, gLONGEST_NAME⟩ := T.LONGEST_NAME
    obtain ⟨z, rfl, hz, k⟩ := h
    refine ⟨_, (pss_one (ps_ret (pe_and (pe_chain op_le op_le pe_int (pe_callB call_len_str (by rfl) B.len PyProof.Rows.Boot.«len» (pa_cons (pv 0) pa_nil)) (pe_glob (v := .int 12) rfl gLONGEST_NAME ⟨_, rfl⟩)) (pe_one (pe_callB (kc_all (K := K)) (by rfl) B.all PyProof.Rows.Boot.«all» (pa_cons (pe_lc (N' := ["sign"]) (M := [none]) (lcSc_of (by rfl)) rfl (pi_str (pv 0)) (fun _ _ _ _ _ => pg_name (i := 0) (show (["sign"] : List Str).Nodup by decide +kernel) rfl (Or.inl rfl) (.inr rfl)) (frm_name rfl) (fun _ _ _ _ _ => pts_nil) (fun _ _ _ _ _ => (pe_chain op_leS op_leS pe_str (pv 0) pe_str))) pa_nil)))))), ?_⟩
    refine chainV (x := (z.length : Int)) (H' := H) (fun Q' h' => ⟨_, rfl, z, rfl, le_line (by omega), h'⟩) ⟨_, rfl, ?_⟩
    refine ite2 (fun g => ?_) (fun g => ?_)
    · refine ⟨_, rfl, z, rfl, lc_str (fun i ys H2 => H2 = H ∧ ys = ((List.range i).map fun j => letN (z.cps.toList.getD j 0)).map V.bl) (le_line (by omega)) ⟨rfl, rfl⟩ (fun i ys H2 _ h => by rw [h.2, List.length_map, List.length_map, List.length_range]; exact Nat.le_refl _) ?_ ?_⟩
      · rintro i ys H2 hi ⟨rfl, rfl⟩
        refine lcN ?_
        refine ⟨_, rfl, _, _, rfl, rfl, _, rfl, ?_⟩
        have e1 := le_a z i
        have e2 := le_z z i
        have key : ∀ b : Bool, b = letN (z.cps.toList.getD i 0) → H2 = H2 ∧ ((List.range i).map fun j => letN (z.cps.toList.getD j 0)).map V.bl ++ [V.bl b] = ((List.range (i + 1)).map fun j => letN (z.cps.toList.getD j 0)).map V.bl := fun b e => ⟨rfl, by rw [e]; exact bl_snoc (fun j => letN (z.cps.toList.getD j 0)) i⟩
        refine ite2 (fun g1 => ⟨_, _, rfl, rfl, key _ ?_⟩) (fun g1 => key _ ?_)
        · unfold letN
          rw [← e1, ← e2]
          exact (by rw [show (!decide ((sgZ z i).cps.toList < ("a" : Str).cps.toList)) = true from g1, Bool.true_and])
        · unfold letN
          rw [← e1, ← e2]
          exact (by rw [show (!decide ((sgZ z i).cps.toList < ("a" : Str).cps.toList)) = false from bF g1, Bool.false_and])
      · rintro ys H2 ⟨rfl, rfl⟩ p hp
        refine ⟨p, _, rfl, .inl (SqL.of upd_same), ?_⟩
        rw [all_letN]
        have k := k _ (Same.new (o := HO.lst (List.map V.bl ((List.range z.length).map fun j => letN (z.cps.toList.getD j 0)))) hp)
        unfold isNm at k
        rw [g, Bool.true_and] at k
        exact k
    · have k := k _ (Same.refl _)
      unfold isNm at k
      rw [bF g, Bool.false_and] at k
      exact k
theorem sccheck_woods : FnScope (["woods", "name", "packets"]) (["woods"]) (defScope scheck_woods) := ⟨rfl, rfl, rfl, by decide +kernel, rfl, by decide +kernel, by decide +kernel⟩
set_option maxHeartbeats 4000000 in
theorem okcheck_woods {f : Addr} {fd : FuncData} (F : Fun K "check_woods" "check_woods" scheck_woods f fd) (B : Bs mg) (T : Gs mg) (mBadTray : mg "BadTray" = some (.ref CBadTray)) (qBadTray : PySem.W.excIn K CBadTray bmV "ValueError.__new__" = true) (cis_name : Cal P w K mg base 1 "is_name" [] (spIsName K)) : FnOk P w K mg base (CXE P w) 2 f fd ["woods"] (spCheckWoods K CBadTray) := by
  have sc := sccheck_woods
  refine F.okE sc (fun vs H Q E h => ?_) (fun cdv A outer s H vs Q E hr F0 h => ?_)
  · obtain ⟨l, as, W, rfl, _⟩ := h; rfl
  · obtain ⟨tM, gMOST_WOODS⟩ := T.MOST_WOODS
    obtain ⟨tP, gMOST_PACKETS⟩ := T.MOST_PACKETS
    obtain ⟨l, as, W, rfl, hl, hW, hn, hz, k, kE⟩ := h
    refine ⟨_, (pss_cons (ps_if (pt_not (pt_chain op_le op_le pe_int (pe_callB (kc_len (K := K)) (by rfl) B.len PyProof.Rows.Boot.«len» (pa_cons (pv 0) pa_nil)) (pe_glob (v := .int 6) rfl gMOST_WOODS ⟨_, rfl⟩))) (pss_one (ps_raise F0 rfl rfl mBadTray qBadTray (pa_cons pe_str pa_nil))) pss_nil)
      (pss_cons (ps_if (pt_cmpR op_ne (pe_callB kc_lenZ (by rfl) B.len PyProof.Rows.Boot.«len» (pa_cons (pe_callTy (kc_setZ (K := K)) (by rfl) B.set PyProof.Rows.Boot.«set» (pa_cons (pe_lc (N' := ["name", "packets"]) (M := [none, none]) (lcSc_of (by rfl)) rfl (kpi_list (K := K) (pv 0)) (fun _ _ _ _ _ => kpg_tup (K := K) (n := 2) rfl (pgs_cons (pg_name (i := 0) (show (["name", "packets"] : List Str).Nodup by decide +kernel) rfl (Or.inl rfl) (.inr rfl)) (pgs_cons (pg_name (i := 1) (show (["name", "packets"] : List Str).Nodup by decide +kernel) rfl (Or.inl rfl) (.inr rfl)) pgs_nil))) frm_two (fun _ _ _ _ _ => pts_nil) (fun _ _ _ _ _ => (pv 0))) pa_nil)) pa_nil)) (pe_callB (kc_len (K := K)) (by rfl) B.len PyProof.Rows.Boot.«len» (pa_cons (pv 0) pa_nil)) (nomark _)) (pss_one (ps_raise F0 rfl rfl mBadTray qBadTray (pa_cons pe_str pa_nil))) pss_nil)
      (pss_one (ps_for PassesOwn.leaving rfl (kpi_list (K := K) (pv 0)) (pg_tup rfl (pgs_cons (pg_name (i := 1) sc.nd rfl (Or.inl rfl)) (pgs_cons (pg_name (i := 2) sc.nd rfl (Or.inl rfl)) pgs_nil)))
      (pss_cons (ps_if (pt_not (pt_val (pe_cal cis_name (hr.mono (by decide)) rfl (pa_cons (pv 1) pa_nil)))) (pss_one (ps_raise F0 rfl rfl mBadTray qBadTray (pa_cons pe_str pa_nil))) pss_nil)
      (pss_one (ps_if (pt_not (pt_chain op_le op_le pe_int (pv 2) (pe_glob (v := .int 99) rfl gMOST_PACKETS ⟨_, rfl⟩))) (pss_one (ps_raise F0 rfl rfl mBadTray qBadTray (pa_cons pe_str pa_nil))) pss_nil))))))), ?_⟩
    have hal : (as.map V.ref).length = W.length := by rw [List.length_map, hW.length]
    -- how many
    refine seq_ifN (b := !(decide (1 ≤ (W.length : Int)) && decide ((W.length : Int) ≤ 6))) (P := fun H' => H' = H) (fun N hN => chainI (x := (W.length : Int)) (H' := H) (fun Q' h' => ⟨_, rfl, l, _, rfl, .inl (SqL.of hl), by rw [hal]; exact h'⟩) (hN _ rfl)) (fun g H' e => ?_) (fun g H' e => ?_)
    · refine ⟨le_line (by simp), kE ?_ _ (by rw [e]; exact Same.refl _)⟩
      unfold woodsOk
      rw [show (decide (1 ≤ (W.length : Int)) && decide ((W.length : Int) ≤ 6)) = false from nT g]; rfl
    subst e
    have g1 : (decide (1 ≤ (W.length : Int)) && decide ((W.length : Int) ≤ 6)) = true := nF g
    -- no wood twice
    refine seq_ifN (b := !decide ((W.map (·.1)).Nodup)) (P := Same H') (fun N hN => ?_) (fun g H2 s2 => ?_) (fun g H2 s2 => ?_)
    · refine ⟨_, rfl, l, rfl, ⟨_, SqL.of hl⟩, lc_list (xs := as.map V.ref) (fun i ys H2 => H2 = H' ∧ ys = ((W.take i).map (·.1)).map V.str) (le_line (by omega)) ⟨rfl, rfl⟩
        (fun i ys H2 _ h => ⟨by rw [h.1]; exact SqL.of hl, by rw [h.2, List.length_map, List.length_map, List.length_take]; omega⟩) ?_ ?_⟩
      · rintro i y ys H2 hi ⟨rfl, rfl⟩
        obtain ⟨q, rfl, hq, hil⟩ := getRef hi
        obtain ⟨w, hw, hwi⟩ := paired_getM hW hq
        refine ⟨q, _, rfl, SqT.of hw, rfl, _, _, rfl, _, _, rfl, rfl, lcY ⟨_, rfl, rfl, ?_⟩⟩
        rw [map_take_snoc hwi]; exact str_snoc
      · rintro ys H2 ⟨rfl, rfl⟩ p hp
        rw [hal, List.take_length]
        refine ⟨p, _, rfl, SqL.of upd_same, by rw [List.length_map]; omega, fun q hq => ?_⟩
        refine ⟨q, _, rfl, upd_same, ?_⟩
        have sq := (Same.new (o := HO.lst ((W.map (·.1)).map V.str)) hp).new2 (o := zSet P w q (setS (W.map (·.1))).length) hq
        refine ⟨_, rfl, l, _, rfl, .inl (SqL.of (sq l _ hl)), rfl, _, rfl, ?_⟩
        rw [hal, dInt]
        have e : decide (((setS (W.map (·.1))).length : Int) = (W.length : Int)) = decide ((W.map (·.1)).Nodup) := by
          refine decide_eq_decide.mpr ?_
          rw [← (setS_len (W.map (·.1))).2, List.length_map]; omega
        rw [e]
        exact hN _ sq
    · refine ⟨le_line (by simp), kE ?_ _ s2⟩
      unfold woodsOk
      rw [show decide ((W.map (·.1)).Nodup) = false from nT g, Bool.and_false, Bool.false_and]
    have g2 : decide ((W.map (·.1)).Nodup) = true := nF g
    -- each wood
    refine ⟨_, rfl, l, rfl, ⟨_, SqL.of (s2 l _ hl)⟩, for_list (K := K) (a := l) (xs := as.map V.ref) (fun i σ H3 => ∃ o1 o2 : Option V, σ = [some (.ref l), o1, o2] ∧ Same H' H3 ∧ ∀ w ∈ W.take i, isNm w.1 = true ∧ 0 ≤ w.2 ∧ w.2 ≤ 99)
      ⟨none, none, rfl, s2, fun w h => by simp at h⟩ (fun i σ H3 _ ⟨_, _, _, s3, _⟩ => SqL.of (s3 l _ hl)) ?_ ?_⟩
    · rintro i y σ H3 hi ⟨o1, o2, rfl, s3, hk⟩
      obtain ⟨q, rfl, hq, hil⟩ := getRef hi
      obtain ⟨w, hw, hwi⟩ := paired_getM hW hq
      have hwm := List.mem_of_getElem? hwi
      have bad : ¬ (isNm w.1 = true ∧ 0 ≤ w.2 ∧ w.2 ≤ 99) → woodsOk W = false := fun h => by
        cases e : woodsOk W with
        | false => rfl
        | true => exact absurd ((woodsOk_iff.mp e).2.2 w hwm) h
      refine ⟨q, _, rfl, SqT.of (s3 q _ hw), rfl, _, _, rfl, _, _, rfl, rfl, ?_⟩
      refine seq_ifN (b := !isNm w.1) (P := Same H3) (fun N hN => ⟨_, rfl, w.1, rfl, hz w hwm, fun H4 s4 => ⟨_, rfl, hN H4 s4⟩⟩) (fun g H4 s4 => ?_) (fun g H4 s4 => ?_)
      · exact ⟨le_line (by simp), kE (bad fun h => by rw [h.1] at g; simp at g) _ (s3.trans s4)⟩
      have g3 : isNm w.1 = true := nF g
      refine if_N (b := !(decide (0 ≤ w.2) && decide (w.2 ≤ 99))) (P := fun H5 => H5 = H4) (fun N hN => chainI (x := w.2) (H' := H4) (fun Q' h' => ⟨_, rfl, h'⟩) (hN _ rfl)) (fun g H5 e => ?_) (fun g H5 e => ?_)
      · exact ⟨le_line (by simp), kE (bad fun h => by rw [decide_eq_true h.2.1, decide_eq_true h.2.2] at g; simp at g) _ (by rw [e]; exact s3.trans s4)⟩
      rw [e]
      refine ⟨_, _, rfl, s3.trans s4, fun v hv => ?_⟩
      rw [take_snoc hwi, List.mem_append, List.mem_singleton] at hv
      rcases hv with hv | rfl
      · exact hk v hv
      · exact ⟨g3, by simpa using g⟩
    · rintro σ H3 ⟨o1, o2, rfl, s3, hk⟩
      rw [hal, List.take_length] at hk
      refine k (woodsOk_iff.mpr ⟨?_, by simpa using g2, hk⟩) _ s3
      rw [Bool.and_eq_true, decide_eq_true_iff, decide_eq_true_iff] at g1
      omega
theorem scTray___init__ : FnScope (["self", "woods"]) (["self", "woods"]) (defScope sTray___init__) := ⟨rfl, rfl, rfl, by decide +kernel, rfl, by decide +kernel, by decide +kernel⟩
set_option maxHeartbeats 4000000 in
theorem okTray___init__ {f : Addr} {fd : FuncData} (F : Fun K "__init__" "Tray.__init__" sTray___init__ f fd) (B : Bs mg) (T : Gs mg) (clTray : Cls K CTray) (nTray_stock : NoAttr K CTray "stock") (ccheck_woods : CalE P w K mg base 2 "check_woods" [] (spCheckWoods K CBadTray)) : FnOk P w K mg base (CXE P w) 3 f fd ["self", "woods"] (spInit K CTray CBadTray) := by
  have sc := scTray___init__
  refine F.okE sc (fun vs H Q E h => ?_) (fun cdv A outer s H vs Q E hr F0 h => ?_)
  · obtain ⟨p, dx, l, as, W, rfl, _⟩ := h; rfl
  · obtain ⟨p, dx, l, as, W, rfl, hp, hl, hW, hn, hz, k, kE⟩ := h
    refine ⟨_, (pss_cons (ps_expr (pe_calE ccheck_woods (hr.mono (by decide)) rfl (pass_fn F0) (pa_cons (pv 1) pa_nil)))
      (pss_one (ps_fld (pv 0) (pe_callTy (kc_list (K := K)) (by rfl) B.list PyProof.Rows.Boot.«list» (pa_cons (pv 1) pa_nil)) rfl))), ?_⟩
    refine ⟨_, rfl, l, as, W, rfl, hl, hW, hn, hz, fun ok H1 s1 => ?_, kE⟩
    have hl1 := s1 l _ hl
    have hp1 := s1 p _ hp
    refine ⟨_, rfl, l, _, rfl, .inl (SqL.of hl1), fun q hq => ?_⟩
    have hpq : p ≠ q := ne_of_none hp1 hq
    refine ⟨_, rfl, p, CTray, dx, [], rfl, by rw [upd_ne hpq]; exact hp1, clTray, nTray_stock, by decide, ?_⟩
    refine k ok q _ (s1.free hq) (by rw [upd_ne hpq.symm, upd_same]) upd_same fun b o e hb => ?_
    rw [upd_ne hb, upd_ne (ne_of_none (s1 b o e) hq)]
    exact s1 b o e
theorem scSeat___init__ : FnScope (["self", "earned", "notes", "sheet"]) (["self", "earned", "notes", "sheet"]) (defScope sSeat___init__) := ⟨rfl, rfl, rfl, by decide +kernel, rfl, by decide +kernel, by decide +kernel⟩
set_option maxHeartbeats 4000000 in
theorem okSeat___init__ {f : Addr} {fd : FuncData} (F : Fun K "__init__" "Seat.__init__" sSeat___init__ f fd) (B : Bs mg) (T : Gs mg) (clSeat : Cls K CSeat) (nSeat_earned : NoAttr K CSeat "earned") (nSeat_notes : NoAttr K CSeat "notes") (nSeat_sheet : NoAttr K CSeat "sheet")  : FnOk P w K mg base CX0 1 f fd ["self", "earned", "notes", "sheet"] (spSeatI K CSeat) := by
  have sc := scSeat___init__
  refine F.ok sc (fun vs H Q E h => ?_) (fun cdv A outer s H vs Q E hr h => ?_)
  · obtain ⟨p, dx, rfl, _⟩ := h; rfl
  · obtain ⟨p, dx, rfl, hp, k⟩ := h
    refine ⟨_, (pss_cons (ps_fld (pv 0) (pv 1) rfl)
      (pss_cons (ps_fld (pv 0) (pv 2) rfl)
      (pss_one (ps_fld (pv 0) (pv 3) rfl)))), ?_⟩
    refine ⟨_, rfl, _, rfl, p, CSeat, dx, [], rfl, hp, clSeat, nSeat_earned, by decide, ?_⟩
    refine ⟨_, rfl, _, rfl, p, CSeat, dx, _, rfl, upd_same, clSeat, nSeat_notes, by decide, ?_⟩
    refine ⟨_, rfl, _, rfl, p, CSeat, dx, _, rfl, upd_same, clSeat, nSeat_sheet, by decide, ?_⟩
    exact k _ (by rw [upd_same]; rfl) (fun b o e hb => by rw [upd_ne hb, upd_ne hb, upd_ne hb]; exact e)
theorem scRoom___init__ : FnScope (["self", "tray"]) (["self", "tray"]) (defScope sRoom___init__) := ⟨rfl, rfl, rfl, by decide +kernel, rfl, by decide +kernel, by decide +kernel⟩
set_option maxHeartbeats 4000000 in
theorem okRoom___init__ {f : Addr} {fd : FuncData} (F : Fun K "__init__" "Room.__init__" sRoom___init__ f fd) (B : Bs mg) (T : Gs mg) (clRoom : Cls K CRoom) (nRoom_store : NoAttr K CRoom "store") (nRoom_seats : NoAttr K CRoom "seats") (nRoom_ring_size : NoAttr K CRoom "ring_size") (nRoom_lifted : NoAttr K CRoom "lifted") (nRoom_past : NoAttr K CRoom "past")  : FnOk P w K mg base CX0 1 f fd ["self", "tray"] (spRoomI K CRoom) := by
  have sc := scRoom___init__
  refine F.ok sc (fun vs H Q E h => ?_) (fun cdv A outer s H vs Q E hr h => ?_)
  · obtain ⟨p, dx, st, rfl, _⟩ := h; rfl
  · obtain ⟨p, dx, st, rfl, hp, k⟩ := h
    refine ⟨_, (pss_cons (ps_fld (pv 0) (pv 1) rfl)
      (pss_cons (ps_fld (pv 0) pe_dnewK rfl)
      (pss_cons (ps_fld (pv 0) pe_non rfl)
      (pss_cons (ps_fld (pv 0) (pe_lst pa_nil) rfl)
      (pss_one (ps_fld (pv 0) (pe_lst pa_nil) rfl)))))), ?_⟩
    refine ⟨_, rfl, _, rfl, p, CRoom, dx, [], rfl, hp, clRoom, nRoom_store, by decide, ?_⟩
    intro d hd
    have hpd : p ≠ d := fun z => by rw [← z, upd_same] at hd; cases hd
    refine ⟨_, rfl, p, CRoom, dx, _, rfl, by rw [upd_ne hpd]; exact upd_same, clRoom, nRoom_seats, Nat.le_of_ble_eq_true rfl, ?_⟩
    refine ⟨_, rfl, p, CRoom, dx, _, rfl, upd_same, clRoom, nRoom_ring_size, Nat.le_of_ble_eq_true rfl, ?_⟩
    refine ⟨le_line (by simp), fun lf hlf => ?_⟩
    have hpl : p ≠ lf := fun z => by rw [← z, upd_same] at hlf; cases hlf
    have hdl : d ≠ lf := fun z => by rw [← z, upd_ne hpd.symm, upd_ne hpd.symm, upd_same] at hlf; cases hlf
    refine ⟨_, rfl, p, CRoom, dx, _, rfl, by rw [upd_ne hpl]; exact upd_same, clRoom, nRoom_lifted, Nat.le_of_ble_eq_true rfl, ?_⟩
    refine ⟨le_line (by simp), fun ps hps => ?_⟩
    have hpp : p ≠ ps := fun z => by rw [← z, upd_same] at hps; cases hps
    have hdp : d ≠ ps := fun z => by rw [← z, upd_ne hpd.symm, upd_ne hdl, upd_ne hpd.symm, upd_ne hpd.symm, upd_same] at hps; cases hps
    refine ⟨_, rfl, p, CRoom, dx, _, rfl, by rw [upd_ne hpp]; exact upd_same, clRoom, nRoom_past, Nat.le_of_ble_eq_true rfl, ?_⟩
    have hdn : H d = none := by rw [upd_ne hpd.symm] at hd; exact hd
    have hln : H lf = none := by rw [upd_ne hpl.symm, upd_ne hpl.symm, upd_ne hdl.symm, upd_ne hpl.symm] at hlf; exact hlf
    refine k d lf ps _ hdn ?_ (by rw [upd_same]; rfl) (fun b o e hb => ?_)
    · rw [upd_ne hpd.symm, upd_ne hdp, upd_ne hpd.symm, upd_ne hdl, upd_ne hpd.symm, upd_ne hpd.symm, upd_same]
    · have h1 : b ≠ d := fun z => by rw [z, hdn] at e; cases e
      have h2 : b ≠ lf := fun z => by rw [z, hln] at e; cases e
      have h3 : b ≠ ps := fun z => by
        rw [← z, upd_ne hb, upd_ne h2, upd_ne hb, upd_ne hb, upd_ne h1, upd_ne hb, e] at hps; cases hps
      rw [upd_ne hb, upd_ne h3, upd_ne hb, upd_ne h2, upd_ne hb, upd_ne hb, upd_ne h1, upd_ne hb]; exact e
theorem scRoom_seat : FnScope (["self", "name"]) (["self", "name"]) (defScope sRoom_seat) := ⟨rfl, rfl, rfl, by decide +kernel, rfl, by decide +kernel, by decide +kernel⟩
set_option maxHeartbeats 4000000 in
theorem okRoom_seat {f : Addr} {fd : FuncData} (F : Fun K "seat" "Room.seat" sRoom_seat f fd) (B : Bs mg) (T : Gs mg) (mNoListener : mg "NoListener" = some (.ref CNoListener)) (qNoListener : PySem.W.excIn K CNoListener bmV "ValueError.__new__" = true) (clRoom : Cls K CRoom) (nRoom_seats : NoAttr K CRoom "seats")  : FnOk P w K mg base (CXE P w) 1 f fd ["self", "name"] (spSeat K CRoom CSeat CNoListener) := by
  have sc := scRoom_seat
  refine F.okE sc (fun vs H Q E h => ?_) (fun cdv A outer s H vs Q E hr F0 h => ?_)
  · obtain ⟨p, d, P, z, rfl, _⟩ := h; rfl
  · obtain ⟨p, d, P, z, rfl, hR, k, kE⟩ := h
    refine ⟨_, (pss_cons (ps_if (pt_cmp (pc_dnotin (hu_of hr) (pv 1) (pe_fld (pv 0) rfl))) (pss_one (ps_raise F0 rfl rfl mNoListener qNoListener (pa_cons pe_str pa_nil))) pss_nil)
      (pss_one (ps_ret (pe_dget (hu_of hr) (pe_fld (pv 0) rfl) (pv 1) (fun _ _ => rfl))))), ?_⟩
    obtain ⟨dx, st, lf, ps, ho⟩ := hR.ob
    obtain ⟨sa, hd, hl, hs⟩ := hR.ds
    refine seq_ifN (b := !decide (z ∈ P)) (P := fun H1 => H1 = H) (fun N hN => ⟨_, rfl, _, rfl, p, CRoom, dx, _, _, rfl, ho, clRoom, nRoom_seats, roomF_seats st d lf ps, d, _, rfl, DGet.k (k := .inr z) hd, _, rfl, by rw [seat_isSome hl]; exact hN _ rfl⟩) (fun g H1 e => ?_) (fun g H1 e => ?_)
    · subst e
      exact ⟨le_line (by simp), kE (of_decide_eq_false (nT g)) _ (Same.refl _)⟩
    · subst e
      have hz : z ∈ P := of_decide_eq_true (nF g)
      obtain ⟨a, ha, hv⟩ := seat_some hl hz
      obtain ⟨dxa, hsa⟩ := hs a ha
      exact ⟨_, rfl, p, CRoom, dx, _, _, rfl, ho, clRoom, nRoom_seats, roomF_seats st d lf ps, _, rfl, d, .ref a, rfl, by rw [← hv]; exact DGet.k (k := .inr z) hd, k hz a dxa hsa⟩
theorem scRoom_fresh_notes : FnScope (["self"]) (["self"]) (defScope sRoom_fresh_notes) := ⟨rfl, rfl, rfl, by decide +kernel, rfl, by decide +kernel, by decide +kernel⟩
set_option maxHeartbeats 4000000 in
theorem okRoom_fresh_notes {f : Addr} {fd : FuncData} (F : Fun K "fresh_notes" "Room.fresh_notes" sRoom_fresh_notes f fd) (B : Bs mg) (T : Gs mg) (clRoom : Cls K CRoom) (nRoom_ring_size : NoAttr K CRoom "ring_size")  : FnOk P w K mg base CX0 1 f fd ["self"] (spFresh K CRoom CSeat) := by
  have sc := scRoom_fresh_notes
  refine F.ok sc (fun vs H Q E h => ?_) (fun cdv A outer s H vs Q E hr h => ?_)
  · obtain ⟨p, d, P, rfl, _⟩ := h; rfl
  · obtain ⟨p, d, P, rfl, hR, k⟩ := h
    refine ⟨_, (pss_one (ps_ret (pe_ifExp (pt_cmpR op_isN (pe_fld (pv 0) rfl) pe_non (nomark _)) pe_non pe_never))), ?_⟩
    obtain ⟨dx, st, lf, ps, ho⟩ := hR.ob
    refine ⟨_, rfl, p, CRoom, dx, _, _, rfl, ho, clRoom, nRoom_ring_size, roomF_ring st d lf ps, rfl, _, rfl, ?_⟩
    dsimp only
    rw [if_pos (decide_eq_true rfl)]; exact k
theorem scRoom_come : FnScope (["self", "name"]) (["self", "name"]) (defScope sRoom_come) := ⟨rfl, rfl, rfl, by decide +kernel, rfl, by decide +kernel, by decide +kernel⟩
set_option maxHeartbeats 4000000 in
theorem okRoom_come {f : Addr} {fd : FuncData} (F : Fun K "come" "Room.come" sRoom_come f fd) (B : Bs mg) (T : Gs mg) (mBadName : mg "BadName" = some (.ref CBadName)) (qBadName : PySem.W.excIn K CBadName bmV "ValueError.__new__" = true) (mTaken : mg "Taken" = some (.ref CTaken)) (qTaken : PySem.W.excIn K CTaken bmV "ValueError.__new__" = true) (mFull : mg "Full" = some (.ref CFull)) (qFull : PySem.W.excIn K CFull bmV "ValueError.__new__" = true) (clRoom : Cls K CRoom) (nRoom_seats : NoAttr K CRoom "seats") (cRoom_fresh_notes : CalM P w K mg base CRoom 1 "fresh_notes" (spFresh K CRoom CSeat)) (kSeat : CalK P w K mg base CSeat 1 "Seat" (spSeatI K CSeat)) (cis_name : Cal P w K mg base 1 "is_name" [] (spIsName K)) : FnOk P w K mg base (CXE P w) 3 f fd ["self", "name"] (spCome K CRoom CSeat CBadName CTaken CFull) := by
  have sc := scRoom_come
  refine F.okE sc (fun vs H Q E h => ?_) (fun cdv A outer s H vs Q E hr F0 h => ?_)
  · obtain ⟨p, d, P, z, rfl, _⟩ := h; rfl
  · obtain ⟨tM, gMOST_LISTENERS⟩ := T.MOST_LISTENERS
    obtain ⟨p, d, P, z, rfl, hR, hz, k1, k2, k3, k⟩ := h
    refine ⟨_, (pss_cons (ps_if (pt_not (pt_val (pe_cal cis_name (hr.mono (by decide)) rfl (pa_cons (pv 1) pa_nil)))) (pss_one (ps_raise F0 rfl rfl mBadName qBadName (pa_cons pe_str pa_nil))) pss_nil)
      (pss_cons (ps_if (pt_cmp (pc_din (hu_of hr) (pv 1) (pe_fld (pv 0) rfl))) (pss_one (ps_raise F0 rfl rfl mTaken qTaken (pa_cons pe_str pa_nil))) pss_nil)
      (pss_cons (ps_if (pt_cmpR op_eq (pe_callB call_lenD (by rfl) B.len PyProof.Rows.Boot.«len» (pa_cons (pe_fld (pv 0) rfl) pa_nil)) (pe_glob (v := .int 9) rfl gMOST_LISTENERS ⟨_, rfl⟩) (nomark _)) (pss_one (ps_raise F0 rfl rfl mFull qFull (pa_cons pe_str pa_nil))) pss_nil)
      (pss_one (ps_dput (hu_of hr) (pe_fld (pv 0) rfl) (pv 1) (pe_calK kSeat (hr.mono (by decide)) rfl (pa_cons pe_int (pa_cons (pe_calM0 cRoom_fresh_notes clRoom (hr.mono (by decide)) (pv 0)) (pa_cons pe_non pa_nil)))) rfl))))), ?_⟩
    obtain ⟨dx, st, lf, ps, ho⟩ := hR.ob
    obtain ⟨sa, hd, hl, hs⟩ := hR.ds
    refine seq_ifN (b := !isNm z) (P := Same H) (fun N hN => ⟨_, rfl, z, rfl, hz, fun H1 s1 => ⟨_, rfl, hN _ s1⟩⟩) (fun g H1 s1 => ⟨le_line (by simp), k1 (nT g) H1 s1⟩) (fun g H1 s1 => ?_)
    have gn := nF g
    have ho1 := s1 _ _ ho
    have hd1 := s1 _ _ hd
    have hR1 := hR.same s1
    refine seq_ifN (b := decide (z ∈ P)) (P := fun H2 => H2 = H1) (fun N hN => ⟨_, rfl, _, rfl, p, CRoom, dx, _, _, rfl, ho1, clRoom, nRoom_seats, roomF_seats st d lf ps, d, _, rfl, DGet.k (k := .inr z) hd1, _, rfl, by rw [seat_isSome hl]; exact hN _ rfl⟩) (fun g H2 e => ⟨le_line (by simp), k2 gn (of_decide_eq_true g) _ (by rw [e]; exact s1)⟩) (fun g H2 e => ?_)
    subst e
    have gz : z ∉ P := of_decide_eq_false g
    refine seq_ifN (b := decide (P.length = 9)) (P := fun H3 => H3 = H2) (fun N hN => ⟨_, rfl, p, CRoom, dx, _, _, rfl, ho1, clRoom, nRoom_seats, roomF_seats st d lf ps, d, _, rfl, hd1, rfl, _, rfl, ?_⟩) (fun g H3 e => ⟨le_line (by simp), k3 gn gz (of_decide_eq_true g) _ (by rw [e]; exact s1)⟩) (fun g H3 e => ?_)
    · rw [dInt, seat_len hl, show decide ((P.length : Int) = 9) = decide (P.length = 9) from decide_eq_decide.mpr (by omega)]
      exact hN _ rfl
    subst e
    have g9 : P.length < 9 := by have := of_decide_eq_false g; have := hR.n9; omega
    refine ⟨_, rfl, p, dx, _, rfl, ho1, roomF_fresh st d lf ps, p, d, P, rfl, hR1, fun a dxa ha hdxa hne => ⟨a, dxa, rfl, upd_same, fun H4 e4 f4 => ⟨rfl, ?_⟩⟩⟩
    have keep : ∀ b o, H3 b = some o → H4 b = some o := fun b o e => by
      have h1 : b ≠ a := fun z => by rw [z, ha] at e; cases e
      have h2 : b ≠ dxa := fun z => by rw [z, hdxa] at e; cases e
      exact f4 b o (by rw [upd_ne h1, upd_ne h2]; exact e) h1
    refine ⟨_, rfl, p, CRoom, dx, _, _, rfl, keep _ _ ho1, clRoom, nRoom_seats, roomF_seats st d lf ps, _, rfl, d, _, rfl, DPut.k (k := .inr z) (keep _ _ hd1) (lt_line (by rw [seat_len hl]; omega)), ?_⟩
    refine k gn gz g9 _ ((FrL.of (s1.trans keep)).put (by simp)) ?_
    have hne2 : ∀ {C dx : Addr} {fs : List (Str × V)} {b : Addr}, H4 b = some (.ins C dx fs) → b ≠ d := fun {C dx fs b} e z => by rw [z, keep _ _ hd1] at e; cases e
    refine ⟨⟨dx, st, lf, ps, by rw [upd_ne (hne2 (keep _ _ ho1))]; exact keep _ _ ho1⟩, ⟨sa ++ [a], by rw [upd_same, seat_put hl gz], by simp [hl], fun b hb => ?_⟩, nd_snoc hR.nd gz, by simp; omega⟩
    rcases List.mem_append.mp hb with hb | hb
    · obtain ⟨dxb, e⟩ := hs b hb
      exact ⟨dxb, by rw [upd_ne (hne2 (keep _ _ (s1 _ _ e)))]; exact keep _ _ (s1 _ _ e)⟩
    · rw [List.mem_singleton.mp hb]
      exact ⟨dxa, by rw [upd_ne (hne2 e4)]; exact e4⟩
theorem scRoom_leave : FnScope (["self", "name"]) (["self", "name"]) (defScope sRoom_leave) := ⟨rfl, rfl, rfl, by decide +kernel, rfl, by decide +kernel, by decide +kernel⟩
set_option maxHeartbeats 4000000 in
theorem okRoom_leave {f : Addr} {fd : FuncData} (F : Fun K "leave" "Room.leave" sRoom_leave f fd) (B : Bs mg) (T : Gs mg) (clRoom : Cls K CRoom) (nRoom_seats : NoAttr K CRoom "seats") (cRoom_seat : CalME P w K mg base CRoom 1 "seat" (spSeat K CRoom CSeat CNoListener)) : FnOk P w K mg base (CXE P w) 2 f fd ["self", "name"] (spLeave K CRoom CSeat CNoListener) := by
  have sc := scRoom_leave
  refine F.okE sc (fun vs H Q E h => ?_) (fun cdv A outer s H vs Q E hr F0 h => ?_)
  · obtain ⟨p, d, P, z, rfl, _⟩ := h; rfl
  · obtain ⟨p, d, P, z, rfl, hR, k, kE⟩ := h
    refine ⟨_, (pss_cons (ps_expr (pe_calME cRoom_seat clRoom (hr.mono (by decide)) (pass_fn F0) (pv 0) (pa_cons (pv 1) pa_nil)))
      (pss_one (ps_expr (pe_dpop1 (pe_fld (pv 0) rfl) (pv 1) ⟨rfl, rfl, rfl, rfl⟩)))), ?_⟩
    obtain ⟨dx, st, lf, ps, ho⟩ := hR.ob
    obtain ⟨sa, hd, hl, hs⟩ := hR.ds
    refine ⟨_, rfl, p, dx, _, rfl, ho, roomF_seat st d lf ps, _, rfl, p, d, P, z, rfl, hR, fun hz a0 dx0 _ => ?_, kE⟩
    obtain ⟨a, ha, hv⟩ := seat_some hl hz
    refine ⟨_, rfl, p, CRoom, dx, _, _, rfl, ho, clRoom, nRoom_seats, roomF_seats st d lf ps, d, rfl, .inl ⟨_, .inl hd⟩, _, rfl, _, .inr z, _, hd, rfl, hv, ?_⟩
    have hne2 : ∀ {C dx : Addr} {fs : List (Str × V)} {b : Addr}, H b = some (.ins C dx fs) → b ≠ d := fun {C dx fs b} e z => by rw [z, hd] at e; cases e
    refine k hz _ ((FrL.of (Same.refl _)).put (by simp)) ⟨⟨dx, st, lf, ps, by rw [upd_ne (hne2 ho)]; exact ho⟩, ⟨sa.eraseIdx (P.idxOf z), by rw [upd_same, seat_drop hl hR.nd hz], ?_, fun b hb => ?_⟩, remP_nd hR.nd, Nat.le_trans remP_len hR.n9⟩
    · unfold remP
      rw [List.length_eraseIdx, List.length_eraseIdx, hl]
    · obtain ⟨dxb, e⟩ := hs b ((List.eraseIdx_sublist _ _).subset hb)
      exact ⟨dxb, by rw [upd_ne (hne2 e)]; exact e⟩
theorem scRoom_listeners : FnScope (["self"]) (["self"]) (defScope sRoom_listeners) := ⟨rfl, rfl, rfl, by decide +kernel, rfl, by decide +kernel, by decide +kernel⟩
set_option maxHeartbeats 4000000 in
theorem okRoom_listeners {f : Addr} {fd : FuncData} (F : Fun K "listeners" "Room.listeners" sRoom_listeners f fd) (B : Bs mg) (T : Gs mg) (clRoom : Cls K CRoom) (nRoom_seats : NoAttr K CRoom "seats")  : FnOk P w K mg base CX0 1 f fd ["self"] (spListeners K CRoom CSeat) := by
  have sc := scRoom_listeners
  refine F.ok sc (fun vs H Q E h => ?_) (fun cdv A outer s H vs Q E hr h => ?_)
  · obtain ⟨p, d, P, rfl, _⟩ := h; rfl
  · obtain ⟨p, d, P, rfl, hR, k⟩ := h
    refine ⟨_, (pss_one (ps_ret (pe_callTy call_listD (by rfl) B.list PyProof.Rows.Boot.«list» (pa_cons (pe_fld (pv 0) rfl) pa_nil)))), ?_⟩
    obtain ⟨dx, st, lf, ps, ho⟩ := hR.ob
    obtain ⟨sa, hd, hl, hs⟩ := hR.ds
    exact ⟨_, rfl, p, CRoom, dx, _, _, rfl, ho, clRoom, nRoom_seats, roomF_seats st d lf ps, d, _, rfl, hd, fun l hln => k l _ hln (Same.new hln) (by rw [upd_same, seatKv_strs hl])⟩
theorem scRoom_points : FnScope (["self", "name"]) (["self", "name"]) (defScope sRoom_points) := ⟨rfl, rfl, rfl, by decide +kernel, rfl, by decide +kernel, by decide +kernel⟩
set_option maxHeartbeats 4000000 in
theorem okRoom_points {f : Addr} {fd : FuncData} (F : Fun K "points" "Room.points" sRoom_points f fd) (B : Bs mg) (T : Gs mg) (clSeat : Cls K CSeat) (nSeat_earned : NoAttr K CSeat "earned") (clRoom : Cls K CRoom) (cRoom_seat : CalME P w K mg base CRoom 1 "seat" (spSeat K CRoom CSeat CNoListener)) : FnOk P w K mg base (CXE P w) 2 f fd ["self", "name"] (spPoints K CRoom CSeat CNoListener) := by
  have sc := scRoom_points
  refine F.okE sc (fun vs H Q E h => ?_) (fun cdv A outer s H vs Q E hr F0 h => ?_)
  · obtain ⟨p, d, P, z, rfl, _⟩ := h; rfl
  · obtain ⟨p, d, P, z, rfl, hR, k, kE⟩ := h
    refine ⟨_, (pss_one (ps_ret (pe_fld (pe_calME cRoom_seat clRoom (hr.mono (by decide)) (pass_fn F0) (pv 0) (pa_cons (pv 1) pa_nil)) rfl))), ?_⟩
    obtain ⟨dx, st, lf, ps, ho⟩ := hR.ob
    refine ⟨_, rfl, p, dx, _, rfl, ho, roomF_seat st d lf ps, _, rfl, p, d, P, z, rfl, hR, fun hz a dxa ha => ?_, kE⟩
    exact ⟨a, CSeat, dxa, _, _, rfl, ha, clSeat, nSeat_earned, seatF_earned, k hz⟩
theorem scRoom_standings : FnScope (["self"]) (["self"]) (defScope sRoom_standings) := ⟨rfl, rfl, rfl, by decide +kernel, rfl, by decide +kernel, by decide +kernel⟩
set_option maxHeartbeats 4000000 in
theorem okRoom_standings {f : Addr} {fd : FuncData} (F : Fun K "standings" "Room.standings" sRoom_standings f fd) (hfc9 : fd.code = .ref CTRoom_standings) (hC9 : PySem.W.CodeHd base CTRoom_standings PTRoom_standings) (bm9 : BmAt mg base) (B : Bs mg) (T : Gs mg) (clSeat : Cls K CSeat) (nSeat_earned : NoAttr K CSeat "earned") (clRoom : Cls K CRoom) (nRoom_seats : NoAttr K CRoom "seats")  : FnOk P w K mg base CX0 4 f fd ["self"] (spStandings K CRoom CSeat PTRoom_standings) := by
  have sc := scRoom_standings
  refine F.okC hfc9 sc (fun vs H Q E h => ?_) (fun cdv hcd9 A outer s H vs Q E hr h => ?_)
  · obtain ⟨p, d, P, rfl, _⟩ := h; rfl
  · subst hcd9
    obtain ⟨p, d, P, rfl, hR, hTab, k⟩ := h
    refine ⟨_, (pss_one (ps_ret (pe_sortL (x := "pair") (fr := []) (ix := []) hr (by rfl) B.sorted rfl rfl rfl hC9 bm9 (by exact ⟨rfl, rfl, rfl, rfl, by decide +kernel, by decide +kernel, (fun _ h => nomatch h), (fun _ h => nomatch h), (fun _ h => nomatch h), .nil, fun _ _ _ _ _ => rfl⟩) (fun _ _ _ _ => (pe_un un_neg (pe_ix (kix_tup (K := K)) (pv 0) pe_int (fun _ _ => rfl)))) (pa_cons (pe_thaw (pe_lc (N' := ["name", "seat"]) (M := [none, none]) (lcSc_of (by rfl)) rfl (pi_itemsK (pe_fld (pv 0) rfl)) (fun _ _ _ _ _ => kpg_tup (K := K) (n := 2) rfl (pgs_cons (pg_name (i := 0) (show (["name", "seat"] : List Str).Nodup by decide +kernel) rfl (Or.inl rfl) (.inr rfl)) (pgs_cons (pg_name (i := 1) (show (["name", "seat"] : List Str).Nodup by decide +kernel) rfl (Or.inl rfl) (.inr rfl)) pgs_nil))) frm_two (fun _ _ _ _ _ => pts_nil) (fun _ _ _ _ _ => (pe_tup (pa_cons (pv 0) (pa_cons (kpe_fld (K := K) (pv 1) rfl) pa_nil)))))) pa_nil)))), ?_⟩
    obtain ⟨dx, st, lf, ps, ho⟩ := hR.ob
    obtain ⟨sa, hd, hl, hs⟩ := hR.ds
    have hkl := seat_len hl
    have h9 := hR.n9
    refine ⟨d, _, hd, _, rfl, p, CRoom, dx, _, _, rfl, ho, clRoom, nRoom_seats, roomF_seats st d lf ps, d, _, rfl, hd, fun o => ?_⟩
    have fz : ∀ b u, H b = some u → b ≠ d → upd H d (.frz o (.dK (seatKv P sa))) b = some u := fun b u e n => by rw [upd_ne n]; exact e
    refine lc_itemsK (kvs := seatKv P sa) (fun i ys H2 => H2 d = some (.frz o (.dK (seatKv P sa))) ∧ (∀ b u, H b = some u → b ≠ d → H2 b = some u) ∧ ∃ as : List Addr, ys = as.map V.ref ∧ WAt H2 as ((P.take i).map fun z => (z, 0)) ∧ ∀ a ∈ as, H a = none) (le_line (by omega)) ⟨upd_same, fz, [], rfl, .nil, fun _ h => by simp at h⟩ ?_ ?_ ?_
    · rintro i ys H2 hi ⟨h1, h2, as, rfl, h3, _⟩
      refine ⟨h1, ?_⟩
      have := h3.length
      rw [List.length_map, List.length_take] at this
      rw [List.length_map]; omega
    · rintro i k0 v0 ys H2 T0 hi ⟨h1, h2, as, rfl, h3, h4⟩ hT0
      obtain ⟨z, a, hz, ha, rfl, rfl⟩ := seatKv_at hi
      obtain ⟨dxa, hsa⟩ := hs a (List.mem_of_getElem? ha)
      have hsad : a ≠ d := fun e => by rw [e, hd] at hsa; cases hsa
      have hTd : d ≠ T0 := fun e => by rw [← e, h1] at hT0; cases hT0
      have hsa2 := h2 _ _ hsa hsad
      refine ⟨T0, _, rfl, SqT.of upd_same, rfl, _, _, rfl, _, _, rfl, rfl, lcY ⟨_, rfl, _, rfl, a, CSeat, dxa, _, _, rfl, Same.new hT0 _ _ hsa2, clSeat, nSeat_earned, seatF_earned, le_line (by simp), fun u hu => ?_⟩⟩
      have s3 := (Same.new (o := HO.tup [kV (.inr z), .ref a]) hT0).new2 (o := HO.tup [V.str z, V.int 0]) hu
      refine ⟨s3 _ _ h1, fun b w e n => s3 _ _ (h2 b w e n), as ++ [u], by rw [List.map_append]; rfl, ?_, fun b hb => ?_⟩
      · rw [take_snoc hz, List.map_append]
        exact Paired.snoc (h3.same s3) (by rw [upd_same]; rfl)
      · rcases List.mem_append.mp hb with hb | hb
        · exact h4 b hb
        · rw [List.mem_singleton.mp hb]
          cases e : H u with
          | none => rfl
          | some w =>
            by_cases hud : u = d
            · rw [hud, (Same.new (o := HO.tup [kV (.inr z), .ref a]) hT0) _ _ h1] at hu; cases hu
            · rw [(Same.new (o := HO.tup [kV (.inr z), .ref a]) hT0) _ _ (h2 u w e hud)] at hu; cases hu
    rintro ys H2 ⟨h1, h2, as, rfl, h3, h4⟩ r hr
    rw [hkl, List.take_length] at h3
    have hdr : d ≠ r := fun e => by rw [← e, h1] at hr; cases hr
    refine ⟨o, by rw [upd_ne hdr]; exact h1, ?_⟩
    have hrH : H r = none := by
      cases e : H r with
      | none => rfl
      | some w => rw [h2 r w e hdr.symm] at hr; cases hr
    -- the dict as it was
    have s4 : Same H (upd (upd H2 r (HO.lst (as.map V.ref))) d (.dK (seatKv P sa))) := fun b w e => by
      by_cases hb : b = d
      · subst hb; rw [upd_same, ← e, hd]
      · rw [upd_ne hb, upd_ne (fun z => by rw [z, hrH] at e; cases e)]; exact h2 b w e hb
    have hA4 : WAt (upd (upd H2 r (HO.lst (as.map V.ref))) d (.dK (seatKv P sa))) as (P.map fun z => (z, 0)) := L2.Paired.mapP h3 fun b w e => by
      have e1 : b ≠ r := fun z => by rw [z, hr] at e; cases e
      have e2 : b ≠ d := fun z => by rw [z, h1] at e; cases e
      rw [upd_ne e2, upd_ne e1]; exact e
    have hr4 : upd (upd H2 r (HO.lst (as.map V.ref))) d (.dK (seatKv P sa)) r = some (.lst (as.map V.ref)) := by rw [upd_ne hdr.symm, upd_same]
    generalize upd (upd H2 r (HO.lst (as.map V.ref))) d (.dK (seatKv P sa)) = H4 at s4 hA4 hr4
    have hal := hA4.length
    rw [List.length_map] at hal
    have hTab4 := hTab.same s4
    have ntup : ∀ (w : Str × Int) ps, wT w ≠ .tbl ps := fun w ps z => by cases z
    have hA5 : WAt (hole H4 PTRoom_standings) as (P.map fun z => (z, 0)) := L2.Paired.mapP hA4 fun b w e => hole_keep hTab4 e (ntup w)
    refine ⟨r, as, fun _ => 0, rfl, SqL.of (hole_keep hTab4 hr4 fun ps z => by cases z), by omega, hTab4, ?_, fun i a hi H' s' => ?_, fun D H' s' hT' hD hDn => ?_⟩
    · rw [List.pairwise_iff_getElem]
      intro i j hi hj _
      simp
    · obtain ⟨w, hw, hwi⟩ := paired_getM hA5 hi
      have hw' := s' _ _ hw
      obtain ⟨z, _, rfl⟩ := List.mem_map.mp (List.mem_of_getElem? hwi)
      exact ⟨_, rfl, a, _, _, _, rfl, rfl, SqT.of hw', rfl, ⟨_, rfl, ⟨rfl, Same.refl _⟩⟩⟩
    · exact k D as H' (fun b w e => s' b w (hole_same s4 b w e)) hT' (by
        cases e : hole H PTRoom_standings D with
        | none => rfl
        | some w => rw [hole_same s4 D w e] at hDn; cases hDn) hD (hA5.same s')
theorem sc_law_num : FnScope (["_law_found"]) (["_law_found"]) (defScope s_law_num) := ⟨rfl, rfl, rfl, by decide +kernel, rfl, by decide +kernel, by decide +kernel⟩
set_option maxHeartbeats 4000000 in
theorem ok_law_num {f : Addr} {fd : FuncData} (F : Fun K "_law_num" "_law_num" s_law_num f fd) (B : Bs mg) (T : Gs mg)   : FnOk P w K mg base CX0 1 f fd ["_law_found"] spNum := by
  have sc := sc_law_num
  refine F.ok sc (fun vs H Q E h => ?_) (fun cdv A outer s H vs Q E hr h => ?_)
  · obtain ⟨z, rfl, _⟩ := h; rfl
  · obtain ⟨z, rfl, k⟩ := h
    refine ⟨_, (pss_one (ps_ret (pe_and (pe_callB (kc_isi (K := K)) (by rfl) B.isinstance PyProof.Rows.Boot.«isinstance» (pa_cons (pv 0) (pa_cons (pe_bltn (v := .ty "int") rfl B.int PyProof.Rows.Boot.«int» rfl) pa_nil))) (pe_one (pe_not (pe_callB (kc_isi (K := K)) (by rfl) B.isinstance PyProof.Rows.Boot.«isinstance» (pa_cons (pv 0) (pa_cons (pe_bltn (v := .ty "bool") rfl B.bool PyProof.Rows.Boot.«bool» rfl) pa_nil)))))))), ?_⟩
    refine ⟨_, rfl, .int z, "int", _, true, rfl, TyOf.int z, rfl, _, rfl, iteT ?_⟩
    exact ⟨_, rfl, .int z, "bool", _, false, rfl, TyOf.int z, rfl, _, rfl, k⟩
theorem sc_law_split : FnScope (["_law_cell_here", "_law_parts", "_law_wide", "_law_side", "_law_size", "_law_found", "_law_big", "_law_k"]) (["_law_cell_here", "_law_parts", "_law_wide"]) (defScope s_law_split) := ⟨rfl, rfl, rfl, by decide +kernel, rfl, by decide +kernel, by decide +kernel⟩
set_option maxHeartbeats 4000000 in
theorem ok_law_split {f : Addr} {fd : FuncData} {ds : List Value} (F : FunD K "_law_split" "_law_split" s_law_split f fd ds) (B : Bs mg) (T : Gs mg)   : FnOk P w K mg base CX0 1 f fd ["_law_cell_here", "_law_parts", "_law_wide"] spSplit := by
  have sc := sc_law_split
  refine F.ok sc (fun vs H Q E h => ?_) (fun cdv A outer s H vs Q E hr h => ?_)
  · obtain ⟨c, n, w, rfl, _⟩ := h; rfl
  · obtain ⟨c, n, wd, rfl, hn0, hn1, hw0, hw2, k⟩ := h
    refine ⟨_, (pss_cons (ps_set (i := 3) sc.nd rfl (Or.inl rfl) (pe_op op_mulW (pe_op op_pow pe_int pe_int) (pe_op op_pow pe_int pe_int)))
      (pss_cons (ps_set (i := 4) sc.nd rfl (Or.inl rfl) (pe_ix (kix_list (K := K)) (pe_lst (pa_cons (pe_op op_pow pe_int pe_int) (pa_cons (pv 3) (pa_cons (pe_op op_mulW (pe_op op_mulW (pe_op op_mulW (pv 3) (pv 3)) (pv 3)) (pv 3)) pa_nil)))) (pv 2) (fun _ _ => rfl)))
      (pss_cons (ps_set (i := 5) sc.nd rfl (Or.inl rfl) (pe_lst pa_nil))
      (pss_cons (ps_set (i := 6) sc.nd rfl (Or.inl rfl) (pe_cmpR op_ge (pv 0) (pe_op op_pow pe_int pe_int) (nomark _)))
      (pss_cons (ps_for PassesOwn.never rfl (pi_range1 rfl B.range (pa_cons (pv 1) pa_nil)) (pg_name (i := 7) sc.nd rfl (Or.inl rfl))
      (pss_one (ps_if (pt_val (pv 6)) (pss_cons (ps_expr (pe_bm PySem.F.plainAttrs_list PySem.F.slot_list_append PySem.F.type_list_append mt_append (pv 5) (pa_cons (pe_op op_add (pe_op op_pow pe_int pe_int) (pe_op op_mod (pv 0) (pv 4))) pa_nil)))
      (pss_one (ps_set (i := 0) sc.nd rfl (Or.inl rfl) (pe_op op_fdivW (pv 0) (pv 4))))) (pss_one (ps_expr (pe_bm PySem.F.plainAttrs_list PySem.F.slot_list_append PySem.F.type_list_append mt_append (pv 5) (pa_cons (pe_op op_add (pe_op op_mulW (pv 0) (pe_op op_add (pe_op op_mulW pe_int (pv 7)) pe_int)) (pe_op op_mulW pe_int (pv 7))) pa_nil)))))))
      (pss_one (ps_ret (pv 5)))))))), ?_⟩
    refine ⟨_, _, rfl, rfl, ⟨by decide, by decide, by decide⟩, _, _, rfl, rfl, ⟨by decide, by decide, by decide⟩, _, _, rfl, rfl, mulOk_of (by decide +kernel), ?_⟩
    refine ⟨_, _, rfl, rfl, ⟨by decide, by decide, by decide⟩, _, rfl, _, rfl, _, rfl, _, _, rfl, rfl, mulOk_of (by decide +kernel), _, rfl, _, _, rfl, rfl, mulOk_of (by decide +kernel), _, rfl, _, _, rfl, rfl, mulOk_of (by decide +kernel), le_line (by decide), fun e he => ?_⟩
    obtain ⟨S, hS, hL⟩ : ∃ S : Int, atI [V.int (10 ^ (30 : Int).toNat), V.int (10 ^ (60 : Int).toNat * 10 ^ (60 : Int).toNat), V.int (10 ^ (60 : Int).toNat * 10 ^ (60 : Int).toNat * (10 ^ (60 : Int).toNat * 10 ^ (60 : Int).toNat) * (10 ^ (60 : Int).toNat * 10 ^ (60 : Int).toNat) * (10 ^ (60 : Int).toNat * 10 ^ (60 : Int).toNat))] wd = some (V.int S) ∧ LimOk S := by
      have : wd = 0 ∨ wd = 1 ∨ wd = 2 := by omega
      rcases this with rfl | rfl | rfl
      · exact ⟨_, rfl, by decide +kernel, by decide +kernel⟩
      · exact ⟨_, rfl, by decide +kernel, by decide +kernel⟩
      · exact ⟨_, rfl, by decide +kernel, by decide +kernel⟩
    refine ⟨_, rfl, e, _, _, _, rfl, rfl, SqL.of upd_same, hS, ?_⟩
    refine ⟨Nat.zero_le _, fun p hp => ?_⟩
    refine ⟨_, rfl, _, _, rfl, rfl, ⟨by decide, by decide, by decide⟩, _, _, rfl, rfl, ?_⟩
    have hpH : H p = none := (Same.new he).free hp
    refine ⟨_, rfl, _, rfl, by omega, by omega, for_range (lo := 0) (n := n.toNat) (fun i σ H2 => ∃ (c' : Int) (rs : List Int) (o : Option V), σ = [some (.int c'), some (.int n), some (.int wd), some (.int (10 ^ (60 : Int).toNat * 10 ^ (60 : Int).toNat)), some (.int S), some (.ref p), some (.bl (decide ((10 : Int) ^ (18 : Int).toNat ≤ c))), o] ∧ Same H H2 ∧ H2 p = some (.lst (rs.map V.int)) ∧ rs.length = i)
      ⟨c, [], none, rfl, (Same.new he).new2 hp, upd_same, rfl⟩ ?_ ?_⟩
    · rintro i σ H2 hi ⟨c', rs, o, rfl, s2, hp2, hl⟩
      refine ⟨_, rfl, _, rfl, ?_⟩
      refine ite2 (fun _ => ?_) (fun _ => ?_)
      · refine ⟨_, rfl, .inl ⟨rfl, _, SqL.of hp2⟩, _, _, rfl, rfl, ⟨by decide, by decide, by decide⟩, _, rfl, _, rfl, _, _, rfl, rfl, hL.1, _, _, rfl, rfl, p, _, _, rfl, rfl, hp2, lt_line (by rw [ltm]; omega), ?_⟩
        refine ⟨_, rfl, _, rfl, _, _, rfl, rfl, hL, ?_⟩
        exact ⟨_, rs ++ [_], _, rfl, s2.put hpH, by rw [upd_same, mapV], by rw [List.length_append, hl]; rfl⟩
      · refine ⟨_, rfl, .inl ⟨rfl, _, SqL.of hp2⟩, _, rfl, _, rfl, _, _, rfl, rfl, mulOk_l ⟨by decide, by decide⟩, _, _, rfl, rfl, _, _, rfl, rfl, mulOk_r ⟨by omega, by omega⟩, _, rfl, _, _, rfl, rfl, mulOk_l ⟨by decide, by decide⟩, _, _, rfl, rfl, p, _, _, rfl, rfl, hp2, lt_line (by rw [ltm]; omega), ?_⟩
        exact ⟨_, rs ++ [_], _, rfl, s2.put hpH, by rw [upd_same, mapV], by rw [List.length_append, hl]; rfl⟩
    · rintro σ H2 ⟨c', rs, o, rfl, s2, hp2, hl⟩
      exact ⟨_, rfl, k p rs H2 hpH s2 hp2 hl⟩
theorem sc_law_refused : FnScope (["_law_found"]) (["_law_found"]) (defScope s_law_refused) := ⟨rfl, rfl, rfl, by decide +kernel, rfl, by decide +kernel, by decide +kernel⟩
set_option maxHeartbeats 4000000 in
theorem ok_law_refused {f : Addr} {fd : FuncData} (F : Fun K "_law_refused" "_law_refused" s_law_refused f fd) (B : Bs mg) (T : Gs mg)   : FnOk P w K mg base CX0 1 f fd ["_law_found"] (spRefused K) := by
  have sc := sc_law_refused
  refine F.ok sc (fun vs H Q E h => ?_) (fun cdv A outer s H vs Q E hr h => ?_)
  · obtain ⟨a, rfl, _⟩ := h; rfl
  · obtain ⟨a, rfl, hL, k⟩ := h
    refine ⟨_, (pss_one (ps_ret (pe_and (pe_callB (kc_isi (K := K)) (by rfl) B.isinstance PyProof.Rows.Boot.«isinstance» (pa_cons (pv 0) (pa_cons (pe_bltn (v := .ty "list") rfl B.list PyProof.Rows.Boot.«list» rfl) pa_nil))) (pe_and (pe_cmpR op_eq (pe_callB (kc_len (K := K)) (by rfl) B.len PyProof.Rows.Boot.«len» (pa_cons (pv 0) pa_nil)) pe_int (nomark _)) (pe_one (pe_cmpR op_eq (pe_ix (kix_list (K := K)) (pv 0) pe_int (fun _ _ => rfl)) pe_str (nomark _))))))), ?_⟩
    refine ⟨_, rfl, .ref a, "list", _, true, rfl, TyOf.lst hL, rfl, _, rfl, iteT ?_⟩
    refine ⟨_, rfl, a, _, rfl, .inl (SqL.of hL), rfl, _, rfl, iteT ?_⟩
    exact ⟨_, rfl, a, _, _, _, rfl, rfl, SqL.of hL, rfl, rfl, k⟩
theorem sc_law_names : FnScope (["_law_cell_here", "_law_count", "_law_letters", "_law_row", "_law_found", "_law_j", "_law_size", "_law_signs"]) (["_law_cell_here", "_law_count"]) (defScope s_law_names) := ⟨rfl, rfl, rfl, by decide +kernel, rfl, by decide +kernel, by decide +kernel⟩
set_option maxHeartbeats 4000000 in
theorem ok_law_names {f : Addr} {fd : FuncData} (F : Fun K "_law_names" "_law_names" s_law_names f fd) (B : Bs mg) (T : Gs mg)  (c_law_draw : Cal P w K mg base 1 "_law_draw" [] (spDraw K)) : FnOk P w K mg base CX0 2 f fd ["_law_cell_here", "_law_count"] (spNames12 K) := by
  have sc := sc_law_names
  refine F.ok sc (fun vs H Q E h => ?_) (fun cdv A outer s H vs Q E hr h => ?_)
  · obtain ⟨c, n, rfl, _⟩ := h; rfl
  · obtain ⟨c, n, rfl, hn0, hn9, k⟩ := h
    refine ⟨_, (pss_cons (ps_set (i := 2) sc.nd rfl (Or.inr rfl) pe_str)
      (pss_cons (ps_set (i := 3) sc.nd rfl (Or.inr rfl) (pe_cal c_law_draw (hr.mono (by decide)) rfl (pa_cons (pv 0) (pa_cons (pe_op op_cat (pe_op op_cat (pe_lst (pa_cons pe_int (pa_cons pe_int (pa_cons pe_int (pa_cons pe_int pa_nil))))) (pe_lc (N' := ["_law_j"]) (M := [none]) (lcSc_of (by rfl)) rfl (pi_range1 rfl B.range (pa_cons (pv 1) pa_nil)) (fun _ _ _ _ _ => pg_name (i := 0) (show (["_law_j"] : List Str).Nodup by decide +kernel) rfl (Or.inl rfl) (.inr rfl)) (frm_name rfl) (fun _ _ _ _ _ => pts_nil) (fun _ _ _ _ _ => pe_int))) (pe_lc (N' := ["_law_j"]) (M := [none]) (lcSc_of (by rfl)) rfl (pi_range1 rfl B.range (pa_cons (pe_op op_mulW pe_int (pv 1)) pa_nil)) (fun _ _ _ _ _ => pg_name (i := 0) (show (["_law_j"] : List Str).Nodup by decide +kernel) rfl (Or.inl rfl) (.inr rfl)) (frm_name rfl) (fun _ _ _ _ _ => pts_nil) (fun _ _ _ _ _ => pe_int))) pa_nil))))
      (pss_cons (ps_set (i := 4) sc.nd rfl (Or.inl rfl) (pe_lst pa_nil))
      (pss_cons (ps_for PassesOwn.never rfl (pi_range1 rfl B.range (pa_cons (pv 1) pa_nil)) (pg_name (i := 5) sc.nd rfl (Or.inr rfl))
      (pss_cons (ps_set (i := 6) sc.nd rfl (Or.inl rfl) (pe_op op_add (pe_op op_add (pe_ix (kix_list (K := K)) (pv 3) pe_int (fun _ _ => rfl)) pe_int) (pe_op op_mod (pe_ix (kix_list (K := K)) (pv 3) (pe_op op_add pe_int (pv 5)) (fun _ _ => rfl)) (pe_op op_sub pe_int (pe_ix (kix_list (K := K)) (pv 3) pe_int (fun _ _ => rfl))))))
      (pss_cons (ps_lc (i := 7) sc.nd rfl rfl (N' := ["_law_k", "_law_row", "_law_count", "_law_j"]) (M := [none, some 3, some 1, some 5]) (lcSc_of (by rfl)) rfl (pi_range1 rfl B.range (pa_cons (pv 6) pa_nil)) (fun _ _ _ _ _ => pg_name (i := 0) (show (["_law_k", "_law_row", "_law_count", "_law_j"] : List Str).Nodup by decide +kernel) rfl (Or.inl rfl) (.inr rfl)) (frm_name rfl) (fun _ _ _ _ _ => pts_nil) (fun _ _ _ _ _ => (pe_ifExp (pt_cmpR op_eq (pe_ix (kix_list (K := K)) (pv 1) pe_int (fun _ _ => rfl)) pe_int (nomark _)) (pe_ix (kix_list (K := K)) (pv 1) (pe_op op_add (pe_op op_add (pe_op op_add pe_int (pv 2)) (pe_op op_mulW pe_int (pv 3))) (pv 0)) (fun _ _ => rfl)) (pe_ix (kix_list (K := K)) (pv 1) pe_int (fun _ _ => rfl)))))
      (pss_cons (ps_asg (pe_op op_add (pe_ix (kix_list (K := K)) (pv 3) pe_int (fun _ _ => rfl)) (pe_op op_mulW pe_int (pv 5))) (pg_sub (pv 7) (pe_ix (kix_list (K := K)) (pv 3) pe_int (fun _ _ => rfl)) set_list))
      (pss_one (ps_expr (pe_bm PySem.F.plainAttrs_list PySem.F.slot_list_append PySem.F.type_list_append mt_append (pv 4) (pa_cons (pe_bm PySem.F.plainAttrs_str PySem.F.slot_str_join PySem.F.type_str_join (mt_join (K := K)) pe_str (pa_cons (pe_lc (N' := ["_law_sign", "_law_letters"]) (M := [none, some 2]) (lcSc_of (by rfl)) rfl (kpi_list (K := K) (pv 7)) (fun _ _ _ _ _ => pg_name (i := 0) (show (["_law_sign", "_law_letters"] : List Str).Nodup by decide +kernel) rfl (Or.inl rfl) (.inr rfl)) (frm_name rfl) (fun _ _ _ _ _ => pts_nil) (fun _ _ _ _ _ => (pe_ix ix_str (pv 1) (pe_op op_mod (pv 0) pe_int) (fun _ _ => rfl)))) pa_nil)) pa_nil))))))))
      (pss_one (ps_ret (pv 4))))))), ?_⟩
    obtain ⟨m, rfl⟩ : ∃ m : Nat, n = (m : Int) := ⟨n.toNat, by omega⟩
    refine seq_c ?_
    refine seq_a ?_
    -- the limits
    refine ⟨_, rfl, le_line (by simp), fun q1 hq1 => ⟨_, rfl, _, rfl, by omega, by omega, ?_⟩⟩
    refine lc_range (fun i ys H4 => H4 = upd H q1 (.lst [.int 12, .int 2, .int 26, .int 26]) ∧ ys = List.replicate i (V.int 12)) (le_line (by omega)) ⟨rfl, rfl⟩ (fun i ys H4 _ h => by rw [h.2, List.length_replicate]; exact Nat.le_refl _) ?_ ?_
    · rintro i ys H4 hi ⟨rfl, rfl⟩
      refine lcN ?_
      exact ⟨rfl, (List.replicate_succ' ..).symm⟩
    rintro ys H4 ⟨rfl, rfl⟩ q2 hq2
    refine ⟨q1, q2, _, _, rfl, rfl, Same.new hq2 q1 _ upd_same, upd_same, le_line (by simp; omega), fun q3 hq3 => ?_⟩
    have s5 := ((Same.new (o := HO.lst [.int 12, .int 2, .int 26, .int 26]) hq1).new2 (o := HO.lst (List.replicate ((m : Int)).toNat (V.int 12))) hq2).new2 (o := HO.lst ([V.int 12, V.int 2, V.int 26, V.int 26] ++ List.replicate ((m : Int)).toNat (V.int 12))) hq3
    have hq5 : upd (upd (upd H q1 (HO.lst [.int 12, .int 2, .int 26, .int 26])) q2 (HO.lst (List.replicate ((m : Int)).toNat (V.int 12)))) q3 (HO.lst ([V.int 12, V.int 2, V.int 26, V.int 26] ++ List.replicate ((m : Int)).toNat (V.int 12))) q3 = some (HO.lst ([V.int 12, V.int 2, V.int 26, V.int 26] ++ List.replicate ((m : Int)).toNat (V.int 12))) := upd_same
    generalize upd (upd (upd H q1 (HO.lst [.int 12, .int 2, .int 26, .int 26])) q2 (HO.lst (List.replicate ((m : Int)).toNat (V.int 12)))) q3 (HO.lst ([V.int 12, V.int 2, V.int 26, V.int 26] ++ List.replicate ((m : Int)).toNat (V.int 12))) = H5 at s5 hq5
    refine ⟨_, rfl, _, _, rfl, rfl, mulOk_l ⟨by decide, by decide⟩, _, rfl, by omega, by omega, ?_⟩
    refine lc_range (fun i ys H4 => H4 = H5 ∧ ys = List.replicate i (V.int 26)) (le_line (by omega)) ⟨rfl, rfl⟩ (fun i ys H4 _ h => by rw [h.2, List.length_replicate]; exact Nat.le_refl _) ?_ ?_
    · rintro i ys H4 hi ⟨rfl, rfl⟩
      refine lcN ?_
      exact ⟨rfl, (List.replicate_succ' ..).symm⟩
    rintro ys H4 ⟨rfl, rfl⟩ q4 hq4
    refine ⟨q3, q4, _, _, rfl, rfl, Same.new hq4 q3 _ hq5, upd_same, le_line (by simp; omega), fun q6 hq6 => ?_⟩
    have el : ([V.int 12, V.int 2, V.int 26, V.int 26] ++ List.replicate ((m : Int)).toNat (V.int 12)) ++ List.replicate (12 * (m : Int)).toNat (V.int 26) = (([12, 2, 26, 26] : List Int) ++ List.replicate m 12 ++ List.replicate (12 * m) 26).map V.int := by
      rw [Int.toNat_natCast, show (12 * (m : Int)).toNat = 12 * m by omega]
      simp [List.map_replicate]
    refine ⟨c, q6, ([12, 2, 26, 26] : List Int) ++ List.replicate m 12 ++ List.replicate (12 * m) 26, rfl, SqL.of (by rw [upd_same, el]), fun l hl => ?_, by simp; omega, fun row rs H6 _ s6 hrow hD => ?_⟩
    · have : l = 12 ∨ l = 2 ∨ l = 26 := by
        simp only [List.mem_append, List.mem_replicate, List.mem_cons, List.not_mem_nil, or_false] at hl
        omega
      rcases this with rfl | rfl | rfl
      · exact ⟨by decide, by decide +kernel⟩
      · exact ⟨by decide, by decide +kernel⟩
      · exact ⟨by decide, by decide +kernel⟩
    have s6 := ((s5.new2 (o := HO.lst (List.replicate (12 * (m : Int)).toNat (V.int 26))) hq4).new2 hq6).trans s6
    obtain ⟨r0, ⟨a0, b0⟩, e0⟩ := paired_getM hD (show (([12, 2, 26, 26] : List Int) ++ List.replicate m 12 ++ List.replicate (12 * m) 26)[0]? = some 12 from rfl)
    obtain ⟨r1, _, e1⟩ := paired_getM hD (show (([12, 2, 26, 26] : List Int) ++ List.replicate m 12 ++ List.replicate (12 * m) 26)[1]? = some 2 from rfl)
    obtain ⟨r2, _, e2⟩ := paired_getM hD (show (([12, 2, 26, 26] : List Int) ++ List.replicate m 12 ++ List.replicate (12 * m) 26)[2]? = some 26 from rfl)
    obtain ⟨r3, _, e3⟩ := paired_getM hD (show (([12, 2, 26, 26] : List Int) ++ List.replicate m 12 ++ List.replicate (12 * m) 26)[3]? = some 26 from rfl)
    have hrl : rs.length = 4 + m + 12 * m := by
      have := hD.length
      simp at this; omega
    have getE : ∀ j, j < rs.length → rs[j]? = some (rs.getD j 0) := fun j hj => by rw [List.getD_eq_getElem?_getD, List.getElem?_eq_getElem hj]; rfl
    refine seq_a ?_
    refine ⟨le_line (by simp), fun f hf => ?_⟩
    have hrf : row ≠ f := ne_of_none hrow hf
    have hfH : H f = none := s6.free hf
    refine ⟨_, rfl, _, rfl, by omega, by omega, for_range (lo := 0) (n := ((m : Int)).toNat) (fun i σ H2 => ∃ (o5 o6 o7 : Option V) (S : List Str), σ = [some (.int c), some (.int m), some (.str abcT), some (.ref row), some (.ref f), o5, o6, o7] ∧ Same H H2 ∧ H2 row = some (.lst (rs.map V.int)) ∧ H2 f = some (.lst (S.map V.str)) ∧ S.length = i ∧ NmL r0.toNat r3 S)
      ⟨none, none, none, [], rfl, s6.new2 hf, Same.new hf _ _ hrow, upd_same, rfl, fun j hj => absurd hj (by simp)⟩ ?_ ?_⟩
    · rintro i σ H2 hi ⟨o5, o6, o7, S, rfl, s2, hrow2, hf2, hSl, hN⟩
      have hi : i < m := by simpa using hi
      refine gN ?_
      refine seq_a ?_
      refine ⟨_, rfl, row, _, _, _, rfl, rfl, SqL.of hrow2, atI_nt e0, _, _, rfl, rfl, _, rfl, _, rfl, _, _, rfl, rfl, row, _, _, _, rfl, rfl, SqL.of hrow2, atI_intZ (j := 4 + i) (by omega) (getE _ (by omega)), _, rfl, row, _, _, _, rfl, rfl, SqL.of hrow2, atI_nt e0, _, _, rfl, rfl, _, _, rfl, rfl, (by omega), _, _, rfl, rfl, ?_⟩
      have x0 : 0 ≤ rs.getD (4 + i) 0 % (12 - r0) := Int.emod_nonneg _ (by omega)
      have x1 : rs.getD (4 + i) 0 % (12 - r0) < 12 - r0 := Int.emod_lt_of_pos _ (by omega)
      generalize rs.getD (4 + i) 0 % (12 - r0) = x at x0 x1
      -- the signs
      refine seq_l ?_
      refine ⟨_, rfl, _, rfl, by omega, by omega, lc_range (n := (r0 + 1 + x).toNat) (fun j ys H4 => H4 = H2 ∧ ∃ zs : List Int, ys = zs.map V.int ∧ zs.length = j) (le_line (by omega)) ⟨rfl, [], rfl, rfl⟩ (fun j ys H4 _ ⟨_, zs, e, hz⟩ => by rw [e, List.length_map, hz]; exact Nat.le_refl _) ?_ ?_⟩
      · rintro j ys H4 hj ⟨rfl, zs, rfl, hzl⟩
        refine lcN ?_
        refine ⟨_, rfl, row, _, _, _, rfl, rfl, SqL.of hrow2, atI_nt e1, rfl, _, rfl, ?_⟩
        refine ite_P (fun _ => True) (fun r _ => ⟨rfl, zs ++ [r], mapV, by rw [List.length_append, hzl]; rfl⟩) (fun Q' h => ⟨_, rfl, _, rfl, _, _, rfl, rfl, _, rfl, _, _, rfl, rfl, mulOk_l ⟨by decide, by decide⟩, _, _, rfl, rfl, _, rfl, _, _, rfl, rfl, row, _, _, _, rfl, rfl, SqL.of hrow2, atI_intZ (j := 4 + m + 12 * i + j) (by omega) (getE _ (by omega)), h _ trivial⟩) (fun Q' h => ⟨_, rfl, row, _, _, _, rfl, rfl, SqL.of hrow2, atI_nt e2, h _ trivial⟩)
      rintro ys H4 ⟨rfl, zs, rfl, hzl⟩ g hg
      have s5' := s2.new2 (o := HO.lst (zs.map V.int)) hg
      have hrow5 := Same.new (o := HO.lst (zs.map V.int)) hg row _ hrow2
      have hf5 := Same.new (o := HO.lst (zs.map V.int)) hg f _ hf2
      have hg5 : upd H4 g (HO.lst (zs.map V.int)) g = some (.lst (zs.map V.int)) := upd_same
      have hrg : row ≠ g := ne_of_none hrow2 hg
      have hfg : f ≠ g := ne_of_none hf2 hg
      have hgH : H g = none := s2.free hg
      generalize upd H4 g (HO.lst (zs.map V.int)) = H5 at s5' hrow5 hf5 hg5
      -- the one of its own
      refine ⟨_, rfl, row, _, _, _, rfl, rfl, SqL.of hrow5, atI_nt e3, _, rfl, _, _, rfl, rfl, mulOk_l ⟨by decide, by decide⟩, _, _, rfl, rfl, ?_⟩
      refine ⟨_, rfl, _, rfl, row, _, _, _, rfl, rfl, SqL.of hrow5, atI_nt e0, g, _, _, _, rfl, rfl, hg5, ixN_pos a0 (by rw [List.length_map, hzl]; omega), ?_⟩
      have eset : (zs.map V.int).set r0.toNat (V.int (r3 + 5 * (0 + (i : Int)))) = (zs.set r0.toNat (r3 + 5 * (0 + (i : Int)))).map V.int := by rw [List.map_set]
      rw [eset]
      have s7 := s5'.put (o := HO.lst ((zs.set r0.toNat (r3 + 5 * (0 + (i : Int)))).map V.int)) hgH
      have hrow7 : upd H5 g (HO.lst ((zs.set r0.toNat (r3 + 5 * (0 + (i : Int)))).map V.int)) row = some (.lst (rs.map V.int)) := by rw [upd_ne hrg]; exact hrow5
      have hf7 : upd H5 g (HO.lst ((zs.set r0.toNat (r3 + 5 * (0 + (i : Int)))).map V.int)) f = some (.lst (S.map V.str)) := by rw [upd_ne hfg]; exact hf5
      have hg7 : upd H5 g (HO.lst ((zs.set r0.toNat (r3 + 5 * (0 + (i : Int)))).map V.int)) g = some (.lst ((zs.set r0.toNat (r3 + 5 * (0 + (i : Int)))).map V.int)) := upd_same
      generalize upd H5 g (HO.lst ((zs.set r0.toNat (r3 + 5 * (0 + (i : Int)))).map V.int)) = H7 at s7 hrow7 hf7 hg7
      have hzl2 : (zs.set r0.toNat (r3 + 5 * (0 + (i : Int)))).length = (r0 + 1 + x).toNat := by rw [List.length_set, hzl]
      have hz0 : (zs.set r0.toNat (r3 + 5 * (0 + (i : Int)))).getD r0.toNat 0 = r3 + 5 * (0 + (i : Int)) := by
        rw [List.getD_eq_getElem?_getD, List.getElem?_set_self (by rw [hzl]; omega)]; rfl
      generalize zs.set r0.toNat (r3 + 5 * (0 + (i : Int))) = zs' at hg7 hzl2 hz0
      -- the name
      refine ⟨_, rfl, .inl ⟨rfl, _, SqL.of hf7⟩, rfl, _, rfl, g, rfl, ⟨_, SqL.of hg7⟩, lc_list (xs := zs'.map V.int) (fun j ys H8 => H8 = H7 ∧ ys = ((zs'.take j).map sgN).map V.str) (le_line (by rw [List.length_map]; omega)) ⟨rfl, rfl⟩
        (fun j ys H8 _ h => ⟨by rw [h.1]; exact SqL.of hg7, by rw [h.2, List.length_map, List.length_map, List.length_take]; omega⟩) ?_ ?_⟩
      · rintro j y ys H8 hj ⟨rfl, rfl⟩
        obtain ⟨zz, rfl, hzz, _⟩ := getI hj
        refine lcN ?_
        refine ⟨_, rfl, _, rfl, _, _, rfl, rfl, p0, abcT, _, _, rfl, rfl, le_line (by decide +kernel), abc_at zz, rfl, ?_⟩
        rw [map_take_snoc hzz]; exact str_snoc
      · rintro ys H8 ⟨rfl, rfl⟩ q hq
        rw [ltm, List.take_length]
        refine ⟨_, q, _, rfl, rfl, SqL.of upd_same, joinOk_small (B := 1) (fun y hy => ?_) ?_, ?_⟩
        · obtain ⟨_, _, rfl⟩ := List.mem_map.mp hy
          exact Nat.le_refl _
        · rw [List.length_map]
          show zs'.length * 1 + zs'.length * 0 ≤ _
          omega
        have hfq : f ≠ q := ne_of_none hf7 hq
        have hrq : row ≠ q := ne_of_none hrow7 hq
        refine ⟨f, _, _, rfl, rfl, by rw [upd_ne hfq]; exact hf7, lt_line (by rw [List.length_map]; omega), ?_⟩
        refine ⟨_, _, _, S ++ [nmS zs'], rfl, (s7.new2 hq).put hfH, by rw [upd_ne hrf, upd_ne hrq]; exact hrow7, by rw [upd_same]; exact congrArg (fun l => some (HO.lst l)) str_snoc, by rw [List.length_append, hSl]; rfl, hN.snoc (nmS_ok (by omega) (by omega)) ?_⟩
        rw [nmS_at _ _ (by omega), hz0, hSl, Int.zero_add]
    · rintro σ H2 ⟨o5, o6, o7, S, rfl, s2, hrow2, hf2, hSl, hN⟩
      have hSl : S.length = m := by simpa using hSl
      obtain ⟨o1, o2⟩ := hN.ok12 (by omega)
      exact ⟨_, rfl, k f S H2 hfH s2 hf2 (by omega) o1 o2 _ _ hN⟩
theorem sc_law_woods : FnScope (["_law_cell_here", "_law_first", "_law_second", "_law_row", "_law_names_here", "_law_cap"]) (["_law_cell_here"]) (defScope s_law_woods) := ⟨rfl, rfl, rfl, by decide +kernel, rfl, by decide +kernel, by decide +kernel⟩
set_option maxHeartbeats 4000000 in
theorem ok_law_woods {f : Addr} {fd : FuncData} (F : Fun K "_law_woods" "_law_woods" s_law_woods f fd) (B : Bs mg) (T : Gs mg)  (c_law_draw : Cal P w K mg base 1 "_law_draw" [] (spDraw K)) (c_law_names : Cal P w K mg base 2 "_law_names" [] (spNames12 K)) (c_law_split : Cal P w K mg base 1 "_law_split" [.int 0] spSplit) : FnOk P w K mg base CX0 3 f fd ["_law_cell_here"] (spLWoods K) := by
  have sc := sc_law_woods
  refine F.ok sc (fun vs H Q E h => ?_) (fun cdv A outer s H vs Q E hr h => ?_)
  · obtain ⟨c, rfl, _⟩ := h; rfl
  · obtain ⟨c, rfl, k⟩ := h
    refine ⟨_, (pss_cons (ps_asg (pe_cal c_law_split (hr.mono (by decide)) rfl (pa_cons (pv 0) (pa_cons pe_int pa_nil))) (pg_lst rfl (pgs_cons (pg_name (i := 1) sc.nd rfl (Or.inl rfl)) (pgs_cons (pg_name (i := 2) sc.nd rfl (Or.inl rfl)) pgs_nil))))
      (pss_cons (ps_set (i := 3) sc.nd rfl (Or.inr rfl) (pe_cal c_law_draw (hr.mono (by decide)) rfl (pa_cons (pv 1) (pa_cons (pe_op op_cat (pe_lst (pa_cons pe_int (pa_cons pe_int pa_nil))) (pe_lc (N' := ["_law_k"]) (M := [none]) (lcSc_of (by rfl)) rfl (pi_range1 rfl B.range (pa_cons pe_int pa_nil)) (fun _ _ _ _ _ => pg_name (i := 0) (show (["_law_k"] : List Str).Nodup by decide +kernel) rfl (Or.inl rfl) (.inr rfl)) (frm_name rfl) (fun _ _ _ _ _ => pts_nil) (fun _ _ _ _ _ => pe_int))) pa_nil))))
      (pss_cons (ps_set (i := 4) sc.nd rfl (Or.inr rfl) (pe_cal c_law_names (hr.mono (by decide)) rfl (pa_cons (pv 2) (pa_cons pe_int pa_nil))))
      (pss_cons (ps_set (i := 5) sc.nd rfl (Or.inr rfl) (pe_ix (kix_list (K := K)) (pe_lst (pa_cons pe_int (pa_cons pe_int (pa_cons pe_int pa_nil)))) (pe_ix (kix_list (K := K)) (pv 3) pe_int (fun _ _ => rfl)) (fun _ _ => rfl)))
      (pss_one (ps_ret (pe_tup (pa_cons (pe_lc (N' := ["_law_k", "_law_names_here", "_law_cap", "_law_row"]) (M := [none, some 4, some 5, some 3]) (lcSc_of (by rfl)) rfl (pi_range1 rfl B.range (pa_cons (pe_op op_add (pe_ix (kix_list (K := K)) (pv 3) pe_int (fun _ _ => rfl)) pe_int) pa_nil)) (fun _ _ _ _ _ => pg_name (i := 0) (show (["_law_k", "_law_names_here", "_law_cap", "_law_row"] : List Str).Nodup by decide +kernel) rfl (Or.inl rfl) (.inr rfl)) (frm_name rfl) (fun _ _ _ _ _ => pts_nil) (fun _ _ _ _ _ => (pe_tup (pa_cons (pe_ix (kix_list (K := K)) (pv 1) (pv 0) (fun _ _ => rfl)) (pa_cons (pe_op op_mod (pe_ix (kix_list (K := K)) (pv 3) (pe_op op_add pe_int (pv 0)) (fun _ _ => rfl)) (pv 2)) pa_nil))))) (pa_cons (pe_ix (kix_list (K := K)) (pv 4) pe_int (fun _ _ => rfl)) pa_nil))))))))), ?_⟩
    refine ⟨_, rfl, c, 2, 0, rfl, by decide, by decide, by decide, by decide, fun p3 sp3 H3 _ s3 hp3 hl3 => ?_⟩
    obtain ⟨f1, f2, rfl⟩ : ∃ f1 f2, sp3 = [f1, f2] := by
      match sp3, hl3 with
      | [x, y], _ => exact ⟨x, y, rfl⟩
    refine ⟨p3, _, rfl, SqL.of hp3, rfl, _, _, rfl, _, _, rfl, rfl, ?_⟩
    -- the row
    refine ⟨_, rfl, le_line (by simp), fun q1 hq1 => ⟨_, rfl, by decide, by decide, ?_⟩⟩
    refine lc_range (fun i ys H4 => H4 = upd H3 q1 (.lst [.int 6, .int 3]) ∧ ys = List.replicate i (V.int 100)) (le_line (by decide)) ⟨rfl, rfl⟩ (fun i ys H4 _ h => by rw [h.2, List.length_replicate]; exact Nat.le_refl _) ?_ ?_
    · rintro i ys H4 hi ⟨rfl, rfl⟩
      refine lcN ?_
      exact ⟨rfl, (List.replicate_succ' ..).symm⟩
    rintro ys H4 ⟨rfl, rfl⟩ q2 hq2
    refine ⟨q1, q2, _, _, rfl, rfl, Same.new hq2 q1 _ upd_same, upd_same, le_line (by simp), fun q3 hq3 => ?_⟩
    have s4 := ((s3.new2 (o := HO.lst [.int 6, .int 3]) hq1).new2 (o := HO.lst (List.replicate (6 : Int).toNat (V.int 100))) hq2).new2 (o := HO.lst ([V.int 6, V.int 3] ++ List.replicate (6 : Int).toNat (V.int 100))) hq3
    refine ⟨f1, q3, [6, 3, 100, 100, 100, 100, 100, 100], rfl, SqL.of upd_same, lim_ok (by decide +kernel), by decide, fun row rs H5 _ s5 hrow hD => ?_⟩
    have s5 := s4.trans s5
    obtain ⟨r0, ⟨a0, b0⟩, e0⟩ := paired_getM hD (show ([6, 3, 100, 100, 100, 100, 100, 100] : List Int)[0]? = some 6 from rfl)
    obtain ⟨r1, ⟨a1, b1⟩, e1⟩ := paired_getM hD (show ([6, 3, 100, 100, 100, 100, 100, 100] : List Int)[1]? = some 3 from rfl)
    have hrl : rs.length = 8 := hD.length.symm
    -- the names
    refine ⟨_, rfl, f2, 7, rfl, by decide, by decide, fun nm S H6 _ s6 hnm hSl hSn hSo _ _ _ => ?_⟩
    have hrow6 := s6 row _ hrow
    have s6 := s5.trans s6
    -- the cap
    refine ⟨le_line (by simp), fun cp hcp => ?_⟩
    have s7 := s6.new2 (o := HO.lst [V.int 4, V.int 12, V.int 100]) hcp
    have hrow7 := Same.new (o := HO.lst [V.int 4, V.int 12, V.int 100]) hcp row _ hrow6
    have hnm7 := Same.new (o := HO.lst [V.int 4, V.int 12, V.int 100]) hcp nm _ hnm
    have hcp7 : upd H6 cp (HO.lst [V.int 4, V.int 12, V.int 100]) cp = some (.lst [V.int 4, V.int 12, V.int 100]) := upd_same
    generalize upd H6 cp (HO.lst [V.int 4, V.int 12, V.int 100]) = H7 at s7 hrow7 hnm7 hcp7
    obtain ⟨cap, hcap, cap0, cap1⟩ : ∃ cap : Int, atI [V.int 4, V.int 12, V.int 100] r1 = some (V.int cap) ∧ 0 < cap ∧ cap ≤ 100 := by
      have : r1 = 0 ∨ r1 = 1 ∨ r1 = 2 := by omega
      rcases this with rfl | rfl | rfl
      · exact ⟨4, rfl, by decide, by decide⟩
      · exact ⟨12, rfl, by decide, by decide⟩
      · exact ⟨100, rfl, by decide, by decide⟩
    refine ⟨_, rfl, row, _, _, _, rfl, rfl, SqL.of hrow7, atI_nt e1, cp, _, _, _, rfl, rfl, SqL.of hcp7, hcap, ?_⟩
    -- the pairs
    refine ⟨_, rfl, row, _, _, _, rfl, rfl, SqL.of hrow7, atI_nt e0, _, _, rfl, rfl, _, rfl, by omega, by omega, lc_range (n := (r0 + 1).toNat) (fun i ys H8 => Same H7 H8 ∧ ∃ (bs : List Addr) (W : Wds), ys = bs.map V.ref ∧ WAt H8 bs W ∧ W.map (·.1) = S.take i ∧ ∀ w ∈ W, 0 ≤ w.2 ∧ w.2 ≤ 99) (le_line (by omega)) ⟨Same.refl _, [], [], rfl, .nil, rfl, fun w h => by simp at h⟩
        (fun i ys H8 hi ⟨s8, bs, W, e, hb, hn, _⟩ => by
          have := congrArg List.length hn
          rw [List.length_map, List.length_take] at this
          rw [e, List.length_map, hb.length]; omega) ?_ ?_⟩
    · rintro i ys H8 hi ⟨s8, bs, W, rfl, hb, hn, hk⟩
      have hi6 : i < 6 := by omega
      have hiS : i < S.length := by omega
      refine lcN ?_
      refine ⟨_, rfl, _, rfl, nm, _, _, _, rfl, rfl, SqL.of (s8 nm _ hnm7), atI_strZ (j := i) (by omega) hiS, _, rfl, _, rfl, _, _, rfl, rfl, row, _, _, _, rfl, rfl, SqL.of (s8 row _ hrow7), atI_intZ (j := 2 + i) (r := rs.getD (2 + i) 0) (by omega) (by rw [List.getD_eq_getElem?_getD, List.getElem?_eq_getElem (by omega)]; rfl), _, rfl, _, _, rfl, rfl, cap0, le_line (by simp), fun t ht => ?_⟩
      have m0 : 0 ≤ rs.getD (2 + i) 0 % cap := Int.emod_nonneg _ (by omega)
      have m1 : rs.getD (2 + i) 0 % cap < cap := Int.emod_lt_of_pos _ cap0
      refine ⟨s8.new2 ht, bs ++ [t], W ++ [(S.getD i "", rs.getD (2 + i) 0 % cap)], ref_snoc, Paired.snoc (hb.same (Same.new ht)) upd_same, ?_, fun w hw => ?_⟩
      · rw [List.map_append, hn, take_snoc (x := S.getD i "") (by rw [List.getD_eq_getElem?_getD, List.getElem?_eq_getElem hiS]; rfl)]; rfl
      · rcases List.mem_append.mp hw with h | h
        · exact hk w h
        · rw [List.mem_singleton.mp h]; dsimp only; omega
    · rintro ys H8 ⟨s8, bs, W, rfl, hb, hn, hk⟩ l hl
      have hl9 : upd H8 l (HO.lst (bs.map V.ref)) l = some (.lst (bs.map V.ref)) := upd_same
      have s9 := s8.new2 (o := HO.lst (bs.map V.ref)) hl
      have hb9 := hb.same (Same.new (o := HO.lst (bs.map V.ref)) hl)
      have hlH : H l = none := (s7.trans s8).free hl
      generalize upd H8 l (HO.lst (bs.map V.ref)) = H9 at hl9 s9 hb9
      have hS6 : S[6]? = some (S.getD 6 "") := by rw [List.getD_eq_getElem?_getD, List.getElem?_eq_getElem (show 6 < S.length by omega)]; rfl
      refine ⟨_, rfl, nm, _, _, _, rfl, rfl, SqL.of (s9 nm _ hnm7), atI_strZ (j := 6) rfl (by omega), le_line (by simp), fun t ht => ?_⟩
      have hWl : W.length = (r0 + 1).toNat := by
        have := congrArg List.length hn
        rw [List.length_map, List.length_take] at this
        omega
      refine k t l bs W (S.getD 6 "") _ ((s7.trans s9).free ht) hlH ((s7.trans s9).new2 ht) upd_same (Same.new ht l _ hl9) (hb9.same (Same.new ht)) (woodsOk_iff.mpr ⟨by omega, ?_, fun w hw => ⟨?_, hk w hw⟩⟩) ?_ (hSo _ (List.mem_of_getElem? hS6))
      · rw [hn]; exact hSn.sublist (List.take_sublist _ _)
      · refine hSo _ (List.mem_of_mem_take (i := (r0 + 1).toNat) ?_)
        rw [← hn]; exact List.mem_map_of_mem hw
      · rw [countW_none, hn]
        intro hm
        obtain ⟨j, hj, e⟩ := List.getElem_of_mem hm
        rw [List.length_take] at hj
        rw [List.getElem_take] at e
        have h6 : S[6] = S.getD 6 "" := by rw [List.getElem?_eq_getElem (show 6 < S.length by omega)] at hS6; exact Option.some.inj hS6
        rw [← h6] at e
        have := (List.getElem_inj hSn).mp e
        omega
theorem sc_law_pair_of_wood : FnScope (["_law_found"]) (["_law_found"]) (defScope s_law_pair_of_wood) := ⟨rfl, rfl, rfl, by decide +kernel, rfl, by decide +kernel, by decide +kernel⟩
set_option maxHeartbeats 4000000 in
theorem ok_law_pair_of_wood {f : Addr} {fd : FuncData} (F : Fun K "_law_pair_of_wood" "_law_pair_of_wood" s_law_pair_of_wood f fd) (B : Bs mg) (T : Gs mg)  (c_law_num : Cal P w K mg base 1 "_law_num" [] spNum) : FnOk P w K mg base CX0 2 f fd ["_law_found"] (spPairW K) := by
  have sc := sc_law_pair_of_wood
  refine F.ok sc (fun vs H Q E h => ?_) (fun cdv A outer s H vs Q E hr h => ?_)
  · obtain ⟨a, w, rfl, _⟩ := h; rfl
  · obtain ⟨a, w, rfl, ha, k⟩ := h
    refine ⟨_, (pss_one (ps_ret (pe_and (pe_callB (kc_isi (K := K)) (by rfl) B.isinstance PyProof.Rows.Boot.«isinstance» (pa_cons (pv 0) (pa_cons (pe_bltn (v := .ty "tuple") rfl B.tuple PyProof.Rows.Boot.«tuple» rfl) pa_nil))) (pe_and (pe_cmpR op_eq (pe_callB (kc_len (K := K)) (by rfl) B.len PyProof.Rows.Boot.«len» (pa_cons (pv 0) pa_nil)) pe_int (nomark _)) (pe_and (pe_callB (kc_isi (K := K)) (by rfl) B.isinstance PyProof.Rows.Boot.«isinstance» (pa_cons (pe_ix (kix_tup (K := K)) (pv 0) pe_int (fun _ _ => rfl)) (pa_cons (pe_bltn (v := .ty "str") rfl B.str PyProof.Rows.Boot.«str» rfl) pa_nil))) (pe_one (pe_cal c_law_num (hr.mono (by decide)) rfl (pa_cons (pe_ix (kix_tup (K := K)) (pv 0) pe_int (fun _ _ => rfl)) pa_nil)))))))), ?_⟩
    refine ⟨_, rfl, .ref a, "tuple", _, true, rfl, TyOf.tup ha, rfl, _, rfl, iteT ?_⟩
    refine ⟨_, rfl, a, _, rfl, .inr (SqT.of ha), rfl, _, rfl, iteD rfl ?_⟩
    refine ⟨_, rfl, a, _, _, _, rfl, rfl, SqT.of ha, rfl, .str w.1, "str", _, true, rfl, TyOf.str _, rfl, _, rfl, iteT ?_⟩
    exact ⟨_, rfl, a, _, _, _, rfl, rfl, SqT.of ha, rfl, w.2, rfl, k⟩
theorem sc_law_total : FnScope (["_law_left"]) (["_law_left"]) (defScope s_law_total) := ⟨rfl, rfl, rfl, by decide +kernel, rfl, by decide +kernel, by decide +kernel⟩
set_option maxHeartbeats 4000000 in
theorem ok_law_total {f : Addr} {fd : FuncData} (F : Fun K "_law_total" "_law_total" s_law_total f fd) (B : Bs mg) (T : Gs mg)   : FnOk P w K mg base CX0 1 f fd ["_law_left"] (spLTot K) := by
  have sc := sc_law_total
  refine F.ok sc (fun vs H Q E h => ?_) (fun cdv A outer s H vs Q E hr h => ?_)
  · obtain ⟨l, as, W, rfl, _⟩ := h; rfl
  · obtain ⟨l, as, W, rfl, hl, hA, hn, k⟩ := h
    refine ⟨_, (pss_one (ps_ret (pe_callB (kc_sum (K := K)) (by rfl) B.sum PyProof.Rows.Boot.«sum» (pa_cons (pe_lc (N' := ["_law_name", "_law_packets"]) (M := [none, none]) (lcSc_of (by rfl)) rfl (kpi_list (K := K) (pv 0)) (fun _ _ _ _ _ => kpg_tup (K := K) (n := 2) rfl (pgs_cons (pg_name (i := 0) (show (["_law_name", "_law_packets"] : List Str).Nodup by decide +kernel) rfl (Or.inl rfl) (.inr rfl)) (pgs_cons (pg_name (i := 1) (show (["_law_name", "_law_packets"] : List Str).Nodup by decide +kernel) rfl (Or.inl rfl) (.inr rfl)) pgs_nil))) frm_two (fun _ _ _ _ _ => pts_nil) (fun _ _ _ _ _ => (pv 1))) pa_nil)))), ?_⟩
    have hal : (as.map V.ref).length = W.length := by rw [List.length_map, hA.length]
    refine ⟨_, rfl, l, rfl, ⟨_, SqL.of hl⟩, lc_list (xs := as.map V.ref) (fun i ys H2 => H2 = H ∧ ys = ((W.take i).map (·.2)).map V.int) (le_line (by omega)) ⟨rfl, rfl⟩
        (fun i ys H2 _ h => ⟨by rw [h.1]; exact SqL.of hl, by rw [h.2, List.length_map, List.length_map, List.length_take]; omega⟩) ?_ ?_⟩
    · rintro i y ys H2 hi ⟨rfl, rfl⟩
      obtain ⟨q, rfl, hq, hil⟩ := getRef hi
      obtain ⟨w, hw, hwi⟩ := paired_getM hA hq
      refine ⟨q, _, rfl, SqT.of hw, rfl, _, _, rfl, _, _, rfl, rfl, lcY ⟨_, rfl, rfl, ?_⟩⟩
      rw [map_take_snoc hwi, List.map_append]; rfl
    · rintro ys H2 ⟨rfl, rfl⟩ p hp
      rw [hal, List.take_length]
      exact ⟨p, _, rfl, .inl (SqL.of upd_same), k _ (Same.new hp)⟩
theorem sc_law_model : FnScope (["_law_left", "_law_m"]) (["_law_left"]) (defScope s_law_model) := ⟨rfl, rfl, rfl, by decide +kernel, rfl, by decide +kernel, by decide +kernel⟩
set_option maxHeartbeats 4000000 in
theorem ok_law_model {f : Addr} {fd : FuncData} (F : Fun K "_law_model" "_law_model" s_law_model f fd) (B : Bs mg) (T : Gs mg)   : FnOk P w K mg base CX0 1 f fd ["_law_left"] (spModel K) := by
  have sc := sc_law_model
  refine F.ok sc (fun vs H Q E h => ?_) (fun cdv A outer s H vs Q E hr h => ?_)
  · obtain ⟨l, as, rfl, _⟩ := h; rfl
  · obtain ⟨l, as, rfl, hl, hn, k⟩ := h
    refine ⟨_, (pss_cons (ps_set (i := 1) sc.nd rfl (Or.inl rfl) (pe_disp (pps_cons pe_str (pe_callTy (kc_list (K := K)) (by rfl) B.list PyProof.Rows.Boot.«list» (pa_cons (pv 0) pa_nil)) (pps_cons pe_str (pe_lst pa_nil) (pps_cons pe_str pe_dnewK (pps_cons pe_str pe_int pps_nil)))) rfl rfl (by simp) (by decide)))
      (pss_cons (ps_dput (hu_of hr) (pv 1) pe_str (pe_lst pa_nil) rfl)
      (pss_cons (ps_dput (hu_of hr) (pv 1) pe_str pe_dnewK rfl)
      (pss_cons (ps_dput (hu_of hr) (pv 1) pe_str pe_dnewK rfl)
      (pss_cons (ps_dput (hu_of hr) (pv 1) pe_str (pe_lst pa_nil) rfl)
      (pss_one (ps_ret (pv 1)))))))), ?_⟩
    refine seq_a ?_
    intro M hMn
    refine ⟨_, rfl, l, _, rfl, .inl (SqL.of (Same.new hMn _ _ hl)), fun l0 hl0 => ?_⟩
    refine ⟨le_line (by simp), fun pe hpe => ?_⟩
    intro q hq
    have eM1 : ∀ o : HO, upd H M o M = some o := fun o => upd_same
    have hM0 : M ≠ l0 := fun z => by rw [← z, upd_same] at hl0; cases hl0
    have hMpe : M ≠ pe := fun z => by rw [← z, upd_ne hM0, upd_same] at hpe; cases hpe
    have h0pe : l0 ≠ pe := fun z => by rw [← z, upd_same] at hpe; cases hpe
    have hMq : M ≠ q := fun z => by rw [← z, upd_ne hMpe, upd_ne hM0, upd_same] at hq; cases hq
    have hpeq : pe ≠ q := fun z => by rw [← z, upd_same] at hq; cases hq
    have s4 := ((Same.new (o := HO.dK []) hMn).new2 (o := HO.lst (as.map V.ref)) hl0).new2 (o := HO.lst []) hpe |>.new2 (o := HO.dK []) hq
    have hqH : H q = none := ((Same.new (o := HO.dK []) hMn).new2 (o := HO.lst (as.map V.ref)) hl0).new2 (o := HO.lst []) hpe |>.free hq
    have hpeH : H pe = none := ((Same.new (o := HO.dK []) hMn).new2 (o := HO.lst (as.map V.ref)) hl0).free hpe
    have m4 : upd (upd (upd (upd H M (HO.dK [])) l0 (HO.lst (as.map V.ref))) pe (HO.lst [])) q (HO.dK []) M = some (.dK []) := by rw [upd_ne hMq, upd_ne hMpe, upd_ne hM0, upd_same]
    have p4 : upd (upd (upd (upd H M (HO.dK [])) l0 (HO.lst (as.map V.ref))) pe (HO.lst [])) q (HO.dK []) pe = some (.lst []) := by rw [upd_ne hpeq, upd_same]
    have q4 : upd (upd (upd (upd H M (HO.dK [])) l0 (HO.lst (as.map V.ref))) pe (HO.lst [])) q (HO.dK []) q = some (.dK []) := upd_same
    refine ⟨m4, [(.inr "left", .ref l0), (.inr "people", .ref pe), (.inr "points", .ref q), (.inr "size", .int 0)], rfl, Nat.le_of_ble_eq_true rfl, ?_⟩
    generalize upd (upd (upd (upd H M (HO.dK [])) l0 (HO.lst (as.map V.ref))) pe (HO.lst [])) q (HO.dK []) = H4 at s4 m4 p4 q4
    have s5 := s4.put (o := HO.dK (mergeK [] [(.inr "left", .ref l0), (.inr "people", .ref pe), (.inr "points", .ref q), (.inr "size", .int 0)])) hMn
    have m5 : upd H4 M (HO.dK (mergeK [] [(.inr "left", .ref l0), (.inr "people", .ref pe), (.inr "points", .ref q), (.inr "size", .int 0)])) M = some (.dK [(.inr "left", .ref l0), (.inr "people", .ref pe), (.inr "points", .ref q), (.inr "size", .int 0)]) := by rw [upd_same]; rfl
    have p5 : upd H4 M (HO.dK (mergeK [] [(.inr "left", .ref l0), (.inr "people", .ref pe), (.inr "points", .ref q), (.inr "size", .int 0)])) pe = some (.lst []) := by rw [upd_ne hMpe.symm]; exact p4
    have q5 : upd H4 M (HO.dK (mergeK [] [(.inr "left", .ref l0), (.inr "people", .ref pe), (.inr "points", .ref q), (.inr "size", .int 0)])) q = some (.dK []) := by rw [upd_ne hMq.symm]; exact q4
    generalize upd H4 M (HO.dK (mergeK [] [(.inr "left", .ref l0), (.inr "people", .ref pe), (.inr "points", .ref q), (.inr "size", .int 0)])) = H5 at s5 m5 p5 q5
    -- opened
    refine ⟨le_line (by simp), fun l1 hl1 => ⟨_, rfl, M, _, rfl, DPut.k (k := .inr "opened") (Same.new hl1 _ _ m5) (lt_line (by simp)), ?_⟩⟩
    have s6 := (s5.new2 (o := HO.lst []) hl1).put (o := HO.dK (putK [(.inr "left", .ref l0), (.inr "people", .ref pe), (.inr "points", .ref q), (.inr "size", .int 0)] (.inr "opened") (.ref l1))) hMn
    have m6 : upd (upd H5 l1 (HO.lst [])) M (HO.dK (putK [(.inr "left", .ref l0), (.inr "people", .ref pe), (.inr "points", .ref q), (.inr "size", .int 0)] (.inr "opened") (.ref l1))) M = some (.dK [(.inr "left", .ref l0), (.inr "people", .ref pe), (.inr "points", .ref q), (.inr "size", .int 0), (.inr "opened", .ref l1)]) := by rw [upd_same]; rfl
    have p6 : upd (upd H5 l1 (HO.lst [])) M (HO.dK (putK [(.inr "left", .ref l0), (.inr "people", .ref pe), (.inr "points", .ref q), (.inr "size", .int 0)] (.inr "opened") (.ref l1))) pe = some (.lst []) := by rw [upd_ne hMpe.symm]; exact Same.new hl1 _ _ p5
    have q6 : upd (upd H5 l1 (HO.lst [])) M (HO.dK (putK [(.inr "left", .ref l0), (.inr "people", .ref pe), (.inr "points", .ref q), (.inr "size", .int 0)] (.inr "opened") (.ref l1))) q = some (.dK []) := by rw [upd_ne hMq.symm]; exact Same.new hl1 _ _ q5
    generalize upd (upd H5 l1 (HO.lst [])) M (HO.dK (putK [(.inr "left", .ref l0), (.inr "people", .ref pe), (.inr "points", .ref q), (.inr "size", .int 0)] (.inr "opened") (.ref l1))) = H6 at s6 m6 p6 q6
    -- given
    intro g hg
    refine ⟨_, rfl, M, _, rfl, DPut.k (k := .inr "given") (Same.new hg _ _ m6) (lt_line (by simp)), ?_⟩
    have hMg : M ≠ g := ne_of_none m6 hg
    have hqg : q ≠ g := ne_of_none q6 hg
    have s7 := (s6.new2 (o := HO.dK []) hg).put (o := HO.dK (putK [(.inr "left", .ref l0), (.inr "people", .ref pe), (.inr "points", .ref q), (.inr "size", .int 0), (.inr "opened", .ref l1)] (.inr "given") (.ref g))) hMn
    have hgH : H g = none := s6.free hg
    have m7 : upd (upd H6 g (HO.dK [])) M (HO.dK (putK [(.inr "left", .ref l0), (.inr "people", .ref pe), (.inr "points", .ref q), (.inr "size", .int 0), (.inr "opened", .ref l1)] (.inr "given") (.ref g))) M = some (.dK [(.inr "left", .ref l0), (.inr "people", .ref pe), (.inr "points", .ref q), (.inr "size", .int 0), (.inr "opened", .ref l1), (.inr "given", .ref g)]) := by rw [upd_same]; rfl
    have p7 : upd (upd H6 g (HO.dK [])) M (HO.dK (putK [(.inr "left", .ref l0), (.inr "people", .ref pe), (.inr "points", .ref q), (.inr "size", .int 0), (.inr "opened", .ref l1)] (.inr "given") (.ref g))) pe = some (.lst []) := by rw [upd_ne hMpe.symm]; exact Same.new hg _ _ p6
    have q7 : upd (upd H6 g (HO.dK [])) M (HO.dK (putK [(.inr "left", .ref l0), (.inr "people", .ref pe), (.inr "points", .ref q), (.inr "size", .int 0), (.inr "opened", .ref l1)] (.inr "given") (.ref g))) q = some (.dK []) := by rw [upd_ne hMq.symm]; exact Same.new hg _ _ q6
    have g7 : upd (upd H6 g (HO.dK [])) M (HO.dK (putK [(.inr "left", .ref l0), (.inr "people", .ref pe), (.inr "points", .ref q), (.inr "size", .int 0), (.inr "opened", .ref l1)] (.inr "given") (.ref g))) g = some (.dK []) := by rw [upd_ne hMg.symm, upd_same]
    generalize upd (upd H6 g (HO.dK [])) M (HO.dK (putK [(.inr "left", .ref l0), (.inr "people", .ref pe), (.inr "points", .ref q), (.inr "size", .int 0), (.inr "opened", .ref l1)] (.inr "given") (.ref g))) = H7 at s7 m7 p7 q7 g7
    -- wrote
    intro w hw
    refine ⟨_, rfl, M, _, rfl, DPut.k (k := .inr "wrote") (Same.new hw _ _ m7) (lt_line (by simp)), ?_⟩
    have hMw : M ≠ w := ne_of_none m7 hw
    have hqw : q ≠ w := ne_of_none q7 hw
    have s8 := (s7.new2 (o := HO.dK []) hw).put (o := HO.dK (putK [(.inr "left", .ref l0), (.inr "people", .ref pe), (.inr "points", .ref q), (.inr "size", .int 0), (.inr "opened", .ref l1), (.inr "given", .ref g)] (.inr "wrote") (.ref w))) hMn
    have hwH : H w = none := s7.free hw
    have m8 : upd (upd H7 w (HO.dK [])) M (HO.dK (putK [(.inr "left", .ref l0), (.inr "people", .ref pe), (.inr "points", .ref q), (.inr "size", .int 0), (.inr "opened", .ref l1), (.inr "given", .ref g)] (.inr "wrote") (.ref w))) M = some (.dK [(.inr "left", .ref l0), (.inr "people", .ref pe), (.inr "points", .ref q), (.inr "size", .int 0), (.inr "opened", .ref l1), (.inr "given", .ref g), (.inr "wrote", .ref w)]) := by rw [upd_same]; rfl
    have p8 : upd (upd H7 w (HO.dK [])) M (HO.dK (putK [(.inr "left", .ref l0), (.inr "people", .ref pe), (.inr "points", .ref q), (.inr "size", .int 0), (.inr "opened", .ref l1), (.inr "given", .ref g)] (.inr "wrote") (.ref w))) pe = some (.lst []) := by rw [upd_ne hMpe.symm]; exact Same.new hw _ _ p7
    have q8 : upd (upd H7 w (HO.dK [])) M (HO.dK (putK [(.inr "left", .ref l0), (.inr "people", .ref pe), (.inr "points", .ref q), (.inr "size", .int 0), (.inr "opened", .ref l1), (.inr "given", .ref g)] (.inr "wrote") (.ref w))) q = some (.dK []) := by rw [upd_ne hMq.symm]; exact Same.new hw _ _ q7
    have g8 : upd (upd H7 w (HO.dK [])) M (HO.dK (putK [(.inr "left", .ref l0), (.inr "people", .ref pe), (.inr "points", .ref q), (.inr "size", .int 0), (.inr "opened", .ref l1), (.inr "given", .ref g)] (.inr "wrote") (.ref w))) g = some (.dK []) := by rw [upd_ne hMg.symm]; exact Same.new hw _ _ g7
    have w8 : upd (upd H7 w (HO.dK [])) M (HO.dK (putK [(.inr "left", .ref l0), (.inr "people", .ref pe), (.inr "points", .ref q), (.inr "size", .int 0), (.inr "opened", .ref l1), (.inr "given", .ref g)] (.inr "wrote") (.ref w))) w = some (.dK []) := by rw [upd_ne hMw.symm, upd_same]
    generalize upd (upd H7 w (HO.dK [])) M (HO.dK (putK [(.inr "left", .ref l0), (.inr "people", .ref pe), (.inr "points", .ref q), (.inr "size", .int 0), (.inr "opened", .ref l1), (.inr "given", .ref g)] (.inr "wrote") (.ref w))) = H8 at s8 m8 p8 q8 g8 w8
    -- gone
    refine ⟨le_line (by simp), fun l2 hl2 => ⟨_, rfl, M, _, rfl, DPut.k (k := .inr "gone") (Same.new hl2 _ _ m8) (lt_line (by simp)), ?_⟩⟩
    refine ⟨_, rfl, k M pe q g w _ ((s8.new2 hl2).put hMn) hMn hpeH hqH hgH hwH ⟨⟨l0, l1, l2, by rw [upd_same]; rfl⟩, by rw [upd_ne hMpe.symm]; exact Same.new hl2 _ _ p8, by rw [upd_ne hMq.symm]; exact Same.new hl2 _ _ q8, by rw [upd_ne hMg.symm]; exact Same.new hl2 _ _ g8, by rw [upd_ne hMw.symm]; exact Same.new hl2 _ _ w8, hMq, hqg, hqw⟩⟩
theorem sc_law_name_ok : FnScope (["_law_name"]) (["_law_name"]) (defScope s_law_name_ok) := ⟨rfl, rfl, rfl, by decide +kernel, rfl, by decide +kernel, by decide +kernel⟩
set_option maxHeartbeats 4000000 in
theorem ok_law_name_ok {f : Addr} {fd : FuncData} (F : Fun K "_law_name_ok" "_law_name_ok" s_law_name_ok f fd) (B : Bs mg) (T : Gs mg)   : FnOk P w K mg base CX0 1 f fd ["_law_name"] (spIsName K) := by
  have sc := sc_law_name_ok
  refine F.ok sc (fun vs H Q E h => ?_) (fun cdv A outer s H vs Q E hr h => ?_)
  · obtain ⟨z, rfl, _⟩ := h; rfl
  · obtain ⟨z, rfl, hz, k⟩ := h
    refine ⟨_, (pss_one (ps_ret (pe_and (pe_chain op_le op_le pe_int (pe_callB call_len_str (by rfl) B.len PyProof.Rows.Boot.«len» (pa_cons (pv 0) pa_nil)) pe_int) (pe_one (pe_callB (kc_all (K := K)) (by rfl) B.all PyProof.Rows.Boot.«all» (pa_cons (pe_lc (N' := ["_law_sign"]) (M := [none]) (lcSc_of (by rfl)) rfl (pi_str (pv 0)) (fun _ _ _ _ _ => pg_name (i := 0) (show (["_law_sign"] : List Str).Nodup by decide +kernel) rfl (Or.inl rfl) (.inr rfl)) (frm_name rfl) (fun _ _ _ _ _ => pts_nil) (fun _ _ _ _ _ => (pe_cmpR op_inS (pv 0) pe_str rfl))) pa_nil)))))), ?_⟩
    refine chainV (x := (z.length : Int)) (H' := H) (fun Q' h' => ⟨_, rfl, z, rfl, le_line (by omega), h'⟩) ⟨_, rfl, ?_⟩
    refine ite2 (fun g => ?_) (fun g => ?_)
    · refine ⟨_, rfl, z, rfl, lc_str (fun i ys H2 => H2 = H ∧ ys = ((List.range i).map fun j => letN (z.cps.toList.getD j 0)).map V.bl) (le_line (by omega)) ⟨rfl, rfl⟩ (fun i ys H2 _ h => by rw [h.2, List.length_map, List.length_map, List.length_range]; exact Nat.le_refl _) ?_ ?_⟩
      · rintro i ys H2 hi ⟨rfl, rfl⟩
        refine lcN ?_
        refine ⟨_, rfl, _, _, rfl, rfl, rfl, ?_⟩
        have e := abc_in (z.cps.toList.getD i 0)
        unfold abcT at e
        rw [e]
        exact bl_snoc (fun j => letN (z.cps.toList.getD j 0)) i
      · rintro ys H2 ⟨rfl, rfl⟩ p hp
        refine ⟨p, _, rfl, .inl (SqL.of upd_same), ?_⟩
        rw [all_letN]
        have k := k _ (Same.new (o := HO.lst (List.map V.bl ((List.range z.length).map fun j => letN (z.cps.toList.getD j 0)))) hp)
        unfold isNm at k
        rw [g, Bool.true_and] at k
        exact k
    · have k := k _ (Same.refl _)
      unfold isNm at k
      rw [bF g, Bool.false_and] at k
      exact k
theorem sc_law_come : FnScope (["_law_m", "_law_name"]) (["_law_m", "_law_name"]) (defScope s_law_come) := ⟨rfl, rfl, rfl, by decide +kernel, rfl, by decide +kernel, by decide +kernel⟩
set_option maxHeartbeats 4000000 in
theorem ok_law_come {f : Addr} {fd : FuncData} (F : Fun K "_law_come" "_law_come" s_law_come f fd) (B : Bs mg) (T : Gs mg)  (c_law_name_ok : Cal P w K mg base 1 "_law_name_ok" [] (spIsName K)) : FnOk P w K mg base CX0 2 f fd ["_law_m", "_law_name"] (spLCome K) := by
  have sc := sc_law_come
  refine F.ok sc (fun vs H Q E h => ?_) (fun cdv A outer s H vs Q E hr h => ?_)
  · obtain ⟨M, l, q, g, w, P, z, rfl, _⟩ := h; rfl
  · obtain ⟨M, l, q, g, w, P, z, rfl, hM, hnd, hn, hz, k1, k⟩ := h
    refine ⟨_, (pss_cons (ps_if (pt_not (pt_val (pe_cal c_law_name_ok (hr.mono (by decide)) rfl (pa_cons (pv 1) pa_nil)))) (pss_one (ps_ret (pe_tup (pa_cons pe_str (pa_cons pe_non pa_nil))))) pss_nil)
      (pss_cons (ps_if (pt_cmpR (kop_in (K := K)) (pv 1) (pe_dget (hu_of hr) (pv 0) pe_str (fun _ _ => rfl)) rfl) (pss_one (ps_ret (pe_tup (pa_cons pe_str (pa_cons pe_non pa_nil))))) pss_nil)
      (pss_cons (ps_if (pt_cmpR op_gt (pe_callB (kc_len (K := K)) (by rfl) B.len PyProof.Rows.Boot.«len» (pa_cons (pe_dget (hu_of hr) (pv 0) pe_str (fun _ _ => rfl)) pa_nil)) pe_int (nomark _)) (pss_one (ps_ret (pe_tup (pa_cons pe_str (pa_cons pe_non pa_nil))))) pss_nil)
      (pss_cons (ps_expr (pe_bm PySem.F.plainAttrs_list PySem.F.slot_list_append PySem.F.type_list_append mt_append (pe_dget (hu_of hr) (pv 0) pe_str (fun _ _ => rfl)) (pa_cons (pv 1) pa_nil)))
      (pss_cons (ps_dput (hu_of hr) (pe_dget (hu_of hr) (pv 0) pe_str (fun _ _ => rfl)) (pv 1) pe_int rfl)
      (pss_cons (ps_if (pt_cmpR op_gt (pe_dget (hu_of hr) (pv 0) pe_str (fun _ _ => rfl)) pe_int (nomark _)) (pss_one (ps_dput (hu_of hr) (pe_dget (hu_of hr) (pv 0) pe_str (fun _ _ => rfl)) (pv 1) (pe_lst pa_nil) rfl)) pss_nil)
      (pss_one (ps_ret (pe_tup (pa_cons pe_str (pa_cons pe_non pa_nil))))))))))), ?_⟩
    refine seq_ifN (b := !isNm z) (P := Same H) (fun N hN => ⟨_, rfl, z, rfl, hz, fun H1 s1 => ⟨_, rfl, hN _ s1⟩⟩) (fun g0 H1 s1 => ⟨le_line (by simp), fun t ht => k1 t "BadName" _ (s1.new2 ht) (by rw [if_pos (nT g0)]) (.inl (nT g0)) upd_same⟩) (fun g0 H1 s1 => ?_)
    have gn := nF g0
    have hM1 := hM.same s1
    refine seq_ifN (b := decide (z ∈ P)) (P := fun H2 => H2 = H1) (fun N hN => ⟨_, rfl, _, rfl, M, .ref l, rfl, hM1.people, l, _, rfl, .inl (SqL.of hM1.hl), rfl, flat_strs P, _, rfl, ?_⟩) (fun g1 H2 e => ⟨le_line (by simp), fun t ht => ?_⟩) (fun g1 H2 e => ?_)
    · rw [if_neg Bool.false_ne_true, inV_strs]; exact hN _ rfl
    · subst e
      have hzP := of_decide_eq_true g1
      exact k1 t "Taken" _ (s1.new2 ht) (by rw [if_neg (by rw [gn]; decide), if_pos hzP]) (.inr (.inl hzP)) upd_same
    subst e
    have gz : z ∉ P := of_decide_eq_false g1
    refine seq_ifN (b := decide (P.length = 9)) (P := fun H3 => H3 = H2) (fun N hN => ⟨_, rfl, M, .ref l, rfl, hM1.people, l, _, rfl, .inl (SqL.of hM1.hl), _, _, rfl, rfl, _, rfl, ?_⟩) (fun g2 H3 e => ⟨le_line (by simp), fun t ht => ?_⟩) (fun g2 H3 e => ?_)
    · rw [List.length_map, show decide ((8 : Int) < (P.length : Int)) = decide (P.length = 9) from decide_eq_decide.mpr (by omega)]
      exact hN _ rfl
    · subst e
      exact k1 t "Full" _ (s1.new2 ht) (by rw [if_neg (by rw [gn]; decide), if_neg gz]) (.inr (.inr (of_decide_eq_true g2))) upd_same
    subst e
    have g9 : P.length < 9 := by have := of_decide_eq_false g2; omega
    obtain ⟨n1, n2, n3, n4⟩ := hM1.kinds
    refine ⟨_, rfl, M, .ref l, rfl, hM1.people, .inl ⟨rfl, _, SqL.of hM1.hl⟩, _, rfl, l, _, _, rfl, rfl, hM1.hl, lt_line (by rw [List.length_map]; omega), ?_⟩
    have eP : P.map V.str ++ [V.str z] = (P ++ [z]).map V.str := str_snoc
    rw [eP]
    obtain ⟨l0, l1, l2, hMM⟩ := hM1.hM
    have hM2 : upd H3 l (HO.lst ((P ++ [z]).map V.str)) M = some (.dK (mdKv l0 l q l1 g w l2)) := by rw [upd_ne n1.symm]; exact hMM
    have hq2 : upd H3 l (HO.lst ((P ++ [z]).map V.str)) q = some (.dK (ptsKv P)) := by rw [upd_ne n2.symm]; exact hM1.hq
    refine ⟨_, rfl, M, .ref q, rfl, DGet.k (k := .inr "points") hM2, _, rfl, q, _, rfl, DPut.k (k := .inr z) hq2 (lt_line (by unfold ptsKv; rw [List.length_map]; omega)), ?_⟩
    rw [pts_put gz]
    have hM3 := hM1.put (P' := P ++ [z])
    have f3 : FrL [l, q] H (upd (upd H3 l (HO.lst ((P ++ [z]).map V.str))) q (HO.dK (ptsKv (P ++ [z])))) := ((FrL.of s1).put (by simp)).put (by simp)
    generalize upd (upd H3 l (HO.lst ((P ++ [z]).map V.str))) q (HO.dK (ptsKv (P ++ [z]))) = H4 at hM3 f3
    refine ⟨_, rfl, M, .int 0, rfl, hM3.size, _, _, rfl, rfl, _, rfl, ?_⟩
    dsimp only
    rw [if_neg (by decide)]
    exact ⟨le_line (by simp), fun t ht => k gn gz g9 t _ (f3.trans (FrL.of (Same.new ht))) (hM3.same (Same.new ht)) upd_same⟩
theorem sc_law_leave : FnScope (["_law_m", "_law_name", "_law_word"]) (["_law_m", "_law_name"]) (defScope s_law_leave) := ⟨rfl, rfl, rfl, by decide +kernel, rfl, by decide +kernel, by decide +kernel⟩
set_option maxHeartbeats 4000000 in
theorem ok_law_leave {f : Addr} {fd : FuncData} (F : Fun K "_law_leave" "_law_leave" s_law_leave f fd) (B : Bs mg) (T : Gs mg)   : FnOk P w K mg base CX0 1 f fd ["_law_m", "_law_name"] (spLLeave K) := by
  have sc := sc_law_leave
  refine F.ok sc (fun vs H Q E h => ?_) (fun cdv A outer s H vs Q E hr h => ?_)
  · obtain ⟨M, l, q, g, w, P, z, rfl, _⟩ := h; rfl
  · obtain ⟨M, l, q, g, w, P, z, rfl, hM, hnd, hn, k1, k⟩ := h
    refine ⟨_, (pss_cons (ps_if (pt_cmpR (kop_notIn (K := K)) (pv 1) (pe_dget (hu_of hr) (pv 0) pe_str (fun _ _ => rfl)) rfl) (pss_one (ps_ret (pe_tup (pa_cons pe_str (pa_cons pe_non pa_nil))))) pss_nil)
      (pss_cons (ps_expr (pe_bm PySem.F.plainAttrs_list PySem.F.slot_list_remove PySem.F.type_list_remove mt_removeS (pe_dget (hu_of hr) (pv 0) pe_str (fun _ _ => rfl)) (pa_cons (pv 1) pa_nil)))
      (pss_cons (ps_for PassesOwn.never rfl (kpi_list (K := K) (pe_lst (pa_cons pe_str (pa_cons pe_str (pa_cons pe_str pa_nil))))) (pg_name (i := 2) sc.nd rfl (Or.inl rfl))
      (pss_one (ps_expr (pe_dpop2 (pe_dget (hu_of hr) (pv 0) (pv 2) (fun _ _ => rfl)) (pv 1) pe_non ⟨rfl, rfl, rfl, rfl⟩))))
      (pss_one (ps_ret (pe_tup (pa_cons pe_str (pa_cons pe_non pa_nil)))))))), ?_⟩
    refine seq_ifN (b := !decide (z ∈ P)) (P := fun H2 => H2 = H) (fun N hN => ⟨_, rfl, _, rfl, M, .ref l, rfl, hM.people, l, _, rfl, .inl (SqL.of hM.hl), rfl, flat_strs P, _, rfl, ?_⟩) (fun g1 H2 e => ⟨le_line (by simp), fun t ht => ?_⟩) (fun g1 H2 e => ?_)
    · rw [if_pos rfl, inV_strs]; exact hN _ rfl
    · subst e
      exact k1 (of_decide_eq_false (nT g1)) t _ (Same.new ht) upd_same
    subst e
    have gz : z ∈ P := of_decide_eq_true (nF g1)
    obtain ⟨n1, n2, n3, n4⟩ := hM.kinds
    refine ⟨_, rfl, M, .ref l, rfl, hM.people, .inl ⟨rfl, _, SqL.of hM.hl⟩, _, rfl, l, P, z, rfl, rfl, hM.hl, gz, ?_⟩
    change tSeq _ _ _ _ (upd H2 l (HO.lst ((remP P z).map V.str)))
    obtain ⟨l0, l1, l2, hMM⟩ := hM.hM
    have hM2 : upd H2 l (HO.lst ((remP P z).map V.str)) M = some (.dK (mdKv l0 l q l1 g w l2)) := by rw [upd_ne n1.symm]; exact hMM
    have hq2 : upd H2 l (HO.lst ((remP P z).map V.str)) q = some (.dK (ptsKv P)) := by rw [upd_ne n2.symm]; exact hM.hq
    have hM3 := hM.put (P' := remP P z)
    have f3 : FrL [l, q] H2 (upd (upd H2 l (HO.lst ((remP P z).map V.str))) q (HO.dK (ptsKv (remP P z)))) := ((FrL.of (Same.refl _)).put (by simp)).put (by simp)
    refine ⟨le_line (by simp), fun r hr => ?_⟩
    have hMr : M ≠ r := ne_of_none hM2 hr
    have hqr : q ≠ r := ne_of_none hq2 hr
    have hrr : upd (upd H2 l (HO.lst ((remP P z).map V.str))) r (HO.lst [V.str "points", V.str "given", V.str "wrote"]) r = some (.lst [V.str "points", V.str "given", V.str "wrote"]) := upd_same
    have hlr : l ≠ r := fun e => by rw [← e, upd_same] at hr; cases hr
    refine ⟨r, rfl, ⟨_, SqL.of hrr⟩, for_list (xs := [V.str "points", V.str "given", V.str "wrote"]) (fun i σ H3 => (∃ o2 : Option V, σ = [some (.ref M), some (.str z), o2]) ∧ H3 r = some (.lst [V.str "points", V.str "given", V.str "wrote"]) ∧ (i = 0 → H3 = upd (upd H2 l (HO.lst ((remP P z).map V.str))) r (HO.lst [V.str "points", V.str "given", V.str "wrote"])) ∧ (0 < i → MdAt H3 M l q g w (remP P z) ∧ FrL [l, q] H2 H3)) ⟨⟨none, rfl⟩, hrr, fun _ => rfl, fun h => absurd h (by decide)⟩ (fun i σ H3 _ h => SqL.of h.2.1) ?_ ?_⟩
    · rintro i x σ H3 hi ⟨⟨o2, rfl⟩, hr3, h0, h1⟩
      refine gN ?_
      match i, hi with
      | 0, hi =>
        cases hi
        have e := h0 rfl
        subst e
        have hMr3 : upd (upd H2 l (HO.lst ((remP P z).map V.str))) r (HO.lst [V.str "points", V.str "given", V.str "wrote"]) M = some (.dK (mdKv l0 l q l1 g w l2)) := by rw [upd_ne hMr]; exact hM2
        have hqr3 : upd (upd H2 l (HO.lst ((remP P z).map V.str))) r (HO.lst [V.str "points", V.str "given", V.str "wrote"]) q = some (.dK (ptsKv P)) := by rw [upd_ne hqr]; exact hq2
        refine ⟨_, rfl, _, rfl, M, .ref q, rfl, DGet.k (k := .inr "points") hMr3, q, rfl, .inl ⟨_, .inl hqr3⟩, _, rfl, _, .inr z, hqr3, rfl, fun v hv => ?_, fun hv => by rw [pts_some gz] at hv; cases hv⟩
        rw [pts_drop hnd gz]
        have sw : Same (upd (upd H2 l (HO.lst ((remP P z).map V.str))) q (HO.dK (ptsKv (remP P z)))) (upd (upd (upd H2 l (HO.lst ((remP P z).map V.str))) r (HO.lst [V.str "points", V.str "given", V.str "wrote"])) q (HO.dK (ptsKv (remP P z)))) := fun b o e => by
          by_cases hb : b = q
          · subst hb; rw [upd_same] at e ⊢; exact e
          · rw [upd_ne hb] at e ⊢
            rw [upd_ne (fun zz => by rw [zz, hr] at e; cases e)]; exact e
        exact ⟨⟨_, rfl⟩, by rw [upd_ne hqr.symm]; exact upd_same, fun h => absurd h (by decide), fun _ => ⟨hM3.same sw, f3.trans (FrL.of sw)⟩⟩
      | 1, hi =>
        cases hi
        obtain ⟨hM4, f4⟩ := h1 (by decide)
        exact ⟨_, rfl, _, rfl, M, .ref g, rfl, hM4.given, g, rfl, .inl ⟨_, .inl hM4.hg⟩, _, rfl, _, .inr z, hM4.hg, rfl, fun v hv => (by cases hv), fun hv => ⟨⟨_, rfl⟩, hr3, fun h => absurd h (by decide), fun _ => ⟨hM4, f4⟩⟩⟩
      | 2, hi =>
        cases hi
        obtain ⟨hM4, f4⟩ := h1 (by decide)
        exact ⟨_, rfl, _, rfl, M, .ref w, rfl, hM4.wrote, w, rfl, .inl ⟨_, .inl hM4.hw⟩, _, rfl, _, .inr z, hM4.hw, rfl, fun v hv => (by cases hv), fun hv => ⟨⟨_, rfl⟩, hr3, fun h => absurd h (by decide), fun _ => ⟨hM4, f4⟩⟩⟩
      | i + 3, hi => simp at hi
    · rintro σ H3 ⟨⟨o2, rfl⟩, hr3, _, h1⟩
      obtain ⟨hM4, f4⟩ := h1 (by decide)
      exact ⟨le_line (by simp), fun t ht => k gz t _ (f4.trans (FrL.of (Same.new ht))) (hM4.same (Same.new ht)) upd_same⟩
theorem sc_law_result_ok : FnScope (["_law_found", "_law_due", "_law_told"]) (["_law_found", "_law_due"]) (defScope s_law_result_ok) := ⟨rfl, rfl, rfl, by decide +kernel, rfl, by decide +kernel, by decide +kernel⟩
set_option maxHeartbeats 4000000 in
theorem ok_law_result_ok {f : Addr} {fd : FuncData} (F : Fun K "_law_result_ok" "_law_result_ok" s_law_result_ok f fd) (B : Bs mg) (T : Gs mg)   : FnOk P w K mg base CX0 1 f fd ["_law_found", "_law_due"] (spResOk K) := by
  have sc := sc_law_result_ok
  refine F.ok sc (fun vs H Q E h => ?_) (fun cdv A outer s H vs Q E hr h => ?_)
  · obtain ⟨t, u, x, rfl, _⟩ := h; rfl
  · obtain ⟨t, u, x, rfl, ht, hu, k⟩ := h
    refine ⟨_, (pss_cons (ps_if (pt_cmpR op_ne (pe_ix (kix_tup (K := K)) (pv 0) pe_int (fun _ _ => rfl)) (pe_ix (kix_tup (K := K)) (pv 1) pe_int (fun _ _ => rfl)) (nomark _)) (pss_one (ps_ret pe_bl)) pss_nil)
      (pss_cons (ps_set (i := 2) sc.nd rfl (Or.inl rfl) (pe_ix (kix_tup (K := K)) (pv 0) pe_int (fun _ _ => rfl)))
      (pss_cons (ps_if (pt_cmpR op_isN (pe_ix (kix_tup (K := K)) (pv 1) pe_int (fun _ _ => rfl)) pe_non (nomark _)) (pss_one (ps_ret (pe_cmpR op_isN (pv 2) pe_non (nomark _)))) pss_nil)
      pss_never))), ?_⟩
    have e0 : decide (V.non = V.non) = true := decide_eq_true rfl
    refine seq_ifN (b := false) (P := fun H1 => H1 = H) (fun N hN => ⟨_, rfl, t, _, _, _, rfl, rfl, SqT.of ht, rfl, _, rfl, u, _, _, _, rfl, rfl, SqT.of hu, rfl, rfl, _, rfl, ?_⟩) (fun g => absurd g (by decide)) (fun g H1 e => ?_)
    · rw [decide_eq_true rfl]
      exact hN _ rfl
    subst e
    refine seq_a ?_
    refine ⟨_, rfl, t, _, _, _, rfl, rfl, SqT.of ht, rfl, ?_⟩
    refine ⟨_, rfl, u, _, _, _, rfl, rfl, SqT.of hu, rfl, rfl, _, rfl, ?_⟩
    dsimp only
    rw [if_pos e0]
    exact ⟨_, rfl, rfl, by rw [e0]; exact k⟩
theorem sc_law_pairs_told : FnScope (["_law_found", "_law_due"]) (["_law_found", "_law_due"]) (defScope s_law_pairs_told) := ⟨rfl, rfl, rfl, by decide +kernel, rfl, by decide +kernel, by decide +kernel⟩
set_option maxHeartbeats 4000000 in
theorem ok_law_pairs_told {f : Addr} {fd : FuncData} (F : Fun K "_law_pairs_told" "_law_pairs_told" s_law_pairs_told f fd) (B : Bs mg) (T : Gs mg)  (c_law_pair_of_wood : Cal P w K mg base 2 "_law_pair_of_wood" [] (spPairW K)) : FnOk P w K mg base CX0 3 f fd ["_law_found", "_law_due"] (spTold K) := by
  have sc := sc_law_pairs_told
  refine F.ok sc (fun vs H Q E h => ?_) (fun cdv A outer s H vs Q E hr h => ?_)
  · obtain ⟨l, r, as, bs, W, rfl, _⟩ := h; rfl
  · obtain ⟨l, r, as, bs, W, rfl, hl, hr0, hA, hB, hn, k⟩ := h
    refine ⟨_, (pss_one (ps_ret (pe_and (pe_callB (kc_isi (K := K)) (by rfl) B.isinstance PyProof.Rows.Boot.«isinstance» (pa_cons (pv 0) (pa_cons (pe_bltn (v := .ty "list") rfl B.list PyProof.Rows.Boot.«list» rfl) pa_nil))) (pe_and (pe_callB (kc_all (K := K)) (by rfl) B.all PyProof.Rows.Boot.«all» (pa_cons (pe_lc (N' := ["_law_one"]) (M := [none]) (lcSc_of (by rfl)) rfl (kpi_list (K := K) (pv 0)) (fun _ _ _ _ _ => pg_name (i := 0) (show (["_law_one"] : List Str).Nodup by decide +kernel) rfl (Or.inl rfl) (.inr rfl)) (frm_name rfl) (fun _ _ _ _ _ => pts_nil) (fun _ _ _ _ _ => (pe_cal c_law_pair_of_wood (hr.mono (by decide)) rfl (pa_cons (pv 0) pa_nil)))) pa_nil)) (pe_one (pe_cmpR (op_eqD (K := K) (hu40 hr)) (pv 0) (pv 1) (nomark _))))))), ?_⟩
    have hal : (as.map V.ref).length = W.length := by rw [List.length_map, hA.length]
    refine ⟨_, rfl, .ref l, "list", _, true, rfl, TyOf.lst hl, rfl, _, rfl, iteT ?_⟩
    refine ⟨_, rfl, l, rfl, ⟨_, SqL.of hl⟩, lc_list (xs := as.map V.ref) (fun i ys H4 => H4 = H ∧ ys = (List.replicate i true).map V.bl) (le_line (by omega)) ⟨rfl, rfl⟩
        (fun i ys H4 _ ⟨e, e2⟩ => ⟨by rw [e]; exact SqL.of hl, by rw [e2, List.length_map, List.length_replicate]; exact Nat.le_refl _⟩) ?_ ?_⟩
    · rintro i y ys H4 hi ⟨rfl, rfl⟩
      obtain ⟨r1, rfl, hr', hil⟩ := getRef hi
      obtain ⟨w1, hw, hwi⟩ := paired_getM hA hr'
      refine lcN ?_
      refine ⟨_, rfl, r1, w1, rfl, hw, rfl, ?_⟩
      rw [List.replicate_succ', List.map_append]; rfl
    · rintro ys H4 ⟨rfl, rfl⟩ t ht
      have s1 := Same.new (o := HO.lst ((List.replicate (as.map V.ref).length true).map V.bl)) ht
      refine ⟨t, _, rfl, .inl (SqL.of upd_same), _, rfl, ?_⟩
      rw [show (List.replicate (as.map V.ref).length true).all id = true by simp]
      refine iteT ⟨_, rfl, _, rfl, .lst (W.map wD), .lst (W.map wD), ?_, ?_, ?_, ?_⟩
      · rw [DAt]; exact ⟨l, _, rfl, SqL.of (s1 _ _ hl), (hA.same s1).dat⟩
      · rw [DAt]; exact ⟨r, _, rfl, SqL.of (s1 _ _ hr0), (hB.same s1).dat⟩
      · rw [depD]; have := dep_wD W; omega
      · rw [eqD_refl]; exact k _ s1
theorem sc_law_points : FnScope (["_law_room", "_law_name"]) (["_law_room", "_law_name"]) (defScope s_law_points) := ⟨rfl, rfl, rfl, by decide +kernel, rfl, by decide +kernel, by decide +kernel⟩
set_option maxHeartbeats 4000000 in
theorem ok_law_points {f : Addr} {fd : FuncData} (F : Fun K "_law_points" "_law_points" s_law_points f fd) (B : Bs mg) (T : Gs mg) (mNoListener : mg "NoListener" = some (.ref CNoListener)) (qNoListener : PySem.W.excIn K CNoListener bmV "ValueError.__new__" = true) (clRoom : Cls K CRoom) (cRoom_points : CalME P w K mg base CRoom 2 "points" (spPoints K CRoom CSeat CNoListener)) : FnOk P w K mg base CX0 3 f fd ["_law_room", "_law_name"] (spLPoints K CRoom CSeat) := by
  have sc := sc_law_points
  refine F.ok sc (fun vs H Q E h => ?_) (fun cdv A outer s H vs Q E hr h => ?_)
  · obtain ⟨p, d, P, z, rfl, _⟩ := h; rfl
  · obtain ⟨p, d, P, z, rfl, hR, k, kE⟩ := h
    refine ⟨_, (pss_one (ps_try rfl rfl rfl rfl mNoListener qNoListener (fun _ _ => (pss_one (ps_ret (pe_calME cRoom_points clRoom (hr.mono (by decide)) pass_try (pv 0) (pa_cons (pv 1) pa_nil))))) (fun _ _ => (pss_one (ps_ret (pe_lst (pa_cons pe_str pa_nil))))))), ?_⟩
    obtain ⟨dx, st, lf, ps, ho⟩ := hR.ob
    exact ⟨_, rfl, p, dx, _, rfl, ho, roomF_points st d lf ps, _, rfl, p, d, P, z, rfl, hR, k, fun hz H' s' => ⟨rfl, le_line (by simp), fun q hq => kE hz q _ (s'.new2 hq) upd_same⟩⟩
theorem sc_law_standings : FnScope (["_law_m", "_law_pairs", "_law_points_here"]) (["_law_m"]) (defScope s_law_standings) := ⟨rfl, rfl, rfl, by decide +kernel, rfl, by decide +kernel, by decide +kernel⟩
set_option maxHeartbeats 4000000 in
theorem ok_law_standings {f : Addr} {fd : FuncData} (F : Fun K "_law_standings" "_law_standings" s_law_standings f fd) (B : Bs mg) (T : Gs mg)   : FnOk P w K mg base CX0 1 f fd ["_law_m"] (spLStand K) := by
  have sc := sc_law_standings
  refine F.ok sc (fun vs H Q E h => ?_) (fun cdv A outer s H vs Q E hr h => ?_)
  · obtain ⟨M, l, q, g, w, P, rfl, _⟩ := h; rfl
  · obtain ⟨M, l, q, g, w, P, rfl, hM, hn, k⟩ := h
    refine ⟨_, (pss_cons (ps_set (i := 1) sc.nd rfl (Or.inl rfl) (pe_lst pa_nil))
      (pss_cons (ps_for PassesOwn.never rfl (pi_rangeD rfl B.range (pa_cons (pe_callB (kc_max (K := K)) (by rfl) B.max PyProof.Rows.Boot.«max» (pa_cons (pe_op op_cat (pe_lst (pa_cons pe_int pa_nil)) (pe_lc (N' := ["_law_name", "_law_m"]) (M := [none, some 0]) (lcSc_of (by rfl)) rfl (kpi_list (K := K) (pe_dget (hu_of hr) (pv 0) pe_str (fun _ _ => rfl))) (fun _ _ _ _ _ => pg_name (i := 0) (show (["_law_name", "_law_m"] : List Str).Nodup by decide +kernel) rfl (Or.inl rfl) (.inr rfl)) (frm_name rfl) (fun _ _ _ _ _ => pts_nil) (fun _ _ _ _ _ => (pe_dget (hu_of hr) (pe_dget (hu_of hr) (pv 1) pe_str (fun _ _ => rfl)) (pv 0) (fun _ _ => rfl))))) pa_nil)) (pa_cons (pe_un un_neg pe_int) (pa_cons (pe_un un_neg pe_int) pa_nil)))) (pg_name (i := 2) sc.nd rfl (Or.inr rfl))
      (pss_one (ps_expr (pe_bm PySem.F.plainAttrs_list PySem.F.slot_list_extend PySem.F.type_list_extend mt_extend (pv 1) (pa_cons (pe_lc (N' := ["_law_name", "_law_points_here", "_law_m"]) (M := [none, some 2, some 0]) (lcSc_of (by rfl)) rfl (kpi_list (K := K) (pe_dget (hu_of hr) (pv 0) pe_str (fun _ _ => rfl))) (fun _ _ _ _ _ => pg_name (i := 0) (show (["_law_name", "_law_points_here", "_law_m"] : List Str).Nodup by decide +kernel) rfl (Or.inl rfl) (.inr rfl)) (frm_name rfl) (fun _ _ _ _ _ => pts_one (pt_cmpR op_eq (pe_dget (hu_of hr) (pe_dget (hu_of hr) (pv 2) pe_str (fun _ _ => rfl)) (pv 0) (fun _ _ => rfl)) (pv 1) (nomark _))) (fun _ _ _ _ _ => (pe_tup (pa_cons (pv 0) (pa_cons (pv 1) pa_nil))))) pa_nil)))))
      (pss_one (ps_ret (pv 1))))), ?_⟩
    refine seq_a ?_
    refine ⟨le_line (by simp), fun pr hpr => ?_⟩
    have s1 := Same.new (o := HO.lst []) hpr
    have hM1 := hM.same s1
    have hpr1 : upd H pr (HO.lst []) pr = some (.lst []) := upd_same
    have hprl : l ≠ pr := ne_of_none hM.hl hpr
    generalize upd H pr (HO.lst []) = H1 at s1 hM1 hpr1
    refine ⟨le_line (by simp), fun q1 hq1 => ?_⟩
    have s2 := Same.new (o := HO.lst [V.int 0]) hq1
    have hM2 := hM1.same s2
    have hq2 : upd H1 q1 (HO.lst [V.int 0]) q1 = some (.lst [V.int 0]) := upd_same
    have hpr2 := s2 _ _ hpr1
    generalize upd H1 q1 (HO.lst [V.int 0]) = H2 at s2 hM2 hq2 hpr2
    refine ⟨_, rfl, M, .ref l, rfl, hM2.people, l, rfl, ⟨_, SqL.of hM2.hl⟩, lc_list (xs := P.map V.str) (fun i ys H4 => H4 = H2 ∧ ys = (List.replicate i (0 : Int)).map V.int) (le_line (by rw [List.length_map]; omega)) ⟨rfl, rfl⟩ (fun i ys H4 _ h => ⟨by rw [h.1]; exact SqL.of hM2.hl, by rw [h.2, List.length_map, List.length_replicate]; exact Nat.le_refl _⟩) ?_ ?_⟩
    · rintro i y ys H4 hi ⟨rfl, rfl⟩
      obtain ⟨z', rfl, hz', _⟩ := getStrZ hi
      refine lcN ?_
      refine ⟨_, rfl, M, .ref q, rfl, hM2.points, _, rfl, q, .int 0, rfl, pts_get hM2.hq (List.mem_of_getElem? hz'), rfl, ?_⟩
      rw [List.replicate_succ', List.map_append]; rfl
    rintro ys H4 ⟨rfl, rfl⟩ q2 hqn
    have s3 := Same.new (o := HO.lst ((List.replicate (P.map V.str).length (0 : Int)).map V.int)) hqn
    refine ⟨q1, q2, _, _, rfl, rfl, s3 _ _ hq2, upd_same, le_line (by simp; omega), fun q3 hq3 => ?_⟩
    have s4 := s3.new2 (o := HO.lst ([V.int 0] ++ (List.replicate (P.map V.str).length (0 : Int)).map V.int)) hq3
    have hM5 := hM2.same s4
    have hpr5 := s4 _ _ hpr2
    refine ⟨q3, 0 :: List.replicate (P.map V.str).length (0 : Int), rfl, .inl (SqL.of (by rw [upd_same]; rfl)), by simp, fun m hm => ?_⟩
    have hm0 : m = 0 := by
      rcases List.mem_cons.mp hm.1 with e | e
      · exact e
      · exact (List.mem_replicate.mp e).2
    subst hm0
    generalize upd (upd H4 q2 (HO.lst ((List.replicate (P.map V.str).length (0 : Int)).map V.int))) q3 (HO.lst ([V.int 0] ++ (List.replicate (P.map V.str).length (0 : Int)).map V.int)) = H5 at s4 hM5 hpr5
    have s5 : Same H H5 := (s1.trans s2).trans s4
    refine ⟨_, rfl, _, rfl, 0, -1, rfl, ⟨by decide, by decide, by decide, by decide⟩, ?_⟩
    refine for_itv (x := 0) (n := ((0 : Int) - -1).toNat) (fun i σ H6 => Same H H6 ∧ ((i = 0 ∧ H6 = H5 ∧ σ = [some (.ref M), some (.ref pr), none]) ∨ (i = 1 ∧ (∃ o2 : Option V, σ = [some (.ref M), some (.ref pr), o2]) ∧ ∃ as : List Addr, H6 pr = some (.lst (as.map V.ref)) ∧ WAt H6 as (P.map fun z => (z, 0))))) ⟨s5, .inl ⟨rfl, rfl, rfl⟩⟩ ?_ ?_
    · rintro i σ H6 hi ⟨s6, (⟨rfl, rfl, rfl⟩ | ⟨rfl, _⟩)⟩
      · refine gN ?_
        refine ⟨_, rfl, .inl ⟨rfl, _, SqL.of hpr5⟩, _, rfl, M, .ref l, rfl, hM5.people, l, rfl, ⟨_, SqL.of hM5.hl⟩, lc_list (xs := P.map V.str) (fun i ys H7 => Same H6 H7 ∧ ∃ as : List Addr, ys = as.map V.ref ∧ WAt H7 as ((P.take i).map fun z => (z, 0))) (le_line (by rw [List.length_map]; omega)) ⟨Same.refl _, [], rfl, .nil⟩ (fun i ys H7 _ ⟨s7, as, e, hA⟩ => ⟨SqL.of (s7 _ _ hM5.hl), by rw [e, List.length_map, hA.length, List.length_map, List.length_take]; omega⟩) ?_ ?_⟩
        · rintro i y ys H7 hi ⟨s7, as, rfl, hA⟩
          obtain ⟨z', rfl, hz', _⟩ := getStrZ hi
          have hM7 := hM5.same s7
          refine gN ?_
          refine ⟨_, rfl, M, .ref q, rfl, hM7.points, _, rfl, q, .int 0, rfl, pts_get hM7.hq (List.mem_of_getElem? hz'), _, rfl, rfl, _, rfl, ?_⟩
          dsimp only
          refine ite2 (fun _ => ?_) (fun g => absurd (decide_eq_true rfl) g)
          refine ⟨_, rfl, _, rfl, le_line (by simp), fun u hu => ⟨s7.new2 hu, as ++ [u], by rw [List.map_append]; rfl, ?_⟩⟩
          rw [take_snoc hz', List.map_append]
          exact Paired.snoc (hA.same (Same.new hu)) (by rw [upd_same]; rfl)
        · rintro ys H7 ⟨s7, as, rfl, hA⟩ b hb
          rw [List.length_map, List.take_length] at hA
          have hal := hA.length
          rw [List.length_map] at hal
          have s8 := s7.new2 (o := HO.lst (as.map V.ref)) hb
          have hprb : pr ≠ b := ne_of_none (s7 _ _ hpr5) hb
          refine ⟨pr, b, [], as.map V.ref, rfl, rfl, s8 _ _ hpr5, upd_same, le_line (by simp; omega), ⟨(s5.trans s8).put hpr, .inr ⟨rfl, ⟨_, rfl⟩, as, by rw [upd_same]; rfl, ?_⟩⟩⟩
          refine L2.Paired.mapP hA fun a x e => ?_
          have e1 : a ≠ b := fun z => by rw [z, hb] at e; cases e
          have e2 : a ≠ pr := fun z => by rw [z, s7 _ _ hpr5] at e; cases e
          rw [upd_ne e2, upd_ne e1]; exact e
      · exact absurd hi (by decide)
    · rintro σ H6 ⟨s6, (⟨h0, _⟩ | ⟨_, ⟨o2, rfl⟩, as, hp6, hA6⟩)⟩
      · exact absurd h0 (by decide)
      · exact ⟨_, rfl, k pr as H6 s6 hp6 hA6⟩
theorem sc_law_people_ok : FnScope (["_law_room", "_law_m", "_law_stranger", "_law_found", "_law_name", "_law_told"]) (["_law_room", "_law_m", "_law_stranger"]) (defScope s_law_people_ok) := ⟨rfl, rfl, rfl, by decide +kernel, rfl, by decide +kernel, by decide +kernel⟩
set_option maxHeartbeats 4000000 in
theorem ok_law_people_ok {f : Addr} {fd : FuncData} (F : Fun K "_law_people_ok" "_law_people_ok" s_law_people_ok f fd) (B : Bs mg) (T : Gs mg) (clRoom : Cls K CRoom) (cRoom_listeners : CalM P w K mg base CRoom 1 "listeners" (spListeners K CRoom CSeat)) (cRoom_standings : CalM P w K mg base CRoom 4 "standings" (spStandings K CRoom CSeat PTRoom_standings)) (c_law_num : Cal P w K mg base 1 "_law_num" [] spNum) (c_law_pairs_told : Cal P w K mg base 3 "_law_pairs_told" [] (spTold K)) (c_law_points : Cal P w K mg base 3 "_law_points" [] (spLPoints K CRoom CSeat)) (c_law_refused : Cal P w K mg base 1 "_law_refused" [] (spRefused K)) (c_law_standings : Cal P w K mg base 1 "_law_standings" [] (spLStand K)) : FnOk P w K mg base CX0 6 f fd ["_law_room", "_law_m", "_law_stranger"] (spPeople K CRoom CSeat PTRoom_standings) := by
  have sc := sc_law_people_ok
  refine F.ok sc (fun vs H Q E h => ?_) (fun cdv A outer s H vs Q E hr h => ?_)
  · obtain ⟨p, d, M, l, q, g, w, P, z, rfl, _⟩ := h; rfl
  · obtain ⟨p, d, M, l, q, g, w, P, z, rfl, hR, hM, hz, hTab, k⟩ := h
    refine ⟨_, (pss_cons (ps_set (i := 3) sc.nd rfl (Or.inl rfl) (pe_calM0 cRoom_listeners clRoom (hr.mono (by decide)) (pv 0)))
      (pss_cons (ps_if (PW.pt (pw_or (pt_not (pt_val (pe_callB (kc_isi (K := K)) (by rfl) B.isinstance PyProof.Rows.Boot.«isinstance» (pa_cons (pv 3) (pa_cons (pe_bltn (v := .ty "list") rfl B.list PyProof.Rows.Boot.«list» rfl) pa_nil))))) (pw_or1 (pt_cmpR (op_neF (K := K) hr.units0) (pv 3) (pe_dget (hu_of hr) (pv 1) pe_str (fun _ _ => rfl)) (nomark _))))) (pss_one (ps_ret pe_bl)) pss_nil)
      (pss_cons (ps_for PassesOwn.never rfl (kpi_list (K := K) (pe_dget (hu_of hr) (pv 1) pe_str (fun _ _ => rfl))) (pg_name (i := 4) sc.nd rfl (Or.inl rfl))
      (pss_cons (ps_set (i := 5) sc.nd rfl (Or.inl rfl) (pe_cal c_law_points (hr.mono (by decide)) rfl (pa_cons (pv 0) (pa_cons (pv 4) pa_nil))))
      (pss_one (ps_if (PW.pt (pw_or (pt_not (pt_val (pe_cal c_law_num (hr.mono (by decide)) rfl (pa_cons (pv 5) pa_nil)))) (pw_or1 (pt_cmpR op_ne (pv 5) (pe_dget (hu_of hr) (pe_dget (hu_of hr) (pv 1) pe_str (fun _ _ => rfl)) (pv 4) (fun _ _ => rfl)) (nomark _))))) (pss_one (ps_ret pe_bl)) pss_nil))))
      (pss_one (ps_ret (pe_and (pe_cal c_law_refused (hr.mono (by decide)) rfl (pa_cons (pe_cal c_law_points (hr.mono (by decide)) rfl (pa_cons (pv 0) (pa_cons (pv 2) pa_nil))) pa_nil)) (pe_one (pe_cal c_law_pairs_told (hr.mono (by decide)) rfl (pa_cons (pe_calM0 cRoom_standings clRoom (hr.mono (by decide)) (pv 0)) (pa_cons (pe_cal c_law_standings (hr.mono (by decide)) rfl (pa_cons (pv 1) pa_nil)) pa_nil)))))))))), ?_⟩
    obtain ⟨dx, st, lf, ps, ho⟩ := hR.ob
    have h9 := hR.n9
    refine seq_a ?_
    refine ⟨_, rfl, p, dx, _, rfl, ho, roomF_listeners st d lf ps, p, d, P, rfl, hR, fun f1 H1 _ s1 hf1 => ?_⟩
    have hM1 := hM.same s1
    have hR1 := hR.same s1
    have hTab1 := hTab.same s1
    refine seq_ifN (b := false) (P := fun H2 => H2 = H1) (fun N hN => ⟨_, rfl, .ref f1, "list", _, true, rfl, TyOf.lst hf1, rfl, _, rfl, iteF ?_⟩) (fun g => absurd g (by decide)) (fun g0 H2 e => ?_)
    · exact ⟨_, rfl, _, rfl, M, .ref l, rfl, hM1.people, f1, l, _, _, rfl, rfl, .inr ⟨SqL.of hf1, SqL.of hM1.hl⟩, flat_strs P, flat_strs P, _, rfl, by rw [eqVs_strs]; exact hN _ rfl⟩
    subst e
    refine seq_by2 (fun σ' H3 => (∃ o4 o5 : Option V, σ' = [some (.ref p), some (.ref M), some (.str z), some (.ref f1), o4, o5]) ∧ H3 = H2) (fun N hN => ?_) ?_
    · refine ⟨_, rfl, M, .ref l, rfl, hM1.people, l, rfl, ⟨_, SqL.of hM1.hl⟩, for_list (xs := P.map V.str) (fun i σ H3 => (∃ o4 o5 : Option V, σ = [some (.ref p), some (.ref M), some (.str z), some (.ref f1), o4, o5]) ∧ H3 = H2) ⟨⟨none, none, rfl⟩, rfl⟩ (fun i σ H3 _ h => by rw [h.2]; exact SqL.of hM1.hl) ?_ ?_⟩
      · rintro i x σ H3 hi ⟨⟨o4, o5, rfl⟩, rfl⟩
        obtain ⟨z', rfl, hz', _⟩ := getStrZ hi
        have hzP : z' ∈ P := List.mem_of_getElem? hz'
        refine gN ?_
        refine seq_a ?_
        refine ⟨_, rfl, _, rfl, p, d, P, z', rfl, hR1, fun _ => ?_, fun h => absurd hzP h⟩
        refine if_N (b := false) (P := fun H4 => H4 = H3) (fun N' hN' => ⟨_, rfl, 0, rfl, _, rfl, iteF ⟨_, rfl, _, rfl, M, .ref q, rfl, hM1.points, _, rfl, q, .int 0, rfl, pts_get hM1.hq hzP, rfl, _, rfl, by rw [decide_eq_true rfl]; exact hN' _ rfl⟩⟩) (fun g => absurd g (by decide)) (fun g H4 e => ?_)
        exact ⟨⟨_, _, rfl⟩, e⟩
      · rintro σ H3 ⟨⟨o4, o5, rfl⟩, rfl⟩
        exact hN _ _ ⟨⟨o4, o5, rfl⟩, rfl⟩
    rintro σ' H3 ⟨⟨o4, o5, rfl⟩, rfl⟩
    refine ⟨_, rfl, _, rfl, p, d, P, z, rfl, hR1, fun h => absurd h hz, fun _ rq H4 s4 hrq => ⟨rq, rfl, hrq, _, rfl, iteT ?_⟩⟩
    have hR4 := hR1.same s4
    have hM4 := hM1.same s4
    have hTab4 := hTab1.same s4
    refine ⟨_, rfl, p, dx, _, rfl, s4 _ _ (s1 _ _ ho), roomF_standings st d lf ps, p, d, P, rfl, hR4, hTab4, fun l5 as5 H5 s5 hT5 _ hl5 hA5 => ?_⟩
    have hM5 := (hM4.hole hTab4).same s5
    refine ⟨_, rfl, M, l, q, g, w, P, rfl, hM5, h9, fun r6 as6 H6 s6 hr6 hA6 => ?_⟩
    refine ⟨l5, r6, as5, as6, _, rfl, s6 _ _ hl5, hr6, hA5.same s6, hA6, by rw [List.length_map]; omega, fun H7 s7 => ?_⟩
    exact k H7 (((hole_same (s1.trans s4)).trans s5).trans (s6.trans s7)) (hT5.same (s6.trans s7))
theorem sc_law_rich_woods : FnScope (["_law_cell_here", "_law_size", "_law_left", "_law_stranger", "_law_step"]) (["_law_cell_here", "_law_size"]) (defScope s_law_rich_woods) := ⟨rfl, rfl, rfl, by decide +kernel, rfl, by decide +kernel, by decide +kernel⟩
set_option maxHeartbeats 4000000 in
theorem ok_law_rich_woods {f : Addr} {fd : FuncData} (F : Fun K "_law_rich_woods" "_law_rich_woods" s_law_rich_woods f fd) (B : Bs mg) (T : Gs mg)  (c_law_total : Cal P w K mg base 1 "_law_total" [] (spLTot K)) (c_law_woods : Cal P w K mg base 3 "_law_woods" [] (spLWoods K)) : FnOk P w K mg base CX0 5 f fd ["_law_cell_here", "_law_size"] (spRich24 K) := by
  have sc := sc_law_rich_woods
  refine F.ok sc (fun vs H Q E h => ?_) (fun cdv A outer s H vs Q E hr h => ?_)
  · obtain ⟨c, n, rfl, _⟩ := h; rfl
  · obtain ⟨c, n, rfl, n1, n9, k⟩ := h
    refine ⟨_, (pss_cons (ps_asg (pe_cal c_law_woods (hr.mono (by decide)) rfl (pa_cons (pv 0) pa_nil)) (pg_tup rfl (pgs_cons (pg_name (i := 2) sc.nd rfl (Or.inl rfl)) (pgs_cons (pg_name (i := 3) sc.nd rfl (Or.inl rfl)) pgs_nil))))
      (pss_cons (ps_for PassesOwn.never rfl (pi_range1 rfl B.range (pa_cons (pv 1) pa_nil)) (pg_name (i := 4) sc.nd rfl (Or.inl rfl))
      (pss_one (ps_if (pt_cmpR op_lt (pe_cal c_law_total (hr.mono (by decide)) rfl (pa_cons (pv 2) pa_nil)) (pv 1) (nomark _)) (pss_one (ps_lc (i := 2) sc.nd rfl rfl (N' := ["_law_name", "_law_packets"]) (M := [none, none]) (lcSc_of (by rfl)) rfl (kpi_list (K := K) (pv 2)) (fun _ _ _ _ _ => kpg_tup (K := K) (n := 2) rfl (pgs_cons (pg_name (i := 0) (show (["_law_name", "_law_packets"] : List Str).Nodup by decide +kernel) rfl (Or.inl rfl) (.inr rfl)) (pgs_cons (pg_name (i := 1) (show (["_law_name", "_law_packets"] : List Str).Nodup by decide +kernel) rfl (Or.inl rfl) (.inr rfl)) pgs_nil))) frm_two (fun _ _ _ _ _ => pts_nil) (fun _ _ _ _ _ => (pe_tup (pa_cons (pv 0) (pa_cons (pe_callB kc_min2 (by rfl) B.min PyProof.Rows.Boot.«min» (pa_cons pe_int (pa_cons (pe_op op_add (pv 1) pe_int) pa_nil))) pa_nil)))))) pss_nil)))
      (pss_one (ps_ret (pe_tup (pa_cons (pv 2) (pa_cons (pv 3) pa_nil))))))), ?_⟩
    refine ⟨_, rfl, c, rfl, fun t l as W zs H1 ht hl s1 ht1 hl1 hA1 hok hzn hzi => ?_⟩
    refine ⟨t, _, rfl, SqT.of ht1, rfl, _, _, rfl, _, _, rfl, rfl, ?_⟩
    dsimp only
    refine seq_by2 (fun σ' H' => ∃ (l : Addr) (as : List Addr) (W : Wds) (o4 : Option V), σ' = [some (.int c), some (.int n), some (.ref l), some (.str zs), o4] ∧ Same H H' ∧ H' l = some (.lst (as.map V.ref)) ∧ WAt H' as W ∧ woodsOk W = true ∧ n ≤ totW W) (fun N hN => ?_) ?_
    · refine ⟨_, rfl, _, rfl, by omega, by omega, for_range (lo := 0) (n := n.toNat) (fun i σ H' => ∃ (l : Addr) (as : List Addr) (W : Wds) (o4 : Option V), σ = [some (.int c), some (.int n), some (.ref l), some (.str zs), o4] ∧ Same H H' ∧ H' l = some (.lst (as.map V.ref)) ∧ WAt H' as W ∧ woodsOk W = true ∧ (n ≤ totW W ∨ 2 * (i : Int) ≤ totW W))
        ⟨l, as, W, none, rfl, s1, hl1, hA1, hok, .inr (by have := (tot_ok hok).1; omega)⟩ ?_ ?_⟩
      · rintro i σ H2 hi ⟨l, as, W, o4, rfl, s2, hl2, hA2, hok2, hor⟩
        obtain ⟨w1, w2, w3⟩ := woodsOk_iff.mp hok2
        have hal : (as.map V.ref).length = W.length := by rw [List.length_map, hA2.length]
        refine gN ?_
        refine ⟨_, rfl, l, as, W, rfl, hl2, hA2, by omega, fun H3 s3 => ?_⟩
        refine ⟨_, rfl, _, _, rfl, rfl, _, rfl, ite2 (fun g => ?_) (fun g => ?_)⟩
        · have g := of_decide_eq_true g
          have hl3 := s3 _ _ hl2
          have hA3 := hA2.same s3
          have hsm : ∀ w ∈ W, w.2 ≤ 97 := fun w hw => by
            have h1 : w.2 ≤ totW W := le_tot (fun v hv => (w3 v hv).2.1) hw
            omega
          refine ⟨_, rfl, l, rfl, ⟨_, SqL.of hl3⟩, lc_list (xs := as.map V.ref) (fun i ys H4 => Same H3 H4 ∧ ∃ bs : List Addr, ys = bs.map V.ref ∧ WAt H4 bs ((W.take i).map fun w => (w.1, w.2 + 2))) (le_line (by omega)) ⟨Same.refl _, [], rfl, .nil⟩
            (fun i ys H4 _ ⟨s4, bs, e, hb⟩ => ⟨SqL.of (s4 _ _ hl3), by rw [e, List.length_map, hb.length, List.length_map, List.length_take]; omega⟩) ?_ ?_⟩
          · rintro i y ys H4 hi ⟨s4, bs, rfl, hb⟩
            obtain ⟨q, rfl, hq, hil⟩ := getRef hi
            obtain ⟨w, hww, hwi⟩ := paired_getM hA3 hq
            have hsw := hsm w (List.mem_of_getElem? hwi)
            refine ⟨q, _, rfl, SqT.of (s4 _ _ hww), rfl, _, _, rfl, _, _, rfl, rfl, lcY ?_⟩
            refine ⟨_, rfl, _, rfl, _, _, rfl, rfl, _, _, rfl, le_line (by simp), fun u hu => ?_⟩
            have e2 : (if w.2 + 2 < 99 then w.2 + 2 else 99) = w.2 + 2 := by split <;> omega
            rw [e2]
            refine ⟨s4.new2 hu, bs ++ [u], ref_snoc, ?_⟩
            rw [map_take_snoc hwi]
            exact Paired.snoc (hb.same (Same.new hu)) upd_same
          · rintro ys H4 ⟨s4, bs, rfl, hb⟩ p hp
            rw [hal, List.take_length] at hb
            have hn : ((W.map fun w => (w.1, w.2 + 2)) : Wds).map (·.1) = W.map (·.1) := by rw [List.map_map]; rfl
            refine ⟨p, bs, W.map fun w => (w.1, w.2 + 2), _, rfl, ((s2.trans s3).trans s4).new2 hp, upd_same, hb.same (Same.new hp), woodsOk_iff.mpr ⟨by rw [List.length_map]; exact w1, by rw [hn]; exact w2, fun v hv => ?_⟩, ?_⟩
            · obtain ⟨w, hw, rfl⟩ := List.mem_map.mp hv
              have := hsm w hw
              have := w3 w hw
              exact ⟨this.1, by dsimp only; omega, by dsimp only; omega⟩
            · rw [tot_two]
              rcases hor with h | h <;> (right; push_cast; omega)
        · have g : ¬ totW W < n := fun e => g (decide_eq_true e)
          exact ⟨l, as, W, _, rfl, s2.trans s3, s3 _ _ hl2, hA2.same s3, hok2, .inl (by omega)⟩
      · rintro σ H2 ⟨l, as, W, o4, rfl, s2, hl2, hA2, hok2, hor⟩
        exact hN _ _ ⟨l, as, W, o4, rfl, s2, hl2, hA2, hok2, by omega⟩
    · rintro σ H2 ⟨l, as, W, o4, rfl, s2, hl2, hA2, hok2, hn⟩
      exact ⟨_, rfl, _, rfl, le_line (by simp), fun u hu => k u l as W zs _ (s2.new2 hu) upd_same (Same.new hu _ _ hl2) (hA2.same (Same.new hu)) hok2 hn⟩
theorem sc_law_begun : FnScope (["_law_cell_here", "_law_first", "_law_second", "_law_third", "_law_left", "_law_other", "_law_names_here"]) (["_law_cell_here"]) (defScope s_law_begun) := ⟨rfl, rfl, rfl, by decide +kernel, rfl, by decide +kernel, by decide +kernel⟩
set_option maxHeartbeats 4000000 in
theorem ok_law_begun {f : Addr} {fd : FuncData} (F : Fun K "_law_begun" "_law_begun" s_law_begun f fd) (B : Bs mg) (T : Gs mg)  (c3_law_split : Cal P w K mg base 1 "_law_split" [] spSplit) (c_law_draw : Cal P w K mg base 1 "_law_draw" [] (spDraw K)) (c_law_names : Cal P w K mg base 2 "_law_names" [] (spNames12 K)) (c_law_rich_woods : Cal P w K mg base 5 "_law_rich_woods" [] (spRich24 K)) (c_law_woods : Cal P w K mg base 3 "_law_woods" [] (spLWoods K)) : FnOk P w K mg base CX0 6 f fd ["_law_cell_here"] (spBegun K) := by
  have sc := sc_law_begun
  refine F.ok sc (fun vs H Q E h => ?_) (fun cdv A outer s H vs Q E hr h => ?_)
  · obtain ⟨c, rfl, _⟩ := h; rfl
  · obtain ⟨c, rfl, k⟩ := h
    refine ⟨_, (pss_cons (ps_asg (pe_cal c3_law_split (hr.mono (by decide)) rfl (pa_cons (pv 0) (pa_cons pe_int (pa_cons pe_int pa_nil)))) (pg_lst rfl (pgs_cons (pg_name (i := 1) sc.nd rfl (Or.inl rfl)) (pgs_cons (pg_name (i := 2) sc.nd rfl (Or.inl rfl)) (pgs_cons (pg_name (i := 3) sc.nd rfl (Or.inl rfl)) pgs_nil)))))
      (pss_cons (ps_asg (pe_cal c_law_woods (hr.mono (by decide)) rfl (pa_cons (pv 1) pa_nil)) (pg_tup rfl (pgs_cons (pg_name (i := 4) sc.nd rfl (Or.inl rfl)) (pgs_cons (pg_name (i := 5) sc.nd rfl (Or.inl rfl)) pgs_nil))))
      (pss_cons (ps_if (pt_cmpR op_gt (pe_ix (kix_list (K := K)) (pe_cal c_law_draw (hr.mono (by decide)) rfl (pa_cons (pv 3) (pa_cons (pe_lst (pa_cons pe_int pa_nil)) pa_nil))) pe_int (fun _ _ => rfl)) pe_int (nomark _)) (pss_one (ps_asg (pe_cal c_law_rich_woods (hr.mono (by decide)) rfl (pa_cons (pv 1) (pa_cons pe_int pa_nil))) (pg_tup rfl (pgs_cons (pg_name (i := 4) sc.nd rfl (Or.inl rfl)) (pgs_cons (pg_name (i := 5) sc.nd rfl (Or.inl rfl)) pgs_nil))))) pss_nil)
      (pss_cons (ps_set (i := 6) sc.nd rfl (Or.inl rfl) (pe_cal c_law_names (hr.mono (by decide)) rfl (pa_cons (pv 2) (pa_cons pe_int pa_nil))))
      (pss_one (ps_ret (pe_tup (pa_cons (pv 4) (pa_cons (pe_slice (ksl_list (K := K)) (pv 6) po_none (po_some pe_int)) (pa_cons (pe_ix (kix_list (K := K)) (pv 6) pe_int (fun _ _ => rfl)) pa_nil)))))))))), ?_⟩
    refine ⟨_, rfl, c, 3, 1, rfl, by decide, by decide, by decide, by decide, fun p3 sp3 H3 _ s3 hp3 hl3 => ?_⟩
    obtain ⟨f1, f2, f3, rfl⟩ : ∃ f1 f2 f3, sp3 = [f1, f2, f3] := by
      match sp3, hl3 with
      | [x, y, z], _ => exact ⟨x, y, z, rfl⟩
    refine ⟨p3, _, rfl, SqL.of hp3, rfl, _, _, rfl, _, _, rfl, _, _, rfl, rfl, ?_⟩
    refine ⟨_, rfl, f1, rfl, fun t l as W zs H4 ht hl s4 ht4 hl4 hA4 hok hzn hzi => ?_⟩
    refine ⟨t, _, rfl, SqT.of ht4, rfl, _, _, rfl, _, _, rfl, rfl, ?_⟩
    dsimp only
    have s4 := s3.trans s4
    refine seq_by2 (fun σ' H' => ∃ (l : Addr) (as : List Addr) (W : Wds) (o5 : Option V), σ' = [some (.int c), some (.int f1), some (.int f2), some (.int f3), some (.ref l), o5, none] ∧ Same H H' ∧ H' l = some (.lst (as.map V.ref)) ∧ WAt H' as W ∧ woodsOk W = true) (fun N hN => ?_) ?_
    · refine ⟨_, rfl, le_line (by simp), fun q1 hq1 => ⟨f3, q1, [4], rfl, SqL.of upd_same, lim_ok (by decide +kernel), by decide, fun row rs H5 _ s5 hrow hD => ?_⟩⟩
      have s5 := (Same.new (o := HO.lst [V.int 4]) hq1).trans s5
      obtain ⟨r0, ⟨a0, b0⟩, e0⟩ := paired_getM hD (show ([4] : List Int)[0]? = some 4 from rfl)
      refine ⟨row, _, _, _, rfl, rfl, SqL.of hrow, atI_nt e0, _, _, rfl, rfl, _, rfl, ite2 (fun g => ?_) (fun g => ?_)⟩
      · refine ⟨_, rfl, f1, 24, rfl, by decide, by decide, fun t2 l2 as2 W2 z2 H6 s6 ht6 hl6 hA6 hok6 _ => ⟨t2, _, rfl, SqT.of ht6, rfl, _, _, rfl, _, _, rfl, rfl, hN _ _ ⟨l2, as2, W2, _, rfl, (s4.trans s5).trans s6, hl6, hA6, hok6⟩⟩⟩
      · exact hN _ _ ⟨l, as, W, _, rfl, s4.trans s5, s5 _ _ hl4, hA4.same s5, hok⟩
    rintro σ' H5 ⟨l, as, W, o5, rfl, s5, hl5, hA5, hok5⟩
    refine seq_a ⟨_, rfl, f2, 12, rfl, by decide, by decide, fun nm S H7 _ s7 hnm hSl hSn hSo r c0 hN => ?_⟩
    dsimp only
    have hS12 : S.length = 12 := by omega
    have h11 : 11 < S.length := by omega
    refine ⟨_, rfl, _, rfl, _, rfl, nm, _, rfl, SqL.of hnm, fun po hpo => ?_⟩
    have e11 : cutV (S.map V.str) none (some 11) = (S.take 11).map V.str := by rw [show (11 : Int) = ((11 : Nat) : Int) from rfl, cut_take, List.map_take]
    rw [e11]
    refine ⟨_, rfl, nm, _, _, _, rfl, rfl, SqL.of (Same.new hpo _ _ hnm), atI_strs (i := 11) h11, le_line (by simp), fun t9 ht9 => ?_⟩
    have s8 := (Same.new (o := HO.lst ((S.take 11).map V.str)) hpo).new2 (o := HO.tup [V.ref l, V.ref po, V.str (S.getD 11 "")]) ht9
    have eS : S.take 11 ++ [S.getD 11 ""] = S := by
      rw [List.getD_eq_getElem?_getD, List.getElem?_eq_getElem h11]
      show S.take 11 ++ [S[11]] = S
      rw [← List.take_succ_eq_append_getElem h11, List.take_of_length_le (by omega)]
    exact k t9 l po as W (S.take 11) (S.getD 11 "") r c0 _ ((s5.trans s7).trans s8) upd_same (s8 _ _ (s7 _ _ hl5)) ((hA5.same s7).same s8) hok5 (Same.new ht9 _ _ upd_same) (by rw [List.length_take]; omega) (by rw [eS]; exact hN)
theorem sc_law_tried : FnScope (["_law_room", "_law_deed"]) (["_law_room", "_law_deed"]) (defScope s_law_tried) := ⟨rfl, rfl, rfl, by decide +kernel, rfl, by decide +kernel, by decide +kernel⟩
set_option maxHeartbeats 4000000 in
theorem ok_law_tried {f : Addr} {fd : FuncData} (F : Fun K "_law_tried" "_law_tried" s_law_tried f fd) (B : Bs mg) (T : Gs mg) (mBadName : mg "BadName" = some (.ref CBadName)) (qBadName : PySem.W.excIn K CBadName bmV "ValueError.__new__" = true) (mTaken : mg "Taken" = some (.ref CTaken)) (qTaken : PySem.W.excIn K CTaken bmV "ValueError.__new__" = true) (mFull : mg "Full" = some (.ref CFull)) (qFull : PySem.W.excIn K CFull bmV "ValueError.__new__" = true) (mNoListener : mg "NoListener" = some (.ref CNoListener)) (qNoListener : PySem.W.excIn K CNoListener bmV "ValueError.__new__" = true) (nTakenBadName : PySem.W.exmOne K (.ref CTaken) (.ref CBadName) = some false) (nFullBadName : PySem.W.exmOne K (.ref CFull) (.ref CBadName) = some false) (nFullTaken : PySem.W.exmOne K (.ref CFull) (.ref CTaken) = some false) (nNoListenerBadName : PySem.W.exmOne K (.ref CNoListener) (.ref CBadName) = some false) (nNoListenerTaken : PySem.W.exmOne K (.ref CNoListener) (.ref CTaken) = some false) (nNoListenerFull : PySem.W.exmOne K (.ref CNoListener) (.ref CFull) = some false) (clRoom : Cls K CRoom) (cRoom_come : CalME P w K mg base CRoom 3 "come" (spCome K CRoom CSeat CBadName CTaken CFull)) (cRoom_leave : CalME P w K mg base CRoom 2 "leave" (spLeave K CRoom CSeat CNoListener)) : FnOk P w K mg base CX0 4 f fd ["_law_room", "_law_deed"] (spTriedR K CRoom CSeat) := by
  have sc := sc_law_tried
  refine F.ok sc (fun vs H Q E h => ?_) (fun cdv A outer s H vs Q E hr h => ?_)
  · obtain ⟨p, d, P, t, b, z, rfl, _⟩ := h; rfl
  · obtain ⟨p, d, P, t, b, z, rfl, hR, ht, hz, k1, k⟩ := h
    refine ⟨_, (pss_one (ps_try4 rfl rfl rfl rfl mBadName qBadName rfl mTaken qTaken rfl mFull qFull rfl mNoListener qNoListener nTakenBadName nFullBadName nFullTaken nNoListenerBadName nNoListenerTaken nNoListenerFull (fun _ _ => (pss_one (ps_ret (pe_tup (pa_cons pe_str (pa_cons (pe_ifExp (pt_cmpR op_eq (pe_ix (kix_tup (K := K)) (pv 1) pe_int (fun _ _ => rfl)) pe_str (nomark _)) (pe_calME cRoom_come clRoom (hr.mono (by decide)) pass_try (pv 0) (pa_cons (pe_ix (kix_tup (K := K)) (pv 1) pe_int (fun _ _ => rfl)) pa_nil)) (pe_calME cRoom_leave clRoom (hr.mono (by decide)) pass_try (pv 0) (pa_cons (pe_ix (kix_tup (K := K)) (pv 1) pe_int (fun _ _ => rfl)) pa_nil))) pa_nil)))))) (fun _ _ => (pss_one (ps_ret (pe_tup (pa_cons pe_str (pa_cons pe_non pa_nil)))))) (fun _ _ => (pss_one (ps_ret (pe_tup (pa_cons pe_str (pa_cons pe_non pa_nil)))))) (fun _ _ => (pss_one (ps_ret (pe_tup (pa_cons pe_str (pa_cons pe_non pa_nil)))))) (fun _ _ => (pss_one (ps_ret (pe_tup (pa_cons pe_str (pa_cons pe_non pa_nil)))))))), ?_⟩
    obtain ⟨dx, st, lf, ps, ho⟩ := hR.ob
    cases b with
    | true =>
      refine ⟨_, rfl, t, _, _, _, rfl, rfl, SqT.of ht, rfl, rfl, _, rfl, ?_⟩
      dsimp only
      rw [dStr, decide_eq_true (by rfl)]
      refine iteT ⟨_, rfl, p, dx, _, rfl, ho, roomF_come st d lf ps, _, rfl, t, _, _, _, rfl, rfl, SqT.of ht, rfl, p, d, P, z, rfl, hR, hz, fun e1 H' s' => .inl ⟨rfl, le_line (by simp), fun u hu => ?_⟩, fun e1 e2 H' s' => .inr (.inl ⟨rfl, le_line (by simp), fun u hu => ?_⟩), fun e1 e2 e3 H' s' => .inr (.inr (.inl ⟨rfl, le_line (by simp), fun u hu => ?_⟩)), fun e1 e2 e3 H' f' hR' => ⟨le_line (by simp), fun u hu => ?_⟩⟩
      · exact k1 u _ _ (s'.new2 hu) (by rw [if_pos rfl, if_pos e1]) (by rw [if_pos rfl]; exact .inl e1) upd_same
      · exact k1 u _ _ (s'.new2 hu) (by rw [if_pos rfl, if_neg (by rw [e1]; decide), if_pos e2]) (by rw [if_pos rfl]; exact .inr (.inl e2)) upd_same
      · exact k1 u _ _ (s'.new2 hu) (by rw [if_pos rfl, if_neg (by rw [e1]; decide), if_neg e2]) (by rw [if_pos rfl]; exact .inr (.inr e3)) upd_same
      · exact k (by rw [if_pos rfl]; exact ⟨e1, e2, e3⟩) u _ (f'.trans (FrL.of (Same.new hu))) (by rw [if_pos rfl]; exact hR'.same (Same.new hu)) upd_same
    | false =>
      refine ⟨_, rfl, t, _, _, _, rfl, rfl, SqT.of ht, rfl, rfl, _, rfl, ?_⟩
      dsimp only
      rw [dStr, decide_eq_false (by rw [if_neg Bool.false_ne_true]; decide)]
      refine iteF ⟨_, rfl, p, dx, _, rfl, ho, roomF_leave st d lf ps, _, rfl, t, _, _, _, rfl, rfl, SqT.of ht, rfl, p, d, P, z, rfl, hR, fun e1 H' f' hR' => ⟨le_line (by simp), fun u hu => ?_⟩, fun e1 H' s' => .inr (.inr (.inr ⟨rfl, le_line (by simp), fun u hu => ?_⟩))⟩
      · exact k (by rw [if_neg Bool.false_ne_true]; exact e1) u _ (f'.trans (FrL.of (Same.new hu))) (by rw [if_neg Bool.false_ne_true]; exact hR'.same (Same.new hu)) upd_same
      · exact k1 u _ _ (s'.new2 hu) (by rw [if_neg Bool.false_ne_true]) (by rw [if_neg Bool.false_ne_true]; exact e1) upd_same
theorem sc_law_drawn : FnScope (["_law_row", "_law_people", "_law_pool", "_law_name", "_law_at", "_law_bad"]) (["_law_row", "_law_people", "_law_pool"]) (defScope s_law_drawn) := ⟨rfl, rfl, rfl, by decide +kernel, rfl, by decide +kernel, by decide +kernel⟩
set_option maxHeartbeats 4000000 in
theorem ok_law_drawn {f : Addr} {fd : FuncData} (F : Fun K "_law_drawn" "_law_drawn" s_law_drawn f fd) (B : Bs mg) (T : Gs mg)   : FnOk P w K mg base CX0 1 f fd ["_law_row", "_law_people", "_law_pool"] (spDrawn K) := by
  have sc := sc_law_drawn
  refine F.ok sc (fun vs H Q E h => ?_) (fun cdv A outer s H vs Q E hr h => ?_)
  · obtain ⟨row, pl, po, rs, P, S, r, c0, rfl, _⟩ := h; rfl
  · obtain ⟨row, pl, po, rs, P, S, r, c0, rfl, hrow, hpl, hpo, hrs, hP, hS, hN, hok, k⟩ := h
    refine ⟨_, (pss_cons (ps_set (i := 3) sc.nd rfl (Or.inl rfl) (pe_ix (kix_list (K := K)) (pv 2) (pe_ix (kix_list (K := K)) (pv 0) pe_int (fun _ _ => rfl)) (fun _ _ => rfl)))
      (pss_cons (ps_set (i := 4) sc.nd rfl (Or.inl rfl) (pe_op op_mod (pe_ix (kix_list (K := K)) (pv 0) pe_int (fun _ _ => rfl)) (pe_callB call_len_str (by rfl) B.len PyProof.Rows.Boot.«len» (pa_cons (pv 3) pa_nil))))
      (pss_cons (ps_if (pt_cmpR op_eq (pe_ix (kix_list (K := K)) (pv 0) pe_int (fun _ _ => rfl)) pe_int (nomark _)) (pss_cons (ps_set (i := 5) sc.nd rfl (Or.inl rfl) (pe_op op_add_str (pe_op op_add_str (pe_slice sl_strB (pv 3) po_none (po_some (pv 4))) (pe_ix ix_str pe_str (pe_op op_mod (pe_ix (kix_list (K := K)) (pv 0) pe_int (fun _ _ => rfl)) pe_int) (fun _ _ => rfl))) (pe_slice sl_strB (pv 3) (po_some (pe_op op_add (pv 4) pe_int)) po_none)))
      (pss_one (ps_ret (pe_tup (pa_cons pe_str (pa_cons (pe_ix (kix_list (K := K)) (pe_lst (pa_cons pe_str (pa_cons (pv 5) (pa_cons (pe_slice sl_strB (pe_op op_mulC (pv 3) pe_int) po_none (po_some pe_int)) (pa_cons (pe_slice sl_strB (pe_op op_mulC (pv 3) pe_int) po_none (po_some pe_int)) pa_nil))))) (pe_op op_mod (pe_ix (kix_list (K := K)) (pv 0) pe_int (fun _ _ => rfl)) pe_int) (fun _ _ => rfl)) pa_nil)))))) pss_nil)
      (pss_cons (ps_if (pt_cmpR op_eq (pe_ix (kix_list (K := K)) (pv 0) pe_int (fun _ _ => rfl)) pe_int (nomark _)) (pss_one (ps_ret (pe_tup (pa_cons pe_str (pa_cons (pe_ifExp (PW.pt (pw_and (pt_cmpR op_gt (pe_ix (kix_list (K := K)) (pv 0) pe_int (fun _ _ => rfl)) pe_int (nomark _)) (pw_and1 (pt_cmpR op_gt (pe_callB (kc_len (K := K)) (by rfl) B.len PyProof.Rows.Boot.«len» (pa_cons (pv 1) pa_nil)) pe_int (nomark _))))) (pe_ix (kix_list (K := K)) (pv 1) (pe_op op_mod (pe_ix (kix_list (K := K)) (pv 0) pe_int (fun _ _ => rfl)) (pe_callB (kc_len (K := K)) (by rfl) B.len PyProof.Rows.Boot.«len» (pa_cons (pv 1) pa_nil))) (fun _ _ => rfl)) (pv 3)) pa_nil))))) pss_nil)
      (pss_one (ps_ret (pe_tup (pa_cons pe_str (pa_cons (pv 3) pa_nil))))))))), ?_⟩
    obtain ⟨r0, ⟨a0, b0⟩, e0⟩ := paired_getM hrs (show ([11, 8, 36, 5, 5, 2] : List Int)[0]? = some 11 from rfl)
    obtain ⟨r1, ⟨a1, b1⟩, e1⟩ := paired_getM hrs (show ([11, 8, 36, 5, 5, 2] : List Int)[1]? = some 8 from rfl)
    obtain ⟨r2, ⟨a2, b2⟩, e2⟩ := paired_getM hrs (show ([11, 8, 36, 5, 5, 2] : List Int)[2]? = some 36 from rfl)
    obtain ⟨r3, ⟨a3, b3⟩, e3⟩ := paired_getM hrs (show ([11, 8, 36, 5, 5, 2] : List Int)[3]? = some 5 from rfl)
    obtain ⟨r4, ⟨a4, b4⟩, e4⟩ := paired_getM hrs (show ([11, 8, 36, 5, 5, 2] : List Int)[4]? = some 5 from rfl)
    obtain ⟨j0, rfl⟩ : ∃ j0 : Nat, r0 = (j0 : Int) := ⟨r0.toNat, by omega⟩
    have hj : j0 < S.length := by omega
    obtain ⟨n1, n2⟩ := hN.lt hj
    have hnm : (S.map V.str)[j0]? = some (V.str (S.getD j0 "")) := by rw [List.getElem?_map, List.getD_eq_getElem?_getD, List.getElem?_eq_getElem hj]; rfl
    have hgood : ∀ z : Str, z.cps.toList.getD r 0 = (S.getD j0 "").cps.toList.getD r 0 → goodZ r c0 z := fun z e => hN.good hS hj e
    generalize S.getD j0 "" = nm at n1 n2 hnm hgood
    refine seq_a ?_
    refine ⟨_, rfl, _, rfl, row, _, _, _, rfl, rfl, SqL.of hrow, atI_nt e0, po, _, _, _, rfl, rfl, SqL.of hpo, atI_nat hnm, ?_⟩
    refine seq_a ?_
    refine ⟨_, rfl, row, _, _, _, rfl, rfl, SqL.of hrow, atI_nt e2, _, rfl, nm, rfl, le_line (by omega), _, _, rfl, rfl, by omega, ?_⟩
    have x0 : 0 ≤ r2 % (nm.length : Int) := Int.emod_nonneg _ (by omega)
    have x1 : r2 % (nm.length : Int) < nm.length := Int.emod_lt_of_pos _ (by omega)
    dsimp only
    generalize r2 % (nm.length : Int) = at0 at x0 x1 ⊢
    have hlen : ∀ a b : Str, (a ++ b).length = a.length + b.length := fun a b => Array.size_append ..
    have hl3 : ∀ (lo hi : Option Int), (Txt.slice nm lo hi).length ≤ nm.length := fun lo hi => Txt.slice_le nm lo hi
    refine seq_ifN (b := decide (r1 = 0)) (P := fun H1 => H1 = H) (fun N hN => ⟨_, rfl, row, _, _, _, rfl, rfl, SqL.of hrow, atI_nt e1, rfl, _, rfl, by rw [dInt]; exact hN _ rfl⟩) (fun g H1 e => ?_) (fun g H1 e => ?_)
    · subst e
      obtain ⟨c, hc, hcl⟩ : ∃ c, atI ("A 0-_\nB9{" : Str).cps.toList (r2 % 9) = some c ∧ letN c = false := by
        have y0 : 0 ≤ r2 % 9 := Int.emod_nonneg _ (by decide)
        have y1 : r2 % 9 < 9 := Int.emod_lt_of_pos _ (by decide)
        have : r2 % 9 = 0 ∨ r2 % 9 = 1 ∨ r2 % 9 = 2 ∨ r2 % 9 = 3 ∨ r2 % 9 = 4 ∨ r2 % 9 = 5 ∨ r2 % 9 = 6 ∨ r2 % 9 = 7 ∨ r2 % 9 = 8 := by omega
        rcases this with e | e | e | e | e | e | e | e | e <;> rw [e]
        · exact ⟨65, by decide +kernel, by decide⟩
        · exact ⟨32, by decide +kernel, by decide⟩
        · exact ⟨48, by decide +kernel, by decide⟩
        · exact ⟨45, by decide +kernel, by decide⟩
        · exact ⟨95, by decide +kernel, by decide⟩
        · exact ⟨10, by decide +kernel, by decide⟩
        · exact ⟨66, by decide +kernel, by decide⟩
        · exact ⟨57, by decide +kernel, by decide⟩
        · exact ⟨123, by decide +kernel, by decide⟩
      have h1c : (⟨#[c]⟩ : Str).length = 1 := rfl
      refine seq_a ?_
      refine ⟨_, rfl, _, rfl, _, rfl, nm, rfl, by omega, _, rfl, row, _, _, _, rfl, rfl, SqL.of hrow, atI_nt e2, _, _, rfl, rfl, p0, _, _, _, rfl, rfl, le_line (by decide +kernel), hc, ?_⟩
      refine ⟨_, _, rfl, rfl, le_line (by have := hl3 none (some at0); omega), ?_⟩
      refine ⟨_, rfl, _, rfl, _, _, rfl, rfl, _, rfl, nm, rfl, by omega, ?_⟩
      refine ⟨_, _, rfl, rfl, le_line (by have := hl3 none (some at0); have := hl3 (some (at0 + 1)) none; rw [hlen]; omega), ?_⟩
      have hbl : ((Txt.slice nm none (some at0) ++ (⟨#[c]⟩ : Str)) ++ Txt.slice nm (some (at0 + 1)) none).length ≤ 1000 := by
        rw [hlen, hlen]
        have := hl3 none (some at0)
        have := hl3 (some (at0 + 1)) none
        omega
      have hbn : isNm ((Txt.slice nm none (some at0) ++ (⟨#[c]⟩ : Str)) ++ Txt.slice nm (some (at0 + 1)) none) = false := by
        unfold isNm
        have : ((Txt.slice nm none (some at0) ++ (⟨#[c]⟩ : Str)) ++ Txt.slice nm (some (at0 + 1)) none).cps.toList = (Txt.slice nm none (some at0)).cps.toList ++ [c] ++ (Txt.slice nm (some (at0 + 1)) none).cps.toList := by
          show ((Txt.slice nm none (some at0)).cps ++ #[c] ++ (Txt.slice nm (some (at0 + 1)) none).cps).toList = _
          simp
        rw [this]
        simp [hcl]
      generalize (Txt.slice nm none (some at0) ++ (⟨#[c]⟩ : Str)) ++ Txt.slice nm (some (at0 + 1)) none = bad at hbl hbn
      dsimp only
      have l13 : (repZ nm (13 : Int).toNat).length = 13 * nm.length := repZ_len nm 13
      have l12 : (repZ nm (12 : Int).toNat).length = 12 * nm.length := repZ_len nm 12
      have q13 : (Txt.slice (repZ nm (13 : Int).toNat) none (some 13)).length ≤ 1000 := by have := Txt.slice_le (repZ nm (13 : Int).toNat) none (some 13); omega
      have q12 : (Txt.slice (repZ nm (12 : Int).toNat) none (some 12)).length ≤ 1000 := by have := Txt.slice_le (repZ nm (12 : Int).toNat) none (some 12); omega
      have g13 : goodZ r c0 (Txt.slice (repZ nm (13 : Int).toNat) none (some 13)) := hgood _ (by
        rw [show (some (13 : Int)) = some ((13 : Nat) : Int) from rfl, slice_to_at _ 13 r (by omega) (by omega)]
        exact repZ_at nm 13 r (by decide) n1)
      have g12 : goodZ r c0 (Txt.slice (repZ nm (12 : Int).toNat) none (some 12)) := hgood _ (by
        rw [show (some (12 : Int)) = some ((12 : Nat) : Int) from rfl, slice_to_at _ 12 r (by omega) (by omega)]
        exact repZ_at nm 12 r (by decide) n1)
      refine ⟨_, rfl, _, rfl, nm, 13, rfl, rfl, by decide, by decide, by omega, by omega, _, rfl, _, rfl, by omega, _, rfl, nm, 12, rfl, rfl, by decide, by decide, by omega, by omega, _, rfl, _, rfl, by omega, le_line (by simp), fun li hli => ?_⟩
      generalize Txt.slice (repZ nm (13 : Int).toNat) none (some 13) = s13 at q13 g13
      generalize Txt.slice (repZ nm (12 : Int).toNat) none (some 12) = s12 at q12 g12
      obtain ⟨zz, hzz, hzl, hzg⟩ : ∃ zz : Str, atI [V.str "", V.str bad, V.str s13, V.str s12] (r3 % 4) = some (V.str zz) ∧ zz.length ≤ 1000 ∧ (isNm zz = true → goodZ r c0 zz) := by
        have y0 : 0 ≤ r3 % 4 := Int.emod_nonneg _ (by decide)
        have y1 : r3 % 4 < 4 := Int.emod_lt_of_pos _ (by decide)
        have : r3 % 4 = 0 ∨ r3 % 4 = 1 ∨ r3 % 4 = 2 ∨ r3 % 4 = 3 := by omega
        rcases this with e | e | e | e <;> rw [e]
        · exact ⟨"", rfl, by decide, fun h => absurd h (by decide +kernel)⟩
        · exact ⟨bad, rfl, hbl, fun h => by rw [hbn] at h; cases h⟩
        · exact ⟨s13, rfl, q13, fun _ => g13⟩
        · exact ⟨s12, rfl, q12, fun _ => g12⟩
      refine ⟨_, rfl, row, _, _, _, rfl, rfl, SqL.of (Same.new hli _ _ hrow), atI_nt e3, _, _, rfl, rfl, p0, li, _, _, _, rfl, rfl, SqL.of upd_same, hzz, le_line (by simp), fun t ht => ?_⟩
      exact k t true zz _ ((Same.new hli).new2 ht) (by rw [upd_same]; rfl) hzl (fun _ => hzg)
    subst e
    refine seq_ifN (b := decide (r4 = 0)) (P := fun H2 => H2 = H1) (fun N hN => ⟨_, rfl, row, _, _, _, rfl, rfl, SqL.of hrow, atI_nt e4, rfl, _, rfl, by rw [dInt]; exact hN _ rfl⟩) (fun g4 H2 e => ?_) (fun g4 H2 e => ?_)
    · subst e
      have fin : ∀ zz : Str, zz.length ≤ 1000 → 2 ≤ sizeLine ∧ ∀ t, H2 t = none → Q (.ref t) (upd H2 t (.tup [V.str "leave", V.str zz])) := fun zz hzz => ⟨le_line (by decide), fun t ht => k t false zz _ (Same.new ht) (by rw [upd_same]; rfl) hzz (fun h => by cases h)⟩
      refine ⟨_, rfl, row, _, _, _, rfl, rfl, SqL.of hrow, atI_nt e3, _, _, rfl, rfl, _, rfl, ?_⟩
      refine ite2 (fun g5 => ?_) (fun g5 => ?_)
      · refine ⟨_, rfl, pl, _, rfl, .inl (SqL.of hpl), _, _, rfl, rfl, _, rfl, ?_⟩
        dsimp only
        refine ite2 (fun g6 => ?_) (fun g6 => ?_)
        · have hPl : (0 : Int) < ((P.map V.str).length : Int) := of_decide_eq_true g6
          rw [List.length_map] at hPl
          have y0 : 0 ≤ r2 % (P.length : Int) := Int.emod_nonneg _ (by omega)
          have y1 : r2 % (P.length : Int) < P.length := Int.emod_lt_of_pos _ hPl
          refine ⟨_, rfl, _, rfl, row, _, _, _, rfl, rfl, SqL.of hrow, atI_nt e2, _, rfl, pl, _, rfl, .inl (SqL.of hpl), _, _, rfl, rfl, by rw [List.length_map]; exact hPl, pl, _, _, _, rfl, rfl, SqL.of hpl, atI_strZ (R := P) (j := (r2 % (P.length : Int)).toNat) (by rw [List.length_map]; omega) (by omega), ?_⟩
          refine fin _ ?_
          have hm : P.getD (r2 % (P.length : Int)).toNat "" ∈ P := by
            rw [List.getD_eq_getElem?_getD, List.getElem?_eq_getElem (by omega)]
            exact List.getElem_mem _
          have := hok _ hm
          unfold isNm at this
          simp only [Bool.and_eq_true, decide_eq_true_eq] at this
          have := this.1.2
          omega
        · exact ⟨_, rfl, fin nm (by omega)⟩
      · dsimp only
        refine iteF ?_
        exact ⟨_, rfl, fin nm (by omega)⟩
    · subst e
      exact ⟨_, rfl, le_line (by simp), fun t ht => k t true nm _ (Same.new ht) (by rw [upd_same]; rfl) (by omega) (fun _ _ => hgood nm rfl)⟩
theorem sclaw : FnScope (["_law_script", "_law_left", "_law_pool", "_law_stranger", "_law_room", "_law_m", "_law_k", "_law_row", "_law_deed", "_law_due"]) (["_law_script"]) (defScope slaw) := ⟨rfl, rfl, rfl, by decide +kernel, rfl, by decide +kernel, by decide +kernel⟩
set_option maxHeartbeats 4000000 in
theorem oklaw {f : Addr} {fd : FuncData} (F : Fun K "law" "law" slaw f fd) (B : Bs mg) (T : Gs mg) (clRoom : Cls K CRoom) (kRoom : CalK P w K mg base CRoom 1 "Room" (spRoomI K CRoom)) (cRoom_listeners : CalM P w K mg base CRoom 1 "listeners" (spListeners K CRoom CSeat)) (cRoom_standings : CalM P w K mg base CRoom 4 "standings" (spStandings K CRoom CSeat PTRoom_standings)) (kTray : CalKE P w K mg base CTray 3 "Tray" (spInit K CTray CBadTray)) (c_law_begun : Cal P w K mg base 6 "_law_begun" [] (spBegun K)) (c_law_cell : Cal P w K mg base 1 "_law_cell" [] (spCell K)) (c_law_come : Cal P w K mg base 2 "_law_come" [] (spLCome K)) (c_law_draw : Cal P w K mg base 1 "_law_draw" [] (spDraw K)) (c_law_drawn : Cal P w K mg base 1 "_law_drawn" [] (spDrawn K)) (c_law_leave : Cal P w K mg base 1 "_law_leave" [] (spLLeave K)) (c_law_many : Cal P w K mg base 1 "_law_many" [] (spMany K)) (c_law_model : Cal P w K mg base 1 "_law_model" [] (spModel K)) (c_law_people_ok : Cal P w K mg base 6 "_law_people_ok" [] (spPeople K CRoom CSeat PTRoom_standings)) (c_law_result_ok : Cal P w K mg base 1 "_law_result_ok" [] (spResOk K)) (c_law_tried : Cal P w K mg base 4 "_law_tried" [] (spTriedR K CRoom CSeat)) : FnOk P w K mg base CX0 8 f fd ["_law_script"] (spLawT K [(CTRoom_standings, PTRoom_standings)]) := by
  have sc := sclaw
  refine F.ok sc (fun vs H Q E h => ?_) (fun cdv A outer s H vs Q E hr h => ?_)
  · obtain ⟨a, ns, rfl, _⟩ := h; rfl
  · obtain ⟨a, ns, rfl, hS, hlen, hTs, k⟩ := h
    refine ⟨_, (pss_cons (ps_asg (pe_cal c_law_begun (hr.mono (by decide)) rfl (pa_cons (pe_cal c_law_cell (hr.mono (by decide)) rfl (pa_cons (pv 0) (pa_cons pe_int pa_nil))) pa_nil)) (pg_tup rfl (pgs_cons (pg_name (i := 1) sc.nd rfl (Or.inl rfl)) (pgs_cons (pg_name (i := 2) sc.nd rfl (Or.inl rfl)) (pgs_cons (pg_name (i := 3) sc.nd rfl (Or.inl rfl)) pgs_nil)))))
      (pss_cons (ps_set (i := 4) sc.nd rfl (Or.inl rfl) (pe_calK kRoom (hr.mono (by decide)) rfl (pa_cons (pe_calKE kTray (hr.mono (by decide)) rfl passE0 (pa_cons (pv 1) pa_nil)) pa_nil)))
      (pss_cons (ps_set (i := 5) sc.nd rfl (Or.inl rfl) (pe_cal c_law_model (hr.mono (by decide)) rfl (pa_cons (pv 1) pa_nil)))
      (pss_cons (ps_for PassesOwn.never rfl (pi_range2 rfl B.range (pa_cons pe_int (pa_cons (pe_cal c_law_many (hr.mono (by decide)) rfl (pa_cons (pv 0) (pa_cons pe_int pa_nil))) pa_nil))) (pg_name (i := 6) sc.nd rfl (Or.inl rfl))
      (pss_cons (ps_set (i := 7) sc.nd rfl (Or.inl rfl) (pe_cal c_law_draw (hr.mono (by decide)) rfl (pa_cons (pe_cal c_law_cell (hr.mono (by decide)) rfl (pa_cons (pv 0) (pa_cons (pv 6) pa_nil))) (pa_cons (pe_lst (pa_cons pe_int (pa_cons pe_int (pa_cons pe_int (pa_cons pe_int (pa_cons pe_int (pa_cons pe_int pa_nil))))))) pa_nil))))
      (pss_cons (ps_set (i := 8) sc.nd rfl (Or.inl rfl) (pe_cal c_law_drawn (hr.mono (by decide)) rfl (pa_cons (pv 7) (pa_cons (pe_dget (hu_of hr) (pv 5) pe_str (fun _ _ => rfl)) (pa_cons (pv 2) pa_nil)))))
      (pss_cons (ps_set (i := 9) sc.nd rfl (Or.inl rfl) (pe_ifExp (pt_cmpR op_eq (pe_ix (kix_tup (K := K)) (pv 8) pe_int (fun _ _ => rfl)) pe_str (nomark _)) (pe_cal c_law_come (hr.mono (by decide)) rfl (pa_cons (pv 5) (pa_cons (pe_ix (kix_tup (K := K)) (pv 8) pe_int (fun _ _ => rfl)) pa_nil))) (pe_cal c_law_leave (hr.mono (by decide)) rfl (pa_cons (pv 5) (pa_cons (pe_ix (kix_tup (K := K)) (pv 8) pe_int (fun _ _ => rfl)) pa_nil)))))
      (pss_cons (ps_if (pt_not (pt_val (pe_cal c_law_result_ok (hr.mono (by decide)) rfl (pa_cons (pe_cal c_law_tried (hr.mono (by decide)) rfl (pa_cons (pv 4) (pa_cons (pv 8) pa_nil))) (pa_cons (pv 9) pa_nil))))) (pss_one (ps_ret pe_bl)) pss_nil)
      (pss_one (ps_if (PW.pt (pw_or (pt_cmpR op_eq (pe_ix (kix_list (K := K)) (pv 7) pe_int (fun _ _ => rfl)) pe_int (nomark _)) (pw_or1 (pt_cmpR op_gt (pv 6) pe_int (nomark _))))) (pss_cons (ps_if (pt_not (pt_val (pe_cal c_law_people_ok (hr.mono (by decide)) rfl (pa_cons (pv 4) (pa_cons (pv 5) (pa_cons (pv 3) pa_nil)))))) (pss_one (ps_ret pe_bl)) pss_nil)
      (pss_cons (ps_expr (pe_bm PySem.F.plainAttrs_list PySem.F.slot_list_append PySem.F.type_list_append mt_append (pe_calM0 cRoom_listeners clRoom (hr.mono (by decide)) (pv 4)) (pa_cons (pv 3) pa_nil)))
      (pss_one (ps_expr (pe_bm PySem.F.plainAttrs_list PySem.F.slot_list_append PySem.F.type_list_append mt_append (pe_calM0 cRoom_standings clRoom (hr.mono (by decide)) (pv 4)) (pa_cons (pe_tup (pa_cons (pv 3) (pa_cons pe_int pa_nil))) pa_nil)))))) pss_nil)))))))
      (pss_one (ps_ret (pe_cal c_law_people_ok (hr.mono (by decide)) rfl (pa_cons (pv 4) (pa_cons (pv 5) (pa_cons (pv 3) pa_nil)))))))))), ?_⟩
    have hP0 : H PTRoom_standings = some (.tbl #[]) := hTs (CTRoom_standings, PTRoom_standings) List.mem_cons_self
    have hTab0 : TabOk H PTRoom_standings ⟨237, 86, 237, 107⟩ lq51 := ⟨#[], hP0, trivial, .inl rfl⟩
    refine ⟨_, rfl, a, ns, 0, rfl, hS, by omega, by omega, by omega, fun cell0 => ?_⟩
    refine ⟨cell0, rfl, fun t0 l0 po as W S z r c0 H1 s1 ht0 hl0 hA0 hok0 hpo hS11 hNz => ?_⟩
    refine ⟨t0, _, rfl, SqT.of ht0, rfl, _, _, rfl, _, _, rfl, _, _, rfl, rfl, ?_⟩
    dsimp only
    have hTab1 := hTab0.same s1
    have hSz := hole_seq hTab1 (s1.seq hS)
    have hpoz := hole_keep hTab1 hpo (fun _ z => by cases z)
    have hNm := hNz.left
    have hstr := hNz.stranger hS11
    obtain ⟨w1, w2, w3⟩ := woodsOk_iff.mp hok0
    -- the tray, the room
    refine seq_a ?_
    refine ⟨_, rfl, fun x dx hx hdx hxd => ⟨x, dx, l0, as, W, rfl, upd_same, ?_, ?_, by omega, fun w hw => ?_, fun _ sk H2 hsk hsk2 hx2 f2 => ⟨rfl, ?_⟩, fun h => by rw [hok0] at h; cases h⟩⟩
    · rw [upd_ne (ne_of_none hl0 hx), upd_ne (ne_of_none hl0 hdx)]; exact hl0
    · exact hA0.same ((Same.new hdx).new2 (by rw [upd_ne hxd.symm]; exact hx))
    · have := (w3 w hw).1
      unfold isNm at this
      simp only [Bool.and_eq_true, decide_eq_true_eq] at this
      have := this.1.2
      omega
    have s2 : Same H1 H2 := fun b o e => by
      have h1 : b ≠ x := fun z => by rw [z, hx] at e; cases e
      have h2 : b ≠ dx := fun z => by rw [z, hdx] at e; cases e
      exact f2 b o (by rw [upd_ne h1, upd_ne h2]; exact e) h1
    intro p dp hp hdp hpd
    refine ⟨p, dp, x, rfl, upd_same, fun d lf ps H3 hd hd3 hp3 f3 => ⟨rfl, ?_⟩⟩
    have s3 : Same H2 H3 := fun b o e => by
      have h1 : b ≠ p := fun z => by rw [z, hp] at e; cases e
      have h2 : b ≠ dp := fun z => by rw [z, hdp] at e; cases e
      exact f3 b o (by rw [upd_ne h1, upd_ne h2]; exact e) h1
    have hd2 : H2 d = none := by
      have h1 : d ≠ p := fun z => by rw [z, upd_same] at hd; cases hd
      have h2 : d ≠ dp := fun z => by rw [z, upd_ne hpd, upd_same] at hd; cases hd
      rw [upd_ne h1, upd_ne h2] at hd; exact hd
    have s13 := s2.trans s3
    have hdz : hole H1 PTRoom_standings d = none := by
      cases e : hole H1 PTRoom_standings d with
      | none => rfl
      | some u => rw [s2 _ _ (hole_le _ _ _ _ e)] at hd2; cases hd2
    -- the model
    dsimp only
    refine seq_a ?_
    refine ⟨_, rfl, l0, as, rfl, s13 _ _ hl0, by have := hA0.length; omega, fun M l q g w H4 s4 hM0 hlM hq0 hg0 hw0 hM4 => ?_⟩
    dsimp only
    have hdM : d ≠ M := ne_of_none hd3 hM0
    have hdq : d ≠ q := ne_of_none hd3 hq0
    have hdg : d ≠ g := ne_of_none hd3 hg0
    have hdw : d ≠ w := ne_of_none hd3 hw0
    have frz : ∀ x, H3 x = none → hole H1 PTRoom_standings x = none := fun x hx => by
      cases e : hole H1 PTRoom_standings x with
      | none => rfl
      | some u => rw [s13 _ _ (hole_le _ _ _ _ e)] at hx; cases hx
    have hlz := frz l hlM
    have hqz := frz q hq0
    have hR4 : RmAt CRoom CSeat H4 p d [] := ⟨⟨dp, x, lf, ps, s4 _ _ hp3⟩, ⟨[], s4 _ _ hd3, rfl, fun _ h => by cases h⟩, List.nodup_nil, Nat.zero_le _⟩
    have s14 := s13.trans s4
    have hTab4 := hTab1.same s14
    have sz4 : Same (hole H1 PTRoom_standings) H4 := (hole_le _ _).trans s14
    have hzP : hole H1 PTRoom_standings PTRoom_standings = none := by unfold hole; rw [if_pos rfl]
    generalize hole H1 PTRoom_standings = Hz at hSz hpoz hdz hlz hqz sz4 hzP
    -- the loop
    have last : ∀ (H5 : Hp) (P : List Str), RmAt CRoom CSeat H5 p d P → MdAt H5 M l q g w P → (∀ y ∈ P, isNm y = true ∧ goodZ r c0 y) → z ∉ P := fun H5 P _ _ h hz => hstr (h z hz).2
    refine ⟨_, rfl, a, ns, 16, rfl, sz4.seq hSz, fun mz hz0 hz1 => ⟨1, mz, rfl, ⟨by omega, by omega, by omega, by omega⟩, ?_⟩⟩
    refine for_range (lo := 1) (n := (mz - 1).toNat) (fun i σ H5 => ∃ (P : List Str) (o6 o7 o8 o9 : Option V), σ = [some (.ref a), some (.ref l0), some (.ref po), some (.str z), some (.ref p), some (.ref M), o6, o7, o8, o9] ∧ Same Hz H5 ∧ TabOk H5 PTRoom_standings ⟨237, 86, 237, 107⟩ lq51 ∧ RmAt CRoom CSeat H5 p d P ∧ MdAt H5 M l q g w P ∧ ∀ y ∈ P, isNm y = true ∧ goodZ r c0 y)
      ⟨[], none, none, none, none, rfl, sz4, hTab4, hR4, hM4, fun _ h => by cases h⟩ ?_ ?_
    · rintro i σ H5 hi ⟨P, o6, o7, o8, o9, rfl, s5, hTab5, hR5, hM5, hG⟩
      have hi' : (1 + (i : Int)) ≤ 63 := by omega
      refine gN ?_
      refine seq_a ?_
      refine ⟨_, rfl, _, rfl, a, ns, _, rfl, s5.seq hSz, by omega, by omega, by omega, fun cell => ⟨le_line (by simp), fun q1 hq1 => ⟨cell, q1, [11, 8, 36, 5, 5, 2], rfl, SqL.of upd_same, lim_ok (by decide +kernel), by decide, fun row rs H6 hrn s6 hrow hD => ?_⟩⟩⟩
      have S6 := (Same.new (o := HO.lst [V.int 11, V.int 8, V.int 36, V.int 5, V.int 5, V.int 2]) hq1).trans s6
      obtain ⟨r5, ⟨a5, b5⟩, e5⟩ := paired_getM hD (show ([11, 8, 36, 5, 5, 2] : List Int)[5]? = some 2 from rfl)
      have hM6 := hM5.same S6
      have hR6 := hR5.same S6
      have hTab6 := hTab5.same S6
      have sz6 := s5.trans S6
      dsimp only
      refine seq_a ?_
      refine ⟨_, rfl, _, rfl, M, .ref l, rfl, hM6.people, _, rfl, row, l, po, rs, P, S, r, c0, rfl, hrow, hM6.hl, sz6 _ _ hpoz, hD, hR6.n9, hS11, hNm, fun y hy => (hG y hy).1, fun t b zz H7 s7 ht7 hzl hzg => ?_⟩
      have hM7 := hM6.same s7
      have hR7 := hR6.same s7
      have hTab7 := hTab6.same s7
      have sz7 := sz6.trans s7
      have hrow7 := s7 _ _ hrow
      dsimp only
      obtain ⟨x1, P', hx1⟩ : ∃ (x1 : Str) (P' : List Str), ((if b = true then isNm zz = true ∧ zz ∉ P ∧ P.length < 9 else zz ∈ P) ∧ x1 = "" ∧ P' = (if b = true then P ++ [zz] else remP P zz)) ∨ ((if b = true then isNm zz = false ∨ zz ∈ P ∨ P.length = 9 else zz ∉ P) ∧ x1 = (if b = true then (if isNm zz = false then ("BadName" : Str) else if zz ∈ P then "Taken" else "Full") else "NoListener") ∧ P' = P) := by
        by_cases hc : (if b = true then isNm zz = true ∧ zz ∉ P ∧ P.length < 9 else zz ∈ P)
        · exact ⟨_, _, .inl ⟨hc, rfl, rfl⟩⟩
        · refine ⟨_, _, .inr ⟨?_, rfl, rfl⟩⟩
          cases b with
          | true =>
            rw [if_pos rfl] at hc ⊢
            by_cases h1 : isNm zz = true
            · by_cases h2 : zz ∈ P
              · exact .inr (.inl h2)
              · refine .inr (.inr ?_)
                have := hR7.n9
                by_cases h3 : P.length < 9
                · exact absurd ⟨h1, h2, h3⟩ hc
                · omega
            · exact .inl (by simpa using h1)
          | false =>
            rw [if_neg Bool.false_ne_true] at hc ⊢
            exact hc
      have clash : ∀ {b : Bool}, (if b = true then isNm zz = true ∧ zz ∉ P ∧ P.length < 9 else zz ∈ P) → (if b = true then isNm zz = false ∨ zz ∈ P ∨ P.length = 9 else zz ∉ P) → False := fun {b} h1 h2 => by
        cases b with
        | true =>
          rw [if_pos rfl] at h1 h2
          rcases h2 with h2 | h2 | h2
          · rw [h1.1] at h2; cases h2
          · exact h1.2.1 h2
          · omega
        | false =>
          rw [if_neg Bool.false_ne_true] at h1 h2
          exact h2 h1
      have hG' : ∀ y ∈ P', isNm y = true ∧ goodZ r c0 y := by
        rcases hx1 with ⟨h1, _, h3⟩ | ⟨_, _, h3⟩
        · rw [h3]; exact nextOk hzg hG h1
        · rw [h3]; exact hG
      -- what is due
      refine seq_by2 (fun σ' H8 => ∃ u : Addr, σ' = [some (.ref a), some (.ref l0), some (.ref po), some (.str z), some (.ref p), some (.ref M), some (.int (1 + (i : Int))), some (.ref row), some (.ref t), some (.ref u)] ∧ FrL [l, q] H7 H8 ∧ MdAt H8 M l q g w P' ∧ H8 u = some (.tup [.str x1, .non])) (fun N hN => ?_) ?_
      · cases b with
        | true =>
          refine ⟨_, rfl, t, _, _, _, rfl, rfl, SqT.of ht7, rfl, rfl, _, rfl, ?_⟩
          dsimp only
          rw [dStr, decide_eq_true (by rfl)]
          refine iteT ⟨_, rfl, _, rfl, t, _, _, _, rfl, rfl, SqT.of ht7, rfl, M, l, q, g, w, P, zz, rfl, hM7, hR7.nd, hR7.n9, hzl, fun u x' H8 s8 ex hc hu => ?_, fun e1 e2 e3 u H8 f8 hM8 hu => ?_⟩
          · rcases hx1 with ⟨h1, _, _⟩ | ⟨_, h2, h3⟩
            · exact absurd (show (if true = true then isNm zz = false ∨ zz ∈ P ∨ P.length = 9 else zz ∉ P) by rw [if_pos rfl]; exact hc) (clash h1)
            · refine hN _ _ ⟨u, rfl, FrL.of s8, by rw [h3]; exact hM7.same s8, by rw [h2, if_pos rfl, ← ex]; exact hu⟩
          · rcases hx1 with ⟨_, h2, h3⟩ | ⟨h1, _, _⟩
            · refine hN _ _ ⟨u, rfl, f8, by rw [h3, if_pos rfl]; exact hM8, by rw [h2]; exact hu⟩
            · exact (clash (b := true) (by rw [if_pos rfl]; exact ⟨e1, e2, e3⟩) h1).elim
        | false =>
          refine ⟨_, rfl, t, _, _, _, rfl, rfl, SqT.of ht7, rfl, rfl, _, rfl, ?_⟩
          dsimp only
          rw [dStr, decide_eq_false (by rw [if_neg Bool.false_ne_true]; decide)]
          refine iteF ⟨_, rfl, _, rfl, t, _, _, _, rfl, rfl, SqT.of ht7, rfl, M, l, q, g, w, P, zz, rfl, hM7, hR7.nd, hR7.n9, fun e1 u H8 s8 hu => ?_, fun e1 u H8 f8 hM8 hu => ?_⟩
          · rcases hx1 with ⟨h1, _, _⟩ | ⟨_, h2, h3⟩
            · exact (clash h1 (by rw [if_neg Bool.false_ne_true]; exact e1)).elim
            · refine hN _ _ ⟨u, rfl, FrL.of s8, by rw [h3]; exact hM7.same s8, by rw [h2, if_neg Bool.false_ne_true]; exact hu⟩
          · rcases hx1 with ⟨_, h2, h3⟩ | ⟨h1, _, _⟩
            · refine hN _ _ ⟨u, rfl, f8, by rw [h3, if_neg Bool.false_ne_true]; exact hM8, by rw [h2]; exact hu⟩
            · exact (clash (b := false) (by rw [if_neg Bool.false_ne_true]; exact e1) h1).elim
      rintro σ' H8 ⟨u, rfl, f8, hM8, hu8⟩
      have ldl := hM7.ldA
      have hdn : d ∉ [l, q] := fun h => by
        rcases List.mem_cons.mp h with e | h
        · obtain ⟨sa, e2, _⟩ := hR7.ds
          rw [e, hM7.hl] at e2; cases e2
        · exact hdq (List.mem_singleton.mp h)
      have hR8 := hR7.fr f8 ldl hdn
      have hTab8 := hTab7.fr f8 ldl
      have ht8 := f8.ins ldl ht7 (fun z => by rcases z with ⟨_, z⟩ | ⟨_, z⟩ <;> cases z)
      have sz8 : Same Hz H8 := Same.frL sz7 f8 (fun y hy => by
        rcases List.mem_cons.mp hy with rfl | hy
        · exact hlz
        · rw [List.mem_singleton.mp hy]; exact hqz)
      have hrow8 : H8 row = some (.lst (rs.map V.int)) := f8 _ _ hrow7 (fun h => by
        rcases List.mem_cons.mp h with e | h
        · rw [e, Same.new hq1 _ _ hM5.hl] at hrn; cases hrn
        · rw [List.mem_singleton.mp h, Same.new hq1 _ _ hM5.hq] at hrn; cases hrn)
      -- what is found
      refine seq_ifN (b := false) (P := fun H9 => FrL [d] H8 H9 ∧ RmAt CRoom CSeat H9 p d P') (fun N hN => ⟨_, rfl, _, rfl, p, d, P, t, b, zz, rfl, hR8, ht8, hzl, fun u2 x' H9 s9 ex hc hu2 => ?_, fun hc u2 H9 f9 hR9 hu2 => ?_⟩) (fun g => absurd g (by decide)) (fun g0 H9 hh => ?_)
      · rcases hx1 with ⟨h1, _, _⟩ | ⟨_, h2, h3⟩
        · exact (clash h1 hc).elim
        · refine ⟨_, rfl, u2, u, x1, rfl, by rw [h2, ← ex]; exact hu2, s9 _ _ hu8, _, rfl, hN _ ⟨FrL.of s9, by rw [h3]; exact hR8.same s9⟩⟩
      · rcases hx1 with ⟨_, h2, h3⟩ | ⟨h1, _, _⟩
        · refine ⟨_, rfl, u2, u, x1, rfl, by rw [h2]; exact hu2, f9.ins hR8.ldA hu8 (fun z => by rcases z with ⟨_, z⟩ | ⟨_, z⟩ <;> cases z), _, rfl, hN _ ⟨f9, by rw [h3]; exact hR9⟩⟩
        · exact (clash hc h1).elim
      obtain ⟨f9, hR9⟩ := hh
      have hM9 := hM8.fr f9 (let ⟨sa, e, _⟩ := hR8.ds; ⟨_, e⟩) ⟨hdM, hdq, hdg, hdw⟩
      have hTab9 := hTab8.fr f9 hR8.ldA
      have sz9 : Same Hz H9 := Same.frL sz8 f9 (fun y hy => by rw [List.mem_singleton.mp hy]; exact hdz)
      have hrow9 : H9 row = some (.lst (rs.map V.int)) := f9 _ _ hrow8 (fun h => by
        obtain ⟨sa, e, _⟩ := hR8.ds
        rw [List.mem_singleton.mp h, e] at hrow8; cases hrow8)
      refine if_N (b := decide (r5 = 0) || decide (50 < 1 + (i : Int))) (P := fun H10 => H10 = H9) (fun N hN => ⟨_, rfl, row, _, _, _, rfl, rfl, SqL.of hrow9, atI_nt e5, rfl, _, rfl, ?_⟩) (fun g0 H10 e => ?_) (fun g0 H10 e => ?_)
      · dsimp only
        rw [dInt]
        refine ite2 (fun g1 => ?_) (fun g1 => ⟨_, rfl, _, _, rfl, rfl, _, rfl, ?_⟩)
        · rw [g1, Bool.true_or] at hN; exact hN _ rfl
        · rw [bF g1, Bool.false_or] at hN; exact hN _ rfl
      · subst e
        obtain ⟨dx9, st9, lf9, ps9, ho9⟩ := hR9.ob
        refine seq_ifN (b := false) (P := fun H11 => Same (hole H10 PTRoom_standings) H11 ∧ TabOk H11 PTRoom_standings ⟨237, 86, 237, 107⟩ lq51) (fun N hN => ⟨_, rfl, _, rfl, _, rfl, p, d, M, l, q, g, w, P', z, rfl, hR9, hM9, last H10 P' hR9 hM9 hG', hTab9, fun H11 s11 t11 => ⟨_, rfl, hN _ ⟨s11, t11⟩⟩⟩) (fun g => absurd g (by decide)) (fun g1 H11 hh => ?_)
        obtain ⟨s11, hTab11⟩ := hh
        have hR11 := (hR9.hole hTab9).same s11
        have hM11 := (hM9.hole hTab9).same s11
        have hol : ∀ {G : Hp}, TabOk G PTRoom_standings ⟨237, 86, 237, 107⟩ lq51 → Same Hz G → Same Hz (hole G PTRoom_standings) := fun {G} t s b u e => by
          have hb : b ≠ PTRoom_standings := fun zz => by rw [zz, hzP] at e; cases e
          show (if b = PTRoom_standings then none else G b) = some u
          rw [if_neg hb]; exact s b u e
        have sz11 : Same Hz H11 := (hol hTab9 sz9).trans s11
        -- a list of the listeners that is changed
        refine ⟨_, rfl, p, dx9, _, rfl, s11 _ _ (hole_keep hTab9 ho9 (fun _ z => by cases z)), roomF_listeners st9 d lf9 ps9, p, d, P', rfl, hR11, fun l12 H12 hn12 s12 hl12 => ?_⟩
        refine ⟨.inl ⟨rfl, _, SqL.of hl12⟩, _, rfl, l12, _, _, rfl, rfl, hl12, lt_line (by rw [List.length_map]; have := hR9.n9; omega), ?_⟩
        have s13 := s12.put (o := HO.lst (P'.map V.str ++ [V.str z])) hn12
        generalize upd H12 l12 (HO.lst (P'.map V.str ++ [V.str z])) = H13 at s13
        have hR13 := hR11.same s13
        have hM13 := hM11.same s13
        have hTab13 := hTab11.same s13
        have sz13 := sz11.trans s13
        -- the standings too
        refine ⟨_, rfl, p, dx9, _, rfl, s13 _ _ (s11 _ _ (hole_keep hTab9 ho9 (fun _ z => by cases z))), roomF_standings st9 d lf9 ps9, p, d, P', rfl, hR13, hTab13, fun l14 as14 H14 s14 hTab14 hn14 hl14 hA14 => ?_⟩
        refine ⟨.inl ⟨rfl, _, SqL.of hl14⟩, _, rfl, le_line (by simp), fun t15 ht15 => ?_⟩
        have hal := hA14.length
        rw [List.length_map] at hal
        refine ⟨l14, _, _, rfl, rfl, Same.new ht15 _ _ hl14, lt_line (by rw [List.length_map]; have := hR9.n9; omega), ?_⟩
        have s16 : Same (hole H13 PTRoom_standings) (upd (upd H14 t15 (HO.tup [V.str z, V.int 0])) l14 (HO.lst (as14.map V.ref ++ [V.ref t15]))) := (s14.new2 ht15).put hn14
        have hTab16 : TabOk (upd (upd H14 t15 (HO.tup [V.str z, V.int 0])) l14 (HO.lst (as14.map V.ref ++ [V.ref t15]))) PTRoom_standings ⟨237, 86, 237, 107⟩ lq51 := (hTab14.same (Same.new (o := HO.tup [V.str z, V.int 0]) ht15)).fr (A := [l14]) ((FrL.of (Same.refl _)).put (by simp)) (fun b hb => by rw [List.mem_singleton.mp hb]; exact ⟨_, Same.new ht15 _ _ hl14, .inl ⟨_, rfl⟩⟩)
        exact ⟨P', _, _, _, _, rfl, (hol hTab13 sz13).trans s16, hTab16, (hR13.hole hTab13).same s16, (hM13.hole hTab13).same s16, hG'⟩
      · subst e
        exact ⟨P', _, _, _, _, rfl, sz9, hTab9, hR9, hM9, hG'⟩
    · rintro σ H5 ⟨P, o6, o7, o8, o9, rfl, s5, hTab5, hR5, hM5, hG⟩
      exact ⟨_, rfl, _, rfl, _, rfl, p, d, M, l, q, g, w, P, z, rfl, hR5, hM5, last H5 P hR5 hM5 hG, hTab5, fun H' _ _ => k H'⟩
end
set_option maxHeartbeats 4000000 in
theorem all_mk {l : PySem.W.OpenLaw} {w : World} {K : PySem.W.Frag} {h : Heap} {mg : Str → Option Value} {fa : Addr} (X : K.In h) (G : h.Ns mainGlobals mg) (hfa : mg "law" = some (.ref fa))
    {f1 : Addr} {od1 an1 : Option Addr} {sl1 : Array (Option Value)} {oc1 kV1 dc1 pm1 cd1 ct1 : Value} {f2 : Addr} {od2 an2 : Option Addr} {sl2 : Array (Option Value)} {oc2 kV2 dc2 pm2 cd2 ct2 : Value} {f3 : Addr} {od3 an3 : Option Addr} {sl3 : Array (Option Value)} {oc3 kV3 dc3 pm3 cd3 ct3 : Value} {f4 : Addr} {od4 an4 : Option Addr} {sl4 : Array (Option Value)} {oc4 kV4 dc4 pm4 cd4 ct4 : Value} {f5 : Addr} {od5 an5 : Option Addr} {sl5 : Array (Option Value)} {oc5 kV5 dc5 pm5 cd5 ct5 : Value} {f6 : Addr} {od6 an6 : Option Addr} {sl6 : Array (Option Value)} {oc6 kV6 dc6 pm6 cd6 ct6 : Value} {f7 : Addr} {od7 an7 : Option Addr} {sl7 : Array (Option Value)} {oc7 kV7 dc7 pm7 cd7 ct7 : Value} {f8 : Addr} {od8 an8 : Option Addr} {sl8 : Array (Option Value)} {oc8 kV8 dc8 pm8 cd8 ct8 : Value} {f9 : Addr} {od9 an9 : Option Addr} {sl9 : Array (Option Value)} {oc9 kV9 dc9 pm9 cd9 ct9 : Value} {f10 : Addr} {od10 an10 : Option Addr} {sl10 : Array (Option Value)} {oc10 kV10 dc10 pm10 cd10 ct10 : Value} {f11 : Addr} {od11 an11 : Option Addr} {sl11 : Array (Option Value)} {oc11 kV11 dc11 pm11 cd11 ct11 : Value} {f12 : Addr} {od12 an12 : Option Addr} {sl12 : Array (Option Value)} {oc12 kV12 dc12 pm12 cd12 ct12 : Value} {f13 : Addr} {od13 an13 : Option Addr} {sl13 : Array (Option Value)} {oc13 kV13 dc13 pm13 cd13 ct13 : Value} {f14 : Addr} {od14 an14 : Option Addr} {sl14 : Array (Option Value)} {oc14 kV14 dc14 pm14 cd14 ct14 : Value} {f15 : Addr} {od15 an15 : Option Addr} {sl15 : Array (Option Value)} {oc15 kV15 dc15 pm15 ct15 : Value} {CTRoom_standings PTRoom_standings : Addr} {f16 : Addr} {od16 an16 : Option Addr} {sl16 : Array (Option Value)} {oc16 kV16 dc16 pm16 cd16 ct16 : Value} {f17 : Addr} {od17 an17 : Option Addr} {sl17 : Array (Option Value)} {oc17 kV17 dc17 pm17 cd17 ct17 : Value} {T17 : Addr} {oT17 : Obj} {nT17 : Nat} {tk17 : Tok} {f18 : Addr} {od18 an18 : Option Addr} {sl18 : Array (Option Value)} {oc18 kV18 dc18 pm18 cd18 ct18 : Value} {f19 : Addr} {od19 an19 : Option Addr} {sl19 : Array (Option Value)} {oc19 kV19 dc19 pm19 cd19 ct19 : Value} {f20 : Addr} {od20 an20 : Option Addr} {sl20 : Array (Option Value)} {oc20 kV20 dc20 pm20 cd20 ct20 : Value} {f21 : Addr} {od21 an21 : Option Addr} {sl21 : Array (Option Value)} {oc21 kV21 dc21 pm21 cd21 ct21 : Value} {f22 : Addr} {od22 an22 : Option Addr} {sl22 : Array (Option Value)} {oc22 kV22 dc22 pm22 cd22 ct22 : Value} {f23 : Addr} {od23 an23 : Option Addr} {sl23 : Array (Option Value)} {oc23 kV23 dc23 pm23 cd23 ct23 : Value} {f24 : Addr} {od24 an24 : Option Addr} {sl24 : Array (Option Value)} {oc24 kV24 dc24 pm24 cd24 ct24 : Value} {f25 : Addr} {od25 an25 : Option Addr} {sl25 : Array (Option Value)} {oc25 kV25 dc25 pm25 cd25 ct25 : Value} {f26 : Addr} {od26 an26 : Option Addr} {sl26 : Array (Option Value)} {oc26 kV26 dc26 pm26 cd26 ct26 : Value} {f27 : Addr} {od27 an27 : Option Addr} {sl27 : Array (Option Value)} {oc27 kV27 dc27 pm27 cd27 ct27 : Value} {f28 : Addr} {od28 an28 : Option Addr} {sl28 : Array (Option Value)} {oc28 kV28 dc28 pm28 cd28 ct28 : Value} {f29 : Addr} {od29 an29 : Option Addr} {sl29 : Array (Option Value)} {oc29 kV29 dc29 pm29 cd29 ct29 : Value} {f30 : Addr} {od30 an30 : Option Addr} {sl30 : Array (Option Value)} {oc30 kV30 dc30 pm30 cd30 ct30 : Value} {f31 : Addr} {od31 an31 : Option Addr} {sl31 : Array (Option Value)} {oc31 kV31 dc31 pm31 cd31 ct31 : Value} {f32 : Addr} {od32 an32 : Option Addr} {sl32 : Array (Option Value)} {oc32 kV32 dc32 pm32 cd32 ct32 : Value} {f33 : Addr} {od33 an33 : Option Addr} {sl33 : Array (Option Value)} {oc33 kV33 dc33 pm33 cd33 ct33 : Value} {f34 : Addr} {od34 an34 : Option Addr} {sl34 : Array (Option Value)} {oc34 kV34 dc34 pm34 cd34 ct34 : Value} {f35 : Addr} {od35 an35 : Option Addr} {sl35 : Array (Option Value)} {oc35 kV35 dc35 pm35 cd35 ct35 : Value} {f36 : Addr} {od36 an36 : Option Addr} {sl36 : Array (Option Value)} {oc36 kV36 dc36 pm36 cd36 ct36 : Value} {tg0 : Tok} {tg1 : Tok} {tg2 : Tok} {tg3 : Tok} {CBadTray : Addr} {CBadName : Addr} {CTaken : Addr} {CFull : Addr} {CNoListener : Addr} {CTray : Addr} {CSeat : Addr} {CRoom : Addr} {ts : List Addr}
    (a1 : PySem.W.nsIn K mainGlobals "_law_draw" = some (some (.ref f1)))
    (l1 : K.lookup f1 = some ⟨oc1, od1, .func (PySem.W.fnOf "_law_draw" "_law_draw" (defArgs s_law_draw) (defBody s_law_draw) (defScope s_law_draw) .none kV1 dc1 pm1 an1 cd1 ct1), sl1⟩)
    (c1 : PySem.W.codeIn K cd1 "_law_draw" = true) (k1 : PySem.W.keepIn K (.ref f1) = true)
    (a2 : PySem.W.nsIn K mainGlobals "_law_cell" = some (some (.ref f2)))
    (l2 : K.lookup f2 = some ⟨oc2, od2, .func (PySem.W.fnOf "_law_cell" "_law_cell" (defArgs s_law_cell) (defBody s_law_cell) (defScope s_law_cell) .none kV2 dc2 pm2 an2 cd2 ct2), sl2⟩)
    (c2 : PySem.W.codeIn K cd2 "_law_cell" = true) (k2 : PySem.W.keepIn K (.ref f2) = true)
    (a3 : PySem.W.nsIn K mainGlobals "_law_many" = some (some (.ref f3)))
    (l3 : K.lookup f3 = some ⟨oc3, od3, .func (PySem.W.fnOf "_law_many" "_law_many" (defArgs s_law_many) (defBody s_law_many) (defScope s_law_many) .none kV3 dc3 pm3 an3 cd3 ct3), sl3⟩)
    (c3 : PySem.W.codeIn K cd3 "_law_many" = true) (k3 : PySem.W.keepIn K (.ref f3) = true)
    (a4 : PySem.W.nsIn K mainGlobals "is_name" = some (some (.ref f4)))
    (l4 : K.lookup f4 = some ⟨oc4, od4, .func (PySem.W.fnOf "is_name" "is_name" (defArgs sis_name) (defBody sis_name) (defScope sis_name) .none kV4 dc4 pm4 an4 cd4 ct4), sl4⟩)
    (c4 : PySem.W.codeIn K cd4 "is_name" = true) (k4 : PySem.W.keepIn K (.ref f4) = true)
    (a5 : PySem.W.nsIn K mainGlobals "check_woods" = some (some (.ref f5)))
    (l5 : K.lookup f5 = some ⟨oc5, od5, .func (PySem.W.fnOf "check_woods" "check_woods" (defArgs scheck_woods) (defBody scheck_woods) (defScope scheck_woods) .none kV5 dc5 pm5 an5 cd5 ct5), sl5⟩)
    (c5 : PySem.W.codeIn K cd5 "check_woods" = true) (k5 : PySem.W.keepIn K (.ref f5) = true)
    (a6 : PySem.W.findIn K (.ref CTray) "__init__" = some (some (.ref f6))) (i6 : PySem.W.isFn K (.ref f6) = true)
    (l6 : K.lookup f6 = some ⟨oc6, od6, .func (PySem.W.fnOf "__init__" "Tray.__init__" (defArgs sTray___init__) (defBody sTray___init__) (defScope sTray___init__) .none kV6 dc6 pm6 an6 cd6 ct6), sl6⟩)
    (c6 : PySem.W.codeIn K cd6 "Tray.__init__" = true) (k6 : PySem.W.keepIn K (.ref f6) = true)
    (a7 : PySem.W.findIn K (.ref CSeat) "__init__" = some (some (.ref f7))) (i7 : PySem.W.isFn K (.ref f7) = true)
    (l7 : K.lookup f7 = some ⟨oc7, od7, .func (PySem.W.fnOf "__init__" "Seat.__init__" (defArgs sSeat___init__) (defBody sSeat___init__) (defScope sSeat___init__) .none kV7 dc7 pm7 an7 cd7 ct7), sl7⟩)
    (c7 : PySem.W.codeIn K cd7 "Seat.__init__" = true) (k7 : PySem.W.keepIn K (.ref f7) = true)
    (a8 : PySem.W.findIn K (.ref CRoom) "__init__" = some (some (.ref f8))) (i8 : PySem.W.isFn K (.ref f8) = true)
    (l8 : K.lookup f8 = some ⟨oc8, od8, .func (PySem.W.fnOf "__init__" "Room.__init__" (defArgs sRoom___init__) (defBody sRoom___init__) (defScope sRoom___init__) .none kV8 dc8 pm8 an8 cd8 ct8), sl8⟩)
    (c8 : PySem.W.codeIn K cd8 "Room.__init__" = true) (k8 : PySem.W.keepIn K (.ref f8) = true)
    (a9 : PySem.W.findIn K (.ref CRoom) "seat" = some (some (.ref f9))) (i9 : PySem.W.isFn K (.ref f9) = true)
    (l9 : K.lookup f9 = some ⟨oc9, od9, .func (PySem.W.fnOf "seat" "Room.seat" (defArgs sRoom_seat) (defBody sRoom_seat) (defScope sRoom_seat) .none kV9 dc9 pm9 an9 cd9 ct9), sl9⟩)
    (c9 : PySem.W.codeIn K cd9 "Room.seat" = true) (k9 : PySem.W.keepIn K (.ref f9) = true)
    (a10 : PySem.W.findIn K (.ref CRoom) "fresh_notes" = some (some (.ref f10))) (i10 : PySem.W.isFn K (.ref f10) = true)
    (l10 : K.lookup f10 = some ⟨oc10, od10, .func (PySem.W.fnOf "fresh_notes" "Room.fresh_notes" (defArgs sRoom_fresh_notes) (defBody sRoom_fresh_notes) (defScope sRoom_fresh_notes) .none kV10 dc10 pm10 an10 cd10 ct10), sl10⟩)
    (c10 : PySem.W.codeIn K cd10 "Room.fresh_notes" = true) (k10 : PySem.W.keepIn K (.ref f10) = true)
    (a11 : PySem.W.findIn K (.ref CRoom) "come" = some (some (.ref f11))) (i11 : PySem.W.isFn K (.ref f11) = true)
    (l11 : K.lookup f11 = some ⟨oc11, od11, .func (PySem.W.fnOf "come" "Room.come" (defArgs sRoom_come) (defBody sRoom_come) (defScope sRoom_come) .none kV11 dc11 pm11 an11 cd11 ct11), sl11⟩)
    (c11 : PySem.W.codeIn K cd11 "Room.come" = true) (k11 : PySem.W.keepIn K (.ref f11) = true)
    (a12 : PySem.W.findIn K (.ref CRoom) "leave" = some (some (.ref f12))) (i12 : PySem.W.isFn K (.ref f12) = true)
    (l12 : K.lookup f12 = some ⟨oc12, od12, .func (PySem.W.fnOf "leave" "Room.leave" (defArgs sRoom_leave) (defBody sRoom_leave) (defScope sRoom_leave) .none kV12 dc12 pm12 an12 cd12 ct12), sl12⟩)
    (c12 : PySem.W.codeIn K cd12 "Room.leave" = true) (k12 : PySem.W.keepIn K (.ref f12) = true)
    (a13 : PySem.W.findIn K (.ref CRoom) "listeners" = some (some (.ref f13))) (i13 : PySem.W.isFn K (.ref f13) = true)
    (l13 : K.lookup f13 = some ⟨oc13, od13, .func (PySem.W.fnOf "listeners" "Room.listeners" (defArgs sRoom_listeners) (defBody sRoom_listeners) (defScope sRoom_listeners) .none kV13 dc13 pm13 an13 cd13 ct13), sl13⟩)
    (c13 : PySem.W.codeIn K cd13 "Room.listeners" = true) (k13 : PySem.W.keepIn K (.ref f13) = true)
    (a14 : PySem.W.findIn K (.ref CRoom) "points" = some (some (.ref f14))) (i14 : PySem.W.isFn K (.ref f14) = true)
    (l14 : K.lookup f14 = some ⟨oc14, od14, .func (PySem.W.fnOf "points" "Room.points" (defArgs sRoom_points) (defBody sRoom_points) (defScope sRoom_points) .none kV14 dc14 pm14 an14 cd14 ct14), sl14⟩)
    (c14 : PySem.W.codeIn K cd14 "Room.points" = true) (k14 : PySem.W.keepIn K (.ref f14) = true)
    (a15 : PySem.W.findIn K (.ref CRoom) "standings" = some (some (.ref f15))) (i15 : PySem.W.isFn K (.ref f15) = true)
    (l15 : K.lookup f15 = some ⟨oc15, od15, .func (PySem.W.fnOf "standings" "Room.standings" (defArgs sRoom_standings) (defBody sRoom_standings) (defScope sRoom_standings) .none kV15 dc15 pm15 an15 (.ref CTRoom_standings) ct15), sl15⟩)
    (c15 : PySem.W.codeIn K (.ref CTRoom_standings) "Room.standings" = true) (k15 : PySem.W.keepIn K (.ref f15) = true)
    (u15 : PTRoom_standings ∈ ts) (t15 : PySem.W.codeHdIn K CTRoom_standings PTRoom_standings = true) (v15 : K.lookup PTRoom_standings = none)
    (a16 : PySem.W.nsIn K mainGlobals "_law_num" = some (some (.ref f16)))
    (l16 : K.lookup f16 = some ⟨oc16, od16, .func (PySem.W.fnOf "_law_num" "_law_num" (defArgs s_law_num) (defBody s_law_num) (defScope s_law_num) .none kV16 dc16 pm16 an16 cd16 ct16), sl16⟩)
    (c16 : PySem.W.codeIn K cd16 "_law_num" = true) (k16 : PySem.W.keepIn K (.ref f16) = true)
    (a17 : PySem.W.nsIn K mainGlobals "_law_split" = some (some (.ref f17)))
    (l17 : K.lookup f17 = some ⟨oc17, od17, .func (PySem.W.fnOf "_law_split" "_law_split" (defArgs s_law_split) (defBody s_law_split) (defScope s_law_split) (.ref T17) kV17 dc17 pm17 an17 cd17 ct17), sl17⟩)
    (c17 : PySem.W.codeIn K cd17 "_law_split" = true) (k17 : PySem.W.keepIn K (.ref f17) = true)
    (lT17 : K.lookup T17 = some oT17) (dT17 : oT17.data = .seq [Value.int 0 tk17].toArray nT17)
    (a18 : PySem.W.nsIn K mainGlobals "_law_refused" = some (some (.ref f18)))
    (l18 : K.lookup f18 = some ⟨oc18, od18, .func (PySem.W.fnOf "_law_refused" "_law_refused" (defArgs s_law_refused) (defBody s_law_refused) (defScope s_law_refused) .none kV18 dc18 pm18 an18 cd18 ct18), sl18⟩)
    (c18 : PySem.W.codeIn K cd18 "_law_refused" = true) (k18 : PySem.W.keepIn K (.ref f18) = true)
    (a19 : PySem.W.nsIn K mainGlobals "_law_names" = some (some (.ref f19)))
    (l19 : K.lookup f19 = some ⟨oc19, od19, .func (PySem.W.fnOf "_law_names" "_law_names" (defArgs s_law_names) (defBody s_law_names) (defScope s_law_names) .none kV19 dc19 pm19 an19 cd19 ct19), sl19⟩)
    (c19 : PySem.W.codeIn K cd19 "_law_names" = true) (k19 : PySem.W.keepIn K (.ref f19) = true)
    (a20 : PySem.W.nsIn K mainGlobals "_law_woods" = some (some (.ref f20)))
    (l20 : K.lookup f20 = some ⟨oc20, od20, .func (PySem.W.fnOf "_law_woods" "_law_woods" (defArgs s_law_woods) (defBody s_law_woods) (defScope s_law_woods) .none kV20 dc20 pm20 an20 cd20 ct20), sl20⟩)
    (c20 : PySem.W.codeIn K cd20 "_law_woods" = true) (k20 : PySem.W.keepIn K (.ref f20) = true)
    (a21 : PySem.W.nsIn K mainGlobals "_law_pair_of_wood" = some (some (.ref f21)))
    (l21 : K.lookup f21 = some ⟨oc21, od21, .func (PySem.W.fnOf "_law_pair_of_wood" "_law_pair_of_wood" (defArgs s_law_pair_of_wood) (defBody s_law_pair_of_wood) (defScope s_law_pair_of_wood) .none kV21 dc21 pm21 an21 cd21 ct21), sl21⟩)
    (c21 : PySem.W.codeIn K cd21 "_law_pair_of_wood" = true) (k21 : PySem.W.keepIn K (.ref f21) = true)
    (a22 : PySem.W.nsIn K mainGlobals "_law_total" = some (some (.ref f22)))
    (l22 : K.lookup f22 = some ⟨oc22, od22, .func (PySem.W.fnOf "_law_total" "_law_total" (defArgs s_law_total) (defBody s_law_total) (defScope s_law_total) .none kV22 dc22 pm22 an22 cd22 ct22), sl22⟩)
    (c22 : PySem.W.codeIn K cd22 "_law_total" = true) (k22 : PySem.W.keepIn K (.ref f22) = true)
    (a23 : PySem.W.nsIn K mainGlobals "_law_model" = some (some (.ref f23)))
    (l23 : K.lookup f23 = some ⟨oc23, od23, .func (PySem.W.fnOf "_law_model" "_law_model" (defArgs s_law_model) (defBody s_law_model) (defScope s_law_model) .none kV23 dc23 pm23 an23 cd23 ct23), sl23⟩)
    (c23 : PySem.W.codeIn K cd23 "_law_model" = true) (k23 : PySem.W.keepIn K (.ref f23) = true)
    (a24 : PySem.W.nsIn K mainGlobals "_law_name_ok" = some (some (.ref f24)))
    (l24 : K.lookup f24 = some ⟨oc24, od24, .func (PySem.W.fnOf "_law_name_ok" "_law_name_ok" (defArgs s_law_name_ok) (defBody s_law_name_ok) (defScope s_law_name_ok) .none kV24 dc24 pm24 an24 cd24 ct24), sl24⟩)
    (c24 : PySem.W.codeIn K cd24 "_law_name_ok" = true) (k24 : PySem.W.keepIn K (.ref f24) = true)
    (a25 : PySem.W.nsIn K mainGlobals "_law_come" = some (some (.ref f25)))
    (l25 : K.lookup f25 = some ⟨oc25, od25, .func (PySem.W.fnOf "_law_come" "_law_come" (defArgs s_law_come) (defBody s_law_come) (defScope s_law_come) .none kV25 dc25 pm25 an25 cd25 ct25), sl25⟩)
    (c25 : PySem.W.codeIn K cd25 "_law_come" = true) (k25 : PySem.W.keepIn K (.ref f25) = true)
    (a26 : PySem.W.nsIn K mainGlobals "_law_leave" = some (some (.ref f26)))
    (l26 : K.lookup f26 = some ⟨oc26, od26, .func (PySem.W.fnOf "_law_leave" "_law_leave" (defArgs s_law_leave) (defBody s_law_leave) (defScope s_law_leave) .none kV26 dc26 pm26 an26 cd26 ct26), sl26⟩)
    (c26 : PySem.W.codeIn K cd26 "_law_leave" = true) (k26 : PySem.W.keepIn K (.ref f26) = true)
    (a27 : PySem.W.nsIn K mainGlobals "_law_result_ok" = some (some (.ref f27)))
    (l27 : K.lookup f27 = some ⟨oc27, od27, .func (PySem.W.fnOf "_law_result_ok" "_law_result_ok" (defArgs s_law_result_ok) (defBody s_law_result_ok) (defScope s_law_result_ok) .none kV27 dc27 pm27 an27 cd27 ct27), sl27⟩)
    (c27 : PySem.W.codeIn K cd27 "_law_result_ok" = true) (k27 : PySem.W.keepIn K (.ref f27) = true)
    (a28 : PySem.W.nsIn K mainGlobals "_law_pairs_told" = some (some (.ref f28)))
    (l28 : K.lookup f28 = some ⟨oc28, od28, .func (PySem.W.fnOf "_law_pairs_told" "_law_pairs_told" (defArgs s_law_pairs_told) (defBody s_law_pairs_told) (defScope s_law_pairs_told) .none kV28 dc28 pm28 an28 cd28 ct28), sl28⟩)
    (c28 : PySem.W.codeIn K cd28 "_law_pairs_told" = true) (k28 : PySem.W.keepIn K (.ref f28) = true)
    (a29 : PySem.W.nsIn K mainGlobals "_law_points" = some (some (.ref f29)))
    (l29 : K.lookup f29 = some ⟨oc29, od29, .func (PySem.W.fnOf "_law_points" "_law_points" (defArgs s_law_points) (defBody s_law_points) (defScope s_law_points) .none kV29 dc29 pm29 an29 cd29 ct29), sl29⟩)
    (c29 : PySem.W.codeIn K cd29 "_law_points" = true) (k29 : PySem.W.keepIn K (.ref f29) = true)
    (a30 : PySem.W.nsIn K mainGlobals "_law_standings" = some (some (.ref f30)))
    (l30 : K.lookup f30 = some ⟨oc30, od30, .func (PySem.W.fnOf "_law_standings" "_law_standings" (defArgs s_law_standings) (defBody s_law_standings) (defScope s_law_standings) .none kV30 dc30 pm30 an30 cd30 ct30), sl30⟩)
    (c30 : PySem.W.codeIn K cd30 "_law_standings" = true) (k30 : PySem.W.keepIn K (.ref f30) = true)
    (a31 : PySem.W.nsIn K mainGlobals "_law_people_ok" = some (some (.ref f31)))
    (l31 : K.lookup f31 = some ⟨oc31, od31, .func (PySem.W.fnOf "_law_people_ok" "_law_people_ok" (defArgs s_law_people_ok) (defBody s_law_people_ok) (defScope s_law_people_ok) .none kV31 dc31 pm31 an31 cd31 ct31), sl31⟩)
    (c31 : PySem.W.codeIn K cd31 "_law_people_ok" = true) (k31 : PySem.W.keepIn K (.ref f31) = true)
    (a32 : PySem.W.nsIn K mainGlobals "_law_rich_woods" = some (some (.ref f32)))
    (l32 : K.lookup f32 = some ⟨oc32, od32, .func (PySem.W.fnOf "_law_rich_woods" "_law_rich_woods" (defArgs s_law_rich_woods) (defBody s_law_rich_woods) (defScope s_law_rich_woods) .none kV32 dc32 pm32 an32 cd32 ct32), sl32⟩)
    (c32 : PySem.W.codeIn K cd32 "_law_rich_woods" = true) (k32 : PySem.W.keepIn K (.ref f32) = true)
    (a33 : PySem.W.nsIn K mainGlobals "_law_begun" = some (some (.ref f33)))
    (l33 : K.lookup f33 = some ⟨oc33, od33, .func (PySem.W.fnOf "_law_begun" "_law_begun" (defArgs s_law_begun) (defBody s_law_begun) (defScope s_law_begun) .none kV33 dc33 pm33 an33 cd33 ct33), sl33⟩)
    (c33 : PySem.W.codeIn K cd33 "_law_begun" = true) (k33 : PySem.W.keepIn K (.ref f33) = true)
    (a34 : PySem.W.nsIn K mainGlobals "_law_tried" = some (some (.ref f34)))
    (l34 : K.lookup f34 = some ⟨oc34, od34, .func (PySem.W.fnOf "_law_tried" "_law_tried" (defArgs s_law_tried) (defBody s_law_tried) (defScope s_law_tried) .none kV34 dc34 pm34 an34 cd34 ct34), sl34⟩)
    (c34 : PySem.W.codeIn K cd34 "_law_tried" = true) (k34 : PySem.W.keepIn K (.ref f34) = true)
    (a35 : PySem.W.nsIn K mainGlobals "_law_drawn" = some (some (.ref f35)))
    (l35 : K.lookup f35 = some ⟨oc35, od35, .func (PySem.W.fnOf "_law_drawn" "_law_drawn" (defArgs s_law_drawn) (defBody s_law_drawn) (defScope s_law_drawn) .none kV35 dc35 pm35 an35 cd35 ct35), sl35⟩)
    (c35 : PySem.W.codeIn K cd35 "_law_drawn" = true) (k35 : PySem.W.keepIn K (.ref f35) = true)
    (a36 : PySem.W.nsIn K mainGlobals "law" = some (some (.ref f36)))
    (l36 : K.lookup f36 = some ⟨oc36, od36, .func (PySem.W.fnOf "law" "law" (defArgs slaw) (defBody slaw) (defScope slaw) .none kV36 dc36 pm36 an36 cd36 ct36), sl36⟩)
    (c36 : PySem.W.codeIn K cd36 "law" = true) (k36 : PySem.W.keepIn K (.ref f36) = true)
    (z0 : PySem.W.nsIn K mainGlobals "all" = some none)
    (z1 : PySem.W.nsIn K mainGlobals "bool" = some none)
    (z2 : PySem.W.nsIn K mainGlobals "int" = some none)
    (z3 : PySem.W.nsIn K mainGlobals "isinstance" = some none)
    (z4 : PySem.W.nsIn K mainGlobals "len" = some none)
    (z5 : PySem.W.nsIn K mainGlobals "list" = some none)
    (z6 : PySem.W.nsIn K mainGlobals "max" = some none)
    (z7 : PySem.W.nsIn K mainGlobals "min" = some none)
    (z8 : PySem.W.nsIn K mainGlobals "range" = some none)
    (z9 : PySem.W.nsIn K mainGlobals "set" = some none)
    (z10 : PySem.W.nsIn K mainGlobals "sorted" = some none)
    (z11 : PySem.W.nsIn K mainGlobals "str" = some none)
    (z12 : PySem.W.nsIn K mainGlobals "sum" = some none)
    (z13 : PySem.W.nsIn K mainGlobals "tuple" = some none)
    (mc0 : PySem.W.nsIn K mainGlobals "LONGEST_NAME" = some (some (.int 12 tg0)))
    (mc1 : PySem.W.nsIn K mainGlobals "MOST_WOODS" = some (some (.int 6 tg1)))
    (mc2 : PySem.W.nsIn K mainGlobals "MOST_PACKETS" = some (some (.int 99 tg2)))
    (mc3 : PySem.W.nsIn K mainGlobals "MOST_LISTENERS" = some (some (.int 9 tg3)))
    (xmBadTray : PySem.W.nsIn K mainGlobals "BadTray" = some (some (.ref CBadTray))) (xqBadTray : PySem.W.excIn K CBadTray bmV "ValueError.__new__" = true)
    (xmBadName : PySem.W.nsIn K mainGlobals "BadName" = some (some (.ref CBadName))) (xqBadName : PySem.W.excIn K CBadName bmV "ValueError.__new__" = true)
    (xmTaken : PySem.W.nsIn K mainGlobals "Taken" = some (some (.ref CTaken))) (xqTaken : PySem.W.excIn K CTaken bmV "ValueError.__new__" = true)
    (xmFull : PySem.W.nsIn K mainGlobals "Full" = some (some (.ref CFull))) (xqFull : PySem.W.excIn K CFull bmV "ValueError.__new__" = true)
    (xmNoListener : PySem.W.nsIn K mainGlobals "NoListener" = some (some (.ref CNoListener))) (xqNoListener : PySem.W.excIn K CNoListener bmV "ValueError.__new__" = true)
    (xnTakenBadName : PySem.W.exmOne K (.ref CTaken) (.ref CBadName) = some false)
    (xnFullBadName : PySem.W.exmOne K (.ref CFull) (.ref CBadName) = some false)
    (xnFullTaken : PySem.W.exmOne K (.ref CFull) (.ref CTaken) = some false)
    (xnNoListenerBadName : PySem.W.exmOne K (.ref CNoListener) (.ref CBadName) = some false)
    (xnNoListenerTaken : PySem.W.exmOne K (.ref CNoListener) (.ref CTaken) = some false)
    (xnNoListenerFull : PySem.W.exmOne K (.ref CNoListener) (.ref CFull) = some false)
    (oaTray : PySem.W.nsIn K mainGlobals "Tray" = some (some (.ref CTray))) (opTray : PySem.W.plainGet K CTray Str.empty = true) (ohTray : PySem.W.hasDictIn K CTray = true) (ooTray : PySem.W.plainOver K CTray = true) (osTray : PySem.W.findIn K (.ref CTray) "__setattr__" = some (some (.builtin "object.__setattr__"))) (okTray : PySem.W.makesIn K CTray = true) (ocTray : PySem.W.keepIn K (.ref CTray) = true)
    (onTray_stock : PySem.W.findIn K (.ref CTray) "stock" = some none)
    (oaSeat : PySem.W.nsIn K mainGlobals "Seat" = some (some (.ref CSeat))) (opSeat : PySem.W.plainGet K CSeat Str.empty = true) (ohSeat : PySem.W.hasDictIn K CSeat = true) (ooSeat : PySem.W.plainOver K CSeat = true) (osSeat : PySem.W.findIn K (.ref CSeat) "__setattr__" = some (some (.builtin "object.__setattr__"))) (okSeat : PySem.W.makesIn K CSeat = true) (ocSeat : PySem.W.keepIn K (.ref CSeat) = true)
    (onSeat_earned : PySem.W.findIn K (.ref CSeat) "earned" = some none)
    (onSeat_notes : PySem.W.findIn K (.ref CSeat) "notes" = some none)
    (onSeat_sheet : PySem.W.findIn K (.ref CSeat) "sheet" = some none)
    (oaRoom : PySem.W.nsIn K mainGlobals "Room" = some (some (.ref CRoom))) (opRoom : PySem.W.plainGet K CRoom Str.empty = true) (ohRoom : PySem.W.hasDictIn K CRoom = true) (ooRoom : PySem.W.plainOver K CRoom = true) (osRoom : PySem.W.findIn K (.ref CRoom) "__setattr__" = some (some (.builtin "object.__setattr__"))) (okRoom : PySem.W.makesIn K CRoom = true) (ocRoom : PySem.W.keepIn K (.ref CRoom) = true)
    (onRoom_store : PySem.W.findIn K (.ref CRoom) "store" = some none)
    (onRoom_seats : PySem.W.findIn K (.ref CRoom) "seats" = some none)
    (onRoom_ring_size : PySem.W.findIn K (.ref CRoom) "ring_size" = some none)
    (onRoom_lifted : PySem.W.findIn K (.ref CRoom) "lifted" = some none)
    (onRoom_past : PySem.W.findIn K (.ref CRoom) "past" = some none) :
    ∃ (fd : FuncData) (tabs : List (Addr × Addr)), (∀ q ∈ tabs, PySem.W.codeHdIn K q.1 q.2 = true ∧ q.2 ∈ ts ∧ K.lookup q.2 = none) ∧ (∀ (s : Shared) (v : Value), BindsTo s fd ⟨[v], []⟩ [("_law_script", v)]) ∧ ∀ base : Heap, K.In base → base.Ns mainGlobals mg → BmAt mg base → FnOk l.prog w K mg base CX0 8 fa fd ["_law_script"] (spLawT K tabs) := by
  have e := hfa.symm.trans (PySem.W.mg_of X G a36)
  cases e
  have B : Bs mg := ⟨PySem.W.mg_none_of X G z0, PySem.W.mg_none_of X G z1, PySem.W.mg_none_of X G z2, PySem.W.mg_none_of X G z3, PySem.W.mg_none_of X G z4, PySem.W.mg_none_of X G z5, PySem.W.mg_none_of X G z6, PySem.W.mg_none_of X G z7, PySem.W.mg_none_of X G z8, PySem.W.mg_none_of X G z9, PySem.W.mg_none_of X G z10, PySem.W.mg_none_of X G z11, PySem.W.mg_none_of X G z12, PySem.W.mg_none_of X G z13⟩
  have T : Gs mg := ⟨trivial, ⟨_, PySem.W.mg_of X G mc0⟩, ⟨_, PySem.W.mg_of X G mc1⟩, ⟨_, PySem.W.mg_of X G mc2⟩, ⟨_, PySem.W.mg_of X G mc3⟩⟩
  have mBadTray := PySem.W.mg_of X G xmBadTray
  have mBadName := PySem.W.mg_of X G xmBadName
  have mTaken := PySem.W.mg_of X G xmTaken
  have mFull := PySem.W.mg_of X G xmFull
  have mNoListener := PySem.W.mg_of X G xmNoListener
  have clTray : Cls K CTray := ⟨opTray, ohTray, ooTray, osTray⟩
  have clSeat : Cls K CSeat := ⟨opSeat, ohSeat, ooSeat, osSeat⟩
  have clRoom : Cls K CRoom := ⟨opRoom, ohRoom, ooRoom, osRoom⟩
  refine ⟨PySem.W.fnOf "law" "law" (defArgs slaw) (defBody slaw) (defScope slaw) .none kV36 dc36 pm36 an36 cd36 ct36, [(CTRoom_standings, PTRoom_standings)], (List.forall_mem_cons.mpr ⟨⟨t15, u15, v15⟩, (fun _ h => nomatch h)⟩), fun s v => .of_eq rfl, fun base kb9 _ bm9 => ?_⟩
  have F1 := fun_mk (st := s_law_draw) l1 c1 k1
  have C1 : Cal l.prog w K mg base 1 "_law_draw" [] (spDraw K) := F1.cal (ok_law_draw F1 B T  ) (PySem.W.mg_of X G a1) (fun _ _ _ _ _ _ us hl => match us, hl with | [_, _], _ => rfl)
  have F2 := fun_mk (st := s_law_cell) l2 c2 k2
  have C2 : Cal l.prog w K mg base 1 "_law_cell" [] (spCell K) := F2.cal (ok_law_cell F2 B T  ) (PySem.W.mg_of X G a2) (fun _ _ _ _ _ _ us hl => match us, hl with | [_, _], _ => rfl)
  have F3 := fun_mk (st := s_law_many) l3 c3 k3
  have C3 : Cal l.prog w K mg base 1 "_law_many" [] (spMany K) := F3.cal (ok_law_many F3 B T  ) (PySem.W.mg_of X G a3) (fun _ _ _ _ _ _ us hl => match us, hl with | [_, _], _ => rfl)
  have F4 := fun_mk (st := sis_name) l4 c4 k4
  have C4 : Cal l.prog w K mg base 1 "is_name" [] (spIsName K) := F4.cal (okis_name F4 B T  ) (PySem.W.mg_of X G a4) (fun _ _ _ _ _ _ us hl => match us, hl with | [_], _ => rfl)
  have F5 := fun_mk (st := scheck_woods) l5 c5 k5
  have C5 : CalE l.prog w K mg base 2 "check_woods" [] (spCheckWoods K CBadTray) := F5.calE (okcheck_woods F5 B T mBadTray xqBadTray C4) (PySem.W.mg_of X G a5) (fun _ _ _ _ _ _ us hl => match us, hl with | [_], _ => rfl)
  have F6 := fun_mk (st := sTray___init__) l6 c6 k6
  have b6 := F6.binds (ps := ["self", "woods"]) fun _ _ _ _ _ _ us hl => match us, hl with | [_, _], _ => rfl
  have C6 : CalKE l.prog w K mg base CTray 3 "Tray" (spInit K CTray CBadTray) := ⟨f6, _, _, okTray___init__ F6 B T clTray onTray_stock C5, ⟨okTray, a6, i6, ocTray⟩, PySem.W.mg_of X G oaTray, b6⟩
  have F7 := fun_mk (st := sSeat___init__) l7 c7 k7
  have b7 := F7.binds (ps := ["self", "earned", "notes", "sheet"]) fun _ _ _ _ _ _ us hl => match us, hl with | [_, _, _, _], _ => rfl
  have C7 : CalK l.prog w K mg base CSeat 1 "Seat" (spSeatI K CSeat) := ⟨f7, _, _, okSeat___init__ F7 B T clSeat onSeat_earned onSeat_notes onSeat_sheet , ⟨okSeat, a7, i7, ocSeat⟩, PySem.W.mg_of X G oaSeat, b7⟩
  have F8 := fun_mk (st := sRoom___init__) l8 c8 k8
  have b8 := F8.binds (ps := ["self", "tray"]) fun _ _ _ _ _ _ us hl => match us, hl with | [_, _], _ => rfl
  have C8 : CalK l.prog w K mg base CRoom 1 "Room" (spRoomI K CRoom) := ⟨f8, _, _, okRoom___init__ F8 B T clRoom onRoom_store onRoom_seats onRoom_ring_size onRoom_lifted onRoom_past , ⟨okRoom, a8, i8, ocRoom⟩, PySem.W.mg_of X G oaRoom, b8⟩
  have F9 := fun_mk (st := sRoom_seat) l9 c9 k9
  have b9 := F9.binds (ps := ["self", "name"]) fun _ _ _ _ _ _ us hl => match us, hl with | [_, _], _ => rfl
  have C9 : CalME l.prog w K mg base CRoom 1 "seat" (spSeat K CRoom CSeat CNoListener) := ⟨f9, _, _, okRoom_seat F9 B T mNoListener xqNoListener clRoom onRoom_seats , ⟨a9, i9, k9⟩, b9⟩
  have F10 := fun_mk (st := sRoom_fresh_notes) l10 c10 k10
  have b10 := F10.binds (ps := ["self"]) fun _ _ _ _ _ _ us hl => match us, hl with | [_], _ => rfl
  have C10 : CalM l.prog w K mg base CRoom 1 "fresh_notes" (spFresh K CRoom CSeat) := ⟨f10, _, _, okRoom_fresh_notes F10 B T clRoom onRoom_ring_size , ⟨a10, i10, k10⟩, b10⟩
  have F11 := fun_mk (st := sRoom_come) l11 c11 k11
  have b11 := F11.binds (ps := ["self", "name"]) fun _ _ _ _ _ _ us hl => match us, hl with | [_, _], _ => rfl
  have C11 : CalME l.prog w K mg base CRoom 3 "come" (spCome K CRoom CSeat CBadName CTaken CFull) := ⟨f11, _, _, okRoom_come F11 B T mBadName xqBadName mTaken xqTaken mFull xqFull clRoom onRoom_seats C10 C7 C4, ⟨a11, i11, k11⟩, b11⟩
  have F12 := fun_mk (st := sRoom_leave) l12 c12 k12
  have b12 := F12.binds (ps := ["self", "name"]) fun _ _ _ _ _ _ us hl => match us, hl with | [_, _], _ => rfl
  have C12 : CalME l.prog w K mg base CRoom 2 "leave" (spLeave K CRoom CSeat CNoListener) := ⟨f12, _, _, okRoom_leave F12 B T clRoom onRoom_seats C9, ⟨a12, i12, k12⟩, b12⟩
  have F13 := fun_mk (st := sRoom_listeners) l13 c13 k13
  have b13 := F13.binds (ps := ["self"]) fun _ _ _ _ _ _ us hl => match us, hl with | [_], _ => rfl
  have C13 : CalM l.prog w K mg base CRoom 1 "listeners" (spListeners K CRoom CSeat) := ⟨f13, _, _, okRoom_listeners F13 B T clRoom onRoom_seats , ⟨a13, i13, k13⟩, b13⟩
  have F14 := fun_mk (st := sRoom_points) l14 c14 k14
  have b14 := F14.binds (ps := ["self", "name"]) fun _ _ _ _ _ _ us hl => match us, hl with | [_, _], _ => rfl
  have C14 : CalME l.prog w K mg base CRoom 2 "points" (spPoints K CRoom CSeat CNoListener) := ⟨f14, _, _, okRoom_points F14 B T clSeat onSeat_earned clRoom C9, ⟨a14, i14, k14⟩, b14⟩
  have F15 := fun_mk (st := sRoom_standings) l15 c15 k15
  have b15 := F15.binds (ps := ["self"]) fun _ _ _ _ _ _ us hl => match us, hl with | [_], _ => rfl
  have C15 : CalM l.prog w K mg base CRoom 4 "standings" (spStandings K CRoom CSeat PTRoom_standings) := ⟨f15, _, _, okRoom_standings F15 rfl (PySem.W.codeHd_of_K kb9 t15) bm9 B T clSeat onSeat_earned clRoom onRoom_seats , ⟨a15, i15, k15⟩, b15⟩
  have F16 := fun_mk (st := s_law_num) l16 c16 k16
  have C16 : Cal l.prog w K mg base 1 "_law_num" [] spNum := F16.cal (ok_law_num F16 B T  ) (PySem.W.mg_of X G a16) (fun _ _ _ _ _ _ us hl => match us, hl with | [_], _ => rfl)
  have F17 := funD_mk (st := s_law_split) (ds := [Value.int 0 tk17]) l17 c17 k17 lT17 dT17
  have D17 : Cal l.prog w K mg base 1 "_law_split" [] spSplit := ⟨f17, _, _, [], ok_law_split F17 B T  , PySem.W.mg_of X G a17, k17, F17.binds (es := []) (fun _ _ _ _ _ _ _ us hl => match us, (show us.length = 3 from by simpa using hl) with | [_, _, _], _ => ⟨_, rfl, rfl⟩), .nil⟩
  have C17 : Cal l.prog w K mg base 1 "_law_split" [.int 0] spSplit := ⟨f17, _, _, [Value.int 0 tk17], ok_law_split F17 B T  , PySem.W.mg_of X G a17, k17, F17.binds (fun _ _ _ _ _ _ _ us hl => match us, (show us.length = 2 from by simpa using hl) with | [_, _], _ => ⟨_, rfl, rfl⟩), .cons ⟨_, rfl⟩ .nil⟩
  have F18 := fun_mk (st := s_law_refused) l18 c18 k18
  have C18 : Cal l.prog w K mg base 1 "_law_refused" [] (spRefused K) := F18.cal (ok_law_refused F18 B T  ) (PySem.W.mg_of X G a18) (fun _ _ _ _ _ _ us hl => match us, hl with | [_], _ => rfl)
  have F19 := fun_mk (st := s_law_names) l19 c19 k19
  have C19 : Cal l.prog w K mg base 2 "_law_names" [] (spNames12 K) := F19.cal (ok_law_names F19 B T  C1) (PySem.W.mg_of X G a19) (fun _ _ _ _ _ _ us hl => match us, hl with | [_, _], _ => rfl)
  have F20 := fun_mk (st := s_law_woods) l20 c20 k20
  have C20 : Cal l.prog w K mg base 3 "_law_woods" [] (spLWoods K) := F20.cal (ok_law_woods F20 B T  C1 C19 C17) (PySem.W.mg_of X G a20) (fun _ _ _ _ _ _ us hl => match us, hl with | [_], _ => rfl)
  have F21 := fun_mk (st := s_law_pair_of_wood) l21 c21 k21
  have C21 : Cal l.prog w K mg base 2 "_law_pair_of_wood" [] (spPairW K) := F21.cal (ok_law_pair_of_wood F21 B T  C16) (PySem.W.mg_of X G a21) (fun _ _ _ _ _ _ us hl => match us, hl with | [_], _ => rfl)
  have F22 := fun_mk (st := s_law_total) l22 c22 k22
  have C22 : Cal l.prog w K mg base 1 "_law_total" [] (spLTot K) := F22.cal (ok_law_total F22 B T  ) (PySem.W.mg_of X G a22) (fun _ _ _ _ _ _ us hl => match us, hl with | [_], _ => rfl)
  have F23 := fun_mk (st := s_law_model) l23 c23 k23
  have C23 : Cal l.prog w K mg base 1 "_law_model" [] (spModel K) := F23.cal (ok_law_model F23 B T  ) (PySem.W.mg_of X G a23) (fun _ _ _ _ _ _ us hl => match us, hl with | [_], _ => rfl)
  have F24 := fun_mk (st := s_law_name_ok) l24 c24 k24
  have C24 : Cal l.prog w K mg base 1 "_law_name_ok" [] (spIsName K) := F24.cal (ok_law_name_ok F24 B T  ) (PySem.W.mg_of X G a24) (fun _ _ _ _ _ _ us hl => match us, hl with | [_], _ => rfl)
  have F25 := fun_mk (st := s_law_come) l25 c25 k25
  have C25 : Cal l.prog w K mg base 2 "_law_come" [] (spLCome K) := F25.cal (ok_law_come F25 B T  C24) (PySem.W.mg_of X G a25) (fun _ _ _ _ _ _ us hl => match us, hl with | [_, _], _ => rfl)
  have F26 := fun_mk (st := s_law_leave) l26 c26 k26
  have C26 : Cal l.prog w K mg base 1 "_law_leave" [] (spLLeave K) := F26.cal (ok_law_leave F26 B T  ) (PySem.W.mg_of X G a26) (fun _ _ _ _ _ _ us hl => match us, hl with | [_, _], _ => rfl)
  have F27 := fun_mk (st := s_law_result_ok) l27 c27 k27
  have C27 : Cal l.prog w K mg base 1 "_law_result_ok" [] (spResOk K) := F27.cal (ok_law_result_ok F27 B T  ) (PySem.W.mg_of X G a27) (fun _ _ _ _ _ _ us hl => match us, hl with | [_, _], _ => rfl)
  have F28 := fun_mk (st := s_law_pairs_told) l28 c28 k28
  have C28 : Cal l.prog w K mg base 3 "_law_pairs_told" [] (spTold K) := F28.cal (ok_law_pairs_told F28 B T  C21) (PySem.W.mg_of X G a28) (fun _ _ _ _ _ _ us hl => match us, hl with | [_, _], _ => rfl)
  have F29 := fun_mk (st := s_law_points) l29 c29 k29
  have C29 : Cal l.prog w K mg base 3 "_law_points" [] (spLPoints K CRoom CSeat) := F29.cal (ok_law_points F29 B T mNoListener xqNoListener clRoom C14) (PySem.W.mg_of X G a29) (fun _ _ _ _ _ _ us hl => match us, hl with | [_, _], _ => rfl)
  have F30 := fun_mk (st := s_law_standings) l30 c30 k30
  have C30 : Cal l.prog w K mg base 1 "_law_standings" [] (spLStand K) := F30.cal (ok_law_standings F30 B T  ) (PySem.W.mg_of X G a30) (fun _ _ _ _ _ _ us hl => match us, hl with | [_], _ => rfl)
  have F31 := fun_mk (st := s_law_people_ok) l31 c31 k31
  have C31 : Cal l.prog w K mg base 6 "_law_people_ok" [] (spPeople K CRoom CSeat PTRoom_standings) := F31.cal (ok_law_people_ok F31 B T clRoom C13 C15 C16 C28 C29 C18 C30) (PySem.W.mg_of X G a31) (fun _ _ _ _ _ _ us hl => match us, hl with | [_, _, _], _ => rfl)
  have F32 := fun_mk (st := s_law_rich_woods) l32 c32 k32
  have C32 : Cal l.prog w K mg base 5 "_law_rich_woods" [] (spRich24 K) := F32.cal (ok_law_rich_woods F32 B T  C22 C20) (PySem.W.mg_of X G a32) (fun _ _ _ _ _ _ us hl => match us, hl with | [_, _], _ => rfl)
  have F33 := fun_mk (st := s_law_begun) l33 c33 k33
  have C33 : Cal l.prog w K mg base 6 "_law_begun" [] (spBegun K) := F33.cal (ok_law_begun F33 B T  D17 C1 C19 C32 C20) (PySem.W.mg_of X G a33) (fun _ _ _ _ _ _ us hl => match us, hl with | [_], _ => rfl)
  have F34 := fun_mk (st := s_law_tried) l34 c34 k34
  have C34 : Cal l.prog w K mg base 4 "_law_tried" [] (spTriedR K CRoom CSeat) := F34.cal (ok_law_tried F34 B T mBadName xqBadName mTaken xqTaken mFull xqFull mNoListener xqNoListener xnTakenBadName xnFullBadName xnFullTaken xnNoListenerBadName xnNoListenerTaken xnNoListenerFull clRoom C11 C12) (PySem.W.mg_of X G a34) (fun _ _ _ _ _ _ us hl => match us, hl with | [_, _], _ => rfl)
  have F35 := fun_mk (st := s_law_drawn) l35 c35 k35
  have C35 : Cal l.prog w K mg base 1 "_law_drawn" [] (spDrawn K) := F35.cal (ok_law_drawn F35 B T  ) (PySem.W.mg_of X G a35) (fun _ _ _ _ _ _ us hl => match us, hl with | [_, _, _], _ => rfl)
  have F36 := fun_mk (st := slaw) l36 c36 k36
  exact oklaw F36 B T clRoom C8 C13 C15 C6 C33 C2 C25 C1 C35 C26 C3 C23 C31 C27 C34
theorem walk {l : PySem.W.OpenLaw} {q : Program} {loose : List Str} {XP : (Str → Option Value) → Heap → Prop} {YP : World → Heap → Prop} {d : DefRec} {K : Params → PySem.W.Frag} {ts : List Addr} (hn : l.most = some 63) (hdf : d.params.defaults = [])
    (hY : ∀ (w : World) (h : Heap), YP w h → (K w.params).In h ∧ ∀ P ∈ ts, h.get? P = some (PySem.W.tabObj #[]))
    (F : ∀ (w : World) (mg : Str → Option Value) (fa : Addr) (h : Heap), (K w.params).In h → h.Ns mainGlobals mg → mg d.name = some (.ref fa) →
      ∃ (fd : FuncData) (tabs : List (Addr × Addr)), (∀ q ∈ tabs, PySem.W.codeHdIn (K w.params) q.1 q.2 = true ∧ q.2 ∈ ts ∧ (K w.params).lookup q.2 = none) ∧ (∀ (s : Shared) (u : Value), BindsTo s fd ⟨[u], []⟩ [("_law_script", u)]) ∧ ∀ base : Heap, (K w.params).In base → base.Ns mainGlobals mg → BmAt mg base → FnOk l.prog w (K w.params) mg base CX0 8 fa fd ["_law_script"] (spLawT (K w.params) tabs)) :
    PySem.W.WalkO q loose XP YP l.row.toRowW d [] (fun f vs => PySem.call f vs) :=
  L2.walk_ofT (n := 63) (k := 8) (x := "_law_script") (CX := fun _ => CX0) (sp := fun w tabs => spLawT (K w.params) tabs) hn (by decide) hdf ⟨rfl, by decide, by decide⟩ hY F (fun _ _ _ a ns hl hT hS => ⟨a, ns, rfl, hS, hl, hT, fun _ => rfl⟩) fun _ _ _ _ _ z => z
end Lw
namespace PySem.W.Fast
def tw12194024863648868082:=0
def tw13003887552211590712:=0
def tw18381062616735436013:=0
def tw4177640065289218083:=0
def tw14739791626931624975:=0
def tw1250375440430075015:=0
def tw16309620375685917365:=0
def tw13643924965526453712:=0
def tw16503592071151117416:=0
def tw8718262175749426002:=0
def tw8010366301762533218:=0
def tw15603204288691540884:=0
def tw3003525213879274761:=0
def tw14645990275056500011:=0
def tw9079635032091049724:=0
def tw9003636956706756084:=0
def tw15204798251504954157:=0
def tw11013319107542103256:=0
def tw4192637676607187633:=0
def tw1205256818262471569:=0
def tw4586525185403411017:=0
def tw3967414204050534755:=0
def tw7756215130057779292:=0
def tw9177701011028970374:=0
def tw16041459790856199192:=0
def tw4751996182112787882:=0
def tw663871980706295645:=0
def tw3553381699168671809:=0
def tw8075045720710305645:=0
def tw14758012420985501511:=0
def tw18051461449728271372:=0
def tw7662941921248696820:=0
def tw1772133349113865856:=0
def tw4737401155505888212:=0
def tw14737192665192211842:=0
def tw742280082409360478:=0
def tw16162665406269376523:=0
def tw15829384107366021754:=0
def tw4617216768243650579:=0
def tw206708848203088775:=0
def tw9795188756698541427:=0
def tw17850898893676485398:=0
def tw10038512706375208867:=0
def tw15161286198122973133:=0
def tw12878268185583187623:=0
def tw2493858266539580858:=0
def tw15074344702793899403:=0
def tw3293933070745868698:=0
def tw11694764313641213759:=0
def tw7420012869474505997:=0
def tw18422373302770106618:=0
def tw13659209665330081619:=0
def tw11533270037719351209:=0
def tw10333946514090686828:=0
def tw13754119902290558433:=0
def tw9541373915014844997:=0
def tw18021538813712248341:=0
def tw11624603716045718833:=0
def tw17101903208916509466:=0
def tw17464491212916430595:=0
def tw12876186740002438058:=0
def tw15367438202905336331:=0
def tw16505490263974799536:=0
def tw8014582738857893651:=0
def tw13510320229506149789:=0
def tw7155860108759711787:=0
def tw9465159456077197954:=0
def tw11568481880794685252:=0
def tw11475632284029353971:=0
def tw14493710194869902074:=0
def tw4544466803589043523:=0
def tw9413906503516236847:=0
def tw11134065387380237547:=0
def tw11160696805442274332:=0
def tw2953057278027011719:=0
def tw17065772713232887248:=0
def tw326479997376235145:=0
def tw3298040289900977110:=0
def tw8013910582684612221:=0
def tw15365366506736289241:=0
def tw27279327102465293:=0
def tw2806327475195234377:=0
def tw4146494053029666257:=0
def tw16806326423248156503:=0
def tw11499440938808501880:=0
def tw6997633254580302245:=0
def tw9071689430001082489:=0
def tw11358283687870337695:=0
def tw14861767249042583545:=0
def tw977480459669046305:=0
def tw2193117701232726826:=0
def tw15389134361262789191:=0
def tw3797365643909581559:=0
def tw12571457587172390843:=0
def tw5250504518390710177:=0
def tw6654818520278501300:=0
def tw1390517183533316739:=0
def tw8456392429115999340:=0
def tw8731560650276773899:=0
def tw11999575575614375860:=0
def tw16928339703839182114:=0
def tw14795456899170581918:=0
def tw12437374966936904898:=0
def tw13948807284730944897:=0
def tw4850367023714148196:=0
def tw14889248357155952233:=0
def tw3595747143582496058:=0
def tw1901576537982420613:=0
def tw1939928037122328722:=0
def tw11148924091903823031:=0
def tw743534229704292952:=0
def tw799207057650318274:=0
def tw16064216906221389928:=0
def tw7843665480911637058:=0
def tw14756180680419260560:=0
def tw7705572182272961875:=0
def tw15998557164284006932:=0
def tw3071777287568031347:=0
def tw2093317564711974513:=0
def tw10744019830682215956:=0
def tw7580159378356440738:=0
def tw10131034599139837640:=0
def tw7671083590228567362:=0
def tw60559189838008623:=0
def tw13722619430845658089:=0
def tw15024150368186376181:=0
def tw6402049644310568981:=0
def tw14262767975676175863:=0
def tw10754887400687896798:=0
def tw10240991484024495306:=0
def tw4801086149565364774:=0
def tw5351234523421142771:=0
def tw4873661370110344445:=0
def tw10639031704401277147:=0
def tw13527418210359383088:=0
def tw7029692760821641216:=0
def tw17255963875506573179:=0
def tw7857343259987964115:=0
def tw4926044901543468600:=0
def tw11928024290637816205:=0
def tw3252869329248520410:=0
def tw2925135316322486523:=0
def tw3073902232819777378:=0
def tw12917924537851436374:=0
def tw12463670059795749503:=0
def tw6887911663487178413:=0
def tw3051259600706633886:=0
def tw12436408395519652956:=0
def tw8527305398241369432:=0
def tw14031963705207644244:=0
def tw11426139979783664548:=0
def tw583233855952024015:=0
def tw16236481603439723542:=0
def tw7511622184256084487:=0
def tw16058776454227341919:=0
def tw3237051688574599050:=0
def tw15328427895304817877:=0
def tw2671400178321738405:=0
def tw13100487761772067440:=0
def tw10041580341023432951:=0
def tw17663449333638582368:=0
def tw4101863372766243028:=0
def tw10194467055646469625:=0
def tw4695720320118232279:=0
def tw14027323086565211920:=0
def tw15074721701860216217:=0
def tw8111331580148308096:=0
def tw18430764127574137559:=0
def tw17912113075247085517:=0
def tw3601991846124337992:=0
def tw5559568744774034810:=0
def tw675446268150101095:=0
def tw3200215294226871190:=0
def tw6779340252002049208:=0
def tw1553217268517485350:=0
def tw12410564137883662431:=0
def tw10989462890173947924:=0
def tw4509063312227449359:=0
def tw8831780380503629913:=0
def tw2406779191808532709:=0
def tw1813545281458027041:=0
def tw5973621375398605511:=0
def tw15953494285584231645:=0
def tw17223242162218894641:=0
def tw14132254557447443002:=0
def tw11339050368078958950:=0
def tw15653686827351137240:=0
def tw17763888065422555568:=0
def tw6691668689268530664:=0
def tw6123229841864016851:=0
def tw1289227378565414847:=0
def tw18133959053677294207:=0
def tw16413548442258699768:=0
def tw15682584663722169253:=0
def tw9992956672743494065:=0
def tw2491904672341959071:=0
def tw7679113274686519626:=0
def tw321513307323943197:=0
def tw16187143511479048606:=0
def tw15065143207664248750:=0
def tw13654884130829993897:=0
def tw16089205756725138074:=0
def tw6827109013191580420:=0
def tw882480689856379567:=0
def tw6702979043470477459:=0
def tw1656034516420233637:=0
def tw12494443433473267171:=0
def tw3279435241348872435:=0
def tw14203273238091786198:=0
def tw14430354306784809467:=0
def tw16037594861203700766:=0
def tw11256422023879350687:=0
def tw13705911737428255791:=0
def tw9908117713830817486:=0
def tw4643039097282877537:=0
def tw13850702778690615763:=0
def tw17546965745474163660:=0
def tw2742782696765976667:=0
def tw14999768954317331288:=0
def tw1443297859460886798:=0
def tw11146281760108808556:=0
def tw3190285370731084767:=0
def tw7356098212578390004:=0
def tw11849506953841642925:=0
def tw6685535267601800020:=0
def tw8292179834370301346:=0
def tw7914403311605539739:=0
def tw7817283825118039704:=0
def tw5394489229280773800:=0
def tw4967170843663676011:=0
def tw3526527586992352370:=0
def tw17573591740969644687:=0
def tw17169087318629522363:=0
def tw1570854259999957232:=0
def tw15246180583375532754:=0
def tw11893786949672811906:=0
def tw11106856770160530305:=0
def tw10938763897796033246:=0
def tw10201921827250818369:=0
def tw13796300764922909254:=0
def tw7415046135116807476:=0
def tw2561895513622854503:=0
def tw14878752136257756636:=0
def tw14741687938351362431:=0
def tw2709006295487188316:=0
def tw8369553648656176717:=0
def tw6325141768640717974:=0
def tw6969236173030744093:=0
def tw2919046223340745848:=0
def tw17928300032144241718:=0
def tw17361088153640650424:=0
def tw3293988892814562473:=0
def tw1721250429440220463:=0
def tw13763428951837042879:=0
def tw8428940966744780712:=0
def tw7896968585541035907:=0
def tw6329767206758584324:=0
def tw2172959008059958489:=0
def tw15897772407696279916:=0
def tw1247089438920673384:=0
def tw15034581878984450712:=0
def tw14242133392740338285:=0
def tw16558602533300967944:=0
def tw5434848682295200475:=0
def tw9315419948090932079:=0
def tw6853843847467222565:=0
def tw15366961266451313598:=0
def tw3028915919267286723:=0
def tw849004114411248862:=0
def tw15599631942456200984:=0
def tw17544653972750276200:=0
def tw1939982913972484268:=0
def tw7408532763690386312:=0
def tw9420344920641014789:=0
def tw9423810214859277527:=0
def tw908244277656360539:=0
def tw4082349821753924457:=0
def tw15178522828327299635:=0
def tw9395871381330777958:=0
def tw6577127453675760955:=0
def tw4096930893147898697:=0
def tw9752770074831573295:=0
def tw577448629690759367:=0
def tw18255664547487771617:=0
def tw17727526387659345134:=0
def tw9076384876036243781:=0
def tw8112314806988101964:=0
def tw6156631208460938798:=0
def tw3548174682551694134:=0
def tw3474050363104004291:=0
def tw17473792114881220720:=0
def tw14636108359747329568:=0
def tw1350786116866267502:=0
def tw12483785283529702764:=0
def tw11058806044113111153:=0
def tw3780181719624418015:=0
def tw13966889209728966190:=0
def tw12645977591273666350:=0
def tw8290073308009734477:=0
def tw13091049919447575504:=0
def tw736452046033210584:=0
def tw3378460269372688295:=0
def tw15651023168257287864:=0
def tw1930480260170215107:=0
def tw17342802423067194784:=0
def tw8455011196762740611:=0
def tw5387861149702602689:=0
def tw14986026559302043405:=0
def tw11481696152324657137:=0
def tw8546046704281071271:=0
def tw64157206020584368:=0
def tw14219685807243238325:=0
def tw5839276213227108599:=0
def tw7369029877379405674:=0
def tw16858904573984661363:=0
def tw1278234557832839013:=0
def tw10798702156884624577:=0
def tw5921297344569623209:=0
def tw8317569680579210641:=0
def tw14732055683683469916:=0
def tw9527992025314808114:=0
def tw17989848070402689183:=0
def tw17551674277414587852:=0
def tw1633464435996588516:=0
def tw14962563503003430552:=0
def tw4948876275345004248:=0
def tw204634314952546505:=0
def tw14763372156416389441:=0
def tw12370191930878124499:=0
def tw9442790163618485846:=0
def tw8756713483369086202:=0
def tw8743377733580379422:=0
def tw8293442851017844036:=0
def tw8136058092084653144:=0
def tw753661126440128705:=0
def tw7460526551067178038:=0
def tw7121391581763793662:=0
def tw6739205640643578722:=0
def tw553038406701197088:=0
def tw4861893938787691901:=0
def tw4583325734615448249:=0
def tw4359339889524866017:=0
def tw3454368988506458457:=0
def tw3403717475976329546:=0
def tw3063331830994609183:=0
def tw2211874461330312027:=0
def tw2026225569325204778:=0
def tw2019898319877911089:=0
def tw1992377654585545805:=0
def tw1775575569316541563:=0
def tw1647181126646768143:=0
def tw16302035966795148654:=0
def tw15661941647263989612:=0
def tw14959417892914814144:=0
def tw14958109644275557777:=0
def tw14887490031902090189:=0
def tw14419441468528369827:=0
def tw13019547083113637310:=0
def tw12648849443225573991:=0
def tw12583146580374992730:=0
def tw11326638914838598907:=0
def tw10631946435773211980:=0
def tw9767333944190647183:=0
def tw7751365787183677181:=0
def tw6941773992148523447:=0
def tw16588113893529315591:=0
def tw2590898780311490532:=0
def tw14552209091378049069:=0
def tw9890340354203446431:=0
def tw8630730800324957937:=0
def tw5796937053429410017:=0
def tw216171854540472763:=0
def tw17507855004606719070:=0
def tw11982605578037756865:=0
def tw881379787247921855:=0
def tw4745196650221313021:=0
def tw4731214544893276705:=0
def tw12821151651559751173:=0
def tw11825616047444929773:=0
def tw6314189929834977014:=0
def tw18303979387603668038:=0
def tw17185008114818074717:=0
def tw16136016770725821232:=0
def tw11379112038098833563:=0
def tw9901620260742472040:=0
def tw7524775476266860585:=0
def tw5377518997555141319:=0
def tw4964538303942831320:=0
def tw450158406633979480:=0
def tw4127832239829344055:=0
def tw1196503124721044595:=0
def tw8897464424805188542:=0
def tw4434026704746771616:=0
def tw3668451042458752661:=0
def tw2150544829186930875:=0
def tw9963854664614104421:=0
def tw9527547836474417153:=0
def tw9132399023963962668:=0
def tw7648404011962170942:=0
def tw7138061021441219978:=0
def tw6629707616323889991:=0
def tw5691327326003279568:=0
def tw5187327813761653202:=0
def tw5069572250727696425:=0
def tw4900843740839539048:=0
def tw2913858162023891544:=0
def tw2664257619299243110:=0
def tw18287520555999534483:=0
def tw17399448862712731790:=0
def tw15942797145710981424:=0
def tw15883611884577925130:=0
def tw14971211572333744981:=0
def tw14953123277355962977:=0
def tw14931565393416557418:=0
def tw1429149703801653385:=0
def tw13969168441071802984:=0
def tw13798836923331712660:=0
def tw13434314135350153824:=0
def tw11660882905618752541:=0
def tw11617605572550387282:=0
def tw10908037372168263674:=0
def tw10601480742051269423:=0
def tw17781300533450692242:=0
def tw2401831939695379659:=0
def tw2207311756622641167:=0
def tw14656384281994336913:=0
def tw12099531496570529827:=0
def tw3616842583034159320:=0
def tw3435903023746206222:=0
def tw14827670889604049935:=0
def tw14256216193886816717:=0
def tw6774797673836288811:=0
def tw4186890428652674728:=0
def tw16180535015510677983:=0
def tw9202206468245042707:=0
def tw8105032288335408775:=0
def tw8083949702125162828:=0
def tw7261521472337654809:=0
def tw7216414939883297731:=0
def tw7171497878923346158:=0
def tw715356957456191613:=0
def tw6534440844473220477:=0
def tw6257236977063735199:=0
def tw420032162455850850:=0
def tw2691714680534816977:=0
def tw18135844812498508640:=0
def tw17464014973289193196:=0
def tw17038139900995310726:=0
def tw15390818310125188984:=0
def tw1464319714008625627:=0
def tw13456031631039536601:=0
def tw126676057097093192:=0
def tw12197114917695513897:=0
def tw10144254076280414446:=0
def tw17593605739954915800:=0
def tw15822172024438630246:=0
def tw9180406410776959424:=0
def tw3403475672088054520:=0
def tw18284960002356324158:=0
def tw16455586005470857373:=0
def tw16185657200808256436:=0
def tw9607457835068845068:=0
def tw897413096193524547:=0
def tw8371981988403258538:=0
def tw7822657269328506494:=0
def tw1436213499184764117:=0
def tw12301030457014648445:=0
def tw8015204791119455894:=0
def tw1998465915933841383:=0
def tw208772054631187069:=0
def tw1103213544949632251:=0
def tw9025136597680150316:=0
def tw1048380258544683967:=0
def tw16577947022138242182:=0
def tw9153154058891579687:=0
def tw7284765588281972595:=0
def tw5488054679373115115:=0
def tw3167891980414599551:=0
def tw8915690195989519809:=0
def tw8577738049956808176:=0
def tw8417854982946449523:=0
def tw7422400974526472848:=0
def tw6693237889792823561:=0
def tw4994738867457292470:=0
def tw18216902615793613550:=0
def tw17899356609877341482:=0
def tw16660955690995378823:=0
def tw15612540845515575784:=0
def tw13586488490939235981:=0
def tw12986443648573164049:=0
def tw12748021270225330466:=0
def tw12628243429126749388:=0
def tw12352309134413508637:=0
def tw10426301437075506366:=0
def tw17727824286138337645:=0
def tw14981024475132588198:=0
def tw14218563477394425581:=0
def tw8440118509918201080:=0
def tw7823350800327184297:=0
def tw738147294310196903:=0
def tw6543217146771062402:=0
def tw6251050750623711818:=0
def tw6172551370812004902:=0
def tw3874078896069559031:=0
def tw3353114939561757579:=0
def tw17971514002530802642:=0
def tw16498805323736264583:=0
def tw16109207235276720732:=0
def tw14657025631235777612:=0
def tw13163281577902232189:=0
def tw11988025883698974153:=0
def tw11621913015751546149:=0
def tw8477365292962022665:=0
def tw4464958311913968518:=0
def tw4449799549055539788:=0
def tw4214724112847120553:=0
def tw1950526744101904976:=0
def tw13841131919965026265:=0
def tw12872667221318035142:=0
def tw11805803320849129513:=0
def tw14259572078802088410:=0
def tw3980080122642760435:=0
def tw3472438168850778673:=0
def tw10759691973084446379:=0
def tw6277732213707033430:=0
def tw13354792474440335658:=0
def tw14556724422012143744:=0
def tw4712178789231910002:=0
def tw8647760987116000182:=0
def tw858158928819467946:=0
def tw5695776175696327557:=0
def tw4674164801583827490:=0
def tw3946788056130195793:=0
def tw259542672306487859:=0
def tw2059301386636459709:=0
def tw12991156377021348352:=0
def tw11142707721709629155:=0
def tw10514043022309692966:=0
def tw9834730946012538690:=0
def tw10275135311918993750:=0
def tw9437563531672829270:=0
def tw9433024801395305117:=0
def tw8832370860802630598:=0
def tw8709595973258751821:=0
def tw8505532168922726077:=0
def tw804777144341650056:=0
def tw8007986876382481677:=0
def tw6773102602428036372:=0
def tw6742114343625522477:=0
def tw6677255727869968932:=0
def tw6323054510684031613:=0
def tw5787477023537238134:=0
def tw5781462165973146397:=0
def tw5687771605604328790:=0
def tw5552948352994606993:=0
def tw5515462219214818677:=0
def tw5133754648960054816:=0
def tw5069298646981903876:=0
def tw5036961103149254486:=0
def tw4676452486078017681:=0
def tw4458491580375448406:=0
def tw4274088044963461514:=0
def tw3923889276795011018:=0
def tw3920977367806649835:=0
def tw3907572026299741623:=0
def tw3153986405804077933:=0
def tw2858188348144129327:=0
def tw2714318769669586889:=0
def tw1932331684720627723:=0
def tw1694156706608843869:=0
def tw14933129478266714693:=0
def tw14904936658867326813:=0
def tw1485316031403406314:=0
def tw14229256844946402066:=0
def tw14023790930790623434:=0
def tw13489471825082369443:=0
def tw1340643087853693760:=0
def tw13226630394615848222:=0
def tw11926195984613630073:=0
def tw11706602759551494331:=0
def tw10217504221890330716:=0
def tw10111551480856463868:=0
def tw912429443125527201:=0
def tw8652528304588176649:=0
def tw7429821539340987808:=0
def tw6640533553719027344:=0
def tw6582274431110983623:=0
def tw5461322060827033798:=0
def tw4767434516766579498:=0
def tw4674712880287988700:=0
def tw4136802339199256622:=0
def tw3990186262992836764:=0
def tw17690365617675538678:=0
def tw17184353558935204422:=0
def tw16328690332939617196:=0
def tw14639729242578521055:=0
def tw13708927520328674303:=0
def tw11894384644726165741:=0
def tw9969540963492893811:=0
def tw9847779100121854221:=0
def tw9824401481978589572:=0
def tw9759549783204225003:=0
def tw9743061667447729906:=0
def tw9743048703093911128:=0
def tw9721272549827552933:=0
def tw9698244015302518733:=0
def tw9674904146057781401:=0
def tw9645449583437954118:=0
def tw9598522589644285572:=0
def tw9516270755230456580:=0
def tw9509962336937656503:=0
def tw9509163819678088729:=0
def tw9505368029163539155:=0
def tw9462916343331711171:=0
def tw9408652080927642488:=0
def tw9372149010212564148:=0
def tw9351067785196904193:=0
def tw9299502619711870607:=0
def tw9241809770849421300:=0
def tw9138998024241494676:=0
def tw8974381234130988558:=0
def tw8974345011261905735:=0
def tw8971294527669799323:=0
def tw8929662219249780613:=0
def tw8925483339018360513:=0
def tw8898403833011608173:=0
def tw8876357591234829620:=0
def tw8809000712535222513:=0
def tw8804670461968011489:=0
def tw8700836810867210635:=0
def tw8602520772381567571:=0
def tw8539931757129717118:=0
def tw8498582404593066704:=0
def tw8446334124362705940:=0
def tw8317550313769678132:=0
def tw8270189472723131720:=0
def tw8211159608892024625:=0
def tw8204394843400155263:=0
def tw8180046436944252815:=0
def tw8127425036982759782:=0
def tw8094434527522899790:=0
def tw8016844207204749802:=0
def tw7932747606391661245:=0
def tw7912135005096861638:=0
def tw7870366060604134452:=0
def tw7863872196402695896:=0
def tw7603238817889813305:=0
def tw7596665137992719310:=0
def tw7553200078489777778:=0
def tw7457537567088273170:=0
def tw7414327629272767176:=0
def tw737979747892774335:=0
def tw7295700565725541838:=0
def tw7292839437940246540:=0
def tw717132708179433110:=0
def tw7158166844590231640:=0
def tw7146427781879059755:=0
def tw7125786320573179327:=0
def tw7121763956085792281:=0
def tw7076308656467623442:=0
def tw7074571032389709553:=0
def tw6974707516417043034:=0
def tw6956487494880500704:=0
def tw6943898533918104513:=0
def tw6885949653434705655:=0
def tw6786898462755563545:=0
def tw6783424580365620475:=0
def tw67686583089310003:=0
def tw6757219744982430577:=0
def tw6720003583903586474:=0
def tw6716573214153316828:=0
def tw6639796705439467272:=0
def tw662993541130147342:=0
def tw6593242432468564347:=0
def tw6585369067499212529:=0
def tw6527978348751875101:=0
def tw6412247256905917031:=0
def tw627722381897448836:=0
def tw6272016006186950192:=0
def tw6215557203267406436:=0
def tw6113104269882540736:=0
def tw6109022387514765499:=0
def tw6048642465243605330:=0
def tw603797012783363362:=0
def tw6009164345995333307:=0
def tw5872433628437146842:=0
def tw5781748869246212805:=0
def tw5687823590044149541:=0
def tw5652595123862463511:=0
def tw5598777127001355817:=0
def tw5589419500788174964:=0
def tw5549626502476345390:=0
def tw5494020127987569128:=0
def tw5483936396179095079:=0
def tw5443874682484312180:=0
def tw5353972569781251182:=0
def tw5317961873859570707:=0
def tw5306852142608807821:=0
def tw5298222311011521551:=0
def tw5275672479972144247:=0
def tw5243578009396388283:=0
def tw5209701471481688943:=0
def tw5181839471358135737:=0
def tw5157658848443526791:=0
def tw5121470641520740778:=0
def tw5071093306299350497:=0
def tw5012167515713506756:=0
def tw4971931893154406840:=0
def tw4966400106378564959:=0
def tw4922258871841702767:=0
def tw4912614765918029505:=0
def tw4899475990614188687:=0
def tw4885607266080212614:=0
def tw479192233808242616:=0
def tw4764975720931700946:=0
def tw4764224878538470854:=0
def tw4761453202142306613:=0
def tw476061701410256134:=0
def tw4677005822819977515:=0
def tw4663449804051143928:=0
def tw4625807702879651142:=0
def tw4618124564156028946:=0
def tw4572537833953317286:=0
def tw4549149346589781239:=0
def tw4546651824012583322:=0
def tw4513217319969249268:=0
def tw4413221593105376600:=0
def tw4393581558241780793:=0
def tw4343221043671185920:=0
def tw4316480951739441033:=0
def tw4313729429377899002:=0
def tw4260040717881522126:=0
def tw4166835663324948557:=0
def tw410183998352577032:=0
def tw408631357068437638:=0
def tw4058024741137900256:=0
def tw3951625472983213856:=0
def tw3901935753119554757:=0
def tw3730546230711268479:=0
def tw3680274175774012176:=0
def tw3662038076707430363:=0
def tw3516910009098756315:=0
def tw3514320501136725099:=0
def tw34660983536977905:=0
def tw3341126342915314712:=0
def tw3262171266230870050:=0
def tw317120311286091489:=0
def tw3088009947409404830:=0
def tw3080850130426056582:=0
def tw3074500554008878988:=0
def tw2885756347645579870:=0
def tw2843014271463746791:=0
def tw2814589112805586710:=0
def tw277215395261223244:=0
def tw2763012063586256794:=0
def tw2747272569920521855:=0
def tw2744377497800523791:=0
def tw2700679614862756848:=0
def tw2633280529762328807:=0
def tw2585633748141720075:=0
def tw2582725855655864220:=0
def tw2574122704424057229:=0
def tw2564689263979827015:=0
def tw2520238744199982788:=0
def tw2397715364230317892:=0
def tw2371478715357760629:=0
def tw2298401319872327045:=0
def tw2090535012980474225:=0
def tw2083550401437499483:=0
def tw2070695720705325274:=0
def tw2064949742719289027:=0
def tw2034695281652421857:=0
def tw1939679461824913911:=0
def tw1919115694500714257:=0
def tw18435479210202356137:=0
def tw18408231569761130845:=0
def tw18192795037035417825:=0
def tw1818525176147749610:=0
def tw18169168174381216293:=0
def tw18153236793400589642:=0
def tw18038700413732385270:=0
def tw1803184565879597116:=0
def tw17903011261596100563:=0
def tw1787860466809436536:=0
def tw17785090736939372600:=0
def tw17613033205945813273:=0
def tw17581683806277850570:=0
def tw17557837324251353809:=0
def tw17519361296974463167:=0
def tw17462924221914399850:=0
def tw1742109097598956310:=0
def tw17379572341014194963:=0
def tw1731803050209037554:=0
def tw17268703298087950041:=0
def tw1722367288722353967:=0
def tw17200481721918876870:=0
def tw17118616687794124091:=0
def tw17112579177803433776:=0
def tw17090892024899043156:=0
def tw17059966608328767759:=0
def tw17048988356753158835:=0
def tw16981621889929936180:=0
def tw16972701429402833947:=0
def tw16956893138747333170:=0
def tw16929936677915492251:=0
def tw16864250242035270923:=0
def tw16858677012329235111:=0
def tw16851385065802335229:=0
def tw16836961779496798175:=0
def tw16820994639884343940:=0
def tw1679628148927061514:=0
def tw16795160771654165250:=0
def tw16694926398695378394:=0
def tw16630514283980672518:=0
def tw16588631234482294607:=0
def tw16562243123981142880:=0
def tw16555813794238007895:=0
def tw1654695765827924813:=0
def tw16495004839111401324:=0
def tw16480555889627193304:=0
def tw16437426800063494661:=0
def tw16420001777678306682:=0
def tw16356319545694025857:=0
def tw16328571694617920526:=0
def tw16247341282886101335:=0
def tw16129741094526617771:=0
def tw16021144033014455021:=0
def tw16010673362315929387:=0
def tw1589169288398979244:=0
def tw1584637612442247126:=0
def tw15777780561211825762:=0
def tw15734971757501088966:=0
def tw15733557728529441280:=0
def tw15731174094540340499:=0
def tw15718354786116648223:=0
def tw15700682334510027398:=0
def tw15617965071003206079:=0
def tw15544185326405183798:=0
def tw15524311581040797485:=0
def tw1552295993394673403:=0
def tw15196448007494580495:=0
def tw15140895988724111071:=0
def tw15101794414399775797:=0
def tw15099570591563906272:=0
def tw15022739082309669566:=0
def tw15006320034294166986:=0
def tw14967112555869137314:=0
def tw14955502506597135442:=0
def tw14937440662433984109:=0
def tw1493162479936457937:=0
def tw14889059816908135859:=0
def tw14887524555637390712:=0
def tw14842487760371972702:=0
def tw14779584320178877349:=0
def tw14741286046013699556:=0
def tw14669631122626105555:=0
def tw14667680258530374577:=0
def tw14618625153571662078:=0
def tw14616772757314696982:=0
def tw14599858789917094113:=0
def tw1458569604842911618:=0
def tw14541692385241153396:=0
def tw14426901708232755651:=0
def tw14350859475582271629:=0
def tw14342262437436740834:=0
def tw14306942773254773372:=0
def tw14235817298715249767:=0
def tw14209640572849958718:=0
def tw14195080177545153839:=0
def tw14155911813398785506:=0
def tw14147156564921861157:=0
def tw14127998201392273358:=0
def tw14083983153357258104:=0
def tw13961530348208451247:=0
def tw13706365741483961743:=0
def tw13664889641651177845:=0
def tw13611763770507607654:=0
def tw13595475804720922594:=0
def tw13496791388563132820:=0
def tw13389554219984016294:=0
def tw13286865040465254781:=0
def tw13273773373359791139:=0
def tw13263974885472715275:=0
def tw13215258697176207712:=0
def tw13191936913932079544:=0
def tw13183283687366166138:=0
def tw13136766206809944359:=0
def tw1312509541925071888:=0
def tw1306341531810083640:=0
def tw13009441114015640173:=0
def tw13007184889321555986:=0
def tw12986724423050731766:=0
def tw12972400669395621186:=0
def tw12932848842372758783:=0
def tw12929075620627574589:=0
def tw12912765912858805293:=0
def tw12877111338637940848:=0
def tw12797400556421682315:=0
def tw12783802537285944199:=0
def tw12762830500966050479:=0
def tw12692586323404337717:=0
def tw12670788220958695801:=0
def tw126675760954747835:=0
def tw12652333328692222129:=0
def tw12638302752780790684:=0
def tw12569680592869803469:=0
def tw12565876499691854942:=0
def tw12544643999373706742:=0
def tw12439128180610249601:=0
def tw12417409723280968661:=0
def tw12414562112863382344:=0
def tw12385725352982343208:=0
def tw12200702814843709690:=0
def tw12146311207849602030:=0
def tw1207027703207307632:=0
def tw12062680088953832604:=0
def tw1189325374101808504:=0
def tw1188093036989643876:=0
def tw11839139572580288236:=0
def tw11775460559544606306:=0
def tw11752884623947742303:=0
def tw11714708932638933621:=0
def tw11689943939698042699:=0
def tw11657821003368423732:=0
def tw11656531012292708606:=0
def tw11655094451318926825:=0
def tw11418522408481603114:=0
def tw11413913228295252589:=0
def tw11315972360784542238:=0
def tw11271410688605083811:=0
def tw1126653971952320832:=0
def tw11255525663798637068:=0
def tw11254546677322990369:=0
def tw11238282368217625969:=0
def tw1123151618082608773:=0
def tw11219961570105153110:=0
def tw11199344567794284560:=0
def tw11153344918971433982:=0
def tw11067537381454905329:=0
def tw11051305657098668779:=0
def tw10992391835325436312:=0
def tw10978209685499983733:=0
def tw10946036099586361099:=0
def tw1093879095575493463:=0
def tw10815686393335500780:=0
def tw10722739898645666705:=0
def tw10713865469700302306:=0
def tw10567216345532041964:=0
def tw1056695132752841164:=0
def tw1050261480984065548:=0
def tw10476808142055786603:=0
def tw10476762510653188133:=0
def tw10472821219159980649:=0
def tw1044473577315792678:=0
def tw10427168542903181621:=0
def tw10358149222811373085:=0
def tw10328547879128267839:=0
def tw10321992233505587929:=0
def tw10319590762661206899:=0
def tw10233946883310533655:=0
def tw10132402260711544724:=0
def tw10014813812444972823:=0
def tw10008039930446288516:=0
end PySem.W.Fast
open PySem PySem.W PyProof.Rows
set_option maxRecDepth 100000 in
set_option maxHeartbeats 0 in
theorem PySem.Challenge.cw_censers_k51_listeners_come_and_go_holds : PySem.Challenge.rw_censers_k51_listeners_come_and_go.Holds := by
  w_on; o_law; k_head; (case hw => w_witness2)
  k_fill
  refine Lw.walk (l := PySem.Challenge.rw_censers_k51_listeners_come_and_go) rfl rfl (fun w h Y => ⟨PySem.W.km_in_of Y, PySem.W.km_tabs_of Y⟩) ?F
  case F =>
    intro w mg fa h KX G hmg
    refine' Lw.all_mk KX G hmg ?a1 ?l1 ?c1 ?k1 ?a2 ?l2 ?c2 ?k2 ?a3 ?l3 ?c3 ?k3 ?a4 ?l4 ?c4 ?k4 ?a5 ?l5 ?c5 ?k5 ?a6 ?i6 ?l6 ?c6 ?k6 ?a7 ?i7 ?l7 ?c7 ?k7 ?a8 ?i8 ?l8 ?c8 ?k8 ?a9 ?i9 ?l9 ?c9 ?k9 ?a10 ?i10 ?l10 ?c10 ?k10 ?a11 ?i11 ?l11 ?c11 ?k11 ?a12 ?i12 ?l12 ?c12 ?k12 ?a13 ?i13 ?l13 ?c13 ?k13 ?a14 ?i14 ?l14 ?c14 ?k14 ?a15 ?i15 ?l15 ?c15 ?k15 ?u15 ?t15 ?v15 ?a16 ?l16 ?c16 ?k16 ?a17 ?l17 ?c17 ?k17 ?lT17 ?dT17 ?a18 ?l18 ?c18 ?k18 ?a19 ?l19 ?c19 ?k19 ?a20 ?l20 ?c20 ?k20 ?a21 ?l21 ?c21 ?k21 ?a22 ?l22 ?c22 ?k22 ?a23 ?l23 ?c23 ?k23 ?a24 ?l24 ?c24 ?k24 ?a25 ?l25 ?c25 ?k25 ?a26 ?l26 ?c26 ?k26 ?a27 ?l27 ?c27 ?k27 ?a28 ?l28 ?c28 ?k28 ?a29 ?l29 ?c29 ?k29 ?a30 ?l30 ?c30 ?k30 ?a31 ?l31 ?c31 ?k31 ?a32 ?l32 ?c32 ?k32 ?a33 ?l33 ?c33 ?k33 ?a34 ?l34 ?c34 ?k34 ?a35 ?l35 ?c35 ?k35 ?a36 ?l36 ?c36 ?k36 ?z0 ?z1 ?z2 ?z3 ?z4 ?z5 ?z6 ?z7 ?z8 ?z9 ?z10 ?z11 ?z12 ?z13 ?mc0 ?mc1 ?mc2 ?mc3 ?xmBadTray ?xqBadTray ?xmBadName ?xqBadName ?xmTaken ?xqTaken ?xmFull ?xqFull ?xmNoListener ?xqNoListener ?xnTakenBadName ?xnFullBadName ?xnFullTaken ?xnNoListenerBadName ?xnNoListenerTaken ?xnNoListenerFull ?oaTray ?opTray ?ohTray ?ooTray ?osTray ?okTray ?ocTray ?onTray_stock ?oaSeat ?opSeat ?ohSeat ?ooSeat ?osSeat ?okSeat ?ocSeat ?onSeat_earned ?onSeat_notes ?onSeat_sheet ?oaRoom ?opRoom ?ohRoom ?ooRoom ?osRoom ?okRoom ?ocRoom ?onRoom_store ?onRoom_seats ?onRoom_ring_size ?onRoom_lifted ?onRoom_past
    (case oaTray => k_is)
    (case oaSeat => k_is)
    (case oaRoom => k_is)
    (case a1 => k_is)
    (case l1 => k_is)
    (case c1 => k_is)
    (case k1 => k_is)
    (case a2 => k_is)
    (case l2 => k_is)
    (case c2 => k_is)
    (case k2 => k_is)
    (case a3 => k_is)
    (case l3 => k_is)
    (case c3 => k_is)
    (case k3 => k_is)
    (case a4 => k_is)
    (case l4 => k_is)
    (case c4 => k_is)
    (case k4 => k_is)
    (case a5 => k_is)
    (case l5 => k_is)
    (case c5 => k_is)
    (case k5 => k_is)
    (case a6 => k_is)
    (case i6 => k_is)
    (case l6 => k_is)
    (case c6 => k_is)
    (case k6 => k_is)
    (case a7 => k_is)
    (case i7 => k_is)
    (case l7 => k_is)
    (case c7 => k_is)
    (case k7 => k_is)
    (case a8 => k_is)
    (case i8 => k_is)
    (case l8 => k_is)
    (case c8 => k_is)
    (case k8 => k_is)
    (case a9 => k_is)
    (case i9 => k_is)
    (case l9 => k_is)
    (case c9 => k_is)
    (case k9 => k_is)
    (case a10 => k_is)
    (case i10 => k_is)
    (case l10 => k_is)
    (case c10 => k_is)
    (case k10 => k_is)
    (case a11 => k_is)
    (case i11 => k_is)
    (case l11 => k_is)
    (case c11 => k_is)
    (case k11 => k_is)
    (case a12 => k_is)
    (case i12 => k_is)
    (case l12 => k_is)
    (case c12 => k_is)
    (case k12 => k_is)
    (case a13 => k_is)
    (case i13 => k_is)
    (case l13 => k_is)
    (case c13 => k_is)
    (case k13 => k_is)
    (case a14 => k_is)
    (case i14 => k_is)
    (case l14 => k_is)
    (case c14 => k_is)
    (case k14 => k_is)
    (case a15 => k_is)
    (case i15 => k_is)
    (case l15 => k_is)
    (case c15 => k_is)
    (case k15 => k_is)
    (case u15 => first | exact .head _ | exact .tail _ (.head _))
    (case t15 => kernel_rfl)
    (case v15 => kernel_rfl)
    (case a16 => k_is)
    (case l16 => k_is)
    (case c16 => k_is)
    (case k16 => k_is)
    (case a17 => k_is)
    (case l17 => k_is)
    (case c17 => k_is)
    (case k17 => k_is)
    (case lT17 => k_is)
    (case dT17 => rfl)
    (case a18 => k_is)
    (case l18 => k_is)
    (case c18 => k_is)
    (case k18 => k_is)
    (case a19 => k_is)
    (case l19 => k_is)
    (case c19 => k_is)
    (case k19 => k_is)
    (case a20 => k_is)
    (case l20 => k_is)
    (case c20 => k_is)
    (case k20 => k_is)
    (case a21 => k_is)
    (case l21 => k_is)
    (case c21 => k_is)
    (case k21 => k_is)
    (case a22 => k_is)
    (case l22 => k_is)
    (case c22 => k_is)
    (case k22 => k_is)
    (case a23 => k_is)
    (case l23 => k_is)
    (case c23 => k_is)
    (case k23 => k_is)
    (case a24 => k_is)
    (case l24 => k_is)
    (case c24 => k_is)
    (case k24 => k_is)
    (case a25 => k_is)
    (case l25 => k_is)
    (case c25 => k_is)
    (case k25 => k_is)
    (case a26 => k_is)
    (case l26 => k_is)
    (case c26 => k_is)
    (case k26 => k_is)
    (case a27 => k_is)
    (case l27 => k_is)
    (case c27 => k_is)
    (case k27 => k_is)
    (case a28 => k_is)
    (case l28 => k_is)
    (case c28 => k_is)
    (case k28 => k_is)
    (case a29 => k_is)
    (case l29 => k_is)
    (case c29 => k_is)
    (case k29 => k_is)
    (case a30 => k_is)
    (case l30 => k_is)
    (case c30 => k_is)
    (case k30 => k_is)
    (case a31 => k_is)
    (case l31 => k_is)
    (case c31 => k_is)
    (case k31 => k_is)
    (case a32 => k_is)
    (case l32 => k_is)
    (case c32 => k_is)
    (case k32 => k_is)
    (case a33 => k_is)
    (case l33 => k_is)
    (case c33 => k_is)
    (case k33 => k_is)
    (case a34 => k_is)
    (case l34 => k_is)
    (case c34 => k_is)
    (case k34 => k_is)
    (case a35 => k_is)
    (case l35 => k_is)
    (case c35 => k_is)
    (case k35 => k_is)
    (case a36 => k_is)
    (case l36 => k_is)
    (case c36 => k_is)
    (case k36 => k_is)
    (case z0 => k_is)
    (case z1 => k_is)
    (case z2 => k_is)
    (case z3 => k_is)
    (case z4 => k_is)
    (case z5 => k_is)
    (case z6 => k_is)
    (case z7 => k_is)
    (case z8 => k_is)
    (case z9 => k_is)
    (case z10 => k_is)
    (case z11 => k_is)
    (case z12 => k_is)
    (case z13 => k_is)
    (case mc0 => k_is)
    (case mc1 => k_is)
    (case mc2 => k_is)
    (case mc3 => k_is)
    (case xmBadTray => k_is)
    (case xqBadTray => k_exc)
    (case xmBadName => k_is)
    (case xqBadName => k_exc)
    (case xmTaken => k_is)
    (case xqTaken => k_exc)
    (case xmFull => k_is)
    (case xqFull => k_exc)
    (case xmNoListener => k_is)
    (case xqNoListener => k_exc)
    (case xnTakenBadName => first | k_is | rfl)
    (case xnFullBadName => first | k_is | rfl)
    (case xnFullTaken => first | k_is | rfl)
    (case xnNoListenerBadName => first | k_is | rfl)
    (case xnNoListenerTaken => first | k_is | rfl)
    (case xnNoListenerFull => first | k_is | rfl)
    (case opTray => k_is)
    (case ohTray => k_is)
    (case ooTray => k_is)
    (case osTray => k_is)
    (case okTray => k_is)
    (case ocTray => k_is)
    (case onTray_stock => k_is)
    (case opSeat => k_is)
    (case ohSeat => k_is)
    (case ooSeat => k_is)
    (case osSeat => k_is)
    (case okSeat => k_is)
    (case ocSeat => k_is)
    (case onSeat_earned => k_is)
    (case onSeat_notes => k_is)
    (case onSeat_sheet => k_is)
    (case opRoom => k_is)
    (case ohRoom => k_is)
    (case ooRoom => k_is)
    (case osRoom => k_is)
    (case okRoom => k_is)
    (case ocRoom => k_is)
    (case onRoom_store => k_is)
    (case onRoom_seats => k_is)
    (case onRoom_ring_size => k_is)
    (case onRoom_lifted => k_is)
    (case onRoom_past => k_is)
