import PyProof.Rows.All
import Wide.All
import OpenK.AllK
import Wide.FinOn
import Lean
import PyProof.EqAt
import PyProof.EqKinds
import PyProof.TupleCall
import KE.KRevSl
import PyProof.Rows.Range3
import PyProof.Rows.SetFrom
import PyProof.Rows.StrItems
import PySem.Challenge.RW_censers_k17_whole_texts_spoilt
set_option Elab.async false
set_option linter.all false
set_option maxRecDepth 100000
namespace L2
open PySem PySem.Spec PyProof.Rows
abbrev Key := Sum Int Str
def keyIs : Key -> Value -> Bool
  | .inl k,v => Value.isInt k v
  | .inr x,v => Value.isStrOf x v
def keyH (w : World) : Key -> Int
  | .inl k => hashInt k
  | .inr x => hashStr w x
theorem keyIs_shape : ∀ {k : Key} {v : Value},keyIs k v = true -> (∃ i t,k = Sum.inl i /\ v = Value.int i t) \/ (∃ x t,k = Sum.inr x /\ v = Value.str x t)
  | .inl i,v,h => by
    obtain ⟨t,e⟩ := Value.isInt_shape (k := i) (v := v) h
    exact .inl ⟨i,t,rfl,e⟩
  | .inr x,v,h => by
    obtain ⟨t,e⟩ := Value.isStrOf_shape (x := x) (v := v) h
    exact .inr ⟨x,t,rfl,e⟩
theorem keyIs_int (i : Int) (t : Tok) : keyIs (.inl i) (.int i t) = true := by simp [keyIs,Value.isInt]
theorem keyIs_str (x : Str) (t : Tok) : keyIs (.inr x) (.str x t) = true := by simp [keyIs,Value.isStrOf]
theorem key_ll (a b : Int) : decide ((Sum.inl a : Key) = Sum.inl b) = (a == b) := by
  by_cases e : a = b
  · subst e; simp
  · have h : ¬ (Sum.inl a : Key) = Sum.inl b := fun q => e (Sum.inl.inj q)
    rw [decide_eq_false h]
    exact (beq_eq_false_iff_ne.mpr e).symm
theorem key_rr (a b : Str) : decide ((Sum.inr a : Key) = Sum.inr b) = decide (a = b) := by
  by_cases e : a = b
  · subst e; simp
  · have h : ¬ (Sum.inr a : Key) = Sum.inr b := fun q => e (Sum.inr.inj q)
    rw [decide_eq_false h,decide_eq_false e]
theorem key_lr (a : Int) (b : Str) : decide ((Sum.inl a : Key) = Sum.inr b) = false := decide_eq_false (fun q => nomatch q)
theorem key_rl (a : Str) (b : Int) : decide ((Sum.inr a : Key) = Sum.inl b) = false := decide_eq_false (fun q => nomatch q)
def mixKind (prog : Program) (w : World) : PySem.KeyKind prog w Key where
  is := keyIs
  hash := keyH w
  inj := fun v a b ha hb => by
    rcases keyIs_shape ha with ⟨i,t,rfl,rfl⟩ | ⟨x,t,rfl,rfl⟩
    · rcases keyIs_shape hb with ⟨j,u,rfl,e⟩ | ⟨y,u,rfl,e⟩
      · injection e with e1 _; rw [e1]
      · exact nomatch e
    · rcases keyIs_shape hb with ⟨j,u,rfl,e⟩ | ⟨y,u,rfl,e⟩
      · exact nomatch e
      · injection e with e1 _; rw [e1]
  byValue := fun k v h => by
    rcases keyIs_shape h with ⟨i,t,rfl,rfl⟩ | ⟨x,t,rfl,rfl⟩ <;> rfl
  pyHash := fun hv h => by
    rcases keyIs_shape hv with ⟨i,t,rfl,rfl⟩ | ⟨x,t,rfl,rfl⟩
    · exact wpAny_pyHash_int h
    · exact wpAny_pyHash_str h
  eqBool := fun hu hv h => by
    rcases keyIs_shape hu with ⟨i,t,rfl,rfl⟩ | ⟨x,t,rfl,rfl⟩
    · rcases keyIs_shape hv with ⟨j,u,rfl,rfl⟩ | ⟨y,u,rfl,rfl⟩
      · rw [key_ll] at h; exact wpAny_eqBool_int h
      · rw [key_lr] at h; exact SeqAt.EqAt.int_str i t y u _ _ _ _ h
    · rcases keyIs_shape hv with ⟨j,u,rfl,rfl⟩ | ⟨y,u,rfl,rfl⟩
      · rw [key_rl] at h; exact SeqAt.EqAt.str_int x t j u _ _ _ _ h
      · rw [key_rr] at h; exact wpAny_eqBool_str h
  «strs» := fun k x t v h => by
    rcases keyIs_shape h with ⟨i,u,rfl,e⟩ | ⟨y,u,rfl,e⟩
    · exact nomatch e
    · injection e with e1 _
      subst e1
      cases v <;> rfl
theorem mixKind_int (prog : Program) (w : World) (i : Int) (t : Tok) : (mixKind prog w).is (.inl i) (.int i t) = true := keyIs_int i t
theorem mixKind_str (prog : Program) (w : World) (x : Str) (t : Tok) : (mixKind prog w).is (.inr x) (.str x t) = true := keyIs_str x t
end L2
namespace L2
open PySem PySem.Spec PyProof.Rows
inductive V where
  | non | bl (b : Bool) | int (i : Int) | str (x : Str) | byt (b : Array UInt8) | flt (b : UInt64) | ref (a : Addr) | ty (n : String)
  deriving DecidableEq
def RelV : V -> Value -> Prop
  | .non,u => u = Value.none
  | .bl b,u => u = Value.bool b
  | .int i,u => ∃ t,u = Value.int i t
  | .str x,u => ∃ t,u = Value.str x t
  | .byt b,u => ∃ t,u = Value.bytes b t
  | .flt b,u => ∃ t,u = Value.float b t
  | .ref a,u => u = Value.ref a
  | .ty n,u => u = Value.type n
abbrev Vals : List V -> List Value -> Prop := Paired RelV
theorem Vals.length {xs : List V} {us : List Value} (r : Vals xs us) : xs.length = us.length := Paired.length r
theorem Vals.get : ∀ {xs : List V} {us : List Value} {i : Nat} {x : V},Vals xs us -> xs[i]? = some x -> ∃ u,us[i]? = some u /\ RelV x u
  | _,_,_,_,.nil,e => by simp at e
  | _,_,0,_,.cons r _,e => by simp at e; subst e; exact ⟨_,rfl,r⟩
  | _,_,i + 1,x,.cons _ t,e => by
    obtain ⟨u,h1,h2⟩ := Vals.get (i := i) (x := x) t (by simpa using e)
    exact ⟨u,by simpa using h1,h2⟩
theorem Vals.set {x : V} {u : Value} (r : RelV x u) : ∀ {xs : List V} {us : List Value} (i : Nat),Vals xs us -> Vals (xs.set i x) (us.set i u)
  | _,_,_,.nil => .nil
  | _,_,0,.cons _ t => .cons r t
  | _,_,i + 1,.cons q t => .cons q (Vals.set r i t)
theorem Vals.append : ∀ {xs ys : List V} {us ws : List Value},Vals xs us -> Vals ys ws -> Vals (xs ++ ys) (us ++ ws)
  | _,_,_,_,.nil,s => s
  | _,_,_,_,.cons r t,s => .cons r (Vals.append t s)
theorem Vals.take : ∀ {xs : List V} {us : List Value} (n : Nat),Vals xs us -> Vals (xs.take n) (us.take n)
  | _,_,0,_ => .nil
  | _,_,_ + 1,.nil => .nil
  | _,_,n + 1,.cons r t => .cons r (Vals.take n t)
theorem Vals.drop : ∀ {xs : List V} {us : List Value} (n : Nat),Vals xs us -> Vals (xs.drop n) (us.drop n)
  | _,_,0,r => r
  | _,_,_ + 1,.nil => .nil
  | _,_,n + 1,.cons _ t => Vals.drop n t
theorem Vals.none_of : ∀ {xs : List V} {us : List Value} {i : Nat},Vals xs us -> xs[i]? = none -> us[i]? = none := fun {xs us i} r e => by
  have h1 := r.length
  have h2 : xs.length <= i := List.getElem?_eq_none_iff.mp e
  exact List.getElem?_eq_none_iff.mpr (by omega)
def RelO : Option V -> Option Value -> Prop
  | some v,some u => RelV v u
  | none,none => True
  | _,_ => False
def KV {κ : Type} : List (κ × V) -> List (κ × Value) -> Prop := Paired fun (p : κ × V) (q : κ × Value) => p.1 = q.1 /\ RelV p.2 q.2
def kV : Key -> V
  | .inl i => .int i
  | .inr x => .str x
inductive HO where
  | lst (xs : List V)
  | tup (xs : List V)
  | dK (kvs : List (Key × V)) | dT (kvs : List (List Key × V))
  | set (S : Int -> Bool) (n : Nat)
  | ins (C dx : Addr) (fs : List (Str × V))
  | own (x : Addr)
  | xd (fs : List (Str × V))
  | met (f x : Addr)
  | rng (lo hi : Int)
  | frz (o : Obj) (u : HO)
  | tbl (ps : Array Value)
  | ext (φ : Heap -> Prop)
abbrev Hp := Addr -> Option HO
def upd (H : Hp) (a : Addr) (o : HO) : Hp := fun b => if b = a then some o else H b
theorem upd_same {H : Hp} {a : Addr} {o : HO} : upd H a o a = some o := by unfold upd; rw [if_pos rfl]
theorem upd_ne {H : Hp} {a b : Addr} {o : HO} (h : b ≠ a) : upd H a o b = H b := by unfold upd; rw [if_neg h]
theorem upd_upd {H : Hp} {a : Addr} {o u : HO} : upd (upd H a o) a u = upd H a u := by
  funext b; unfold upd; split <;> rfl
theorem ne_of {H : Hp} {a b : Addr} {o u : HO} (h : H a = some o) (h' : H b = some u) (d : o ≠ u) : a ≠ b := by
  intro e; subst e; rw [h] at h'; exact d (Option.some.inj h')
theorem ne_of_none {H : Hp} {a b : Addr} {o : HO} (h : H a = some o) (h' : H b = none) : a ≠ b := by
  intro e; subst e; rw [h] at h'; cases h'
section
variable (P : Program) (w : World)
def ObjOk (H : Hp) (h : Heap) (a : Addr) : HO -> Prop
  | .lst xs => xs.length <= sizeLine /\ ∃ (its : List Value) (n : Nat),Vals xs its /\ h.get? a = some { cls := .type "list",data := .seq its.toArray n }
  | .tup xs => xs.length <= sizeLine /\ ∃ its : List Value,Vals xs its /\ IsTup h a its.toArray
  | .dK kvs => kvs.length <= sizeLine /\ (a == sysModules) = false /\ ∃ vs,KV kvs vs /\ h.DictOf (mixKind P w) a vs
  | .dT kvs => kvs.length <= sizeLine /\ (a == sysModules) = false /\ ∃ xs : List (List Key × Addr × Value),
      Paired (fun (p : List Key × V) (q : List Key × Addr × Value) => p.1 = q.1 /\ H q.2.1 = some (.tup (p.1.map kV)) /\ RelV p.2 q.2.2) kvs xs /\
      ∃ o es ep,h.get? a = some o /\ o.ExactDict /\ o.data = .dict es ep /\ es.toList = xs.map (entryOfKey (tupleKind (mixKind P w))) /\ (xs.map (·.1)).Nodup
  | .set S n => h.SetOf (intKind P w) a S n
  | .ins C dx fs => H dx = some (.own a) /\ fs.length <= 1000 /\ dx ≠ a /\ h.get? a = some (PySem.W.instObj C dx) /\
      ∃ mA,h.Ns1 dx mA /\ (∀ f,RelO (fs.lookup f) (mA f)) /\ PySem.Within mA (fs.map (·.1))
  | .own _ => ∃ o,h.get? a = some o
  | .xd fs => ∃ mA,h.Ns1 a mA /\ ∀ f,RelO (fs.lookup f) (mA f)
  | .rng lo hi => ∃ t u v,h.get? a = some { cls := .type "range",data := .fields #[.int lo t,.int hi u,.int 1 v] }
  | .frz o u => h.get? a = some o /\ ObjOk H h a u
  | .tbl ps => h.get? a = some { cls := .none,data := .fields ps }
  | .met f x => h.get? a = some (PySem.W.methodObj (.ref f) (.ref x))
  | .ext φ => φ h /\ (∃ o,h.get? a = some o) /\ ∀ h1 h2 : Heap,φ h1 -> (∀ o,h1.get? a = some o -> h2.get? a = some o) -> φ h2
def HOk (H : Hp) (h : Heap) : Prop := ∀ a o,H a = some o -> ObjOk P w H h a o
end
section
variable {P : Program} {w : World} {H H' : Hp} {h h' : Heap} {a : Addr} {o : HO}
theorem ObjOk.lt (x : ObjOk P w H h a o) : a < h.objs.size := by
  cases o with
  | lst xs => obtain ⟨_,_,_,_,e⟩ := x; exact Heap.lt_size e
  | tup xs => obtain ⟨_,_,_,p⟩ := x; exact p.lt
  | dK kvs => obtain ⟨_,_,_,_,o,_,_,e,_⟩ := x; exact Heap.lt_size e
  | dT kvs => obtain ⟨_,_,_,_,o,_,_,e,_⟩ := x; exact Heap.lt_size e
  | set S n => obtain ⟨o,_,_,_,e,_⟩ := x; exact Heap.lt_size e
  | ins C dx fs => obtain ⟨_,_,_,e,_⟩ := x; exact Heap.lt_size e
  | own y => obtain ⟨_,e⟩ := x; exact Heap.lt_size e
  | xd fs => obtain ⟨_,⟨_,_,_,e,_⟩,_⟩ := x; exact Heap.lt_size e
  | rng lo hi => obtain ⟨_,_,_,e⟩ := x; exact Heap.lt_size e
  | frz ob u => obtain ⟨e,_⟩ := x; exact Heap.lt_size e
  | tbl ps => exact Heap.lt_size (show h.get? a = some _ from x)
  | met f y => exact Heap.lt_size (show h.get? a = some _ from x)
  | ext φ => obtain ⟨_,⟨_,e⟩,_⟩ := x; exact Heap.lt_size e
theorem Paired.mapP {α β : Type} {F G : α -> β -> Prop} : ∀ {l₁ : List α} {l₂ : List β},Paired F l₁ l₂ -> (∀ a b,F a b -> G a b) -> Paired G l₁ l₂
  | _,_,.nil,_ => .nil
  | _,_,.cons r t,f => .cons (f _ _ r) (Paired.mapP t f)
theorem ObjOk.stay (x : ObjOk P w H h a o) (k : ∀ b u,(b = a \/ H b = some (.own a)) -> h.get? b = some u -> h'.get? b = some u)
    (ho : ∀ b,H b = some (.own a) -> H' b = some (.own a)) (ht : ∀ b xs,H b = some (.tup xs) -> H' b = some (.tup xs)) : ObjOk P w H' h' a o := by
  induction o with
  | lst xs => obtain ⟨z,its,n,r,e⟩ := x; exact ⟨z,its,n,r,k _ _ (.inl rfl) e⟩
  | tup xs => obtain ⟨z,its,r,ob,e,c⟩ := x; exact ⟨z,its,r,ob,k _ _ (.inl rfl) e,c⟩
  | dK kvs => obtain ⟨z,y,vs,r,ob,es,ep,e,c⟩ := x; exact ⟨z,y,vs,r,ob,es,ep,k _ _ (.inl rfl) e,c⟩
  | dT kvs =>
    obtain ⟨z,y,xs,r,ob,es,ep,e,c⟩ := x
    exact ⟨z,y,xs,Paired.mapP r fun p q z => ⟨z.1,ht _ _ z.2.1,z.2.2⟩,ob,es,ep,k _ _ (.inl rfl) e,c⟩
  | set S n => obtain ⟨ob,es,ep,t,e,c⟩ := x; exact ⟨ob,es,ep,t,k _ _ (.inl rfl) e,c⟩
  | ins C dx fs =>
    obtain ⟨d,z,ne,e,mA,⟨od,es,ep,e2,c⟩,r⟩ := x
    exact ⟨ho _ d,z,ne,k _ _ (.inl rfl) e,mA,⟨od,es,ep,k _ _ (.inr d) e2,c⟩,r⟩
  | own y => obtain ⟨ob,e⟩ := x; exact ⟨ob,k _ _ (.inl rfl) e⟩
  | xd fs => obtain ⟨mA,⟨od,es,ep,e,c⟩,r⟩ := x; exact ⟨mA,⟨od,es,ep,k _ _ (.inl rfl) e,c⟩,r⟩
  | rng lo hi => obtain ⟨t,u,v,e⟩ := x; exact ⟨t,u,v,k _ _ (.inl rfl) e⟩
  | frz ob u ih => obtain ⟨e,q⟩ := x; exact ⟨k _ _ (.inl rfl) e,ih q⟩
  | tbl ps =>
    have e : h.get? a = some { cls := .none,data := .fields ps } := x
    show h'.get? a = some { cls := .none,data := .fields ps }
    exact k a _ (.inl rfl) e
  | met f y =>
    have e : h.get? a = some (PySem.W.methodObj (.ref f) (.ref y)) := x
    show h'.get? a = some (PySem.W.methodObj (.ref f) (.ref y))
    exact k a _ (.inl rfl) e
  | ext φ => obtain ⟨p,⟨o,e⟩,st⟩ := x; exact ⟨st _ _ p fun o q => k _ _ (.inl rfl) q,⟨o,k _ _ (.inl rfl) e⟩,st⟩
theorem HOk.lt (x : HOk P w H h) (e : H a = some o) : a < h.objs.size := (x a o e).lt
theorem HOk.fresh (x : HOk P w H h) (e : h.objs.size <= a) : H a = none := by
  cases q : H a with
  | none => rfl
  | some u => exact absurd (Nat.lt_of_lt_of_le (x.lt q) e) (Nat.lt_irrefl _)
theorem HOk.kept (x : HOk P w H h) (k : ∀ b u,h.get? b = some u -> h'.get? b = some u) : HOk P w H h' := fun a o e =>
  (x a o e).stay (fun b u _ q => k b u q) (fun _ q => q) fun _ _ q => q
theorem HOk.laid (x : HOk P w H h) (k : ∀ b u,h.get? b = some u -> h'.get? b = some u) (hp : h.objs.size <= a) (new : ObjOk P w (upd H a o) h' a o) : HOk P w (upd H a o) h' := fun b u e => by
  have hn := x.fresh hp
  by_cases hb : b = a
  · subst hb; rw [upd_same] at e; cases e; exact new
  · rw [upd_ne hb] at e
    exact (x b u e).stay (fun c v _ q => k c v q) (fun c q => by rw [upd_ne (ne_of_none q hn)]; exact q) fun c xs q => by rw [upd_ne (ne_of_none q hn)]; exact q
end
def Rd (H : Hp) (a : Addr) (u : HO) : Prop := H a = some u \/ ∃ o,H a = some (.frz o u)
theorem Rd.of {H : Hp} {a : Addr} {u : HO} (h : H a = some u) : Rd H a u := .inl h
theorem Rd.ok {P : Program} {w : World} {H : Hp} {h : Heap} {a : Addr} {u : HO} (r : Rd H a u) (x : HOk P w H h) : ObjOk P w H h a u := by
  rcases r with r | ⟨o,r⟩
  · exact x a u r
  · obtain ⟨_,q⟩ := x a _ r
    exact q
def Mut : Option HO -> Prop
  | some (.lst _) => True
  | some (.dK _) => True
  | some (.dT _) => True
  | some (.set _ _) => True
  | some (.ins _ _ _) => True
  | some (.ext _) => True
  | _ => False
section
variable {P : Program} {w : World} {H : Hp} {h h' : Heap} {x e : Addr} {o' : HO}
theorem HOk.write (ok : HOk P w H h) (mu : Mut (H x)) (he : e = x \/ H e = some (.own x)) (k : ∀ b u,b ≠ e -> h.get? b = some u -> h'.get? b = some u) (heo : ∃ u,h'.get? e = some u)
    (new : ObjOk P w (upd H x o') h' x o') : HOk P w (upd H x o') h' := fun b u q => by
  have nown : ∀ c y,H c = some (.own y) -> c ≠ x := fun c y r z => by subst z; rw [r] at mu; exact mu
  have ntup : ∀ c xs,H c = some (.tup xs) -> c ≠ x := fun c xs r z => by subst z; rw [r] at mu; exact mu
  by_cases hb : b = x
  · subst hb; rw [upd_same] at q; cases q; exact new
  · rw [upd_ne hb] at q
    by_cases hbe : b = e
    · have q' : H b = some (.own x) := by
        rcases he with z | z
        · exact absurd (hbe.trans z) hb
        · rw [hbe]; exact z
      rw [q] at q'; cases q'
      obtain ⟨v,hv⟩ := heo
      exact ⟨v,by rw [hbe]; exact hv⟩
    · refine (ok b u q).stay (fun c v hc r => k c v ?_ r) (fun c r => by rw [upd_ne (nown c b r)]; exact r) fun c xs r => by rw [upd_ne (ntup c xs r)]; exact r
      rcases hc with rfl | hc
      · exact hbe
      · rintro rfl
        rcases he with z | z
        · exact nown c b hc z
        · rw [hc] at z; cases z; exact hb rfl
end
structure Un (fs ex : List Addr) (H H' : Hp) (h h' : Heap) : Prop where
  keep : ∀ b o,h.get? b = some o -> H b = none -> b ∉ fs -> b ∉ ex -> h'.get? b = some o
  slot : ∀ b o,h.get? b = some o -> H b = none -> b ∈ fs -> b ∉ ex -> ∃ sl,h'.get? b = some { o with slots := sl }
  free : ∀ b o,h.get? b = some o -> H b = none -> b ∉ ex -> H' b = none
  there : ∀ b o,h.get? b = some o -> b ∉ ex -> ∃ o',h'.get? b = some o'
  tups : ∀ b xs,H b = some (.tup xs) -> H' b = some (.tup xs)
  frzs : ∀ b o u,H b = some (.frz o u) -> H' b = some (.frz o u)
  tbls : ∀ b ps,H b = some (.tbl ps) -> ∃ more,H' b = some (.tbl (ps ++ more))
section
variable {fs fs' ex ex' : List Addr} {H H1 H2 : Hp} {h h1 h2 h' : Heap} {a x e : Addr} {o : HO}
theorem Un.any (u : Un fs ex H H1 h h1) {b : Addr} {ob : Obj} (q : h.get? b = some ob) (n : H b = none) (hx : b ∉ ex) : ∃ sl,h1.get? b = some { ob with slots := sl } := by
  by_cases hb : b ∈ fs
  · exact u.slot b ob q n hb hx
  · exact ⟨ob.slots,u.keep b ob q n hb hx⟩
theorem Un.trans (a : Un fs ex H H1 h h1) (b : Un fs ex H1 H2 h1 h2) : Un fs ex H H2 h h2 where
  keep := fun c ob q n hc hx => b.keep c ob (a.keep c ob q n hc hx) (a.free c ob q n hx) hc hx
  slot := fun c ob q n hc hx => by
    obtain ⟨sl,e1⟩ := a.slot c ob q n hc hx
    obtain ⟨sl',e2⟩ := b.slot c _ e1 (a.free c ob q n hx) hc hx
    exact ⟨sl',e2⟩
  free := fun c ob q n hx => by
    obtain ⟨o',e1⟩ := a.there c ob q hx
    exact b.free c o' e1 (a.free c ob q n hx) hx
  there := fun c ob q hx => by
    obtain ⟨o',e1⟩ := a.there c ob q hx
    exact b.there c o' e1 hx
  tups := fun c xs q => b.tups c xs (a.tups c xs q)
  frzs := fun c ob xs q => b.frzs c ob xs (a.frzs c ob xs q)
  tbls := fun c ps q => by
    obtain ⟨m1,e1⟩ := a.tbls c ps q
    obtain ⟨m2,e2⟩ := b.tbls c _ e1
    exact ⟨m1 ++ m2,by rw [e2,Array.append_assoc]⟩
theorem Un.kept (k : ∀ b u,h.get? b = some u -> h'.get? b = some u) : Un fs ex H H h h' :=
  ⟨fun b ob q _ _ _ => k b ob q,fun b ob q _ _ _ => ⟨ob.slots,k b ob q⟩,fun _ _ _ n _ => n,fun b ob q _ => ⟨ob,k b ob q⟩,fun _ _ q => q,fun _ _ _ q => q,fun _ ps q => ⟨#[],by rw [q]; simp⟩⟩
theorem Un.refl : Un fs ex H H h h := Un.kept fun _ _ q => q
theorem Un.laid (k : ∀ b u,h.get? b = some u -> h'.get? b = some u) (hp : h.objs.size <= a) (hn : H a = none) : Un fs ex H (upd H a o) h h' where
  keep := fun b u q _ _ _ => k b u q
  slot := fun b u q _ _ _ => ⟨u.slots,k b u q⟩
  free := fun b u q n _ => by rw [upd_ne (Nat.ne_of_lt (Nat.lt_of_lt_of_le (Heap.lt_size q) hp))]; exact n
  there := fun b u q _ => ⟨u,k b u q⟩
  tups := fun b xs q => by rw [upd_ne (ne_of_none q hn)]; exact q
  frzs := fun b u xs q => by rw [upd_ne (ne_of_none q hn)]; exact q
  tbls := fun b ps q => ⟨#[],by rw [upd_ne (ne_of_none q hn),q]; simp⟩
theorem Un.write (mu : Mut (H x)) (he : e = x \/ H e = some (.own x)) (k : ∀ b u,b ≠ e -> h.get? b = some u -> h'.get? b = some u) (heo : ∃ u,h'.get? e = some u) : Un fs ex H (upd H x o) h h' := by
  have hx : ∀ b,H b = none -> b ≠ x := fun b n z => by subst z; rw [n] at mu; exact mu
  have hb : ∀ b,H b = none -> b ≠ e := fun b n z => by
    subst z
    rcases he with r | r
    · exact hx b n r
    · rw [n] at r; cases r
  have hm : ∀ b u,H b = some u -> ¬ Mut (some u) -> b ≠ x := fun b u q nm z => by subst z; rw [q] at mu; exact nm mu
  refine ⟨fun b u q n _ _ => k b u (hb b n) q,fun b u q n _ _ => ⟨u.slots,k b u (hb b n) q⟩,fun b u q n _ => by rw [upd_ne (hx b n)]; exact n,fun b u q _ => ?_,
    fun b xs q => by rw [upd_ne (hm b _ q fun z => z)]; exact q,fun b u xs q => by rw [upd_ne (hm b _ q fun z => z)]; exact q,fun b ps q => ⟨#[],by rw [upd_ne (hm b _ q fun z => z),q]; simp⟩⟩
  by_cases hbe : b = e
  · subst hbe; exact heo
  · exact ⟨u,k b u hbe q⟩
theorem Un.mono (u : Un fs ex H H1 h h1) (hs : ∀ b ∈ fs,b ∈ fs') (hx : ∀ b ∈ ex,b ∈ ex') : Un fs' ex' H H1 h h1 :=
  ⟨fun b ob q n hb he => u.keep b ob q n (fun z => hb (hs b z)) fun z => he (hx b z),fun _ _ q n _ he => u.any q n fun z => he (hx _ z),fun b ob q n he => u.free b ob q n fun z => he (hx b z),fun b ob q he => u.there b ob q fun z => he (hx b z),u.tups,u.frzs,u.tbls⟩
end
def trk (h : Heap) (H : Hp) : List Addr := (List.range h.objs.size).filter fun a => (H a).isSome
def hidT (h : Heap) (H : Hp) : Heap := PySem.W.hideAll h (trk h H)
theorem hidT_size (h : Heap) (H : Hp) : (hidT h H).objs.size = h.objs.size := PySem.W.hideAll_size _ _
theorem hidT_get {h : Heap} {H : Hp} {b : Addr} {o : Obj} (e : h.get? b = some o) (n : H b = none) : (hidT h H).get? b = some o :=
  PySem.W.hideAll_get _ e fun hm => by
    have q : (H b).isSome = true := (List.mem_filter.mp hm).2
    rw [n] at q; simp at q
theorem of_hidT {h : Heap} {H : Hp} {b : Addr} {o : Obj} (e : (hidT h H).get? b = some o) : h.get? b = some o /\ H b = none := by
  have e' : h.get? b = some o := PySem.W.of_hideAll (trk h H) e
  refine ⟨e',?_⟩
  cases q : H b with
  | none => rfl
  | some x =>
    have hm : b ∈ trk h H := List.mem_filter.mpr ⟨List.mem_range.mpr (Heap.lt_size e'),by simp [q]⟩
    have z : (hidT h H).get? b = none := PySem.W.hideAll_none (trk h H) hm
    rw [z] at e; cases e
def allNews (g h : Heap) (L : Addr) : List (Addr × Obj) := (List.range h.objs.size).filterMap fun a => if a = L \/ (g.get? a).isSome = true then none else (h.get? a).map fun o => (a,o)
def rest (g h : Heap) (L d : Addr) : List (Addr × Obj) := (allNews g h L).filter fun p => decide (p.1 ≠ d)
end L2
namespace L2
open PySem PySem.Spec PyProof.Rows
structure Mod (K : PySem.W.Frag) (mg : Str -> Option Value) (base : Heap) : Prop where
  kin : K.In base
  glob : base.Ns mainGlobals mg
  blt : ∃ mb,base.Ns builtinsNs mb /\ ∀ x : Str,x ≠ "__name__" -> mb x = bootBuiltins x
  nolimit : base.NoLimit
structure Cx where
  prog : Program
  w : World
  K : PySem.W.Frag
  mg : Str -> Option Value
  base : Heap
  A : Around
  N : List Str
  s₀ : Shared
  H₀ : Hp
  env : Env
  outer : List Env
  stack : List Env
  ex : List Addr
  fn : Str -> Bool
  calm : Bool
  pn : List (Addr × Obj)
  xe : Value -> Shared -> Prop
def frs (l : List Env) : List Addr := l.filterMap (·.frame)
abbrev Cx.fs (X : Cx) : List Addr := frs X.outer
def Vis (sc : Scope) (x : Str) : Prop := sc.names.lookup x = some .local \/ sc.names.lookup x = some .cell \/ sc.names.lookup x = some .free
def Loc (sc : Scope) (x : Str) : Prop := sc.names.lookup x = some .local \/ sc.names.lookup x = some .cell
def Look (env : Env) (h : Heap) (m : Str -> Option Value) (x : Str) (u : Value) : Prop :=
  (env.kindOf x = some .local /\ m x = some u) \/ ((env.kindOf x = some .cell \/ env.kindOf x = some .free) /\ ∃ c,env.cells.lookup x = some c /\ h.IsCell c (some u))
structure Cx.Ok (X : Cx) : Prop where
  mod : Mod X.K X.mg X.base
  kind : X.env.scope.kind = .function
  glob : X.env.globals = mainGlobals
  blt : X.env.builtins = builtinsNs
  above : X.s₀.heap.objs.size <= X.env.locals
  inj : ∀ x y c,X.env.cells.lookup x = some c -> X.env.cells.lookup y = some c -> x = y
  has : ∀ x,(X.env.kindOf x = some .cell \/ X.env.kindOf x = some .free) -> ∃ c,X.env.cells.lookup x = some c
  cab : ∀ x c,X.fn x = true -> X.env.cells.lookup x = some c -> X.s₀.heap.objs.size <= c
  hd : X.calm = true -> X.A.handled = none
  frames : X.A.frames = some X.stack
  stk : X.stack = X.outer \/ (X.stack = X.env :: X.outer /\ X.env.frame = some X.env.locals)
  exf : ∀ b ∈ X.ex,b ≠ X.env.locals /\ ∀ x c,X.env.cells.lookup x = some c -> c ≠ b
  bs : ∀ b o,X.base.get? b = some o -> X.s₀.heap.get? b = some o /\ X.H₀ b = none
  bsz : X.base.objs.size <= X.s₀.heap.objs.size
  noex : ∀ b o,X.base.get? b = some o -> b ∉ X.ex
  exfs : ∀ b ∈ X.ex,b ∉ X.fs
  funs : X.s₀.heap.FunFrames X.base X.outer
  frf : ∀ b ∈ X.fs,X.H₀ b = none
structure Inv (X : Cx) (pins : List (Addr × Obj)) (σ : List (Option V)) (H : Hp) (s : Shared) : Prop where
  ok : X.Ok
  os : s.os = X.s₀.os
  bare : AllBare s.gens
  base : Un X.fs X.ex X.H₀ H X.s₀.heap s.heap
  loc : ∃ m,s.heap.Ns X.env.locals m /\ ∀ (i : Nat) (x : Str) (v : V),X.N[i]? = some x -> σ[i]? = some (some v) -> Vis X.env.scope x -> ∃ u,RelV v u /\ Look X.env s.heap m x u
  cell : ∀ x c,X.env.cells.lookup x = some c -> ∃ v,s.heap.IsCell c v
  free : H X.env.locals = none
  freeC : ∀ x c,X.env.cells.lookup x = some c -> H c = none
  pin : ∀ p ∈ X.pn ++ pins,s.heap.get? p.1 = some p.2 /\ H p.1 = none /\ p.1 ≠ X.env.locals /\ p.1 ∉ X.fs /\ ∀ v,p.2.data ≠ .cell v
  hok : HOk X.prog X.w H s.heap
  len : σ.length = X.N.length
section
variable {X : Cx} {pins : List (Addr × Obj)} {σ : List (Option V)} {H H' : Hp} {s : Shared} {h' : Heap}
theorem Cx.Ok.nofr (ok : X.Ok) {b : Addr} {o : Obj} (e : X.base.get? b = some o) : b ∉ X.fs := fun hb => by
  have := (ok.funs.mem hb).1
  rw [e] at this; cases this
theorem Inv.bs (I : Inv X pins σ H s) : ∀ b o,X.base.get? b = some o -> s.heap.get? b = some o /\ H b = none := fun b o e =>
  ⟨I.base.keep b o (I.ok.bs b o e).1 (I.ok.bs b o e).2 (I.ok.nofr e) (I.ok.noex b o e),I.base.free b o (I.ok.bs b o e).1 (I.ok.bs b o e).2 (I.ok.noex b o e)⟩
theorem Inv.bk (I : Inv X pins σ H s) : ∀ b o,X.base.get? b = some o -> s.heap.get? b = some o := fun b o e => (I.bs b o e).1
theorem Inv.mod (I : Inv X pins σ H s) : Mod X.K X.mg X.base := I.ok.mod
theorem Inv.kIn (I : Inv X pins σ H s) : X.K.In s.heap := I.ok.mod.kin.keeps I.bk
theorem Inv.nolimit (I : Inv X pins σ H s) : s.heap.NoLimit := I.ok.mod.nolimit.keeps I.bk
theorem Inv.fr (I : Inv X pins σ H s) : ∃ m,Fr X.base X.env.locals s.heap m :=
  let ⟨m,hn,_⟩ := I.loc
  ⟨m,hn,I.bk,Nat.le_trans I.ok.bsz I.ok.above⟩
theorem Inv.lt (I : Inv X pins σ H s) : X.env.locals < s.heap.objs.size := let ⟨_,hn,_⟩ := I.loc; hn.lt
theorem Inv.sz (I : Inv X pins σ H s) : X.s₀.heap.objs.size <= s.heap.objs.size := Nat.le_trans I.ok.above (Nat.le_of_lt I.lt)
theorem Inv.nofs (I : Inv X pins σ H s) {a : Addr} (h : s.heap.objs.size <= a) : a ∉ X.fs := fun hb => by
  obtain ⟨_,o,ho,_⟩ := I.ok.funs.mem hb
  exact absurd (Nat.lt_of_lt_of_le (Heap.lt_size ho) (Nat.le_trans I.sz h)) (Nat.lt_irrefl _)
theorem Inv.cne (I : Inv X pins σ H s) : ∀ x c,X.env.cells.lookup x = some c -> c ≠ X.env.locals := fun x c e z => by
  obtain ⟨v,o,ho,hd⟩ := I.cell x c e
  obtain ⟨m,⟨o',es,ep,ho',hd',_⟩,_⟩ := I.loc
  rw [z,ho'] at ho; cases ho; rw [hd'] at hd; cases hd
theorem Inv.funs (I : Inv X pins σ H s) : s.heap.FunFrames X.base X.outer := by
  have all : ∀ (l : List Env),(∀ b ∈ frs l,b ∈ X.fs) -> X.s₀.heap.FunFrames X.base l -> s.heap.FunFrames X.base l := by
    intro l
    induction l with
    | nil => intro _ _; trivial
    | cons env r ih =>
      intro hs hl
      obtain ⟨hk,⟨L,o,hf,hn,ho,hd⟩,hr⟩ := hl
      have hL : L ∈ X.fs := hs L (by unfold frs; rw [List.filterMap_cons,hf]; exact List.mem_cons_self)
      obtain ⟨sl,e⟩ := I.base.slot L o ho (I.ok.frf L hL) hL fun z => I.ok.exfs L z hL
      exact ⟨hk,⟨L,_,hf,hn,e,hd⟩,ih (fun b hb => hs b (by unfold frs; rw [List.filterMap_cons,hf]; exact List.mem_cons_of_mem _ hb)) hr⟩
  exact all X.outer (fun _ hb => hb) I.ok.funs
theorem Inv.stack (I : Inv X pins σ H s) : s.heap.FunFrames X.base X.stack := by
  rcases I.ok.stk with e | ⟨e,hf⟩
  · rw [e]; exact I.funs
  · rw [e]
    obtain ⟨m,hn,_⟩ := I.loc
    refine .cons (by rw [I.ok.kind]; decide) hf hn ?_ I.funs
    exact Heap.get?_none_of_le (Nat.le_trans I.ok.bsz I.ok.above)
theorem Inv.stkSub (I : Inv X pins σ H s) : ∀ b ∈ frs X.stack,b ∈ X.env.locals :: X.fs := fun b hb => by
  rcases I.ok.stk with e | ⟨e,hf⟩
  · rw [e] at hb; exact List.mem_cons_of_mem _ hb
  · rw [e] at hb
    unfold frs at hb
    rw [List.filterMap_cons,hf] at hb
    exact hb
theorem Inv.stkFree (I : Inv X pins σ H s) : ∀ b ∈ frs X.stack,H b = none := fun b hb => by
  rcases List.mem_cons.mp (I.stkSub b hb) with e | hb
  · rw [e]; exact I.free
  · obtain ⟨_,o,ho,_⟩ := I.ok.funs.mem hb
    exact I.base.free b o ho (I.ok.frf b hb) fun z => I.ok.exfs b z hb
theorem Inv.step {g' : Array GenState} {t' : Nat} {d' : Drawn} {ch : List Addr} (I : Inv X pins σ H s)
    (hch : ∀ b ∈ ch,(b ∈ X.ex \/ X.s₀.heap.objs.size <= b) /\ b ≠ X.env.locals /\ (∀ x c,X.env.cells.lookup x = some c -> c ≠ b) /\ ∀ p ∈ X.pn ++ pins,p.1 ≠ b)
    (keep : ∀ b o,b ≠ X.env.locals -> b ∉ X.fs -> b ∉ ch -> s.heap.get? b = some o -> H b = none -> h'.get? b = some o)
    (slot : ∀ b o,b ≠ X.env.locals -> b ∈ X.fs -> b ∉ ch -> s.heap.get? b = some o -> H b = none -> ∃ sl,h'.get? b = some { o with slots := sl }) (free : ∀ b o,b ∉ ch -> s.heap.get? b = some o -> H b = none -> H' b = none)
    (there : ∀ b o,b ∉ ch -> s.heap.get? b = some o -> ∃ o',h'.get? b = some o')
    (tups : ∀ b xs,H b = some (.tup xs) -> H' b = some (.tup xs)) (frzs : ∀ b o u,H b = some (.frz o u) -> H' b = some (.frz o u)) (tbls : ∀ b ps,H b = some (.tbl ps) -> ∃ more,H' b = some (.tbl (ps ++ more)))
    (ns : ∀ m,s.heap.Ns X.env.locals m -> h'.Ns X.env.locals m) (hok : HOk X.prog X.w H' h') (hg : AllBare g') :
    Inv X pins σ H' { s with heap := h',gens := g',drawn := d',toks := t' } := by
  have neL : ∀ b o,X.s₀.heap.get? b = some o -> b ≠ X.env.locals := fun b o e => Nat.ne_of_lt (Nat.lt_of_lt_of_le (Heap.lt_size e) I.ok.above)
  have neC : ∀ b o,X.s₀.heap.get? b = some o -> b ∉ X.ex -> b ∉ ch := fun b o e hx hb => by
    rcases (hch b hb).1 with z | z
    · exact hx z
    · exact absurd (Nat.lt_of_lt_of_le (Heap.lt_size e) z) (Nat.lt_irrefl _)
  have cellK : ∀ x c,X.env.cells.lookup x = some c -> ∀ v,s.heap.IsCell c v -> h'.IsCell c v := fun x c e v ⟨o,ho,hd⟩ => by
    have nch : c ∉ ch := fun z => (hch c z).2.2.1 x c e rfl
    by_cases hc : c ∈ X.fs
    · obtain ⟨sl,q⟩ := slot c o (I.cne x c e) hc nch ho (I.freeC x c e)
      exact ⟨_,q,hd⟩
    · exact ⟨o,keep c o (I.cne x c e) hc nch ho (I.freeC x c e),hd⟩
  refine ⟨I.ok,I.os,hg,⟨fun b o e n hb hx => ?_,fun b o e n hb hx => ?_,fun b o e n hx => ?_,fun b o e hx => ?_,fun b xs e => tups b xs (I.base.tups b xs e),fun b o xs e => frzs b o xs (I.base.frzs b o xs e),fun b ps e => ?_⟩,?_,fun x c e => ?_,?_,fun x c e => ?_,fun p hp => ?_,hok,I.len⟩
  · exact keep b o (neL b o e) hb (neC b o e hx) (I.base.keep b o e n hb hx) (I.base.free b o e n hx)
  · obtain ⟨sl,e1⟩ := I.base.slot b o e n hb hx
    obtain ⟨sl',e2⟩ := slot b _ (neL b o e) hb (neC b o e hx) e1 (I.base.free b o e n hx)
    exact ⟨sl',e2⟩
  · obtain ⟨o',e1⟩ := I.base.there b o e hx
    exact free b o' (neC b o e hx) e1 (I.base.free b o e n hx)
  · obtain ⟨o',e1⟩ := I.base.there b o e hx
    exact there b o' (neC b o e hx) e1
  · obtain ⟨m1,e1⟩ := I.base.tbls b ps e
    obtain ⟨m2,e2⟩ := tbls b _ e1
    exact ⟨m1 ++ m2,by rw [e2,Array.append_assoc]⟩
  · obtain ⟨m,hn,hl⟩ := I.loc
    refine ⟨m,ns m hn,fun i x v e1 e2 e3 => ?_⟩
    obtain ⟨u,r,l⟩ := hl i x v e1 e2 e3
    refine ⟨u,r,?_⟩
    rcases l with l | ⟨k,c,e,z⟩
    · exact .inl l
    · exact .inr ⟨k,c,e,cellK x c e _ z⟩
  · obtain ⟨v,z⟩ := I.cell x c e
    exact ⟨v,cellK x c e v z⟩
  · obtain ⟨m,⟨o,_,_,ho,_⟩,_⟩ := I.loc
    exact free _ o (fun z => (hch _ z).2.1 rfl) ho I.free
  · obtain ⟨v,o,ho,hd⟩ := I.cell x c e
    exact free c o (fun z => (hch c z).2.2.1 x c e rfl) ho (I.freeC x c e)
  · obtain ⟨e,n,ne,nf,d⟩ := I.pin p hp
    have nch : p.1 ∉ ch := fun z => (hch p.1 z).2.2.2 p hp rfl
    exact ⟨keep p.1 p.2 ne nf nch e n,free p.1 p.2 nch e n,ne,nf,d⟩
theorem Inv.un {t' : Nat} (I : Inv X pins σ H s) (u : Un X.fs [] H H' s.heap h') (hok : HOk X.prog X.w H' h') : Inv X pins σ H' { s with heap := h',toks := t' } := by
  obtain ⟨m,⟨o,es,ep,ho,r⟩,_⟩ := id I.loc
  obtain ⟨sl,hL⟩ := u.any ho I.free (by simp)
  exact I.step (g' := s.gens) (d' := s.drawn) (ch := []) (fun _ z => nomatch z) (fun b o _ hb _ e n => u.keep b o e n hb (by simp)) (fun b o _ hb _ e n => u.slot b o e n hb (by simp)) (fun b o _ e n => u.free b o e n (by simp)) (fun b o _ e => u.there b o e (by simp)) u.tups u.frzs u.tbls (fun m' hm => by
    obtain ⟨o',es',ep',ho',r'⟩ := hm
    rw [ho] at ho'; cases ho'
    exact ⟨_,es',ep',hL,r'⟩) hok I.bare
theorem Inv.call {g' : Array GenState} {t' : Nat} {d' : Drawn} {ch : List Addr} (I : Inv X pins σ H s) (u : Un (frs X.stack) ch H H' s.heap h') (hok : HOk X.prog X.w H' h') (hg : AllBare g')
    (hch : ∀ b ∈ ch,(b ∈ X.ex \/ X.s₀.heap.objs.size <= b) /\ b ≠ X.env.locals /\ (∀ x c,X.env.cells.lookup x = some c -> c ≠ b) /\ ∀ p ∈ X.pn ++ pins,p.1 ≠ b) :
    Inv X pins σ H' { s with heap := h',gens := g',drawn := d',toks := t' } := by
  obtain ⟨m,⟨o,es,ep,ho,r⟩,_⟩ := id I.loc
  obtain ⟨sl,hL⟩ := u.any ho I.free fun z => (hch _ z).2.1 rfl
  exact I.step (ch := ch) hch (fun b o hL hb hc e n => u.keep b o e n (fun z => (List.mem_cons.mp (I.stkSub b z)).elim hL hb) hc) (fun b o _ _ hc e n => u.any e n hc) (fun b o hc e n => u.free b o e n hc) (fun b o hc e => u.there b o e hc) u.tups u.frzs u.tbls (fun m' hm => by
    obtain ⟨o',es',ep',ho',r'⟩ := hm
    rw [ho] at ho'; cases ho'
    exact ⟨_,es',ep',hL,r'⟩) hok hg
theorem Inv.turned {t' : Nat} {it : Addr} (I : Inv X pins σ H s) (k : ∀ b o,b ≠ it -> s.heap.get? b = some o -> h'.get? b = some o) (hn : H it = none) (hL : it ≠ X.env.locals)
    (h1 : it ∈ X.ex \/ X.s₀.heap.objs.size <= it) (h2 : ∀ x c,X.env.cells.lookup x = some c -> c ≠ it) (h3 : ∀ p ∈ X.pn ++ pins,p.1 ≠ it) : Inv X pins σ H { s with heap := h',toks := t' } := by
  have nit : ∀ b u,H b = some u -> b ≠ it := fun b u e z => by rw [z,hn] at e; cases e
  refine I.step (g' := s.gens) (d' := s.drawn) (ch := [it]) (fun b hb => ?_) (fun b o _ _ hc e _ => k b o (fun z => hc (by simp [z])) e) (fun b o _ _ hc e _ => ⟨o.slots,k b o (fun z => hc (by simp [z])) e⟩) (fun _ _ _ _ n => n)
    (fun b o hc e => ⟨o,k b o (fun z => hc (by simp [z])) e⟩) (fun _ _ e => e) (fun _ _ _ e => e) (fun b ps e => ⟨#[],by rw [e]; simp⟩) (fun m hm => ?_) (fun b u e => ?_) I.bare
  · have e : b = it := by simpa using hb
    subst e
    exact ⟨h1,hL,h2,h3⟩
  · obtain ⟨o,es,ep,ho,r⟩ := hm
    exact ⟨o,es,ep,k _ o (Ne.symm hL) ho,r⟩
  · refine (I.hok b u e).stay (fun c v hc q => k c v ?_ q) (fun _ q => q) fun _ _ q => q
    rcases hc with z | z
    · rw [z]; exact nit b u e
    · exact nit c _ z
theorem Inv.tok (I : Inv X pins σ H s) (t : Nat) : Inv X pins σ H { s with toks := t } := I.un (h' := s.heap) (t' := t) Un.refl I.hok
theorem Inv.kept {t' : Nat} (I : Inv X pins σ H s) (k : ∀ b u,s.heap.get? b = some u -> h'.get? b = some u) : Inv X pins σ H { s with heap := h',toks := t' } := I.un (Un.kept k) (I.hok.kept k)
theorem Inv.laid {a : Addr} {o : HO} {t' : Nat} (I : Inv X pins σ H s) (k : ∀ b u,s.heap.get? b = some u -> h'.get? b = some u) (hp : s.heap.objs.size <= a) (new : ObjOk X.prog X.w (upd H a o) h' a o) :
    Inv X pins σ (upd H a o) { s with heap := h',toks := t' } := I.un (Un.laid k hp (I.hok.fresh hp)) (I.hok.laid k hp new)
theorem Inv.write {x e : Addr} {o : HO} {t' : Nat} (I : Inv X pins σ H s) (mu : Mut (H x)) (he : e = x \/ H e = some (.own x)) (k : ∀ b u,b ≠ e -> s.heap.get? b = some u -> h'.get? b = some u) (heo : ∃ u,h'.get? e = some u)
    (new : ObjOk X.prog X.w (upd H x o) h' x o) : Inv X pins σ (upd H x o) { s with heap := h',toks := t' } := I.un (Un.write mu he k heo) (I.hok.write mu he k heo new)
theorem Inv.weak {σ' : List (Option V)} (I : Inv X pins σ H s) (hl : σ'.length = σ.length) (w : ∀ (i : Nat) v,σ'[i]? = some (some v) -> σ[i]? = some (some v)) : Inv X pins σ' H s :=
  ⟨I.ok,I.os,I.bare,I.base,let ⟨m,hn,hl'⟩ := I.loc; ⟨m,hn,fun i x v e1 e2 e3 => hl' i x v e1 (w i v e2) e3⟩,I.cell,I.free,I.freeC,I.pin,I.hok,hl.trans I.len⟩
theorem Inv.pins_of {pins' : List (Addr × Obj)} (I : Inv X pins σ H s) (h : ∀ p ∈ pins',s.heap.get? p.1 = some p.2 /\ H p.1 = none /\ p.1 ≠ X.env.locals /\ p.1 ∉ X.fs /\ ∀ v,p.2.data ≠ .cell v) : Inv X pins' σ H s :=
  ⟨I.ok,I.os,I.bare,I.base,I.loc,I.cell,I.free,I.freeC,fun p hp => (List.mem_append.mp hp).elim (fun z => I.pin p (List.mem_append_left _ z)) (h p),I.hok,I.len⟩
theorem nodup_ix {N : List Str} (hN : N.Nodup) {i j : Nat} {x : Str} (a : N[i]? = some x) (b : N[j]? = some x) : i = j := by
  obtain ⟨h1,e1⟩ := List.getElem?_eq_some_iff.mp a
  obtain ⟨h2,e2⟩ := List.getElem?_eq_some_iff.mp b
  exact (List.getElem_inj hN).mp (e1.trans e2.symm)
theorem store_ok2 {M : Model} {A : Around} {E : Value -> Shared -> Prop} {i : Nat} {x : Str} {v : V} {u : Value} {Q : Unit -> Shared -> Prop} (I : Inv X pins σ H s) (hN : X.N.Nodup) (hi : X.N[i]? = some x) (hx : Loc X.env.scope x) (r : RelV v u)
    (h : ∀ s',Inv X pins (σ.set i (some v)) H s' -> (∃ a,Heap.SameBut a s.heap s'.heap /\ (a = X.env.locals \/ X.env.cells.lookup x = some a)) -> Q () s') (hf : X.fn x = true \/ X.env.scope.names.lookup x = some .local := by first | exact .inl rfl | exact .inr rfl | assumption) : wpAny M A (storeName X.env x u) Q E s := by
  obtain ⟨m,hn,hl⟩ := id I.loc
  have hcls : (X.env.scope.kind == .class || (X.env.scope.kind == .module && X.env.locals != X.env.globals)) = false := by rw [I.ok.kind]; rfl
  have hiσ : i < σ.length := by rw [I.len]; exact (List.getElem?_eq_some_iff.mp hi).1
  have cne := I.cne
  have tracked : ∀ {a : Addr} {h' : Heap},(∃ o,s.heap.get? a = some o /\ H a = none) -> Heap.SameBut a s.heap h' -> HOk X.prog X.w H h' := fun {a h'} ha hs b ob e => by
    obtain ⟨_,_,hfree⟩ := ha
    refine (I.hok b ob e).stay (fun c w' hc q => (hs.2 c ?_).trans q) (fun _ q => q) fun _ _ q => q
    rintro rfl
    rcases hc with rfl | hc
    · rw [hfree] at e; cases e
    · rw [hfree] at hc; cases hc
  rcases hx with hk | hk
  · refine wpAny_storeName_local hk hn (fun h' hn' hs => ?_) hcls
    obtain ⟨oL,_,_,hoL,_⟩ := id hn
    refine h _ ⟨I.ok,I.os,I.bare,⟨fun b o e n hb hx => ?_,fun b o e n hb hx => ?_,I.base.free,fun b o e hx => ?_,I.base.tups,I.base.frzs,I.base.tbls⟩,⟨_,hn',fun j y v' e1 e2 e3 => ?_⟩,fun y c e => ?_,I.free,I.freeC,fun p hp => ?_,tracked ⟨oL,hoL,I.free⟩ hs,by simpa using I.len⟩ ⟨_,hs,.inl rfl⟩
    · exact (hs.2 b (Nat.ne_of_lt (Nat.lt_of_lt_of_le (Heap.lt_size e) I.ok.above))).trans (I.base.keep b o e n hb hx)
    · obtain ⟨sl,e1⟩ := I.base.slot b o e n hb hx
      exact ⟨sl,(hs.2 b (Nat.ne_of_lt (Nat.lt_of_lt_of_le (Heap.lt_size e) I.ok.above))).trans e1⟩
    · obtain ⟨o',e1⟩ := I.base.there b o e hx
      exact ⟨o',(hs.2 b (Nat.ne_of_lt (Nat.lt_of_lt_of_le (Heap.lt_size e) I.ok.above))).trans e1⟩
    · by_cases hj : j = i
      · subst hj
        rw [hi] at e1; cases e1
        rw [List.getElem?_set_self hiσ] at e2
        cases e2
        exact ⟨u,r,.inl ⟨hk,by simp⟩⟩
      · rw [List.getElem?_set_ne (Ne.symm hj)] at e2
        obtain ⟨u',r',q⟩ := hl j y v' e1 e2 e3
        refine ⟨u',r',?_⟩
        rcases q with ⟨k,e⟩ | ⟨k,c,e,z⟩
        · refine .inl ⟨k,?_⟩
          have : y ≠ x := fun e => hj (nodup_ix hN e1 (e ▸ hi))
          simp [this,e]
        · exact .inr ⟨k,c,e,z.sameBut hs (cne y c e)⟩
    · obtain ⟨w',z⟩ := I.cell y c e
      exact ⟨w',z.sameBut hs (cne y c e)⟩
    · obtain ⟨e,n,ne,nf,d⟩ := I.pin p hp
      exact ⟨(hs.2 p.1 ne).trans e,n,ne,nf,d⟩
  · have hfn : X.fn x = true := by
      rcases hf with z | z
      · exact z
      · rw [z] at hk; cases hk
    obtain ⟨c,hc⟩ := I.ok.has x (.inl hk)
    obtain ⟨w',z⟩ := I.cell x c hc
    refine wpAny_storeName_cell I.ok.kind hk hc z (fun h' hc' hs => ?_)
    obtain ⟨oc,hoc,hocd⟩ := id z
    refine h { s with heap := h' } ⟨I.ok,I.os,I.bare,⟨fun b o e n hb hx => ?_,fun b o e n hb hx => ?_,I.base.free,fun b o e hx => ?_,I.base.tups,I.base.frzs,I.base.tbls⟩,⟨m,hn.sameBut hs (Ne.symm (cne x c hc)),fun j y v' e1 e2 e3 => ?_⟩,fun y c' e => ?_,I.free,I.freeC,fun p hp => ?_,tracked ⟨oc,hoc,I.freeC x c hc⟩ hs,by simpa using I.len⟩ ⟨c,hs,.inr hc⟩
    · exact (hs.2 b (Nat.ne_of_lt (Nat.lt_of_lt_of_le (Heap.lt_size e) (I.ok.cab x c hfn hc)))).trans (I.base.keep b o e n hb hx)
    · obtain ⟨sl,e1⟩ := I.base.slot b o e n hb hx
      exact ⟨sl,(hs.2 b (Nat.ne_of_lt (Nat.lt_of_lt_of_le (Heap.lt_size e) (I.ok.cab x c hfn hc)))).trans e1⟩
    · obtain ⟨o',e1⟩ := I.base.there b o e hx
      exact ⟨o',(hs.2 b (Nat.ne_of_lt (Nat.lt_of_lt_of_le (Heap.lt_size e) (I.ok.cab x c hfn hc)))).trans e1⟩
    · by_cases hj : j = i
      · subst hj
        rw [hi] at e1; cases e1
        rw [List.getElem?_set_self hiσ] at e2
        cases e2
        exact ⟨u,r,.inr ⟨.inl hk,c,hc,hc'⟩⟩
      · rw [List.getElem?_set_ne (Ne.symm hj)] at e2
        obtain ⟨u',r',q⟩ := hl j y v' e1 e2 e3
        refine ⟨u',r',?_⟩
        rcases q with q | ⟨k,c',e,z'⟩
        · exact .inl q
        · refine .inr ⟨k,c',e,z'.sameBut hs ?_⟩
          rintro rfl
          exact hj (nodup_ix hN e1 (I.ok.inj _ _ _ e hc ▸ hi))
    · by_cases hcc : c' = c
      · subst hcc; exact ⟨_,hc'⟩
      · obtain ⟨w2,z2⟩ := I.cell y c' e
        exact ⟨w2,z2.sameBut hs hcc⟩
    · obtain ⟨e,n,ne,nf,d⟩ := I.pin p hp
      refine ⟨(hs.2 p.1 ?_).trans e,n,ne,nf,d⟩
      intro q
      rw [q,hoc] at e
      have q' : oc = p.2 := Option.some.inj e
      exact d w' (by rw [<- q']; exact hocd)
theorem store_ok {M : Model} {A : Around} {E : Value -> Shared -> Prop} {i : Nat} {x : Str} {v : V} {u : Value} {Q : Unit -> Shared -> Prop} (I : Inv X pins σ H s) (hN : X.N.Nodup) (hi : X.N[i]? = some x) (hx : Loc X.env.scope x) (r : RelV v u)
    (h : ∀ s',Inv X pins (σ.set i (some v)) H s' -> Q () s') (hf : X.fn x = true \/ X.env.scope.names.lookup x = some .local := by first | exact .inl rfl | exact .inr rfl | assumption) : wpAny M A (storeName X.env x u) Q E s :=
  store_ok2 I hN hi hx r (fun s' I' _ => h s' I') hf
theorem Inv.call' {s' : Shared} {ch : List Addr} (I : Inv X pins σ H s) (ho : s'.os = s.os) (u : Un (frs X.stack) ch H H' s.heap s'.heap) (hok : HOk X.prog X.w H' s'.heap) (hg : AllBare s'.gens)
    (hch : ∀ b ∈ ch,(b ∈ X.ex \/ X.s₀.heap.objs.size <= b) /\ b ≠ X.env.locals /\ (∀ x c,X.env.cells.lookup x = some c -> c ≠ b) /\ ∀ p ∈ X.pn ++ pins,p.1 ≠ b) : Inv X pins σ H' s' := by
  obtain ⟨h',g',d',t',o'⟩ := s'
  have e : o' = s.os := ho
  subst e
  exact I.call (g' := g') (t' := t') (d' := d') u hok hg hch
end
abbrev XK := Value -> Option Addr -> Hp -> Prop
abbrev St := List (Option V)
abbrev VK := V -> Hp -> Prop
abbrev TE := St -> Hp -> VK -> Prop
abbrev TT := St -> Hp -> (Bool -> Hp -> Prop) -> Prop
abbrev TA := St -> Hp -> (List V -> Hp -> Prop) -> Prop
structure Ends where
  nx : St -> Hp -> Prop
  rt : VK
  bk : St -> Hp -> Prop := fun _ _ => False
  ct : St -> Hp -> Prop := fun _ _ => False
abbrev TS := Ends -> St -> Hp -> Prop
def EP (X : Cx) (pins : List (Addr × Obj)) (σ : St) (Q : VK) (u : Value) (s' : Shared) : Prop := ∃ v H',Inv X pins σ H' s' /\ RelV v u /\ Q v H'
def TP (X : Cx) (pins : List (Addr × Obj)) (σ : St) (Q : Bool -> Hp -> Prop) (b : Bool) (s' : Shared) : Prop := ∃ H',Inv X pins σ H' s' /\ Q b H'
def AP (X : Cx) (pins : List (Addr × Obj)) (σ : St) (Q : List V -> Hp -> Prop) (us : List Value) (s' : Shared) : Prop := ∃ vs H',Inv X pins σ H' s' /\ Vals vs us /\ Q vs H'
def SP (X : Cx) (pins : List (Addr × Obj)) (D : Ends) (f : Flow) (s' : Shared) : Prop :=
  match f with
  | .next => ∃ σ' H',Inv X pins σ' H' s' /\ D.nx σ' H'
  | .brk => ∃ σ' H',Inv X pins σ' H' s' /\ D.bk σ' H'
  | .cont => ∃ σ' H',Inv X pins σ' H' s' /\ D.ct σ' H'
  | .ret u => ∃ v σ' H',Inv X pins σ' H' s' /\ RelV v u /\ D.rt v H'
def PE (X : Cx) (e : Expr) (t : TE) : Prop :=
  ∀ (pins : List (Addr × Obj)) (s : Shared) (σ : St) (H : Hp) (Q : VK),Inv X pins σ H s -> t σ H Q -> wpAny (model X.prog X.w) X.A (eval e X.env) (EP X pins σ Q) X.xe s
def PT (X : Cx) (e : Expr) (t : TT) : Prop :=
  ∀ (pins : List (Addr × Obj)) (s : Shared) (σ : St) (H : Hp) (Q : Bool -> Hp -> Prop),Inv X pins σ H s -> t σ H Q -> wpAny (model X.prog X.w) X.A (isTrue e X.env (eval e X.env)) (TP X pins σ Q) X.xe s
def PW (X : Cx) (e : Expr) (t : TT) : Prop :=
  ∀ (whole : Sem Value) (pins : List (Addr × Obj)) (s : Shared) (σ : St) (H : Hp) (Q : Bool -> Hp -> Prop),Inv X pins σ H s -> t σ H Q -> wpAny (model X.prog X.w) X.A (isTrue e X.env whole) (TP X pins σ Q) X.xe s
theorem PW.pt {X : Cx} {e : Expr} {t : TT} (h : PW X e t) : PT X e t := h _
def PA (X : Cx) (es : List Expr) (t : TA) : Prop :=
  ∀ (pos : Pos) (pins : List (Addr × Obj)) (s : Shared) (σ : St) (H : Hp) (Q : List V -> Hp -> Prop),Inv X pins σ H s -> t σ H Q -> wpAny (model X.prog X.w) X.A (spliced (backTo pos (starEach es X.env))) (AP X pins σ Q) X.xe s
def PS (X : Cx) (st : Stmt) (t : TS) : Prop :=
  ∀ (pins : List (Addr × Obj)) (s : Shared) (σ : St) (H : Hp) (D : Ends),Inv X pins σ H s -> t D σ H -> wpAny (model X.prog X.w) X.A (exec st X.env) (SP X pins D) X.xe s
def PSs (X : Cx) (st : List Stmt) (t : TS) : Prop :=
  ∀ (pins : List (Addr × Obj)) (s : Shared) (σ : St) (H : Hp) (D : Ends),Inv X pins σ H s -> t D σ H -> wpAny (model X.prog X.w) X.A (execs st X.env) (SP X pins D) X.xe s
theorem thn {α : Type} {t : Sem α} {Q Q' : α -> Shared -> Prop} {M : Model} {A : Around} {E : Value -> Shared -> Prop} {s : Shared} (h : wpAny M A t Q E s) (hQ : ∀ a s,Q a s -> Q' a s) : wpAny M A t Q' E s := wpAny_mono h hQ fun _ _ x => x
end L2
namespace L2
open PySem PySem.Spec PyProof.Rows
section
variable {X : Cx}
theorem bin {a b : Expr} {ta tb : TE} (ha : PE X a ta) (hb : PE X b tb) {pins : List (Addr × Obj)} {s : Shared} {σ : St} {H : Hp} {R : V -> V -> Hp -> Prop} (I : Inv X pins σ H s) (h : ta σ H fun x H1 => tb σ H1 fun y H2 => R x y H2)
    {α : Type} {Q : α -> Shared -> Prop} {f : Value -> Value -> Sem α}
    (hf : ∀ v u s2 x y H2,Inv X pins σ H2 s2 -> RelV x v -> RelV y u -> R x y H2 -> wpAny (model X.prog X.w) X.A (f v u) Q X.xe s2) :
    wpAny (model X.prog X.w) X.A (eval a X.env) (fun v s₁ => wpAny (model X.prog X.w) X.A (eval b X.env) (fun u s₂ => wpAny (model X.prog X.w) X.A (f v u) Q X.xe s₂) X.xe s₁) X.xe s := by
  refine thn (ha pins s σ H _ I h) fun v s1 ⟨x,H1,I1,r1,q1⟩ => ?_
  refine thn (hb pins s1 σ H1 _ I1 q1) fun u s2 ⟨y,H2,I2,r2,q2⟩ => ?_
  exact hf v u s2 x y H2 I2 r1 r2 q2
def tVar (i : Nat) : TE := fun σ H Q => ∃ v,σ[i]? = some (some v) /\ Q v H
def tC (v : V) : TE := fun _ H Q => Q v H
theorem pe_var {i : Nat} {x : Str} {pos : Pos} (hN : X.N[i]? = some x) (hv : Vis X.env.scope x) (hd : (x == ("__debug__" : Str)) = false := by decide) (hcd : (x == ("__classdict__" : Str)) = false := by decide) : PE X (.Name x pos) (tVar i) := by
  intro pins s σ H Q I h
  obtain ⟨v,e,h⟩ := h
  obtain ⟨m,hn,hl⟩ := I.loc
  obtain ⟨u,r,l⟩ := hl i x v hN e hv
  have fin : EP X pins σ Q u s := ⟨v,H,I,r,h⟩
  rcases l with ⟨hk,hm⟩ | ⟨hk,c,hc,hcell⟩
  · exact wpAny_Name (wpAny_loadName_local I.ok.kind hk hn hm fin) hd
  · rcases hk with hk | hk
    · exact wpAny_Name (wpAny_loadName_cell I.ok.kind hk hc hcell fin) hd
    · exact wpAny_Name (wpAny_loadName_free I.ok.kind hk hc hcell fin hcd) hd
theorem pe_int {i j pos} : PE X (.Constant (.int i) j pos) (tC (.int i)) := fun _ _ _ H _ I h => wpAny_Constant_int ⟨.int i,H,I.tok _,⟨_,rfl⟩,h⟩
theorem pe_bl {b j pos} : PE X (.Constant (.bool b) j pos) (tC (.bl b)) := fun _ _ _ H _ I h => Constant_bool ⟨.bl b,H,I,rfl,h⟩
theorem pe_non {j pos} : PE X (.Constant .none j pos) (tC .non) := fun _ _ _ H _ I h => Constant_none ⟨.non,H,I,rfl,h⟩
theorem pe_str {x j pos} : PE X (.Constant (.str x) j pos) (tC (.str x)) := fun _ _ _ H _ I h => Calls.Constant_str ⟨.str x,H,I.tok _,⟨_,rfl⟩,h⟩
def Gl (X : Cx) (x : Str) : Prop := X.env.kindOf x = some .globalImplicit
theorem ld_glob {E : Value -> Shared -> Prop} {pins : List (Addr × Obj)} {s : Shared} {σ : St} {H : Hp} {x : Str} {u : Value} {pos : Pos} {Q : Value -> Shared -> Prop} (I : Inv X pins σ H s) (hg : Gl X x) (hm : X.mg x = some u) (h : Q u s)
    (hd : (x == ("__debug__" : Str)) = false := by decide) : wpAny (model X.prog X.w) X.A (eval (.Name x pos) X.env) Q E s :=
  Calls.Name_function_global I.ok.kind hg (Calls.loadGlobal_global (by rw [I.ok.glob]; exact I.mod.glob.keeps I.bk) hm h) hd
theorem ld_blt {E : Value -> Shared -> Prop} {pins : List (Addr × Obj)} {s : Shared} {σ : St} {H : Hp} {x : Str} {u : Value} {pos : Pos} {Q : Value -> Shared -> Prop} (I : Inv X pins σ H s) (hg : Gl X x) (hm : X.mg x = none) (hv : bootBuiltins x = some u) (h : Q u s)
    (hn : x ≠ "__name__" := by decide) (hd : (x == ("__debug__" : Str)) = false := by decide) : wpAny (model X.prog X.w) X.A (eval (.Name x pos) X.env) Q E s := by
  obtain ⟨mb,h1,h2⟩ := I.mod.blt
  exact Calls.Name_function_global I.ok.kind hg (Calls.loadGlobal_builtin (by rw [I.ok.glob]; exact I.mod.glob.keeps I.bk) hm (by rw [I.ok.blt]; exact h1.keeps I.bk) ((h2 x hn).trans hv) h) hd
theorem pe_glob {x : Str} {v : V} {u : Value} {pos : Pos} (hg : Gl X x) (hm : X.mg x = some u) (r : RelV v u) (hd : (x == ("__debug__" : Str)) = false := by decide) : PE X (.Name x pos) (tC v) :=
  fun _ _ _ H _ I h => ld_glob I hg hm ⟨v,H,I,r,h⟩ hd
theorem pe_bltn {x : Str} {v : V} {u : Value} {pos : Pos} (hg : Gl X x) (hm : X.mg x = none) (hv : bootBuiltins x = some u) (r : RelV v u) (hn : x ≠ "__name__" := by decide) (hd : (x == ("__debug__" : Str)) = false := by decide) : PE X (.Name x pos) (tC v) :=
  fun _ _ _ H _ I h => ld_blt I hg hm hv ⟨v,H,I,r,h⟩ hn hd
variable {a b : Expr} {ta tb : TE} {pos : Pos}
def PC (X : Cx) (op : CmpOp) (a b : Expr) (t : TE) : Prop :=
  ∀ (pins : List (Addr × Obj)) (s : Shared) (σ : St) (H : Hp) (Q : VK),Inv X pins σ H s -> t σ H Q ->
    wpAny (model X.prog X.w) X.A (eval a X.env) (fun v s₁ => wpAny (model X.prog X.w) X.A (eval b X.env) (fun u s₂ => wpAny (model X.prog X.w) X.A (compareOp op v u) (EP X pins σ Q) X.xe s₂) X.xe s₁) X.xe s
theorem nobehind (b : Expr) {op : CmpOp} (h : op ≠ .In) (h2 : op ≠ .NotIn) : behindInMarks op b = false := by
  have e1 : (op == CmpOp.In) = false := by cases op <;> first | rfl | exact absurd rfl h
  have e2 : (op == CmpOp.NotIn) = false := by cases op <;> first | rfl | exact absurd rfl h2
  cases b <;> simp [behindInMarks,e1,e2]
def tB (t : TE) : TT := fun σ H Q => t σ H fun x H1 => ∃ c,x = .bl c /\ Q c H1
theorem pt_cmp {op : CmpOp} {t : TE} (h : PC X op a b t) (h1 : behindInMarks op b = false := by first | exact nobehind _ (by decide) (by decide) | rfl) : PT X (.Compare a [op] [b] pos) (tB t) := by
  intro pins s σ H Q I hw
  refine wpAny_isTrue_Compare1 (thn (h pins s σ H _ I hw) fun v s1 h1 => thn h1 fun u s2 h2 => thn h2 fun c s3 ⟨x,H1,I1,r1,q1⟩ => ?_) h1
  obtain ⟨d,rfl,q⟩ := q1
  cases r1
  exact wpAny_truthy_bool ⟨H1,I1,q⟩
theorem pt_val {e : Expr} {t : TE} (h : PE X e t) (he : ∀ whole,isTrue e X.env whole = (do let v <- whole; standAt e.pos; holding [v] (truthy v)) := by intro _; rfl) : PT X e (tB t) := by
  intro pins s σ H Q I hw
  refine isTrue_plain (thn (h pins s σ H _ I hw) fun v s1 ⟨x,H1,I1,r1,q1⟩ => ?_) (he _)
  obtain ⟨d,rfl,q⟩ := q1
  cases r1
  exact wpAny_truthy_bool ⟨H1,I1,q⟩
variable {tA tB' : TT} {rest : List Expr}
def tAnd (t u : TT) : TT := fun σ H Q => t σ H fun c H1 => if c = true then u σ H1 Q else Q false H1
def tOr (t u : TT) : TT := fun σ H Q => t σ H fun c H1 => if c = true then Q true H1 else u σ H1 Q
def tNot (t : TT) : TT := fun σ H Q => t σ H fun c H1 => Q (!c) H1
theorem pw_and1 (ha : PT X a tA) : PW X (.BoolOp .And [a] pos) tA := by
  intro wh pins s σ H Q I h
  refine isTrue_and (thn (ha pins s σ H Q I h) fun c s1 e => ?_)
  cases c with
  | true => exact isTrue_and_nil e
  | false => exact e
theorem pw_or1 (ha : PT X a tA) : PW X (.BoolOp .Or [a] pos) tA := by
  intro wh pins s σ H Q I h
  refine isTrue_or (thn (ha pins s σ H Q I h) fun c s1 e => ?_)
  cases c with
  | false => exact isTrue_or_nil e
  | true => exact e
theorem pw_and (ha : PT X a tA) (hb : PW X (.BoolOp .And (b :: rest) pos) tB') : PW X (.BoolOp .And (a :: b :: rest) pos) (tAnd tA tB') := by
  intro wh pins s σ H Q I h
  refine isTrue_and (thn (ha pins s σ H _ I h) fun c s1 ⟨H1,I1,q1⟩ => ?_)
  cases c with
  | true => exact hb wh pins s1 σ H1 Q I1 q1
  | false => exact ⟨H1,I1,q1⟩
theorem pw_or (ha : PT X a tA) (hb : PW X (.BoolOp .Or (b :: rest) pos) tB') : PW X (.BoolOp .Or (a :: b :: rest) pos) (tOr tA tB') := by
  intro wh pins s σ H Q I h
  refine isTrue_or (thn (ha pins s σ H _ I h) fun c s1 ⟨H1,I1,q1⟩ => ?_)
  cases c with
  | true => exact ⟨H1,I1,q1⟩
  | false => exact hb wh pins s1 σ H1 Q I1 q1
theorem pt_not (ha : PT X a tA) : PT X (.UnaryOp .Not a pos) (tNot tA) := by
  intro pins s σ H Q I h
  exact isTrue_not (ha pins s σ H (fun c H1 => Q (!c) H1) I h)
def tAndV (ta tb : TE) : TE := fun σ H Q => ta σ H fun x H1 => ∃ c,x = .bl c /\ if c = true then tb σ H1 Q else Q (.bl false) H1
def tNotV (ta : TE) : TE := fun σ H Q => ta σ H fun x H1 => ∃ c,x = .bl c /\ Q (.bl (!c)) H1
theorem pe_one {op} {t : TE} (h : PE X a t) : PE X (.BoolOp op [a] pos) t := fun pins s σ H Q I hw => BoolOp_one (h pins s σ H Q I hw)
theorem pe_and (ha : PE X a ta) (hb : PE X (.BoolOp .And (b :: rest) pos) tb) : PE X (.BoolOp .And (a :: b :: rest) pos) (tAndV ta tb) := by
  intro pins s σ H Q I h
  refine BoolOp_and (thn (ha pins s σ H _ I h) fun v s1 ⟨x,H1,I1,r1,q1⟩ => ?_)
  obtain ⟨c,rfl,q1⟩ := q1
  cases r1
  refine wpAny_truthy_bool ?_
  cases c with
  | true => exact hb pins s1 σ H1 Q I1 q1
  | false => exact ⟨.bl false,H1,I1,rfl,q1⟩
theorem pe_not (ha : PE X a ta) : PE X (.UnaryOp .Not a pos) (tNotV ta) := by
  intro pins s σ H Q I h
  refine UnaryOp_ (thn (ha pins s σ H _ I h) fun v s1 ⟨x,H1,I1,r1,q1⟩ => ?_)
  obtain ⟨c,rfl,q1⟩ := q1
  cases r1
  exact not_of (wpAny_truthy_bool ⟨.bl (!c),H1,I1,rfl,q1⟩)
def tIf (t : TT) (ta tb : TE) : TE := fun σ H Q => t σ H fun c H1 => if c = true then ta σ H1 Q else tb σ H1 Q
theorem pe_ifExp {c : Expr} (hc : PT X c tA) (ha : PE X a ta) (hb : PE X b tb) : PE X (.IfExp c a b pos) (tIf tA ta tb) := by
  intro pins s σ H Q I h
  refine wpAny_IfExp (thn (hc pins s σ H _ I h) fun d s1 ⟨H1,I1,q1⟩ => ?_)
  cases d with
  | true => exact ha pins s1 σ H1 Q I1 q1
  | false => exact hb pins s1 σ H1 Q I1 q1
end
end L2
namespace L2
open PySem PySem.Spec PyProof.Rows
def SqL (K : PySem.W.Frag) (H : Hp) (a : Addr) (xs : List V) : Prop :=
  Rd H a (.lst xs) \/
    ∃ (o : Obj) (its : Array Value) (n : Nat),K.lookup a = some o /\ o.cls = .type "list" /\ o.dict = none /\ o.data = .seq its n /\ its.size <= sizeLine /\ Vals xs its.toList
def SqT (K : PySem.W.Frag) (H : Hp) (a : Addr) (xs : List V) : Prop :=
  Rd H a (.tup xs) \/
    ∃ (o : Obj) (its : Array Value) (n : Nat),K.lookup a = some o /\ o.cls = .type "tuple" /\ o.data = .seq its n /\ its.size <= sizeLine /\ Vals xs its.toList
def absV : Value -> Option V
  | .none => some .non
  | .bool b => some (.bl b)
  | .int i _ => some (.int i)
  | .str x _ => some (.str x)
  | .bytes b _ => some (.byt b)
  | .float b _ => some (.flt b)
  | .ref a => some (.ref a)
  | .type n => some (.ty n)
  | _ => none
theorem RelV.abs {x : V} {u : Value} (r : RelV x u) : absV u = some x := by
  cases x with
  | non => cases r; rfl
  | bl _ => cases r; rfl
  | int _ => obtain ⟨t,rfl⟩ := r; rfl
  | str _ => obtain ⟨t,rfl⟩ := r; rfl
  | byt _ => obtain ⟨t,rfl⟩ := r; rfl
  | flt _ => obtain ⟨t,rfl⟩ := r; rfl
  | ref _ => cases r; rfl
  | ty _ => cases r; rfl
theorem RelV.inj {x y : V} {u : Value} (r : RelV x u) (q : RelV y u) : x = y := Option.some.inj (r.abs.symm.trans q.abs)
theorem Vals.inj : ∀ {xs ys : List V} {us : List Value},Vals xs us -> Vals ys us -> xs = ys
  | _,_,_,.nil,.nil => rfl
  | _,_,_,.cons r t,.cons r' t' => by rw [r.inj r',Vals.inj t t']
section
variable {X : Cx} {pins : List (Addr × Obj)} {σ : St} {H : Hp} {s : Shared} {a : Addr} {xs ys : List V}
theorem SqL.of {K : PySem.W.Frag} (h : H a = some (.lst xs)) : SqL K H a xs := .inl (.inl h)
theorem SqT.of {K : PySem.W.Frag} (h : H a = some (.tup xs)) : SqT K H a xs := .inl (.inl h)
theorem Inv.list (I : Inv X pins σ H s) (h : SqL X.K H a xs) : ∃ its : List Value,Vals xs its /\ PlainL s.heap a its.toArray /\ xs.length <= sizeLine := by
  rcases h with h | ⟨o,its,n,hk,hc,hd,hs,hz,r⟩
  · obtain ⟨z,its,n,r,e⟩ := h.ok I.hok
    exact ⟨its,r,⟨_,n,e,rfl,rfl,rfl⟩,z⟩
  · refine ⟨its.toList,r,⟨o,n,I.kIn a o hk,hc,hd,by simpa using hs⟩,?_⟩
    have e := r.length
    simp only [Array.length_toList] at e
    omega
theorem Inv.tuple (I : Inv X pins σ H s) (h : SqT X.K H a xs) : ∃ its : List Value,Vals xs its /\ IsTup s.heap a its.toArray /\ xs.length <= sizeLine := by
  rcases h with h | ⟨o,its,n,hk,hc,hs,hz,r⟩
  · obtain ⟨z,its,r,p⟩ := h.ok I.hok
    exact ⟨its,r,p,z⟩
  · refine ⟨its.toList,r,⟨o,I.kIn a o hk,hc,n,by simpa using hs⟩,?_⟩
    have e := r.length
    simp only [Array.length_toList] at e
    omega
theorem Inv.list_inj (I : Inv X pins σ H s) (h : SqL X.K H a xs) (h' : SqL X.K H a ys) : xs = ys := by
  obtain ⟨its,r,⟨o,n,e,_,_,d⟩,_⟩ := I.list h
  obtain ⟨its',r',⟨o',n',e',_,_,d'⟩,_⟩ := I.list h'
  rw [e] at e'; cases e'
  rw [d] at d'
  injection d' with d1 _
  have : its = its' := by simpa using congrArg Array.toList d1
  subst this
  exact r.inj r'
theorem Inv.tuple_inj (I : Inv X pins σ H s) (h : SqT X.K H a xs) (h' : SqT X.K H a ys) : xs = ys := by
  obtain ⟨its,r,⟨o,e,_,n,d⟩,_⟩ := I.tuple h
  obtain ⟨its',r',⟨o',e',_,n',d'⟩,_⟩ := I.tuple h'
  rw [e] at e'; cases e'
  rw [d] at d'
  injection d' with d1 _
  have : its = its' := by simpa using congrArg Array.toList d1
  subst this
  exact r.inj r'
end
abbrev Cx.wish (X : Cx) (E : Value -> Shared -> Prop) : Cx := { X with xe := E }
abbrev Cx.nox (X : Cx) : Cx := X.wish fun _ _ => False
theorem Cx.Ok.wish {X : Cx} (ok : X.Ok) (E : Value -> Shared -> Prop) : (X.wish E).Ok :=
  ⟨ok.mod,ok.kind,ok.glob,ok.blt,ok.above,ok.inj,ok.has,ok.cab,ok.hd,ok.frames,ok.stk,ok.exf,ok.bs,ok.bsz,ok.noex,ok.exfs,ok.funs,ok.frf⟩
theorem Cx.Ok.unwish {X : Cx} {E : Value -> Shared -> Prop} (ok : (X.wish E).Ok) : X.Ok :=
  ⟨ok.mod,ok.kind,ok.glob,ok.blt,ok.above,ok.inj,ok.has,ok.cab,ok.hd,ok.frames,ok.stk,ok.exf,ok.bs,ok.bsz,ok.noex,ok.exfs,ok.funs,ok.frf⟩
section
variable {X : Cx} {pins : List (Addr × Obj)} {σ : St} {H : Hp} {s : Shared} {E : Value -> Shared -> Prop}
theorem Inv.wish (I : Inv X pins σ H s) (E : Value -> Shared -> Prop) : Inv (X.wish E) pins σ H s := ⟨I.ok.wish E,I.os,I.bare,I.base,I.loc,I.cell,I.free,I.freeC,I.pin,I.hok,I.len⟩
theorem Inv.unwish (I : Inv (X.wish E) pins σ H s) : Inv X pins σ H s := ⟨I.ok.unwish,I.os,I.bare,I.base,I.loc,I.cell,I.free,I.freeC,I.pin,I.hok,I.len⟩
theorem SP.unwish {D : Ends} {f : Flow} {s' : Shared} (h : SP (X.wish E) pins D f s') : SP X pins D f s' := by
  cases f with
  | next => obtain ⟨σ',H',I,q⟩ := h; exact ⟨σ',H',I.unwish,q⟩
  | brk => obtain ⟨σ',H',I,q⟩ := h; exact ⟨σ',H',I.unwish,q⟩
  | cont => obtain ⟨σ',H',I,q⟩ := h; exact ⟨σ',H',I.unwish,q⟩
  | ret u => obtain ⟨v,σ',H',I,r,q⟩ := h; exact ⟨v,σ',H',I.unwish,r,q⟩
theorem PE.nox {e : Expr} {t : TE} (h : PE X.nox e t) : PE X e t := fun pins s σ H Q I hw =>
  wpAny_mono (h pins s σ H Q (I.wish _) hw) (fun _ _ ⟨v,H',I',r,q⟩ => ⟨v,H',I'.unwish,r,q⟩) fun _ _ z => False.elim z
theorem PT.nox {e : Expr} {t : TT} (h : PT X.nox e t) : PT X e t := fun pins s σ H Q I hw =>
  wpAny_mono (h pins s σ H Q (I.wish _) hw) (fun _ _ ⟨H',I',q⟩ => ⟨H',I'.unwish,q⟩) fun _ _ z => False.elim z
theorem PSs.nox {st : List Stmt} {t : TS} (h : PSs X.nox st t) : PSs X st t := fun pins s σ H D I hw =>
  wpAny_mono (h pins s σ H D (I.wish _) hw) (fun _ _ q => q.unwish) fun _ _ z => False.elim z
end
section
variable {X : Cx} {st : Stmt} {rest : List Stmt} {t u : TS} {e : Expr} {te : TE} {pos : Pos}
def tNext : TS := fun D σ H => D.nx σ H
def tSeq (t u : TS) : TS := fun D σ H => t { D with nx := u D } σ H
theorem pss_nil : PSs X [] tNext := fun _ _ σ H _ I h => wpAny_execs_nil ⟨σ,H,I,h⟩
theorem pss_cons (h1 : PS X st t) (h2 : PSs X rest u) : PSs X (st :: rest) (tSeq t u) := by
  intro pins s σ H D I h
  refine wpAny_execs_cons (thn (h1 pins s σ H { D with nx := u D } I h) fun f s1 q => ?_)
  cases f with
  | next =>
    obtain ⟨σ',H',I',q⟩ := q
    exact h2 pins s1 σ' H' D I' q
  | ret v => exact q
  | brk => exact q
  | cont => exact q
theorem pss_one (h1 : PS X st t) : PSs X [st] t := by
  intro pins s σ H D I h
  refine wpAny_execs_cons (thn (h1 pins s σ H D I h) fun f s1 q => ?_)
  cases f with
  | next => exact wpAny_execs_nil q
  | ret v => exact q
  | brk => exact q
  | cont => exact q
theorem Inv.quiet {pins : List (Addr × Obj)} {σ : St} {H : Hp} {s : Shared} (I : Inv X pins σ H s) : interactive X.env = false := by simp [interactive,I.ok.kind]
def tDrop (te : TE) : TS := fun D σ H => te σ H fun _ H1 => D.nx σ H1
theorem ps_expr (he : PE X e te) (hs : swapsWith e none pos.line X.env = pure false := by rfl) : PS X (.Expr e pos) (tDrop te) := by
  intro pins s σ H D I h
  exact wpAny_Expr_any (thn (he pins s σ H _ I h) fun v s1 ⟨x,H1,I1,r1,q1⟩ => ⟨σ,H1,I1,q1⟩) I.quiet hs
def tRet (te : TE) : TS := fun D σ H => te σ H D.rt
theorem ps_ret (he : PE X e te) : PS X (.Return (some e) pos) (tRet te) := by
  intro pins s σ H D I h
  exact wpAny_Return_some (thn (he pins s σ H _ I h) fun v s1 ⟨x,H1,I1,r1,q1⟩ => ⟨x,σ,H1,I1,r1,q1⟩)
def tIfS (c : TT) (t u : TS) : TS := fun D σ H => c σ H fun b H1 => if b = true then t D σ H1 else u D σ H1
theorem ps_if {c : Expr} {a b : List Stmt} {tc : TT} (hc : PT X c tc) (ha : PSs X a t) (hb : PSs X b u) : PS X (.If c a b pos) (tIfS tc t u) := by
  intro pins s σ H D I h
  refine wpAny_If (thn (hc pins s σ H _ I h) fun d s1 ⟨H1,I1,q1⟩ => ?_)
  cases d with
  | true => exact ha pins s1 σ H1 D I1 q1
  | false => exact hb pins s1 σ H1 D I1 q1
def tNever : TS := fun _ _ _ => False
theorem ps_never : PS X st tNever := fun _ _ _ _ _ _ h => h.elim
end
abbrev TG := V -> St -> Hp -> (St -> Hp -> Prop) -> Prop
abbrev TGs := List V -> St -> Hp -> (St -> Hp -> Prop) -> Prop
def PG (X : Cx) (target : Expr) (t : TG) : Prop :=
  ∀ (pins : List (Addr × Obj)) (s : Shared) (σ : St) (H : Hp) (v : V) (u : Value) (Q : St -> Hp -> Prop),Inv X pins σ H s -> RelV v u -> t v σ H Q ->
    wpAny (model X.prog X.w) X.A (assign target X.env u) (fun _ s' => ∃ σ' H',Inv X pins σ' H' s' /\ Q σ' H') X.xe s
def PGs (X : Cx) (ts : List Expr) (t : TGs) : Prop :=
  ∀ (pins : List (Addr × Obj)) (s : Shared) (σ : St) (H : Hp) (vs : List V) (us : List Value) (Q : St -> Hp -> Prop),Inv X pins σ H s -> Vals vs us -> t vs σ H Q ->
    wpAny (model X.prog X.w) X.A (assignInOrder ((assignEach ts X.env).map (·.2)) us) (fun _ s' => ∃ σ' H',Inv X pins σ' H' s' /\ Q σ' H') X.xe s
abbrev TSet := V -> V -> V -> Hp -> (Hp -> Prop) -> Prop
def PSet (X : Cx) (t : TSet) : Prop :=
  ∀ (pins : List (Addr × Obj)) (s : Shared) (σ : St) (H : Hp) (o i v : V) (ov iv u : Value) (Q : Hp -> Prop),Inv X pins σ H s -> RelV o ov -> RelV i iv -> RelV v u -> t o i v H Q ->
    wpAny (model X.prog X.w) X.A (setItem ov iv u) (fun _ s' => ∃ H',Inv X pins σ H' s' /\ Q H') X.xe s
abbrev TIp := V -> V -> Hp -> VK -> Prop
def PIp (X : Cx) (op : Operator) (t : TIp) : Prop :=
  ∀ (pins : List (Addr × Obj)) (s : Shared) (σ : St) (H : Hp) (x y : V) (v u : Value) (Q : VK),Inv X pins σ H s -> RelV x v -> RelV y u -> t x y H Q ->
    wpAny (model X.prog X.w) X.A (inplaceOp op v u) (EP X pins σ Q) X.xe s
section
variable {X : Cx} {pos : Pos}
def gName (i : Nat) : TG := fun v σ H Q => Q (σ.set i (some v)) H
theorem pg_name {i : Nat} {x : Str} (hN : X.N.Nodup) (hi : X.N[i]? = some x) (hx : Loc X.env.scope x) (hf : X.fn x = true \/ X.env.scope.names.lookup x = some .local := by first | exact .inl rfl | exact .inr rfl | assumption) : PG X (.Name x pos) (gName i) := by
  intro pins s σ H v u Q I r h
  exact wpAny_assign_Name (store_ok I hN hi hx r (fun s' I' => ⟨_,H,I',h⟩) hf)
def gNil : TGs := fun vs σ H Q => vs = [] /\ Q σ H
def gCons (t : TG) (u : TGs) : TGs := fun vs σ H Q => ∃ v r,vs = v :: r /\ t v σ H fun σ' H' => u r σ' H' Q
theorem pgs_nil : PGs X [] gNil := by
  intro pins s σ H vs us Q I r h
  obtain ⟨e,h⟩ := h
  subst e
  cases r
  exact assignInOrder_nil ⟨σ,H,I,h⟩
theorem pgs_cons {e : Expr} {es : List Expr} {t : TG} {u : TGs} (h1 : PG X e t) (h2 : PGs X es u)
    (hs : (assignEach (e :: es) X.env).map (·.2) = assign e X.env :: (assignEach es X.env).map (·.2) := by rfl) : PGs X (e :: es) (gCons t u) := by
  intro pins s σ H vs us Q I r h
  obtain ⟨v,vr,e1,h⟩ := h
  subst e1
  cases r with
  | cons r rr =>
    rw [hs]
    refine assignInOrder_cons (thn (h1 pins s σ H _ _ _ I r h) fun _ s1 ⟨σ1,H1,I1,q1⟩ => ?_)
    exact h2 pins s1 σ1 H1 _ _ Q I1 rr q1
def gTup (K : PySem.W.Frag) (n : Nat) (t : TGs) : TG := fun v σ H Q => ∃ a xs,v = .ref a /\ SqT K H a xs /\ xs.length = n /\ t xs σ H Q
theorem pg_tup {es : List Expr} {k : Nat} {t : TGs} {n : Nat} (hc : X.calm = true) (h : PGs X es t)
    (hn : (assignEach es X.env).length = n := by rfl) (hst : (assignEach es X.env).findIdx? (·.1) = none := by rfl) : PG X (.Tuple es k pos) (gTup X.K n t) := by
  intro pins s σ H v u Q I r hw
  obtain ⟨a,xs,e1,hq,hl,hw⟩ := hw
  subst e1
  cases r
  obtain ⟨its,rv,ht,hz⟩ := I.tuple hq
  refine assign_Tuple_tuple (I.ok.hd hc) ht (by simp [hn,<- hl,rv.length]) hst fun h' hx => ?_
  have I1 : Inv X pins σ H { s with heap := h' } := I.kept (t' := s.toks) fun b o e => hx b o (Nat.ne_of_lt (Heap.lt_size e)) e
  exact h pins _ σ H xs _ Q I1 (by simpa using rv) hw
def gSub (to ti : TE) (t : TSet) : TG := fun v σ H Q => to σ H fun o H1 => ti σ H1 fun i H2 => t o i v H2 fun H3 => Q σ H3
theorem pg_sub {o i : Expr} {to ti : TE} {t : TSet} (ho : PE X o to) (hi : PE X i ti) (hs : PSet X t)
    (ha : ∀ v,assign (.Subscript o i pos) X.env v = (do
      let ov <- holding [v] (eval o X.env)
      let iv <- holding [v,ov] (eval i X.env)
      standAt pos
      holding [v,ov,iv] (setItem ov iv v)
      release [v,ov,iv] []) := by intro _; rfl) : PG X (.Subscript o i pos) (gSub to ti t) := by
  intro pins s σ H v u Q I r h
  rw [ha]
  refine wpAny_bind (wpAny_holding (thn (ho pins s σ H _ I h) fun ov s1 ⟨x,H1,I1,r1,q1⟩ => ?_))
  refine wpAny_bind (wpAny_holding (thn (hi pins s1 σ H1 _ I1 q1) fun iv s2 ⟨y,H2,I2,r2,q2⟩ => ?_))
  refine wpAny_bind (wpAny_standAt (wpAny_bind (wpAny_holding (thn (hs pins s2 σ H2 x y v ov iv u _ I2 r1 r2 r q2) fun _ s3 ⟨H3,I3,q3⟩ => ?_))))
  exact wpAny_release ⟨σ,H3,I3,q3⟩
def tAsg (te : TE) (g : TG) : TS := fun D σ H => te σ H fun x H1 => g x σ H1 D.nx
theorem ps_asg {tg e : Expr} {te : TE} {g : TG} (he : PE X e te) (hg : PG X tg g) (hs : swapsWithSole [tg] e pos.line X.env = pure false := by rfl) (hw : swappedStores [tg] e X.env = pure none := by rfl)
    (h1 : (assignEach [tg] X.env).map (·.2) = [assign tg X.env] := by rfl) : PS X (.Assign [tg] e pos) (tAsg te g) := by
  intro pins s σ H D I h
  refine wpAny_Assign_stores (thn (he pins s σ H _ I h) fun v s1 ⟨x,H1,I1,r1,q1⟩ => ?_) hs hw
  rw [h1]
  exact thn (hg pins s1 σ H1 x v _ I1 r1 q1) fun _ s2 q => q
theorem ps_set {i : Nat} {x : Str} {e : Expr} {te : TE} {pos' : Pos} (hN : X.N.Nodup) (hi : X.N[i]? = some x) (hx : Loc X.env.scope x) (he : PE X e te) (hs : swapsWith e (some (.Name x pos')) pos.line X.env = pure false := by rfl) (hf : X.fn x = true \/ X.env.scope.names.lookup x = some .local := by first | exact .inl rfl | exact .inr rfl | assumption) :
    PS X (.Assign [.Name x pos'] e pos) (tAsg te (gName i)) := by
  intro pins s σ H D I h
  refine wpAny_Assign_Name (thn (he pins s σ H _ I h) fun v s1 ⟨y,H1,I1,r1,q1⟩ => ?_) hs
  exact store_ok I1 hN hi hx r1 (fun s2 I2 => ⟨_,H1,I2,q1⟩) hf
def tAug (i : Nat) (te : TE) (ti : TIp) : TS := fun D σ H => ∃ x,σ[i]? = some (some x) /\ te σ H fun y H1 => ti x y H1 fun z H2 => D.nx (σ.set i (some z)) H2
theorem ps_aug {i : Nat} {x : Str} {e : Expr} {te : TE} {op : Operator} {ti : TIp} {pos' : Pos} (hN : X.N.Nodup) (hi : X.N[i]? = some x) (hx : Loc X.env.scope x) (he : PE X e te) (ho : PIp X op ti) (hf : X.fn x = true \/ X.env.scope.names.lookup x = some .local := by first | exact .inl rfl | exact .inr rfl | assumption) :
    PS X (.AugAssign (.Name x pos') op e pos) (tAug i te ti) := by
  intro pins s σ H D I h
  obtain ⟨v,e1,h⟩ := h
  obtain ⟨m,hn,hl⟩ := I.loc
  have vis : Vis X.env.scope x := by rcases hx with k | k; exact .inl k; exact .inr (.inl k)
  obtain ⟨u,r,l⟩ := hl i x v hi e1 vis
  refine wpAny_AugAssign_Name ?_
  have go : wpAny (model X.prog X.w) X.A (eval e X.env) (fun w s₂ => wpAny (model X.prog X.w) X.A (inplaceOp op u w) (fun r s₃ => wpAny (model X.prog X.w) X.A (storeName X.env x r) (fun _ => SP X pins D .next) X.xe s₃) X.xe s₂) X.xe s := by
    refine thn (he pins s σ H _ I h) fun w s1 ⟨y,H1,I1,r1,q1⟩ => ?_
    refine thn (ho pins s1 σ H1 v y u w _ I1 r r1 q1) fun z s2 ⟨zv,H2,I2,r2,q2⟩ => ?_
    exact store_ok I2 hN hi hx r2 (fun s3 I3 => ⟨_,H2,I3,q2⟩) hf
  rcases l with ⟨hk,hm⟩ | ⟨hk,c,hc,hcell⟩
  · exact wpAny_loadName_local I.ok.kind hk hn hm go
  · rcases hk with hk | hk
    · exact wpAny_loadName_cell I.ok.kind hk hc hcell go
    · rcases hx with k | k
      · have : X.env.scope.names.lookup x = some .free := hk
        rw [k] at this; cases this
      · have : X.env.scope.names.lookup x = some .free := hk
        rw [k] at this; cases this
def ipI (f : Int -> Int -> Int) : TIp := fun x y H Q => ∃ i j,x = .int i /\ y = .int j /\ Q (.int (f i j)) H
theorem ip_add : PIp X .Add (ipI fun i j => i + j) := by
  intro pins s σ H x y v u Q I r1 r2 h
  obtain ⟨i,j,e1,e2,q⟩ := h
  subst e1; subst e2
  obtain ⟨t,rfl⟩ := r1
  obtain ⟨t',rfl⟩ := r2
  exact iadd_int ⟨.int _,H,I.tok _,⟨_,rfl⟩,q⟩
theorem ip_sub : PIp X .Sub (ipI fun i j => i - j) := by
  intro pins s σ H x y v u Q I r1 r2 h
  obtain ⟨i,j,e1,e2,q⟩ := h
  subst e1; subst e2
  obtain ⟨t,rfl⟩ := r1
  obtain ⟨t',rfl⟩ := r2
  exact isub_int ⟨.int _,H,I.tok _,⟨_,rfl⟩,q⟩
end
section
variable {X : Cx} {pos : Pos}
def tWhile (c : TT) (tb : TS) : TS := fun D σ H => ∃ W : Nat -> St -> Hp -> Prop,(∃ m,W m σ H) /\ ∀ m σ H,W m σ H ->
  c σ H fun b H1 => if b = true then ∃ N : St -> Hp -> Prop,(∀ σ' H',N σ' H' -> ∃ m',m' < m /\ W m' σ' H') /\ tb { D with nx := N,ct := N,bk := D.nx } σ H1 else D.nx σ H1
theorem ps_while {c : Expr} {body : List Stmt} {tc : TT} {tb : TS} (hp : PassesOwn (model X.prog X.w) X.A X.env X.xe) (hc : PT X c tc) (hb : PSs X body tb) : PS X (.While c body [] pos) (tWhile tc tb) := by
  intro pins s σ H D I h
  obtain ⟨W,⟨m0,w0⟩,turn⟩ := h
  refine wpAny_While (codeAny_whileLoop (fun n s' => ∃ σ' H',Inv X pins σ' H' s' /\ W n σ' H') ?_ m0 ⟨σ,H,I,w0⟩)
  rintro n s1 ⟨σ1,H1,I1,w1⟩
  refine wpAny_passesOwn hp (thn (hc pins s1 σ1 H1 _ I1 (turn n σ1 H1 w1)) fun b s2 ⟨H2,I2,q2⟩ => ?_)
  cases b with
  | true =>
    obtain ⟨N,hN,q2⟩ := q2
    rw [if_pos rfl]
    refine wpAny_passesOwn hp (thn (hb pins s2 σ1 H2 _ I2 q2) fun f s3 q3 => ?_)
    cases f with
    | next =>
      obtain ⟨σ3,H3,I3,n3⟩ := q3
      obtain ⟨m',hm,w3⟩ := hN σ3 H3 n3
      exact ⟨m',hm,σ3,H3,I3,w3⟩
    | cont =>
      obtain ⟨σ3,H3,I3,n3⟩ := q3
      obtain ⟨m',hm,w3⟩ := hN σ3 H3 n3
      exact ⟨m',hm,σ3,H3,I3,w3⟩
    | brk => exact q3
    | ret v => exact q3
  | false =>
    rw [if_neg Bool.false_ne_true]
    exact wpAny_execs_nil ⟨σ1,H2,I2,q2⟩
end
structure It where
  go : Nat -> Hp -> Prop
  yld : Nat -> Hp -> V -> Hp -> Prop
  stop : Nat -> Hp -> Prop
def FpOk (X : Cx) (pins : List (Addr × Obj)) (H : Hp) (b : Addr) : Prop :=
  H b = none /\ b ≠ X.env.locals /\ b ∉ X.fs /\ (b ∈ X.ex \/ X.s₀.heap.objs.size <= b) /\ (∀ x c,X.env.cells.lookup x = some c -> c ≠ b) /\ ∀ p ∈ X.pn ++ pins,p.1 ≠ b
theorem Inv.fpOk {X : Cx} {pins : List (Addr × Obj)} {σ : St} {H H' : Hp} {s : Shared} {b : Addr} (I : Inv X pins σ H s) (hb : s.heap.objs.size <= b) (hn : H' b = none) : FpOk X pins H' b := by
  refine ⟨hn,Nat.ne_of_gt (Nat.lt_of_lt_of_le I.lt hb),I.nofs hb,.inr (Nat.le_trans I.sz hb),fun x c e z => ?_,fun p hp z => ?_⟩
  · obtain ⟨v,q⟩ := I.cell x c e
    exact absurd (Nat.lt_of_lt_of_le q.lt (by rw [z]; exact hb)) (Nat.lt_irrefl _)
  · exact absurd (Nat.lt_of_lt_of_le (Heap.lt_size (I.pin p hp).1) (by rw [z]; exact hb)) (Nat.lt_irrefl _)
structure Turn (P : Program) (w : World) (K : PySem.W.Frag) (tg : Expr) (J : It) (fp : List Addr) (it : Addr) (tn : Nat -> Heap -> Prop) : Prop where
  mem : it ∈ fp
  obj : ∀ i h,tn i h -> ∀ b ∈ fp,∃ o,h.get? b = some o /\ ∀ v,o.data ≠ .cell v
  keep : ∀ i h h',tn i h -> (∀ b ∈ fp,∀ o,h.get? b = some o -> h'.get? b = some o) -> tn i h'
  item : ∀ (X : Cx),X.prog = P -> X.w = w -> X.K = K -> X.calm = true -> ∀ (i : Nat) (pins : List (Addr × Obj)) (s : Shared) (σ : St) (H : Hp) (E : Value -> Shared -> Prop),Inv X pins σ H s -> (∀ b ∈ fp,FpOk X pins H b) -> tn i s.heap -> J.go i H ->
    wpAny (model P w) X.A (pyNext (.ref it)) (fun r s1 => ∃ u,r = some u /\
      wpAny (model P w) X.A (letOwnedTupleGo tg (.ref it) u) (fun _ s2 => ∃ x H',Inv X pins σ H' s2 /\ RelV x u /\ J.yld i H x H' /\ tn (i + 1) s2.heap /\ ∀ b ∈ fp,H' b = none) E s1) E s
  done : ∀ (X : Cx),X.prog = P -> X.w = w -> X.K = K -> X.calm = true -> ∀ (i : Nat) (pins : List (Addr × Obj)) (s : Shared) (σ : St) (H : Hp) (E : Value -> Shared -> Prop),Inv X pins σ H s -> (∀ b ∈ fp,FpOk X pins H b) -> tn i s.heap -> J.stop i H ->
    wpAny (model P w) X.A (pyNext (.ref it)) (fun r s1 => r = none /\ Inv X pins σ H s1) E s
  self : ∀ (A : Around) (i : Nat) (s : Shared) (Q : Value -> Shared -> Prop) (E : Value -> Shared -> Prop),tn i s.heap -> Q (.ref it) s -> wpAny (model P w) A (pyIter (.ref it)) Q E s
abbrev TI := St -> Hp -> (It -> Hp -> Prop) -> Prop
def PIE (X : Cx) (pins : List (Addr × Obj)) (σ : St) (tg : Expr) (R : It -> Hp -> Prop) (itv : Value) (s2 : Shared) : Prop :=
  ∃ (it : Addr) (fp : List Addr) (tn : Nat -> Heap -> Prop) (J : It) (H' : Hp),itv = .ref it /\ Inv X pins σ H' s2 /\ Turn X.prog X.w X.K tg J fp it tn /\ tn 0 s2.heap /\ (∀ b ∈ fp,FpOk X pins H' b) /\ R J H'
def PI (X : Cx) (tg iter : Expr) (wi : TI) : Prop :=
  ∀ (pins : List (Addr × Obj)) (s : Shared) (σ : St) (H : Hp) (R : It -> Hp -> Prop),Inv X pins σ H s -> wi σ H R ->
    wpAny (model X.prog X.w) X.A (eval iter X.env) (fun v s1 => wpAny (model X.prog X.w) X.A (pyIter v) (PIE X pins σ tg R) X.xe s1) X.xe s
theorem go_of {M : Model} {A : Around} {E : Value -> Shared -> Prop} {s : Shared} {tg : Expr} {it : Addr} {u : Value} {o : Obj} {n : String} {vs : Array Value} {Q : Unit -> Shared -> Prop} (ho : s.heap.get? it = some o) (hc : o.cls = .type n) (hd : o.data = .fields vs)
    (hn : ["enumerate","zip","dict_itemiterator","dict_reverseitemiterator","odict_iterator","itertools.zip_longest","itertools.pairwise"].contains n = false) (hQ : Q () s) : wpAny M A (letOwnedTupleGo tg (.ref it) u) Q E s := by
  unfold letOwnedTupleGo
  cases tg <;> first
    | exact wpAny_pure hQ
    | (cases u <;> first
        | exact wpAny_pure hQ
        | (refine wpAny_bind (wpAny_load ho ?_)
           rw [hc,hd]
           show wpAny M A (if (["enumerate","zip","dict_itemiterator","dict_reverseitemiterator","odict_iterator","itertools.zip_longest","itertools.pairwise"].contains n && vs[0]? == some (rawInt _)) = true then _ else _) Q E s
           rw [if_neg (by intro h; rw [hn,Bool.false_and] at h; cases h)]
           exact wpAny_pure hQ))
def Itl (K : PySem.W.Frag) (a : Addr) : It :=
  ⟨fun i H => ∃ xs x,SqL K H a xs /\ xs[i]? = some x,fun i H x H' => H' = H /\ ∀ xs,SqL K H a xs -> xs[i]? = some x,fun i H => ∃ xs,SqL K H a xs /\ xs.length <= i⟩
def Itt (K : PySem.W.Frag) (a : Addr) : It :=
  ⟨fun i H => ∃ xs x,SqT K H a xs /\ xs[i]? = some x,fun i H x H' => H' = H /\ ∀ xs,SqT K H a xs -> xs[i]? = some x,fun i H => ∃ xs,SqT K H a xs /\ xs.length <= i⟩
def Itr (lo : Int) (n : Nat) : It := ⟨fun i _ => i < n,fun i H x H' => H' = H /\ x = .int (lo + i),fun i _ => n <= i⟩
theorem turn_list {P : Program} {w : World} {K : PySem.W.Frag} {tg : Expr} (a it : Addr) : Turn P w K tg (Itl K a) [it] it (fun i h => h.IsListIter it a i) where
  mem := by simp
  obj := fun i h st b hb => by
    have e : b = it := by simpa using hb
    subst e
    obtain ⟨o,e,c,d⟩ := st
    exact ⟨o,e,fun v z => by rw [d] at z; cases z⟩
  keep := fun i h h' st k => st.at fun o e => k it (by simp) o e
  item := by
    intro X hP hw hK hc i pins s σ H E I hf st hg
    subst hP hw hK
    obtain ⟨xs,x,hq,hx⟩ := hg
    obtain ⟨its,rv,p,hz⟩ := I.list hq
    obtain ⟨u,hu,ru⟩ := rv.get hx
    obtain ⟨f0,f1,f2,f3,f4,f5⟩ := hf it (by simp)
    refine wpAny_pyNext_list_item st p.isList (x := u) (by simpa using hu) fun h' st' sb => ?_
    have I1 : Inv X pins σ H { s with heap := h' } := I.turned (t' := s.toks) (fun b o hb e => (sb.2 b hb).trans e) f0 f1 f3 f4 f5
    obtain ⟨o,e,c,d⟩ := id st'
    exact ⟨u,rfl,go_of (s := { s with heap := h' }) e c d (by decide) ⟨x,H,I1,ru,⟨rfl,fun ys hy => by rw [I.list_inj hy hq]; exact hx⟩,st',fun b hb => (hf b hb).1⟩⟩
  done := by
    intro X hP hw hK hc i pins s σ H E I hf st hg
    subst hP hw hK
    obtain ⟨xs,hq,hx⟩ := hg
    obtain ⟨its,rv,p,hz⟩ := I.list hq
    obtain ⟨f0,f1,f2,f3,f4,f5⟩ := hf it (by simp)
    have hl := rv.length
    exact wpAny_pyNext_list_end (I.ok.hd hc) st p.isList (by simp; omega) fun h' eb => ⟨rfl,I.turned (t' := s.toks) (fun b o hb e => eb b o hb e) f0 f1 f3 f4 f5⟩
  self := fun _ _ _ _ _ st h => wpAny_pyIter_listiter st h
theorem turn_tuple {P : Program} {w : World} {K : PySem.W.Frag} {tg : Expr} (a it : Addr) : Turn P w K tg (Itt K a) [it] it (fun i h => h.IsTupleIter it a i) where
  mem := by simp
  obj := fun i h st b hb => by
    have e : b = it := by simpa using hb
    subst e
    obtain ⟨o,e,c,d⟩ := st
    exact ⟨o,e,fun v z => by rw [d] at z; cases z⟩
  keep := fun i h h' st k => st.at fun o e => k it (by simp) o e
  item := by
    intro X hP hw hK hc i pins s σ H E I hf st hg
    subst hP hw hK
    obtain ⟨xs,x,hq,hx⟩ := hg
    obtain ⟨its,rv,p,hz⟩ := I.tuple hq
    obtain ⟨u,hu,ru⟩ := rv.get hx
    obtain ⟨f0,f1,f2,f3,f4,f5⟩ := hf it (by simp)
    refine wpAny_pyNext_tuple_item st (show s.heap.IsTuple a its.toArray from p) (x := u) (by simpa using hu) fun h' st' sb => ?_
    have I1 : Inv X pins σ H { s with heap := h' } := I.turned (t' := s.toks) (fun b o hb e => (sb.2 b hb).trans e) f0 f1 f3 f4 f5
    obtain ⟨o,e,c,d⟩ := id st'
    exact ⟨u,rfl,go_of (s := { s with heap := h' }) e c d (by decide) ⟨x,H,I1,ru,⟨rfl,fun ys hy => by rw [I.tuple_inj hy hq]; exact hx⟩,st',fun b hb => (hf b hb).1⟩⟩
  done := by
    intro X hP hw hK hc i pins s σ H E I hf st hg
    subst hP hw hK
    obtain ⟨xs,hq,hx⟩ := hg
    obtain ⟨its,rv,p,hz⟩ := I.tuple hq
    obtain ⟨f0,f1,f2,f3,f4,f5⟩ := hf it (by simp)
    have hl := rv.length
    exact wpAny_pyNext_tuple_end (I.ok.hd hc) st (show s.heap.IsTuple a its.toArray from p) (by simp; omega) fun h' eb => ⟨rfl,I.turned (t' := s.toks) (fun b o hb e => eb b o hb e) f0 f1 f3 f4 f5⟩
  self := fun _ _ _ _ _ st h => wpAny_pyIter_tupleiter st h
theorem turn_range {P : Program} {w : World} {K : PySem.W.Frag} {tg : Expr} (it : Addr) (lo : Int) (n : Nat) : Turn P w K tg (Itr lo n) [it] it (fun i h => IsRangeIter h it (lo + (i : Nat) * 1) ((n : Int) - (i : Nat)) 1) where
  mem := by simp
  obj := fun i h st b hb => by
    have e : b = it := by simpa using hb
    subst e
    exact ⟨_,st,fun v z => by
      have z' : Data.fields _ = Data.cell v := z
      cases z'⟩
  keep := fun i h h' st k => k it (by simp) _ st
  item := by
    intro X hP hw hK hc i pins s σ H E I hf st hg
    subst hP hw hK
    obtain ⟨f0,f1,f2,f3,f4,f5⟩ := hf it (by simp)
    have W := Walks.range (prog := X.prog) (w := X.w) (I.ok.hd hc) it lo 1 n
    refine W.item i s _ _ hg st fun v h' tk hv st' kk => ?_
    obtain ⟨t,rfl⟩ := hv
    have I1 : Inv X pins σ H { s with heap := h',toks := tk } := I.turned (fun b o hb e => kk b o (by simpa using hb) e) f0 f1 f3 f4 f5
    refine ⟨_,rfl,go_of (s := { s with heap := h',toks := tk }) (n := "range_iterator") st' rfl rfl (by decide) ⟨.int (lo + i),H,I1,⟨t,?_⟩,⟨rfl,rfl⟩,st',fun b hb => (hf b hb).1⟩⟩
    rw [Int.mul_one]
  done := by
    intro X hP hw hK hc i pins s σ H E I hf st hg
    subst hP hw hK
    obtain ⟨f0,f1,f2,f3,f4,f5⟩ := hf it (by simp)
    exact wpAny_pyNext_range_end (I.ok.hd hc) st (by have : n <= i := hg; omega) fun h' eb => ⟨rfl,I.turned (t' := s.toks) (fun b o hb e => eb b o hb e) f0 f1 f3 f4 f5⟩
  self := fun _ _ _ _ _ st h => wpAny_pyIter_rangeiter st h
end L2
namespace L2
open PySem PySem.Spec PyProof.Rows
section
variable {X : Cx} {tg : Expr}
def iList (K : PySem.W.Frag) (tl : TE) : TI := fun σ H R => tl σ H fun x H1 => ∃ a,x = .ref a /\ (∃ xs,SqL K H1 a xs) /\ R (Itl K a) H1
def iTup (K : PySem.W.Frag) (tl : TE) : TI := fun σ H R => tl σ H fun x H1 => ∃ a,x = .ref a /\ (∃ xs,SqT K H1 a xs) /\ R (Itt K a) H1
theorem pi_list {l : Expr} {tl : TE} (hl : PE X l tl) : PI X tg l (iList X.K tl) := by
  intro pins s σ H R I h
  refine thn (hl pins s σ H _ I h) fun v s1 ⟨x,H1,I1,r1,q1⟩ => ?_
  obtain ⟨a,e,⟨xs,hq⟩,q⟩ := q1
  subst e
  cases r1
  obtain ⟨its,rv,p,hz⟩ := I1.list hq
  refine wpAny_pyIter_list p.isList ?_
  refine ⟨s1.heap.objs.size,[s1.heap.objs.size],_,_,H1,rfl,I1.kept (t' := s1.toks) fun b o e => Heap.get?_push_of_some _ e,turn_list a _,⟨_,Heap.get?_push_size _ rfl,rfl,rfl⟩,fun b hb => ?_,q⟩
  have e : b = s1.heap.objs.size := by simpa using hb
  subst e
  exact I1.fpOk (Nat.le_refl _) (I1.hok.fresh (Nat.le_refl _))
theorem pi_tup {l : Expr} {tl : TE} (hl : PE X l tl) : PI X tg l (iTup X.K tl) := by
  intro pins s σ H R I h
  refine thn (hl pins s σ H _ I h) fun v s1 ⟨x,H1,I1,r1,q1⟩ => ?_
  obtain ⟨a,e,⟨xs,hq⟩,q⟩ := q1
  subst e
  cases r1
  obtain ⟨its,rv,p,hz⟩ := I1.tuple hq
  refine wpAny_pyIter_tuple (show s1.heap.IsTuple a its.toArray from p) ?_
  refine ⟨s1.heap.objs.size,[s1.heap.objs.size],_,_,H1,rfl,I1.kept (t' := s1.toks) fun b o e => Heap.get?_push_of_some _ e,turn_tuple a _,⟨_,Heap.get?_push_size _ rfl,rfl,rfl⟩,fun b hb => ?_,q⟩
  have e : b = s1.heap.objs.size := by simpa using hb
  subst e
  exact I1.fpOk (Nat.le_refl _) (I1.hok.fresh (Nat.le_refl _))
theorem range_it {pins : List (Addr × Obj)} {σ : St} {H : Hp} {s : Shared} {R : It -> Hp -> Prop} {E : Value -> Shared -> Prop} {lo hi : Int} {t u v : Tok} {tk : Nat} (I : Inv X pins σ H s) (h1 : -(2 ^ 62) <= lo) (h2 : lo < 2 ^ 62) (h3 : -(2 ^ 62) <= hi) (h4 : hi < 2 ^ 62)
    (q : R (Itr lo (hi - lo).toNat) H) : wpAny (model X.prog X.w) X.A (pyIter (.ref s.heap.objs.size)) (PIE X pins σ tg R) E { s with heap := s.heap.push { cls := .type "range",data := .fields #[.int lo t,.int hi u,.int 1 v] },toks := tk } := by
  refine wpAny_pyIter_range (IsRange.new ..) (small_one h1 h2 h3 h4) ?_
  have I1 : Inv X pins σ H { s with heap := s.heap.push { cls := .type "range",data := .fields #[.int lo t,.int hi u,.int 1 v] },toks := tk } := I.kept fun b o e => Heap.get?_push_of_some _ e
  refine ⟨(s.heap.push { cls := .type "range",data := .fields #[.int lo t,.int hi u,.int 1 v] }).objs.size,[(s.heap.push { cls := .type "range",data := .fields #[.int lo t,.int hi u,.int 1 v] }).objs.size],_,_,H,rfl,
    I1.kept (t' := tk) fun b o e => Heap.get?_push_of_some _ e,turn_range _ lo (hi - lo).toNat,?_,fun b hb => ?_,q⟩
  · have e1 : lo + ((0 : Nat) : Int) * 1 = lo := by simp
    have e2 : (((hi - lo).toNat : Nat) : Int) - ((0 : Nat) : Int) = Builtin.Range.rangeSize lo hi 1 := by rw [rangeSize_one]; split <;> omega
    show IsRangeIter _ _ (lo + ((0 : Nat) : Int) * 1) ((((hi - lo).toNat : Nat) : Int) - ((0 : Nat) : Int)) 1
    rw [e1,e2]
    exact Heap.get?_push_size _ rfl
  · have e : b = (s.heap.push { cls := .type "range",data := .fields #[.int lo t,.int hi u,.int 1 v] }).objs.size := by simpa using hb
    subst e
    exact I1.fpOk (Nat.le_refl _) (I1.hok.fresh (Nat.le_refl _))
def iRng1 (ta : TA) : TI := fun σ H R => ta σ H fun vs H1 => ∃ j : Int,vs = [.int j] /\ -(2 ^ 62) <= j /\ j < 2 ^ 62 /\ R (Itr 0 j.toNat) H1
def iRng2 (ta : TA) : TI := fun σ H R => ta σ H fun vs H1 => ∃ i j : Int,vs = [.int i,.int j] /\ (-(2 ^ 62) <= i /\ i < 2 ^ 62 /\ -(2 ^ 62) <= j /\ j < 2 ^ 62) /\ R (Itr i (j - i).toNat) H1
theorem pi_range1 {a : Expr} {ta : TA} {p pos : Pos} (hg : Gl X "range") (hm : X.mg "range" = none) (ha : PA X [a] ta) (hs : starEach [a] X.env = [(false,eval a X.env)] := by rfl) : PI X tg (.Call (.Name "range" p) [a] [] pos) (iRng1 ta) := by
  intro pins s σ H R I h
  refine Call_ (ld_blt I hg hm boot_range (PyProof.Rows.callWith_type1 (thn (ha pos pins s σ H _ I h) fun us s1 ⟨vs,H1,I1,r1,q1⟩ => ?_) hs rfl))
  obtain ⟨j,e,q1,q2,q⟩ := q1
  subst e
  cases r1 with
  | cons r rr =>
    cases rr
    obtain ⟨t,rfl⟩ := r
    exact call_range_1 (range_it I1 (by omega) (by omega) q1 q2 (by simpa using q))
theorem pi_range2 {a b : Expr} {ta : TA} {p pos : Pos} (hg : Gl X "range") (hm : X.mg "range" = none) (ha : PA X [a,b] ta) (hs : starEach [a,b] X.env = [(false,eval a X.env),(false,eval b X.env)] := by rfl) (hs2 : starEach [b] X.env = [(false,eval b X.env)] := by rfl) :
    PI X tg (.Call (.Name "range" p) [a,b] [] pos) (iRng2 ta) := by
  intro pins s σ H R I h
  refine Call_ (ld_blt I hg hm boot_range (PyProof.Rows.callWith_type1 (thn (ha pos pins s σ H _ I h) fun us s1 ⟨vs,H1,I1,r1,q1⟩ => ?_) (by rw [hs,hs2]) (by rw [hs2]; rfl)))
  obtain ⟨i,j,e,⟨q1,q2,q3,q4⟩,q⟩ := q1
  subst e
  cases r1 with
  | cons r rr =>
    cases rr with
    | cons r' rr =>
      cases rr
      obtain ⟨t,rfl⟩ := r
      obtain ⟨t',rfl⟩ := r'
      exact call_range_2 (range_it I1 q1 q2 q3 q4 q)
def tFor (wi : TI) (g : TG) (tb : TS) : TS := fun D σ H => wi σ H fun J H1 => ∃ W : Nat -> Nat -> St -> Hp -> Prop,(∃ m,W 0 m σ H1) /\ ∀ i m σ H,W i m σ H ->
  (J.stop i H /\ D.nx σ H) \/ (J.go i H /\ ∃ N : St -> Hp -> Prop,(∀ σ' H',N σ' H' -> ∃ m',m' < m /\ W (i + 1) m' σ' H') /\ ∀ x H',J.yld i H x H' -> g x σ H' fun σ2 H2 => tb { D with nx := N,ct := N,bk := D.nx } σ2 H2)
def pinsAt (fp : List Addr) (h : Heap) : List (Addr × Obj) := fp.filterMap fun b => (h.get? b).map fun o => (b,o)
theorem mem_pinsAt {fp : List Addr} {h : Heap} {b : Addr} {o : Obj} (hb : b ∈ fp) (e : h.get? b = some o) : (b,o) ∈ pinsAt fp h := List.mem_filterMap.mpr ⟨b,hb,by rw [e]; rfl⟩
theorem of_pinsAt {fp : List Addr} {h : Heap} {p : Addr × Obj} (hp : p ∈ pinsAt fp h) : p.1 ∈ fp /\ h.get? p.1 = some p.2 := by
  obtain ⟨b,hb,e⟩ := List.mem_filterMap.mp hp
  cases q : h.get? b with
  | none => rw [q] at e; cases e
  | some o =>
    rw [q] at e
    have e' : (b,o) = p := Option.some.inj e
    subst e'
    exact ⟨hb,q⟩
theorem Inv.pinned {pins : List (Addr × Obj)} {σ : St} {H : Hp} {s : Shared} {fp : List Addr} (I : Inv X pins σ H s) (hf : ∀ b ∈ fp,FpOk X pins H b) (ho : ∀ b ∈ fp,∃ o,s.heap.get? b = some o /\ ∀ v,o.data ≠ .cell v) : Inv X (pins ++ pinsAt fp s.heap) σ H s :=
  I.pins_of fun p hp => (List.mem_append.mp hp).elim (fun z => I.pin p (List.mem_append_right _ z)) fun z => by
    obtain ⟨hb,e⟩ := of_pinsAt z
    obtain ⟨f0,f1,f2,_⟩ := hf p.1 hb
    obtain ⟨o,e',d⟩ := ho p.1 hb
    rw [e] at e'; cases e'
    exact ⟨e,f0,f1,f2,d⟩
theorem Inv.unpinned {pins pl : List (Addr × Obj)} {σ : St} {H : Hp} {s : Shared} (I : Inv X (pins ++ pl) σ H s) : Inv X pins σ H s := I.pins_of fun p hp => I.pin p (List.mem_append_right _ (List.mem_append_left _ hp))
theorem ps_for {iter : Expr} {body : List Stmt} {wi : TI} {g : TG} {tb : TS} {pos : Pos} (hp : PassesOwn (model X.prog X.w) X.A X.env X.xe) (hc : X.calm = true) (hi : PI X tg iter wi) (hg : PG X tg g) (hb : PSs X body tb)
    (hs : ∀ x,foldedSetIterable iter X.env x = pure x := by intro _; rfl) : PS X (.For tg iter body [] pos) (tFor wi g tb) := by
  intro pins s σ H D I h
  refine wpAny_For (thn (hi pins s σ H _ I h) fun v s1 h1 => thn h1 fun itv s2 h2 => ?_) hs
  obtain ⟨it,fp,tn,J,H2,e,I2,T,st2,f2,W,⟨m0,w0⟩,turn⟩ := h2
  subst e
  have stat : ∀ {H' : Hp},(∀ b ∈ fp,H' b = none) -> ∀ b ∈ fp,FpOk X pins H' b := fun hn b hb => ⟨hn b hb,(f2 b hb).2⟩
  refine codeAny_forLoop_any (fun n s' => ∃ i σ' H',Inv X pins σ' H' s' /\ tn i s'.heap /\ (∀ b ∈ fp,H' b = none) /\ W i n σ' H') ?_ m0 ⟨0,σ,H2,I2,st2,fun b hb => (f2 b hb).1,w0⟩
  rintro n s3 ⟨i,σ3,H3,I3,st3,fr3,w3⟩
  rcases turn i n σ3 H3 w3 with ⟨stop,qn⟩ | ⟨go,N,hN,step⟩
  · refine wpAny_passesOwn hp (thn (T.done X rfl rfl rfl hc i pins s3 σ3 H3 X.xe I3 (stat fr3) st3 stop) fun r s4 ⟨hr,I4⟩ => ?_)
    subst hr
    exact wpAny_execs_nil ⟨σ3,H3,I4,qn⟩
  · refine wpAny_passesOwn hp (thn (T.item X rfl rfl rfl hc i pins s3 σ3 H3 X.xe I3 (stat fr3) st3 go) fun r s4 ⟨u,hr,h4⟩ => ?_)
    subst hr
    refine wpAny_passesOwn hp (thn h4 fun _ s5 ⟨x,H5,I5,r5,y5,st5,fr5⟩ => ?_)
    have I5' := I5.pinned (stat fr5) (T.obj _ _ st5)
    refine wpAny_passesOwn hp (thn (hg _ s5 σ3 H5 x u _ I5' r5 (step x H5 y5)) fun _ s6 ⟨σ6,H6,I6,q6⟩ => ?_)
    refine wpAny_passesOwn hp (thn (hb _ s6 σ6 H6 _ I6 q6) fun f s7 q7 => ?_)
    have again : ∀ {σ7 : St} {H7 : Hp},Inv X (pins ++ pinsAt fp s5.heap) σ7 H7 s7 -> N σ7 H7 -> ∃ m,m < n /\ ∃ i σ' H',Inv X pins σ' H' s7 /\ tn i s7.heap /\ (∀ b ∈ fp,H' b = none) /\ W i m σ' H' := fun {σ7 H7} I7 n7 => by
      obtain ⟨m',hm,w7⟩ := hN σ7 H7 n7
      refine ⟨m',hm,i + 1,σ7,H7,I7.unpinned,T.keep _ _ _ st5 fun b hb o e => (I7.pin (b,o) (List.mem_append_right _ (List.mem_append_right _ (mem_pinsAt hb e)))).1,fun b hb => ?_,w7⟩
      obtain ⟨o,e,d⟩ := T.obj _ _ st5 b hb
      exact (I7.pin (b,o) (List.mem_append_right _ (List.mem_append_right _ (mem_pinsAt hb e)))).2.1
    cases f with
    | next => obtain ⟨σ7,H7,I7,n7⟩ := q7; exact again I7 n7
    | cont => obtain ⟨σ7,H7,I7,n7⟩ := q7; exact again I7 n7
    | brk => obtain ⟨σ7,H7,I7,q7⟩ := q7; exact ⟨σ7,H7,I7.unpinned,q7⟩
    | ret v => obtain ⟨x7,σ7,H7,I7,r7,q7⟩ := q7; exact ⟨x7,σ7,H7,I7.unpinned,r7,q7⟩
end
theorem for_list {K : PySem.W.Frag} {a : Addr} {xs : List V} {g : TG} {tb : TS} {D : Ends} {σ : St} {H : Hp} (Pv : Nat -> St -> Hp -> Prop) (h0 : Pv 0 σ H) (hl : ∀ i σ H,i <= xs.length -> Pv i σ H -> SqL K H a xs)
    (hs : ∀ i x σ H,xs[i]? = some x -> Pv i σ H -> g x σ H fun σ2 H2 => tb { D with nx := Pv (i + 1),ct := Pv (i + 1),bk := D.nx } σ2 H2) (hd : ∀ σ H,Pv xs.length σ H -> D.nx σ H) :
    ∃ W : Nat -> Nat -> St -> Hp -> Prop,(∃ m,W 0 m σ H) /\ ∀ i m σ H,W i m σ H ->
      ((Itl K a).stop i H /\ D.nx σ H) \/ ((Itl K a).go i H /\ ∃ N : St -> Hp -> Prop,(∀ σ' H',N σ' H' -> ∃ m',m' < m /\ W (i + 1) m' σ' H') /\ ∀ x H',(Itl K a).yld i H x H' -> g x σ H' fun σ2 H2 => tb { D with nx := N,ct := N,bk := D.nx } σ2 H2) := by
  refine ⟨fun i m σ H => m = xs.length - i /\ i <= xs.length /\ Pv i σ H,⟨xs.length,by simp,Nat.zero_le _,h0⟩,?_⟩
  rintro i m σ H ⟨rfl,hi,p⟩
  have q := hl i σ H hi p
  by_cases hlt : i < xs.length
  · refine .inr ⟨⟨xs,xs[i],q,by simp [hlt]⟩,Pv (i + 1),fun σ' H' p' => ⟨xs.length - (i + 1),by omega,rfl,hlt,p'⟩,fun x H' y => ?_⟩
    obtain ⟨e,y⟩ := y
    subst e
    exact hs i x σ _ (y xs q) p
  · have e : i = xs.length := by omega
    subst e
    exact .inl ⟨⟨xs,q,Nat.le_refl _⟩,hd σ H p⟩
theorem for_tup {K : PySem.W.Frag} {a : Addr} {xs : List V} {g : TG} {tb : TS} {D : Ends} {σ : St} {H : Hp} (Pv : Nat -> St -> Hp -> Prop) (h0 : Pv 0 σ H) (hl : ∀ i σ H,i <= xs.length -> Pv i σ H -> SqT K H a xs)
    (hs : ∀ i x σ H,xs[i]? = some x -> Pv i σ H -> g x σ H fun σ2 H2 => tb { D with nx := Pv (i + 1),ct := Pv (i + 1),bk := D.nx } σ2 H2) (hd : ∀ σ H,Pv xs.length σ H -> D.nx σ H) :
    ∃ W : Nat -> Nat -> St -> Hp -> Prop,(∃ m,W 0 m σ H) /\ ∀ i m σ H,W i m σ H ->
      ((Itt K a).stop i H /\ D.nx σ H) \/ ((Itt K a).go i H /\ ∃ N : St -> Hp -> Prop,(∀ σ' H',N σ' H' -> ∃ m',m' < m /\ W (i + 1) m' σ' H') /\ ∀ x H',(Itt K a).yld i H x H' -> g x σ H' fun σ2 H2 => tb { D with nx := N,ct := N,bk := D.nx } σ2 H2) := by
  refine ⟨fun i m σ H => m = xs.length - i /\ i <= xs.length /\ Pv i σ H,⟨xs.length,by simp,Nat.zero_le _,h0⟩,?_⟩
  rintro i m σ H ⟨rfl,hi,p⟩
  have q := hl i σ H hi p
  by_cases hlt : i < xs.length
  · refine .inr ⟨⟨xs,xs[i],q,by simp [hlt]⟩,Pv (i + 1),fun σ' H' p' => ⟨xs.length - (i + 1),by omega,rfl,hlt,p'⟩,fun x H' y => ?_⟩
    obtain ⟨e,y⟩ := y
    subst e
    exact hs i x σ _ (y xs q) p
  · have e : i = xs.length := by omega
    subst e
    exact .inl ⟨⟨xs,q,Nat.le_refl _⟩,hd σ H p⟩
theorem for_range {lo : Int} {n : Nat} {g : TG} {tb : TS} {D : Ends} {σ : St} {H : Hp} (Pv : Nat -> St -> Hp -> Prop) (h0 : Pv 0 σ H)
    (hs : ∀ i σ H,i < n -> Pv i σ H -> g (.int (lo + i)) σ H fun σ2 H2 => tb { D with nx := Pv (i + 1),ct := Pv (i + 1),bk := D.nx } σ2 H2) (hd : ∀ σ H,Pv n σ H -> D.nx σ H) :
    ∃ W : Nat -> Nat -> St -> Hp -> Prop,(∃ m,W 0 m σ H) /\ ∀ i m σ H,W i m σ H ->
      ((Itr lo n).stop i H /\ D.nx σ H) \/ ((Itr lo n).go i H /\ ∃ N : St -> Hp -> Prop,(∀ σ' H',N σ' H' -> ∃ m',m' < m /\ W (i + 1) m' σ' H') /\ ∀ x H',(Itr lo n).yld i H x H' -> g x σ H' fun σ2 H2 => tb { D with nx := N,ct := N,bk := D.nx } σ2 H2) := by
  refine ⟨fun i m σ H => m = n - i /\ i <= n /\ Pv i σ H,⟨n,by simp,Nat.zero_le _,h0⟩,?_⟩
  rintro i m σ H ⟨rfl,hi,p⟩
  by_cases hlt : i < n
  · refine .inr ⟨hlt,Pv (i + 1),fun σ' H' p' => ⟨n - (i + 1),by omega,rfl,hlt,p'⟩,fun x H' y => ?_⟩
    obtain ⟨e,y⟩ := y
    subst e y
    exact hs i σ _ hlt p
  · have e : i = n := by omega
    subst e
    exact .inl ⟨Nat.le_refl _,hd σ H p⟩
end L2
namespace L2
open PySem PySem.Spec PyProof.Rows
abbrev R2 := V -> V -> Hp -> VK -> Prop
def OpR (X : Cx) (f : Value -> Value -> Sem Value) (r : R2) : Prop :=
  ∀ (pins : List (Addr × Obj)) (s : Shared) (σ : St) (H : Hp) (x y : V) (v u : Value) (Q : VK),Inv X pins σ H s -> RelV x v -> RelV y u -> r x y H Q ->
    wpAny (model X.prog X.w) X.A (f v u) (EP X pins σ Q) X.xe s
def UnR (X : Cx) (f : Value -> Sem Value) (r : V -> Hp -> VK -> Prop) : Prop :=
  ∀ (pins : List (Addr × Obj)) (s : Shared) (σ : St) (H : Hp) (x : V) (v : Value) (Q : VK),Inv X pins σ H s -> RelV x v -> r x H Q ->
    wpAny (model X.prog X.w) X.A (f v) (EP X pins σ Q) X.xe s
def CallR (X : Cx) (f : Value) (r : List V -> Hp -> VK -> Prop) : Prop :=
  ∀ (pins : List (Addr × Obj)) (s : Shared) (σ : St) (H : Hp) (xs : List V) (us : List Value) (Q : VK),Inv X pins σ H s -> Vals xs us -> r xs H Q ->
    wpAny (model X.prog X.w) X.A (call f us) (EP X pins σ Q) X.xe s
def tOp (r : R2) (ta tb : TE) : TE := fun σ H Q => ta σ H fun x H1 => tb σ H1 fun y H2 => r x y H2 Q
def tUn (r : V -> Hp -> VK -> Prop) (ta : TE) : TE := fun σ H Q => ta σ H fun x H1 => r x H1 Q
def rI (C : Int -> Int -> Prop) (g : Int -> Int -> V) : R2 := fun x y H Q => ∃ i j,x = .int i /\ y = .int j /\ C i j /\ Q (g i j) H
def rI0 (g : Int -> Int -> V) : R2 := fun x y H Q => ∃ i j,x = .int i /\ y = .int j /\ Q (g i j) H
def rU (g : Int -> V) : V -> Hp -> VK -> Prop := fun x H Q => ∃ i,x = .int i /\ Q (g i) H
section
variable {X : Cx} {a b c : Expr} {ta tb tc : TE} {pos : Pos}
theorem binT (ha : PE X a ta) (hb : PE X b tb) {pins : List (Addr × Obj)} {s : Shared} {σ : St} {H : Hp} {R : V -> V -> Hp -> Prop} (I : Inv X pins σ H s)
    (h : ta σ H fun x H1 => tb σ H1 fun y H2 => R x y H2) {Q : Value -> Shared -> Prop} {f : Value -> Value -> Sem Value}
    (hf : ∀ v u s2 x y H2,Inv X pins σ H2 s2 -> RelV x v -> RelV y u -> R x y H2 -> wpAny (model X.prog X.w) X.A (f v u) Q X.xe s2) :
    wpAny (model X.prog X.w) X.A (eval a X.env) (fun v s₁ => wpAny (model X.prog X.w) X.A (eval b X.env) (fun u s₂ => wpAny (model X.prog X.w) X.A (f v u) Q X.xe s₂) X.xe s₁) X.xe s := by
  refine thn (ha pins s σ H _ I h) fun v s1 ⟨x,H1,I1,r1,q1⟩ => ?_
  refine thn (hb pins s1 σ H1 _ I1 q1) fun u s2 ⟨y,H2,I2,r2,q2⟩ => ?_
  exact hf v u s2 x y H2 I2 r1 r2 q2
theorem pe_op {op : Operator} {r : R2} (ho : OpR X (binaryOp op) r) (ha : PE X a ta) (hb : PE X b tb) : PE X (.BinOp a op b pos) (tOp r ta tb) := by
  intro pins s σ H Q I h
  exact wpAny_BinOp (binT ha hb I h fun v u s2 x y H2 I2 rx ry q => ho pins s2 σ H2 x y v u Q I2 rx ry q)
theorem pe_un {op : UnaryOp} {r : V -> Hp -> VK -> Prop} (ho : UnR X (unaryOp op) r) (ha : PE X a ta) : PE X (.UnaryOp op a pos) (tUn r ta) := by
  intro pins s σ H Q I h
  exact UnaryOp_ (thn (ha pins s σ H _ I h) fun v s1 ⟨x,H1,I1,r1,q1⟩ => ho pins s1 σ H1 x v Q I1 r1 q1)
theorem opI {f : Value -> Value -> Sem Value} {C : Int -> Int -> Prop} {g : Int -> Int -> Int}
    (rule : ∀ (i j : Int) (t u : Tok) (s : Shared) (Q : Value -> Shared -> Prop) (E : Value -> Shared -> Prop),C i j -> Q (.int (g i j) s.toks) { s with toks := s.toks + 1 } -> wpAny (model X.prog X.w) X.A (f (.int i t) (.int j u)) Q E s) :
    OpR X f (rI C fun i j => .int (g i j)) := by
  intro pins s σ H x y v u Q I rx ry h
  obtain ⟨i,j,rfl,rfl,hc,q⟩ := h
  obtain ⟨t,rfl⟩ := rx
  obtain ⟨t',rfl⟩ := ry
  exact rule i j t t' s _ _ hc ⟨.int (g i j),H,I.tok _,⟨_,rfl⟩,q⟩
theorem opI0 {f : Value -> Value -> Sem Value} {g : Int -> Int -> Int}
    (rule : ∀ (i j : Int) (t u : Tok) (s : Shared) (Q : Value -> Shared -> Prop) (E : Value -> Shared -> Prop),Q (.int (g i j) s.toks) { s with toks := s.toks + 1 } -> wpAny (model X.prog X.w) X.A (f (.int i t) (.int j u)) Q E s) :
    OpR X f (rI0 fun i j => .int (g i j)) := by
  intro pins s σ H x y v u Q I rx ry h
  obtain ⟨i,j,rfl,rfl,q⟩ := h
  obtain ⟨t,rfl⟩ := rx
  obtain ⟨t',rfl⟩ := ry
  exact rule i j t t' s _ _ ⟨.int (g i j),H,I.tok _,⟨_,rfl⟩,q⟩
theorem opB0 {f : Value -> Value -> Sem Value} {g : Int -> Int -> Bool}
    (rule : ∀ (i j : Int) (t u : Tok) (s : Shared) (Q : Value -> Shared -> Prop) (E : Value -> Shared -> Prop),Q (.bool (g i j)) s -> wpAny (model X.prog X.w) X.A (f (.int i t) (.int j u)) Q E s) :
    OpR X f (rI0 fun i j => .bl (g i j)) := by
  intro pins s σ H x y v u Q I rx ry h
  obtain ⟨i,j,rfl,rfl,q⟩ := h
  obtain ⟨t,rfl⟩ := rx
  obtain ⟨t',rfl⟩ := ry
  exact rule i j t t' s _ _ ⟨.bl (g i j),H,I,rfl,q⟩
def CPow (i j : Int) : Prop := 0 <= j /\ j <= 1000000 /\ i.natAbs < 2 ^ 64
def CMul (i j : Int) : Prop := (-(2 ^ 64) < i /\ i < 2 ^ 64) \/ (-(2 ^ 64) < j /\ j < 2 ^ 64)
theorem CMul.ok {i j : Int} (h : CMul i j) : IntMulOk i j := by
  rcases h with ⟨h1,h2⟩ | ⟨h1,h2⟩
  · exact .of_left (intBits_le_64 h1 h2)
  · exact .of_right (intBits_le_64 h1 h2)
theorem op_add : OpR X (binaryOp .Add) (rI0 fun i j => .int (i + j)) := opI0 fun _ _ _ _ _ _ _ q => add_int q
theorem op_sub : OpR X (binaryOp .Sub) (rI0 fun i j => .int (i - j)) := opI0 fun _ _ _ _ _ _ _ q => sub_int q
theorem op_mod : OpR X (binaryOp .Mod) (rI (fun _ j => 0 < j) fun i j => .int (i % j)) := opI fun i j _ _ _ _ _ hc q => by
  have h1 : (0 : Int) < j := hc
  exact mod_int' (by omega) (by rw [Int.fmod_eq_emod_of_nonneg i (by omega)]; exact q)
theorem op_pow : OpR X (binaryOp .Pow) (rI CPow fun i j => .int (i ^ j.toNat)) := opI fun _ _ _ _ _ _ _ hc q => pow_int_small hc.1 hc.2.1 hc.2.2 q
theorem unI {f : Value -> Sem Value} {g : Int -> Int}
    (rule : ∀ (i : Int) (t : Tok) (s : Shared) (Q : Value -> Shared -> Prop) (E : Value -> Shared -> Prop),Q (.int (g i) s.toks) { s with toks := s.toks + 1 } -> wpAny (model X.prog X.w) X.A (f (.int i t)) Q E s) :
    UnR X f (rU fun i => .int (g i)) := by
  intro pins s σ H x v Q I rx h
  obtain ⟨i,rfl,q⟩ := h
  obtain ⟨t,rfl⟩ := rx
  exact rule i t s _ _ ⟨.int (g i),H,I.tok _,⟨_,rfl⟩,q⟩
theorem un_neg : UnR X (unaryOp .USub) (rU fun i => .int (-i)) := unI fun _ _ _ _ _ q => neg_int q
end
def scal : V -> V -> Bool
  | .non,.non => true | .non,.int _ => true | .int _,.non => true | .non,.bl _ => true | .bl _,.non => true | .non,.str _ => true | .str _,.non => true
  | .int _,.int _ => true | .bl _,.bl _ => true | .str _,.str _ => true | .byt _,.byt _ => true
  | .int _,.str _ => true | .str _,.int _ => true | .bl _,.str _ => true | .str _,.bl _ => true
  | _,_ => false
def rEq : R2 := fun x y H Q => scal x y = true /\ Q (.bl (decide (x = y))) H
def rNe : R2 := fun x y H Q => scal x y = true /\ Q (.bl (!decide (x = y))) H
theorem dec_int {i j : Int} : decide (V.int i = V.int j) = (i == j) := by
  rw [Bool.eq_iff_iff]
  simp
theorem dec_bl {i j : Bool} : decide (V.bl i = V.bl j) = (i == j) := by
  rw [Bool.eq_iff_iff]
  simp
theorem dec_str {i j : Str} : decide (V.str i = V.str j) = (i == j) := by
  rw [Bool.eq_iff_iff]
  simp
theorem dec_byt {i j : Array UInt8} : decide (V.byt i = V.byt j) = (i.toList == j.toList) := by
  rw [Bool.eq_iff_iff]
  cases i
  cases j
  simp
section
variable {X : Cx} {a b c : Expr} {ta tb tc : TE} {pos : Pos}
theorem fin_bl {pins : List (Addr × Obj)} {σ : St} {H : Hp} {s : Shared} {Q : VK} {k k' : Bool} (I : Inv X pins σ H s) (q : Q (.bl k) H) (e : k = k') : EP X pins σ Q (.bool k') s := by
  subst e
  exact ⟨.bl k,H,I,rfl,q⟩
theorem op_eq : OpR X (compareOp .Eq) rEq := by
  intro pins s σ H x y v u Q I rx ry h
  obtain ⟨hs,q⟩ := h
  cases x with
  | non =>
    cases rx
    cases y with
    | non => cases ry; exact PySem.EqNone.eq_none_none (fin_bl I q (by simp))
    | bl j => cases ry; exact PySem.EqNone.eq_none_bool (fin_bl I q (by simp))
    | int j => obtain ⟨t',rfl⟩ := ry; exact PySem.EqNone.eq_none_int (fin_bl I q (by simp))
    | str j => obtain ⟨t',rfl⟩ := ry; exact PySem.EqNone.eq_none_str (fin_bl I q (by simp))
    | _ => exact absurd (show false = true from hs) Bool.false_ne_true
  | bl i =>
    cases rx
    cases y with
    | non => cases ry; exact PySem.EqNone.eq_bool_none (fin_bl I q (by simp))
    | bl j => cases ry; exact eq_bool (fin_bl I q dec_bl)
    | str j => obtain ⟨t',rfl⟩ := ry; exact PySem.EqMixed.eq_bool_str (fin_bl I q (by simp))
    | _ => exact absurd (show false = true from hs) Bool.false_ne_true
  | int i =>
    obtain ⟨t,rfl⟩ := rx
    cases y with
    | non => cases ry; exact PySem.EqNone.eq_int_none (fin_bl I q (by simp))
    | int j => obtain ⟨t',rfl⟩ := ry; exact eq_int (fin_bl I q dec_int)
    | str j => obtain ⟨t',rfl⟩ := ry; exact PySem.EqMixed.eq_int_str (fin_bl I q (by simp))
    | _ => exact absurd (show false = true from hs) Bool.false_ne_true
  | str i =>
    obtain ⟨t,rfl⟩ := rx
    cases y with
    | non => cases ry; exact PySem.EqNone.eq_str_none (fin_bl I q (by simp))
    | bl j => cases ry; exact PySem.EqMixed.eq_str_bool (fin_bl I q (by simp))
    | int j => obtain ⟨t',rfl⟩ := ry; exact PySem.EqMixed.eq_str_int (fin_bl I q (by simp))
    | str j => obtain ⟨t',rfl⟩ := ry; exact eq_str (fin_bl I q dec_str)
    | _ => exact absurd (show false = true from hs) Bool.false_ne_true
  | byt i =>
    obtain ⟨t,rfl⟩ := rx
    cases y with
    | byt j => obtain ⟨t',rfl⟩ := ry; exact PySem.W.eq_bytes (fin_bl I q dec_byt)
    | _ => exact absurd (show false = true from hs) Bool.false_ne_true
  | _ => cases y <;> exact absurd (show false = true from hs) Bool.false_ne_true
theorem op_ne : OpR X (compareOp .NotEq) rNe := by
  intro pins s σ H x y v u Q I rx ry h
  obtain ⟨hs,q⟩ := h
  cases x with
  | non =>
    cases rx
    cases y with
    | non => cases ry; exact PySem.EqNone.ne_none_none (fin_bl I q (by simp))
    | bl j => cases ry; exact PySem.EqNone.ne_none_bool (fin_bl I q (by simp))
    | int j => obtain ⟨t',rfl⟩ := ry; exact PySem.EqNone.ne_none_int (fin_bl I q (by simp))
    | str j => obtain ⟨t',rfl⟩ := ry; exact PySem.EqNone.ne_none_str (fin_bl I q (by simp))
    | _ => exact absurd (show false = true from hs) Bool.false_ne_true
  | bl i =>
    cases rx
    cases y with
    | non => cases ry; exact PySem.EqNone.ne_bool_none (fin_bl I q (by simp))
    | bl j => cases ry; exact ne_bool (fin_bl I q (congrArg not dec_bl))
    | str j => obtain ⟨t',rfl⟩ := ry; exact PySem.EqMixed.ne_bool_str (fin_bl I q (by simp))
    | _ => exact absurd (show false = true from hs) Bool.false_ne_true
  | int i =>
    obtain ⟨t,rfl⟩ := rx
    cases y with
    | non => cases ry; exact PySem.EqNone.ne_int_none (fin_bl I q (by simp))
    | int j => obtain ⟨t',rfl⟩ := ry; exact ne_int (fin_bl I q (congrArg not dec_int))
    | str j => obtain ⟨t',rfl⟩ := ry; exact PySem.EqMixed.ne_int_str (fin_bl I q (by simp))
    | _ => exact absurd (show false = true from hs) Bool.false_ne_true
  | str i =>
    obtain ⟨t,rfl⟩ := rx
    cases y with
    | non => cases ry; exact PySem.EqNone.ne_str_none (fin_bl I q (by simp))
    | bl j => cases ry; exact PySem.EqMixed.ne_str_bool (fin_bl I q (by simp))
    | int j => obtain ⟨t',rfl⟩ := ry; exact PySem.EqMixed.ne_str_int (fin_bl I q (by simp))
    | str j => obtain ⟨t',rfl⟩ := ry; exact ne_str (fin_bl I q (congrArg not dec_str))
    | _ => exact absurd (show false = true from hs) Bool.false_ne_true
  | byt i =>
    obtain ⟨t,rfl⟩ := rx
    cases y with
    | byt j => obtain ⟨t',rfl⟩ := ry; exact PySem.W.ne_bytes (fin_bl I q (congrArg not dec_byt))
    | _ => exact absurd (show false = true from hs) Bool.false_ne_true
  | _ => cases y <;> exact absurd (show false = true from hs) Bool.false_ne_true
theorem op_lt : OpR X (compareOp .Lt) (rI0 fun i j => .bl (decide (i < j))) := opB0 fun _ _ _ _ _ _ _ q => lt_int q
theorem op_le : OpR X (compareOp .LtE) (rI0 fun i j => .bl (decide (i <= j))) := opB0 fun _ _ _ _ _ _ _ q => le_int q
theorem op_gt : OpR X (compareOp .Gt) (rI0 fun i j => .bl (decide (j < i))) := opB0 fun _ _ _ _ _ _ _ q => gt_int q
theorem op_ge : OpR X (compareOp .GtE) (rI0 fun i j => .bl (decide (j <= i))) := opB0 fun _ _ _ _ _ _ _ q => ge_int q
theorem op_isN : OpR X (compareOp .Is) (fun x y H Q => y = .non /\ Q (.bl (decide (x = .non))) H) := by
  intro pins s σ H x y v u Q I rx ry h
  obtain ⟨rfl,q⟩ := h
  cases ry
  refine is_none_gen (fin_bl I q ?_)
  cases x <;> first
    | (cases rx; rfl)
    | (obtain ⟨t,rfl⟩ := rx; rfl)
theorem op_notN : OpR X (compareOp .IsNot) (fun x y H Q => y = .non /\ Q (.bl (!decide (x = .non))) H) := by
  intro pins s σ H x y v u Q I rx ry h
  obtain ⟨rfl,q⟩ := h
  cases ry
  refine isnot_none_gen (fin_bl I q ?_)
  cases x <;> first
    | (cases rx; rfl)
    | (obtain ⟨t,rfl⟩ := rx; rfl)
theorem nomark (b : Expr) {op : CmpOp} (h : op ≠ .In := by decide) (h2 : op ≠ .NotIn := by decide) : behindInMarks op b = false := by
  have e1 : (op == CmpOp.In) = false := by cases op <;> first | rfl | exact absurd rfl h
  have e2 : (op == CmpOp.NotIn) = false := by cases op <;> first | rfl | exact absurd rfl h2
  cases b <;> simp [behindInMarks,e1,e2]
theorem pe_cmpR {op : CmpOp} {r : R2} (ho : OpR X (compareOp op) r) (ha : PE X a ta) (hb : PE X b tb) (hm : behindInMarks op b = false) : PE X (.Compare a [op] [b] pos) (tOp r ta tb) := by
  intro pins s σ H Q I h
  exact wpAny_Compare1 (binT ha hb I h fun v u s2 x y H2 I2 rx ry q => ho pins s2 σ H2 x y v u Q I2 rx ry q) hm
def tTest (t : TE) : TT := fun σ H Q => t σ H fun x H' => ∃ k,x = .bl k /\ Q k H'
theorem pt_cmpR {op : CmpOp} {r : R2} (ho : OpR X (compareOp op) r) (ha : PE X a ta) (hb : PE X b tb) (hm : behindInMarks op b = false) : PT X (.Compare a [op] [b] pos) (tTest (tOp r ta tb)) := by
  intro pins s σ H Q I h
  refine wpAny_isTrue_Compare1 (thn (ha pins s σ H _ I h) fun v s1 ⟨x,H1,I1,r1,q1⟩ => thn (hb pins s1 σ H1 _ I1 q1) fun u s2 ⟨y,H2,I2,r2,q2⟩ =>
    thn (ho pins s2 σ H2 x y v u _ I2 r1 r2 q2) fun c s3 ⟨z,H3,I3,r3,k,e,q3⟩ => ?_) hm
  subst e
  cases r3
  exact wpAny_truthy_bool ⟨H3,I3,q3⟩
def tChain (r r' : R2) (ta tb tc : TE) : TE := fun σ H Q => ta σ H fun x H1 => tb σ H1 fun y H2 => r x y H2 fun z H3 => ∃ k,z = .bl k /\
  (if k = true then tc σ H3 fun w' H4 => r' y w' H4 Q else Q (.bl false) H3)
theorem pe_chain {op op' : CmpOp} {r r' : R2} (ho : OpR X (compareOp op) r) (ho' : OpR X (compareOp op') r') (ha : PE X a ta) (hb : PE X b tb) (hc : PE X c tc)
    (hm : lastMarks [op,op'] [b,c] = false := by with_unfolding_all rfl) : PE X (.Compare a [op,op'] [b,c] pos) (tChain r r' ta tb tc) := by
  intro pins s σ H Q I h
  refine Compare_chain (thn (ha pins s σ H _ I h) fun v s1 ⟨x,H1,I1,r1,q1⟩ => chain_link (thn (hb pins s1 σ H1 _ I1 q1) fun u s2 ⟨y,H2,I2,r2,q2⟩ =>
    thn (ho pins s2 σ H2 x y v u _ I2 r1 r2 q2) fun d s3 ⟨z,H3,I3,r3,k,e,q3⟩ => ?_)) hm
  subst e
  cases r3
  refine wpAny_truthy_bool ?_
  cases k with
  | false => exact ite_ff ⟨.bl false,H3,I3,rfl,q3⟩
  | true => exact ite_tt (chain_last (thn (hc pins s3 σ H3 _ I3 q3) fun w' s4 ⟨z',H4,I4,r4,q4⟩ => ho' pins s4 σ H4 y z' u w' Q I4 r2 r4 q4))
theorem pt_chain {op op' : CmpOp} {r r' : R2} (ho : OpR X (compareOp op) r) (ho' : OpR X (compareOp op') r') (ha : PE X a ta) (hb : PE X b tb) (hc : PE X c tc)
    (hm : lastMarks [op,op'] [b,c] = false := by with_unfolding_all rfl) : PT X (.Compare a [op,op'] [b,c] pos) (tTest (tChain r r' ta tb tc)) := by
  intro pins s σ H Q I h
  refine isTrue_chain (thn (ha pins s σ H _ I h) fun v s1 ⟨x,H1,I1,r1,q1⟩ => test_link (thn (hb pins s1 σ H1 _ I1 q1) fun u s2 ⟨y,H2,I2,r2,q2⟩ =>
    thn (ho pins s2 σ H2 x y v u _ I2 r1 r2 q2) fun d s3 ⟨z,H3,I3,r3,k,e,q3⟩ => ?_)) hm
  subst e
  cases r3
  refine wpAny_truthy_bool ?_
  cases k with
  | false =>
    obtain ⟨k',e',q'⟩ := q3
    cases e'
    exact ite_ff ⟨H3,I3,q'⟩
  | true =>
    refine ite_tt (test_last (thn (hc pins s3 σ H3 _ I3 q3) fun w' s4 ⟨z',H4,I4,r4,q4⟩ => thn (ho' pins s4 σ H4 y z' u w' _ I4 r2 r4 q4) fun d' s5 ⟨z2,H5,I5,r5,k2,e2,q5⟩ => ?_))
    subst e2
    cases r5
    exact wpAny_truthy_bool ⟨H5,I5,q5⟩
theorem line63 : (sizeLine : Nat) < 2 ^ 63 := by rw [sizeLine_eq]; decide
theorem op_add_str : OpR X (binaryOp .Add) (fun x y H Q => ∃ i j,x = .str i /\ y = .str j /\ i.length + j.length <= sizeLine /\ Q (.str (i ++ j)) H) := by
  intro pins s σ H x y v u Q I rx ry h
  obtain ⟨i,j,rfl,rfl,hz,q⟩ := h
  obtain ⟨t,rfl⟩ := rx
  obtain ⟨t',rfl⟩ := ry
  exact add_str (fun t' tk => ⟨.str (i ++ j),H,I.tok _,⟨_,rfl⟩,q⟩) hz
theorem vals1 {x : V} {us : List Value} (r : Vals [x] us) : ∃ u,us = [u] /\ RelV x u := by
  cases r with
  | cons r1 r2 => cases r2; exact ⟨_,rfl,r1⟩
theorem vals2 {x y : V} {us : List Value} (r : Vals [x,y] us) : ∃ u w',us = [u,w'] /\ RelV x u /\ RelV y w' := by
  cases r with
  | cons r1 r2 =>
    cases r2 with
    | cons r3 r4 => cases r4; exact ⟨_,_,rfl,r1,r3⟩
theorem call_max2 (hc : X.calm = true) : CallR X (.builtin "max") (fun xs H Q => ∃ i j,xs = [.int i,.int j] /\ Q (.int (if j > i then j else i)) H) := by
  intro pins s σ H xs us Q I r h
  obtain ⟨i,j,rfl,q⟩ := h
  obtain ⟨u,w',rfl,⟨t,rfl⟩,⟨t',rfl⟩⟩ := vals2 r
  refine max_two_ints (I.ok.hd hc) fun h' tk k => ⟨_,H,I.kept k,?_,q⟩
  by_cases hj : j > i
  · rw [if_pos hj,if_pos hj]; exact ⟨_,rfl⟩
  · rw [if_neg hj,if_neg hj]; exact ⟨_,rfl⟩
theorem call_min2 (hc : X.calm = true) : CallR X (.builtin "min") (fun xs H Q => ∃ i j,xs = [.int i,.int j] /\ Q (.int (if j < i then j else i)) H) := by
  intro pins s σ H xs us Q I r h
  obtain ⟨i,j,rfl,q⟩ := h
  obtain ⟨u,w',rfl,⟨t,rfl⟩,⟨t',rfl⟩⟩ := vals2 r
  refine min_two_ints (I.ok.hd hc) fun h' tk k => ⟨_,H,I.kept k,?_,q⟩
  by_cases hj : j < i
  · rw [if_pos hj,if_pos hj]; exact ⟨_,rfl⟩
  · rw [if_neg hj,if_neg hj]; exact ⟨_,rfl⟩
end
end L2
namespace L2
open PySem PySem.Spec PyProof.Rows
structure ObjM (h : Heap) (x dx C : Addr) (mA : Str -> Option Value) : Prop where
  obj : h.get? x = some (PySem.W.instObj C dx)
  ns : h.Ns1 dx mA
  ne : dx ≠ x
theorem lookIn_ns {h : Heap} {dx : Addr} {mA : Str -> Option Value} (n : h.Ns1 dx mA) : ∃ od,h.get? dx = some od /\ ∀ name,PySem.W.lookIn name od = some (mA name) := by
  obtain ⟨o,es,ep,ho,hd,hk,_,hm⟩ := n
  refine ⟨o,ho,fun name => ?_⟩
  have e := hm name
  unfold nsFind findBy at e
  rw [<- Array.find?_toList] at e
  unfold PySem.W.lookIn
  rw [hd]
  dsimp only
  split
  · rename_i y q
    rw [q] at e
    exact congrArg some e
  · rename_i q
    rw [q] at e
    have a : es.toList.any (·.refKey) = false := by
      rw [List.any_eq_false]
      intro y hy
      obtain ⟨z,t,hkey⟩ := hk y (Array.mem_toList_iff.mp hy)
      simp [DictEntry.refKey,hkey]
    have a' : ¬ es.toList.any (·.refKey) = true := by rw [a]; exact Bool.false_ne_true
    rw [if_neg a']
    exact congrArg some e
theorem ObjM.look {h : Heap} {x dx C : Addr} {mA : Str -> Option Value} (I : ObjM h x dx C mA) : ∃ od,PySem.W.InstAt h x (PySem.W.instObj C dx) C (some od) /\ ∀ name,PySem.W.lookIn name od = some (mA name) :=
  let ⟨od,ho,hl⟩ := lookIn_ns I.ns
  ⟨od,⟨I.obj,rfl,rfl,ho⟩,hl⟩
section
variable {prog : Program} {w : World} {A : Around} {E : Value -> Shared -> Prop} {s : Shared} {K : PySem.W.Frag} {x dx C f : Addr} {mA : Str -> Option Value} {name : Str} {v : Value}
end
theorem RelO.some_of {v : V} {o : Option Value} (r : RelO (some v) o) : ∃ u,o = some u /\ RelV v u := by
  cases o with
  | none => exact (show False from r).elim
  | some u => exact ⟨u,rfl,r⟩
theorem RelO.none_of {o : Option Value} (r : RelO none o) : o = none := by
  cases o with
  | none => rfl
  | some u => exact (show False from r).elim
section
variable {P : Program} {w : World} {H H' : Hp} {h h' : Heap} {a C dx : Addr} {fs fs' : List (Str × V)}
theorem ins_get (hok : HOk P w H h) (e : H a = some (.ins C dx fs)) : ∃ mA,ObjM h a dx C mA /\ (∀ f,RelO (fs.lookup f) (mA f)) /\ PySem.Within mA (fs.map (·.1)) /\ fs.length <= 1000 /\ H dx = some (.own a) := by
  obtain ⟨d,z,ne,ob,mA,n,r,q⟩ := (show ObjOk P w H h a (.ins C dx fs) from hok a _ e)
  exact ⟨mA,⟨ob,n,ne⟩,r,q,z,d⟩
end
structure Cls (K : PySem.W.Frag) (C : Addr) : Prop where
  pg : PySem.W.plainGet K C Str.empty = true
  hd : PySem.W.hasDictIn K C = true
  po : PySem.W.plainOver K C = true
  sa : PySem.W.findIn K (.ref C) "__setattr__" = some (some (.builtin "object.__setattr__"))
theorem Cls.get {K : PySem.W.Frag} {C : Addr} (c : Cls K C) (f : Str) : PySem.W.plainGet K C f = true := c.pg
section
variable {X : Cx} {pins : List (Addr × Obj)} {σ : St} {H : Hp} {s : Shared} {a C dx : Addr} {fs : List (Str × V)} {f : Str} {v : V} {A : Around} {E : Value -> Shared -> Prop}
end
section
variable {X : Cx} {o e value : Expr} {f : Str} {pos pos' tpos : Pos} {ta tv : TE}
end
section
variable {X : Cx} {pins : List (Addr × Obj)} {σ : St} {H : Hp} {s : Shared} {A : Around} {E : Value -> Shared -> Prop} {Q : Value -> Shared -> Prop} {c : Value} {b : Bool}
inductive TyOf (K : PySem.W.Frag) (H : Hp) : V -> Value -> Prop where
  | non : TyOf K H .non (.type "NoneType")
  | bl (x : Bool) : TyOf K H (.bl x) (.type "bool")
  | int (i : Int) : TyOf K H (.int i) (.type "int")
  | str (x : Str) : TyOf K H (.str x) (.type "str")
  | flt (x : UInt64) : TyOf K H (.flt x) (.type "float")
  | lst {a : Addr} {xs : List V} (e : H a = some (.lst xs)) : TyOf K H (.ref a) (.type "list")
  | frz {a : Addr} {o : Obj} {xs : List V} (e : H a = some (.frz o (.lst xs))) : TyOf K H (.ref a) (.type "list")
  | tup {a : Addr} {xs : List V} (e : H a = some (.tup xs)) : TyOf K H (.ref a) (.type "tuple")
  | dK {a : Addr} {kvs : List (Key × V)} (e : H a = some (.dK kvs)) : TyOf K H (.ref a) (.type "dict")
  | dT {a : Addr} {kvs : List (List Key × V)} (e : H a = some (.dT kvs)) : TyOf K H (.ref a) (.type "dict")
  | ins {a C dx : Addr} {fs : List (Str × V)} (e : H a = some (.ins C dx fs)) (cl : Cls K C) (ha : PySem.W.findIn K (.ref C) "__class__" = some (some (.builtin "object.__class__")))
      (hn : PySem.W.specialIn K (.builtin "object.__class__") "__get__" = some (some (.builtin "getset_descriptor.__get__"))) (htk : PySem.W.takesIn K (.builtin "object.__class__") = some true)
      (hm : PySem.W.mroIn K C (.type "object") = some true) : TyOf K H (.ref a) (.ref C)
theorem isinst_ok {x : V} {u t : Value} (I : Inv X pins σ H s) (rx : RelV x u) (ty : TyOf X.K H x t) (e : PySem.W.kitOne X.K t c = some b) (h : ∀ tk,Q (.bool b) { s with toks := tk }) :
    wpAny (model X.prog X.w) A (call (.builtin "isinstance") [u,c]) Q E s := by
  cases ty with
  | non => cases (show u = Value.none from rx); exact PySem.W.kia_one PySem.W.kitx_none I.kIn True.intro e (fun z => nomatch z) h
  | bl y => cases (show u = Value.bool y from rx); exact PySem.W.kia_one PySem.W.kitx_bool I.kIn True.intro e (fun z => nomatch z) h
  | int i => obtain ⟨t,q⟩ := (show ∃ t,u = Value.int i t from rx); cases q; exact PySem.W.kia_one PySem.W.kitx_int I.kIn True.intro e (fun z => nomatch z) h
  | str y => obtain ⟨t,q⟩ := (show ∃ t,u = Value.str y t from rx); cases q; exact PySem.W.kia_one PySem.W.kitx_str I.kIn True.intro e (fun z => nomatch z) h
  | flt y => obtain ⟨t,q⟩ := (show ∃ t,u = Value.float y t from rx); cases q; exact PySem.W.kia_one PySem.W.kitx_float I.kIn True.intro e (fun z => nomatch z) h
  | @lst a xs ea =>
    cases (show u = Value.ref a from rx)
    obtain ⟨_,_,n,_,h1⟩ := (show ObjOk X.prog X.w H s.heap a (.lst xs) from I.hok a _ ea)
    exact PySem.W.kia_one PySem.W.kitx_list I.kIn ⟨_,h1,rfl⟩ e (fun z => nomatch z) h
  | @frz a ob xs ea =>
    cases (show u = Value.ref a from rx)
    obtain ⟨_,_,_,n,_,h1⟩ := (show ObjOk X.prog X.w H s.heap a (.frz ob (.lst xs)) from I.hok a _ ea)
    exact PySem.W.kia_one PySem.W.kitx_list I.kIn ⟨_,h1,rfl⟩ e (fun z => nomatch z) h
  | @tup a xs ea =>
    cases (show u = Value.ref a from rx)
    obtain ⟨_,_,_,p⟩ := (show ObjOk X.prog X.w H s.heap a (.tup xs) from I.hok a _ ea)
    obtain ⟨o,h1,h2,_⟩ := p
    exact PySem.W.kia_one PySem.W.kitx_tuple I.kIn ⟨o,h1,h2⟩ e (fun z => nomatch z) h
  | @dK a kvs ea =>
    cases (show u = Value.ref a from rx)
    obtain ⟨_,_,vs,_,p⟩ := (show ObjOk X.prog X.w H s.heap a (.dK kvs) from I.hok a _ ea)
    obtain ⟨o,es,ep,h1,h2,_⟩ := p
    exact PySem.W.kia_one PySem.W.kitx_dict I.kIn ⟨o,h1,h2.1⟩ e (fun z => nomatch z) h
  | @dT a kvs ea =>
    cases (show u = Value.ref a from rx)
    obtain ⟨_,_,xs,_,o,es,ep,h1,h2,_⟩ := (show ObjOk X.prog X.w H s.heap a (.dT kvs) from I.hok a _ ea)
    exact PySem.W.kia_one PySem.W.kitx_dict I.kIn ⟨o,h1,h2.1⟩ e (fun z => nomatch z) h
  | @ins a C dx fs ea cl ha hn htk hm =>
    cases (show u = Value.ref a from rx)
    obtain ⟨mA,O,_⟩ := ins_get I.hok ea
    obtain ⟨od,J,_⟩ := O.look
    exact PySem.W.kia_one (PySem.W.kitx_own (cl.get _) cl.hd ha hn htk hm) I.kIn J e (fun z => nomatch z) h
end
end L2
namespace L2
open PySem PySem.Spec PyProof.Rows
structure Room (k : Nat) (A : Around) : Prop where
  hd : A.handled = none
  dp : A.depth + 3 * k + 5 < recursionLimit
  un : A.units + 16 * k + 200 < cLine
theorem Room.mono {j k : Nat} {A : Around} (r : Room k A) (h : j <= k) : Room j A := ⟨r.hd,by have := r.dp; omega,by have := r.un; omega⟩
theorem Room.deeper {k : Nat} {A : Around} (r : Room (k + 1) A) (env : Env) : Room k (A.deeper env) :=
  ⟨r.hd,by have := r.dp; show A.depth + 1 + 3 * k + 5 < _; omega,by have := r.un; show A.units + 3 + 16 * k + 200 < _; omega⟩
theorem Room.in1 {k : Nat} {A : Around} (r : Room (k + 1) A) : Room k A.in1 :=
  ⟨r.hd,by have := r.dp; show A.depth + 3 * k + 5 < _; omega,by have := r.un; show A.units + 1 + 16 * k + 200 < _; omega⟩
theorem Room.depth {k : Nat} {A : Around} (r : Room k A) : A.depth < recursionLimit := by have := r.dp; omega
theorem Room.units {k : Nat} {A : Around} (r : Room k A) : A.units + 64 < cLine := by have := r.un; omega
theorem Room.units0 {k : Nat} {A : Around} (r : Room k A) : A.units < cLine := by have := r.un; omega
def tNil : TA := fun _ H Q => Q [] H
def tCons (ta : TE) (tr : TA) : TA := fun σ H Q => ta σ H fun x H1 => tr σ H1 fun xs H2 => Q (x :: xs) H2
section
variable {X : Cx} {e : Expr} {es : List Expr} {te : TE} {t : TA} {pos : Pos}
theorem pa_nil : PA X [] tNil := fun _ _ _ _ H Q I h => Calls.spliced_nil ⟨[],H,I,.nil,h⟩
theorem pa_cons (ha : PE X e te) (hr : PA X es t) (hs : starEach (e :: es) X.env = (false,eval e X.env) :: starEach es X.env := by rfl) : PA X (e :: es) (tCons te t) := by
  intro pos pins s σ H Q I h
  rw [hs]
  show wpAny _ _ (spliced ((false,eval e X.env) :: backTo pos (starEach es X.env))) _ _ s
  refine Calls.spliced_cons (thn (ha pins s σ H _ I h) fun u s1 ⟨x,H1,I1,r1,q1⟩ => ?_)
  exact thn (hr pos pins s1 σ H1 _ I1 q1) fun us s2 ⟨xs,H2,I2,r2,q2⟩ => ⟨x :: xs,H2,I2,.cons r1 r2,q2⟩
def tTup (t : TA) : TE := fun σ H Q => t σ H fun xs H1 => xs.length <= sizeLine /\ ∀ p,H1 p = none -> Q (.ref p) (upd H1 p (.tup xs))
def tLst (t : TA) : TE := fun σ H Q => t σ H fun xs H1 => xs.length <= sizeLine /\ ∀ p,H1 p = none -> Q (.ref p) (upd H1 p (.lst xs))
theorem pe_tup {x1} (h : PA X es t) : PE X (.Tuple es x1 pos) (tTup t) := by
  intro pins s σ H Q I hq
  refine wpAny_Tuple_spliced (thn (h pos pins s σ H _ I hq) fun us s1 ⟨xs,H1,I1,r,z,q⟩ => ⟨by rw [<- r.length]; exact z,?_⟩)
  have hf : H1 s1.heap.objs.size = none := I1.hok.fresh (Nat.le_refl _)
  refine ⟨.ref s1.heap.objs.size,upd H1 s1.heap.objs.size (.tup xs),I1.laid (t' := s1.toks) (fun b u e => Heap.get?_push_of_some _ e) (Nat.le_refl _) ?_,rfl,q _ hf⟩
  exact ⟨z,us,r,⟨_,Heap.get?_push_size _ rfl,rfl,_,rfl⟩⟩
theorem pe_lst (h : PA X es t) : PE X (.List es pos) (tLst t) := by
  intro pins s σ H Q I hq
  refine wpAny_List_spliced (thn (h pos pins s σ H _ I hq) fun us s1 ⟨xs,H1,I1,r,z,q⟩ => ⟨by rw [<- r.length]; exact z,?_⟩)
  have hf : H1 s1.heap.objs.size = none := I1.hok.fresh (Nat.le_refl _)
  refine ⟨.ref s1.heap.objs.size,upd H1 s1.heap.objs.size (.lst xs),I1.laid (t' := s1.toks) (fun b u e => Heap.get?_push_of_some _ e) (Nat.le_refl _) ?_,rfl,q _ hf⟩
  exact ⟨z,us,0,r,Heap.get?_push_size _ rfl⟩
end
abbrev Sp := List V -> Hp -> VK -> XK -> Prop
abbrev CXT := List Env -> Hp -> Shared -> XK -> Value -> Shared -> Prop
structure Env0 (P : Program) (w : World) (K : PySem.W.Frag) (mg : Str -> Option Value) (base : Heap) (A : Around) (outer : List Env) (s : Shared) (H : Hp) : Prop where
  frames : A.frames = some outer
  mod : Mod K mg base
  bs : ∀ b o,base.get? b = some o -> s.heap.get? b = some o /\ H b = none
  bsz : base.objs.size <= s.heap.objs.size
  funs : s.heap.FunFrames base outer
  frf : ∀ b ∈ frs outer,H b = none
  hok : HOk P w H s.heap
  bare : AllBare s.gens
def CE (outer : List Env) (P : Program) (w : World) (H : Hp) (s : Shared) (Q : VK) (u : Value) (s' : Shared) : Prop :=
  ∃ v H',s'.os = s.os /\ AllBare s'.gens /\ Un (frs outer) [] H H' s.heap s'.heap /\ HOk P w H' s'.heap /\ RelV v u /\ Q v H'
def CR (CX : CXT) (outer : List Env) (P : Program) (w : World) (H : Hp) (s : Shared) (Q : VK) (E : XK) (r : Result) (s' : Shared) : Prop :=
  match r with
  | .ok (.ret u) => CE outer P w H s Q u s'
  | .ok _ => False
  | .error e => CX outer H s E e s'
structure FnOk (P : Program) (w : World) (K : PySem.W.Frag) (mg : Str -> Option Value) (base : Heap) (CX : CXT) (k : Nat) (f : Addr) (fd : FuncData) (ps : List Str) (sp : Sp) : Prop where
  len : ∀ vs H Q E,sp vs H Q E -> vs.length = ps.length
  run : ∀ (A : Around) (outer : List Env) (s : Shared) (H : Hp) (args : Args) (us : List Value) (vs : List V) (Q : VK) (E : XK),Room k A -> Env0 P w K mg base A outer s H -> BindsTo s fd args (ps.zip us) -> Vals vs us -> sp vs H Q E ->
    codeAny (model P w) A (.call (.ref f) args) (CR CX outer P w H s Q E) s
theorem FnOk.mono {P : Program} {w : World} {K : PySem.W.Frag} {mg : Str -> Option Value} {base : Heap} {CX : CXT} {j k : Nat} {f : Addr} {fd : FuncData} {ps : List Str} {sp : Sp} (F : FnOk P w K mg base CX j f fd ps sp) (h : j <= k) :
    FnOk P w K mg base CX k f fd ps sp := ⟨F.len,fun A outer s H args us vs Q E hr => F.run A outer s H args us vs Q E (hr.mono h)⟩
theorem FnOk.imp {P : Program} {w : World} {K : PySem.W.Frag} {mg : Str -> Option Value} {base : Heap} {CX : CXT} {k : Nat} {f : Addr} {fd : FuncData} {ps : List Str} {sp sp' : Sp} (F : FnOk P w K mg base CX k f fd ps sp)
    (h : ∀ vs H Q E,sp' vs H Q E -> sp vs H Q E) : FnOk P w K mg base CX k f fd ps sp' :=
  ⟨fun vs H Q E q => F.len vs H Q E (h _ _ _ _ q),fun A outer s H args us vs Q E hr he hb hv hs => F.run A outer s H args us vs Q E hr he hb hv (h _ _ _ _ hs)⟩
theorem Env0.in1 {P : Program} {w : World} {K : PySem.W.Frag} {mg : Str -> Option Value} {base : Heap} {A : Around} {outer : List Env} {s : Shared} {H : Hp} (e : Env0 P w K mg base A outer s H) :
    Env0 P w K mg base A.in1 outer s H := ⟨e.frames,e.mod,e.bs,e.bsz,e.funs,e.frf,e.hok,e.bare⟩
section
variable {X : Cx} {pins : List (Addr × Obj)} {σ : St} {H : Hp} {s s' : Shared}
theorem Inv.env0 (I : Inv X pins σ H s) : Env0 X.prog X.w X.K X.mg X.base X.A X.stack s H :=
  ⟨I.ok.frames,I.ok.mod,I.bs,Nat.le_trans I.ok.bsz I.sz,I.stack,I.stkFree,I.hok,I.bare⟩
theorem Inv.after {Q : VK} {u : Value} (I : Inv X pins σ H s) (h : CE X.stack X.prog X.w H s Q u s') : EP X pins σ Q u s' := by
  obtain ⟨v,H',os,bare,un,hok,r,q⟩ := h
  obtain ⟨hh,g,d,t,os'⟩ := s'
  obtain rfl : os' = s.os := os
  exact ⟨v,H',I.call (h' := hh) (g' := g) (d' := d) (t' := t) (ch := []) un hok bare (fun b z => absurd z (by simp)),r,q⟩
end
def tCall (sp : Sp) (dvs : List V) (E : XK) (t : TA) : TE := fun σ H Q => t σ H fun vs H1 => sp (vs ++ dvs) H1 Q E
def Binds (K : PySem.W.Frag) (fd : FuncData) (ps : List Str) (ds : List Value) : Prop :=
  ∀ (s : Shared) (us : List Value),K.In s.heap -> (us ++ ds).length = ps.length -> BindsTo s fd ⟨us,[]⟩ (ps.zip (us ++ ds))
theorem Binds.all {K : PySem.W.Frag} {fd : FuncData} {ps : List Str} (h : ∀ us : List Value,us.length = ps.length -> bindArgs fd ⟨us,[]⟩ = pure (ps.zip us)) : Binds K fd ps [] := fun s us _ hl => by
  rw [List.append_nil] at hl ⊢
  exact .of_eq (h us hl)
def Passes (CX : CXT) (X : Cx) (E : XK) : Prop := ∀ (pins : List (Addr × Obj)) (σ : St) (H : Hp) (s : Shared) (e : Value) (s' : Shared),Inv X pins σ H s -> CX X.stack H s E e s' -> X.xe e s'
section
variable {X : Cx} {CX : CXT} {k : Nat} {f C : Addr} {fd : FuncData} {ps : List Str} {sp : Sp} {dvs : List V} {ds : List Value} {E : XK} {x m : Str} {p pos apos : Pos} {e o : Expr} {es : List Expr} {ta : TE} {t : TA}
theorem run_fn {pins : List (Addr × Obj)} {σ : St} {H : Hp} {s : Shared} {Q : VK} {us : List Value} {vs : List V} (F : FnOk X.prog X.w X.K X.mg X.base CX k f fd ps sp) (hr : Room k X.A) (hb : Binds X.K fd ps ds) (hd : Vals dvs ds) (hx : Passes CX X E)
    (I : Inv X pins σ H s) (r : Vals vs us) (h : sp (vs ++ dvs) H Q E) : wpAny (model X.prog X.w) X.A (call (.ref f) us) (EP X pins σ Q) X.xe s := by
  have r2 : Vals (vs ++ dvs) (us ++ ds) := r.append hd
  have hl : (us ++ ds).length = ps.length := by rw [<- r2.length]; exact F.len _ _ _ _ h
  refine wpAny_call (codeAny_mono (F.run X.A X.stack s H ⟨us,[]⟩ (us ++ ds) (vs ++ dvs) Q E hr I.env0 (hb s us I.kIn hl) r2 h) fun r s' hq => ?_)
  cases r with
  | error e => exact hx pins σ H s e s' I hq
  | ok fl =>
    cases fl with
    | ret u => exact I.after hq
    | next => exact False.elim hq
    | brk => exact False.elim hq
    | cont => exact False.elim hq
theorem pe_call (F : FnOk X.prog X.w X.K X.mg X.base CX k f fd ps sp) (hr : Room k X.A) (hg : Gl X x) (hm : X.mg x = some (.ref f)) (hk : PySem.W.keepIn X.K (.ref f) = true) (hb : Binds X.K fd ps ds) (hd : Vals dvs ds) (hx : Passes CX X E)
    (ha : PA X (e :: es) t) (hdb : (x == ("__debug__" : Str)) = false := by decide) (he : starEach (e :: es) X.env = (false,eval e X.env) :: starEach es X.env := by rfl) (hpl : (backTo pos (starEach es X.env)).any (·.1) = false := by rfl) :
    PE X (.Call (.Name x p) (e :: es) [] pos) (tCall sp dvs E t) := by
  intro pins s σ H Q I h
  refine wpAny_Call_Name_kw (ld_glob I hg hm ?_ hdb)
  refine PySem.W.callWith_K (h₀ := X.base) I.ok.mod.kin hk (thn (ha pos pins s σ H _ I h) fun us s1 ⟨vs,H1,I1,r,q⟩ => ⟨I1.kIn,?_⟩) he hpl
  exact run_fn F hr hb hd hx I1 r q
end
section
variable {X : Cx} {CX : CXT} {k : Nat} {f C : Addr} {fd : FuncData} {ps ks : List Str} {sp : Sp} {E : XK} {x m : Str} {p pos apos kpos : Pos} {e o : Expr} {es : List Expr} {kws : List Keyword} {te ta : TE} {t tk : TA} {nm : Option Str}
variable {g : List Value -> List Value -> List Value} {gV : List V -> List V -> List V}
end
structure FnScope (N P : List Str) (sc : Scope) : Prop where
  kind : sc.kind = .function
  co : sc.isCoroutine = false
  gen : sc.isGenerator = false
  nd : N.Nodup
  pre : N.take P.length = P
  par : ∀ x ∈ P,sc.names.lookup x = some .local \/ sc.names.lookup x = some .cell
  nofree : ∀ y ∈ sc.names,y.2 ≠ .free
theorem bindL_out {kindOf : Str -> Option NameKind} {x : Str} : ∀ {binds : List (Str × Value)} {m : Str -> Option Value},(∀ v,(x,v) ∉ binds) -> bindL kindOf binds m x = m x
  | [],_,_ => rfl
  | (n,v) :: r,m,h => by
    unfold bindL
    rw [bindL_out fun w hw => h w (List.mem_cons_of_mem _ hw)]
    split
    · have : x ≠ n := by rintro rfl; exact h v List.mem_cons_self
      simp [this]
    · rfl
theorem bindC_out {kindOf : Str -> Option NameKind} {x : Str} : ∀ {binds : List (Str × Value)} {m : Str -> Option Value},(∀ v,(x,v) ∉ binds) -> bindC kindOf binds m x = m x
  | [],_,_ => rfl
  | (n,v) :: r,m,h => by
    unfold bindC
    rw [bindC_out fun w hw => h w (List.mem_cons_of_mem _ hw)]
    split
    · rfl
    · have : x ≠ n := by rintro rfl; exact h v List.mem_cons_self
      simp [this]
theorem bindL_get {kindOf : Str -> Option NameKind} {x : Str} {v : Value} : ∀ {P : List Str} {vs : List Value} {i : Nat} {m : Str -> Option Value},P.Nodup -> P[i]? = some x -> vs[i]? = some v -> kindOf x = some .local ->
    bindL kindOf (P.zip vs) m x = some v
  | [],_,_,_,_,h,_,_ => by simp at h
  | _ :: _,[],_,_,_,_,h,_ => by simp at h
  | p :: P,w :: vs,0,m,nd,h1,h2,hk => by
    simp at h1 h2; subst h1; subst h2
    show bindL kindOf ((p,w) :: P.zip vs) m p = _
    unfold bindL
    rw [bindL_out fun v hv => (List.nodup_cons.mp nd).1 (List.of_mem_zip hv).1,if_pos hk]
    simp
  | p :: P,w :: vs,i + 1,m,nd,h1,h2,hk => by
    show bindL kindOf ((p,w) :: P.zip vs) m x = _
    unfold bindL
    exact bindL_get (i := i) (List.nodup_cons.mp nd).2 (by simpa using h1) (by simpa using h2) hk
theorem bindC_get {kindOf : Str -> Option NameKind} {x : Str} {v : Value} : ∀ {P : List Str} {vs : List Value} {i : Nat} {m : Str -> Option Value},P.Nodup -> P[i]? = some x -> vs[i]? = some v -> kindOf x ≠ some .local ->
    bindC kindOf (P.zip vs) m x = some v
  | [],_,_,_,_,h,_,_ => by simp at h
  | _ :: _,[],_,_,_,_,h,_ => by simp at h
  | p :: P,w :: vs,0,m,nd,h1,h2,hk => by
    simp at h1 h2; subst h1; subst h2
    show bindC kindOf ((p,w) :: P.zip vs) m p = _
    unfold bindC
    rw [bindC_out fun v hv => (List.nodup_cons.mp nd).1 (List.of_mem_zip hv).1,if_neg hk]
    simp
  | p :: P,w :: vs,i + 1,m,nd,h1,h2,hk => by
    show bindC kindOf ((p,w) :: P.zip vs) m x = _
    unfold bindC
    exact bindC_get (i := i) (List.nodup_cons.mp nd).2 (by simpa using h1) (by simpa using h2) hk
def start (N : List Str) (vs : List V) : St := vs.map some ++ List.replicate (N.length - vs.length) none
def cxOf (CX : CXT) (P : Program) (w : World) (K : PySem.W.Frag) (mg : Str -> Option Value) (base : Heap) (N : List Str) (qual : Str) (scope : Scope) (f : Addr) (cd : Value) (A : Around) (outer : List Env) (s : Shared) (H : Hp) (E : XK) : Cx where
  prog := P
  w := w
  K := K
  mg := mg
  base := base
  A := A.deeper (envOfC qual scope s.heap.objs.size f cd)
  N := N
  s₀ := s
  H₀ := H
  env := envOfC qual scope s.heap.objs.size f cd
  outer := outer
  stack := envOfC qual scope s.heap.objs.size f cd :: outer
  ex := []
  calm := true
  fn := fun _ => true
  pn := []
  xe := fun e s' => wpAny (model P w) (A.deeper (envOfC qual scope s.heap.objs.size f cd)) (leaving (envOfC qual scope s.heap.objs.size f cd) e) (fun _ s'' => CX outer H s E e s'') (fun e' s'' => CX outer H s E e' s'') s'
theorem cell_has {sc : Scope} {n : Nat} {x : Str} (h : sc.names.lookup x = some .cell) : ∃ c,(cellsFrom n sc.names []).lookup x = some c := by
  have q := PySem.W.cellsFrom_some sc.names n [] (.inl h)
  exact Option.isSome_iff_exists.mp q
theorem inv_start {CX : CXT} {P : Program} {w : World} {K : PySem.W.Frag} {mg : Str -> Option Value} {base : Heap} {N ps : List Str} {qual : Str} {scope : Scope} {f : Addr} {cd : Value} {A : Around} {outer : List Env} {s s1 : Shared} {H : Hp} {E : XK} {us : List Value} {vs : List V}
    (S : FnScope N ps scope) (hd : A.handled = none) (e0 : Env0 P w K mg base A outer s H) (hl : vs.length = ps.length) (r : Vals vs us)
    (x : InCallC s s.heap.objs.size (bindL (envOfC qual scope s.heap.objs.size f cd).kindOf (ps.zip us) fun _ => none) (cellsFrom (s.heap.objs.size + 1) scope.names []) (bindC (envOfC qual scope s.heap.objs.size f cd).kindOf (ps.zip us) fun _ => none) s1) :
    Inv (cxOf CX P w K mg base N qual scope f cd A outer s H E) [] (start N vs) H s1 := by
  have hpl : ps.length <= N.length := by have := congrArg List.length S.pre; rw [List.length_take] at this; omega
  obtain ⟨h1,tk,rfl,hk⟩ := x.done
  have noA : ∀ b : Addr,b ∉ (cxOf CX P w K mg base N qual scope f cd A outer s H E).ex := fun b z => absurd (show b ∈ ([] : List Addr) from z) (by simp)
  refine ⟨⟨e0.mod,S.kind,rfl,rfl,Nat.le_refl _,fun y z c h1 h2 => ?_,fun y hy => ?_,fun y c _ h => ?_,fun _ => hd,Around.frames_deeper e0.frames,.inr ⟨rfl,rfl⟩,fun b z => absurd z (noA b),e0.bs,e0.bsz,fun b _ _ => noA b,fun b z => absurd z (noA b),e0.funs,e0.frf⟩,
    rfl,e0.bare,Un.kept hk,⟨_,x.toInCall.ns,fun i y v h1 h2 h3 => ?_⟩,fun y c h => ⟨_,x.cell y c h⟩,e0.hok.fresh (Nat.le_refl _),fun y c h => ?_,fun p hp => absurd (show p ∈ ([] : List (Addr × Obj)) from hp) (by simp),e0.hok.kept hk,?_⟩
  · exact name_of_addr x.apart (PySem.mem_of_lookup h1) (PySem.mem_of_lookup h2)
  · have hy : scope.names.lookup y = some .cell \/ scope.names.lookup y = some .free := hy
    rcases hy with hy | hy
    · exact cell_has hy
    · exact absurd rfl (S.nofree _ (PySem.mem_of_lookup hy))
  · exact Nat.le_of_lt (x.above y c (PySem.mem_of_lookup h))
  · have hi : i < vs.length := by
      unfold start at h2
      by_cases hi : i < vs.length
      · exact hi
      · rw [List.getElem?_append_right (by simpa using hi)] at h2
        rw [List.getElem?_replicate] at h2
        split at h2 <;> cases h2
    have ha : vs[i]? = some v := by
      unfold start at h2
      rw [List.getElem?_append_left (by simpa using hi),List.getElem?_map] at h2
      cases e : vs[i]? with
      | none => rw [e] at h2; cases h2
      | some a => rw [e] at h2; cases h2; rfl
    obtain ⟨u,hu,rv⟩ := r.get ha
    have hp : ps[i]? = some y := by
      rw [<- S.pre,List.getElem?_take_of_lt (by omega)]; exact h1
    have ndP : ps.Nodup := by rw [<- S.pre]; exact S.nd.sublist (List.take_sublist _ _)
    refine ⟨u,rv,?_⟩
    rcases S.par y (List.mem_of_getElem? hp) with k | k
    · exact .inl ⟨k,bindL_get ndP hp hu k⟩
    · obtain ⟨c,e⟩ := cell_has (n := s.heap.objs.size + 1) k
      refine .inr ⟨.inl k,c,e,?_⟩
      have q := x.cell y c e
      rw [bindC_get ndP hp hu (by show scope.names.lookup y ≠ _; rw [k]; decide)] at q
      exact q
  · exact e0.hok.fresh (Nat.le_of_lt (x.above y c (PySem.mem_of_lookup h)))
  · unfold start
    show _ = N.length
    rw [List.length_append,List.length_map,List.length_replicate]
    omega
theorem fn_of {CX : CXT} {P : Program} {w : World} {K : PySem.W.Frag} {mg : Str -> Option Value} {base : Heap} {k : Nat} {f : Addr} {name qual : Str} {params : Arguments} {body : List Stmt} {scope : Scope} {dV kV doc pm cdv ct oc : Value} {an od : Option Addr}
    {osl : Array (Option Value)} {N ps : List Str} {sp : Sp} (lk : K.lookup f = some ⟨oc,od,.func (PySem.W.fnOf name qual params body scope dV kV doc pm an cdv ct),osl⟩) (hcd : PySem.W.codeIn K cdv qual = true) (S : FnScope N ps scope)
    (len : ∀ vs H Q E,sp vs H Q E -> vs.length = ps.length)
    (hbody : ∀ (A : Around) (outer : List Env) (s : Shared) (H : Hp) (vs : List V) (Q : VK) (E : XK),Room k (A.deeper (envOfC qual scope s.heap.objs.size f cdv)) -> sp vs H Q E ->
      ∃ t,PSs (cxOf CX P w K mg base N qual scope f cdv A outer s H E) body t /\ t { nx := fun _ H' => Q .non H',rt := Q } (start N vs) H) :
    FnOk P w K mg base CX (k + 1) f (PySem.W.fnOf name qual params body scope dV kV doc pm an cdv ct) ps sp := by
  refine ⟨len,fun A outer s H args us vs Q E hr e0 hb r hsp => ?_⟩
  have hl := len _ _ _ _ hsp
  have KX : K.In s.heap := e0.mod.kin.keeps fun b o e => (e0.bs b o e).1
  have lim : s.heap.NoLimit := e0.mod.nolimit.keeps fun b o e => (e0.bs b o e).1
  have hkind : ∀ y ∈ ps.zip us,scope.names.lookup y.1 = some .local \/ (scope.names.lookup y.1 = some .cell /\ ((cellsFrom (s.heap.objs.size + 1) scope.names []).lookup y.1).isSome = true) := fun ⟨n,v⟩ hy => by
    rcases S.par n (List.of_mem_zip hy).1 with q | q
    · exact .inl q
    · exact .inr ⟨q,PySem.W.cellsFrom_some _ _ _ (.inl q)⟩
  refine codeAny_call_function hr.depth (KX _ _ lk) rfl S.co S.gen rfl (PySem.W.codeRec_of KX hcd) (hb _ _ _ _ ?_)
  refine wpAny_newFunctionEnv_cells S.kind hkind fun env he s1 x => ?_
  subst he
  refine ⟨lim.keeps x.toInCall.keep,codeAny_func ?_⟩
  obtain ⟨t,ht,hq⟩ := hbody A outer s H vs Q E (hr.deeper _) hsp
  have I : Inv (cxOf CX P w K mg base N qual scope f cdv A outer s H E) [] (start N vs) H s1 := inv_start S hr.hd e0 hl r x
  refine wpAny_mono (ht [] s1 (start N vs) H _ I hq) (fun fl s' hs => ?_) fun e s' hs => hs
  have fin : ∀ {σ' : St} {H' : Hp} {v : V} {u : Value},Inv (cxOf CX P w K mg base N qual scope f cdv A outer s H E) [] σ' H' s' -> RelV v u -> Q v H' -> CE outer P w H s Q u s' :=
    fun {σ' H' v u} J rv q => ⟨v,H',J.os,J.bare,J.base,J.hok,rv,q⟩
  cases fl with
  | ret u =>
    obtain ⟨v,σ',H',J,rv,q⟩ := hs
    exact fin J rv q
  | next =>
    obtain ⟨σ',H',J,q⟩ := hs
    exact fin (v := V.non) (u := Value.none) J rfl q
  | brk =>
    obtain ⟨_,_,_,q⟩ := hs
    exact False.elim q
  | cont =>
    obtain ⟨_,_,_,q⟩ := hs
    exact False.elim q
end L2
namespace L2
open PySem PySem.Spec PyProof.Rows
section
variable {X : Cx} {x : Str} {p pos : Pos} {e : Expr} {es : List Expr} {t : TA} {id T : String} {r : List V -> Hp -> VK -> Prop}
def tCB (r : List V -> Hp -> VK -> Prop) (t : TA) : TE := fun σ H Q => t σ H fun vs H1 => r vs H1 Q
theorem pe_callB (hc : CallR X (.builtin id) r) (hg : Gl X x) (hm : X.mg x = none) (hv : bootBuiltins x = some (.builtin id)) (ha : PA X (e :: es) t) (hn : x ≠ "__name__" := by decide) (hdb : (x == ("__debug__" : Str)) = false := by decide)
    (he : starEach (e :: es) X.env = (false,eval e X.env) :: starEach es X.env := by rfl) (hpl : (backTo pos (starEach es X.env)).any (·.1) = false := by rfl) : PE X (.Call (.Name x p) (e :: es) [] pos) (tCB r t) := by
  intro pins s σ H Q I h
  refine wpAny_Call_Name_kw (ld_blt I hg hm hv ?_ hn hdb)
  exact PyProof.Rows.callWith_builtin1 (thn (ha pos pins s σ H _ I h) fun us s1 ⟨vs,H1,I1,r1,q1⟩ => hc pins s1 σ H1 vs us Q I1 r1 q1) he hpl
theorem pe_callTy (hc : CallR X (.type T) r) (hg : Gl X x) (hm : X.mg x = none) (hv : bootBuiltins x = some (.type T)) (ha : PA X (e :: es) t) (hn : x ≠ "__name__" := by decide) (hdb : (x == ("__debug__" : Str)) = false := by decide)
    (he : starEach (e :: es) X.env = (false,eval e X.env) :: starEach es X.env := by rfl) (hpl : (backTo pos (starEach es X.env)).any (·.1) = false := by rfl) : PE X (.Call (.Name x p) (e :: es) [] pos) (tCB r t) := by
  intro pins s σ H Q I h
  refine wpAny_Call_Name_kw (ld_blt I hg hm hv ?_ hn hdb)
  exact PyProof.Rows.callWith_type1 (thn (ha pos pins s σ H _ I h) fun us s1 ⟨vs,H1,I1,r1,q1⟩ => hc pins s1 σ H1 vs us Q I1 r1 q1) he hpl
end
end L2
namespace HT
open PySem PyProof.Rows
section
open PySem.SeqAt
open PySem.AutoSeq1 (wpAny_loadPart')
open PySem.MeetsSeq PySem.MeetsSeq2 PySem.MeetsSeq3
end
section
variable {prog : Program} {w : World} {A : Around} {E : Value -> Shared -> Prop} {s : Shared}
def sIx (n d : Nat) : Option Int -> Nat
  | none => d
  | some v => if v < 0 then (v + (n : Int)).toNat else min v.toNat n
theorem sIx_none (n d : Nat) : sIx n d none = d := rfl
theorem sIx_nat (n d k : Nat) : sIx n d (some (k : Int)) = min k n := by
  show (if (k : Int) < 0 then ((k : Int) + (n : Int)).toNat else min (k : Int).toNat n) = min k n
  rw [if_neg (by omega),Int.toNat_natCast]
theorem sIx_le (n d : Nat) (hd : d <= n) (o : Option Int) : sIx n d o <= n := by
  cases o with
  | none => exact hd
  | some v =>
    show (if v < 0 then (v + (n : Int)).toNat else min v.toNat n) <= n
    by_cases hv : v < 0
    · rw [if_pos hv]; omega
    · rw [if_neg hv]; exact Nat.min_le_right _ _
theorem clip_eq (v : Int) (n d : Nat) : (if v < 0 then max (v + (n : Int)) 0 else min v (n : Int)) = ((sIx n d (some v) : Nat) : Int) := by
  show (if v < 0 then max (v + (n : Int)) 0 else min v (n : Int)) = (((if v < 0 then (v + (n : Int)).toNat else min v.toNat n) : Nat) : Int)
  by_cases hv : v < 0
  · simp only [if_pos hv]; omega
  · simp only [if_neg hv]; omega
theorem adjust_gen (lo hi : Option Int) (n : Nat) : Builtin.Slice.sliceAdjust lo hi 1 (n : Int) = (((sIx n 0 lo : Nat) : Int),((sIx n n hi : Nat) : Int)) := by
  have h1 : ¬ ((1 : Int) < 0) := by omega
  unfold Builtin.Slice.sliceAdjust
  simp only [h1,if_false]
  refine Prod.ext ?_ ?_
  · cases lo with
    | none => rfl
    | some v => exact clip_eq v n 0
  · cases hi with
    | none => rfl
    | some v => exact clip_eq v n n
theorem places_gen (i j : Nat) : Builtin.Slice.slicePlaces (i : Int) (j : Int) 1 = j - i := by
  unfold Builtin.Slice.slicePlaces
  have h1 : (1 : Int) > 0 := by omega
  simp only [h1,if_true,Int.ediv_one]
  split <;> omega
theorem slicePart_ {v : Value} {o : Option Int} {Q : Option Int -> Shared -> Prop} (p : IsPart v o) (h : Q o s) : wpAny (model prog w) A (Builtin.Slice.slicePartIndex v) Q E s := by
  cases p with
  | none => exact slicePart_none h
  | int i t => exact slicePart_int h
theorem sliceApplied_gen {sl : Addr} {vl vu : Value} {lo hi : Option Int} {n : Nat} {Q : Int × Int × Nat -> Shared -> Prop} (hs : s.heap.IsSliceOf sl vl vu .none) (pl : IsPart vl lo) (pu : IsPart vu hi)
    (h : Q (((sIx n 0 lo : Nat) : Int),1,sIx n n hi - sIx n 0 lo) s) : wpAny (model prog w) A (Builtin.Slice.sliceApplied (.ref sl) (pure (n : Int))) Q E s := by
  obtain ⟨os,hos,hcs,hds⟩ := id hs
  unfold Builtin.Slice.sliceApplied Builtin.Slice.sliceFields
  refine wpAny_bind (wpAny_bind (wpAny_field hos hds (x := vl) rfl (wpAny_bind (wpAny_field hos hds (x := vu) rfl (wpAny_bind (wpAny_field hos hds (x := .none) rfl (wpAny_pure ?_)))))))
  refine wpAny_bind (slicePart_none ?_)
  show wpAny _ _ (if ((1 : Int) == 0) = true then _ else _) _ _ s
  rw [if_neg (by decide)]
  refine wpAny_bind (slicePart_ pl (wpAny_bind (slicePart_ pu (wpAny_bind (wpAny_pure ?_)))))
  show wpAny _ _ (match Builtin.Slice.sliceAdjust lo hi 1 (n : Int) with | (lo,hi) => pure (lo,(1 : Int),Builtin.Slice.slicePlaces lo hi 1)) _ _ s
  rw [adjust_gen lo hi n]
  show wpAny _ _ (pure (((sIx n 0 lo : Nat) : Int),(1 : Int),Builtin.Slice.slicePlaces ((sIx n 0 lo : Nat) : Int) ((sIx n n hi : Nat) : Int) 1)) _ _ s
  rw [places_gen]
  exact wpAny_pure h
theorem pick_gen (xs : Array Value) (i k : Nat) : ((List.range k).filterMap fun (m : Nat) => xs[((i : Int) + (m : Int) * 1).toNat]?).toArray = ((xs.toList.drop i).take k).toArray := by
  have e : (fun (m : Nat) => xs[((i : Int) + (m : Int) * 1).toNat]?) = fun m => xs[i + m]? := by
    funext m
    have : ((i : Int) + (m : Int) * 1).toNat = i + m := by omega
    rw [this]
  rw [e]
  have := pick_run xs i k
  rw [List.filterMap_map] at this
  have e2 : ((fun x => xs[x]?) ∘ fun x => i + x) = fun m => xs[i + m]? := rfl
  rw [e2] at this
  rw [this]
theorem getItem_tuple_cut {t sl : Addr} {items : Array Value} {vl vu : Value} {lo hi : Option Int} {Q : Value -> Shared -> Prop} (ht : IsTup s.heap t items) (hs : s.heap.IsSliceOf sl vl vu .none) (pl : IsPart vl lo) (pu : IsPart vu hi)
    (hw : ¬ (sIx items.size 0 lo = 0 /\ sIx items.size items.size hi = items.size))
    (h : Q (.ref s.heap.objs.size) { s with heap := s.heap.push { cls := .type "tuple",data := .seq ((items.toList.drop (sIx items.size 0 lo)).take (sIx items.size items.size hi - sIx items.size 0 lo)).toArray } })
    (hsz : items.size <= sizeLine) : wpAny (model prog w) A (getItem (.ref t) (.ref sl)) Q E s := by
  have htake : sizeOk (.seq ((items.toList.drop (sIx items.size 0 lo)).take (sIx items.size items.size hi - sIx items.size 0 lo)).toArray) := by
    show ((items.toList.drop (sIx items.size 0 lo)).take (sIx items.size items.size hi - sIx items.size 0 lo)).toArray.size <= sizeLine
    rw [List.size_toArray,List.length_take,List.length_drop,Array.length_toList]
    omega
  have hj : sIx items.size items.size hi <= items.size := sIx_le _ _ (Nat.le_refl _) hi
  obtain ⟨os,hos,hcs,hds⟩ := id hs
  have hTs : s.TypeIs (.ref sl) "slice" := ⟨os,hos,hcs⟩
  unfold getItem
  try with_reducible refine wpAny_holding ?_
  first | refine wpAny_bind (wpAny_pure ?_) | skip
  refine wpAny_bind (wpAny_sequenceKey ht.typeIs (by decide) ?_)
  refine wpAny_bind (wpAny_callSpecial?_slot (name := Str.ofString "__getitem__") ht.typeIs PyProof.Rows.slot_tuple_getitem
    (wpAny_call_entry PyProof.Rows.slot_tuple_getitem ht.typeIs entry_tuple_getitem ?_ (args_tuple_getitem _ _)))
  show wpAny _ _ (Builtin.Tuple.tupleItemsOf (.ref t) >>= _) _ _ s
  refine wpAny_bind (tupleItemsOf_ ht ?_)
  refine wpAny_bind (wpAny_typeOf hTs ?_)
  rw [if_pos (by decide)]
  refine wpAny_bind (sliceApplied_gen hs pl pu ?_)
  have hno : ¬ ((((sIx items.size 0 lo : Nat) : Int) == 0 && (1 : Int) == 1 && (sIx items.size items.size hi - sIx items.size 0 lo) == items.size) = true) := by
    intro q
    rw [Bool.and_eq_true,Bool.and_eq_true] at q
    have q1 : ((sIx items.size 0 lo : Nat) : Int) = 0 := eq_of_beq q.1.1
    have q2 : sIx items.size items.size hi - sIx items.size 0 lo = items.size := eq_of_beq q.2
    exact hw ⟨by omega,by omega⟩
  show wpAny _ _ (if (((sIx items.size 0 lo : Nat) : Int) == 0 && (1 : Int) == 1 && (sIx items.size items.size hi - sIx items.size 0 lo) == items.size) = true then _ else _) _ _ s
  rw [if_neg hno,pick_gen]
  first
    | exact wpAny_bind (m := Builtin.Tuple.tupleExact _) (wpAny_newObj_type (wpAny_pure ⟨_,rfl,wpAny_pure h⟩) htake)
    | exact wpAny_bind (m := Builtin.Tuple.tupleExact _) (wpAny_newObj_type (wpAny_bind (wpAny_pure (wpAny_pure ⟨_,rfl,wpAny_pure h⟩))) htake)
    | exact wpAny_bind (wpAny_bind (m := Builtin.Tuple.tupleExact _) (wpAny_newObj_type (wpAny_pure (wpAny_pure ⟨_,rfl,wpAny_pure h⟩)) htake))
    | exact wpAny_bind (wpAny_bind (m := Builtin.Tuple.tupleExact _) (wpAny_newObj_type (wpAny_pure ⟨_,rfl,wpAny_pure h⟩) htake))
end
end HT
namespace L2
open PySem PySem.Spec PyProof.Rows
abbrev TO := St -> Hp -> (Option Int -> Hp -> Prop) -> Prop
def PO (X : Cx) (e : Option Expr) (t : TO) : Prop :=
  ∀ (pins : List (Addr × Obj)) (s : Shared) (σ : St) (H : Hp) (Q : Option Int -> Hp -> Prop),Inv X pins σ H s -> t σ H Q ->
    wpAny (model X.prog X.w) X.A (evalPart e X.env) (fun u s' => ∃ o H',Inv X pins σ H' s' /\ IsPart u o /\ Q o H') X.xe s
def tNoPart : TO := fun _ H Q => Q none H
def tPart (t : TE) : TO := fun σ H Q => t σ H fun x H1 => ∃ i,x = .int i /\ Q (some i) H1
theorem intsAre_of {ns : List Int} : ∀ {us : List Value},Vals (ns.map V.int) us -> IntsAre us ns := by
  induction ns with
  | nil => intro us r; rw [List.map_nil] at r; cases r; exact .nil
  | cons n ns ih =>
    intro us r
    rw [List.map_cons] at r
    cases r with
    | cons r1 r2 =>
      obtain ⟨t,e⟩ := r1
      subst e
      exact .cons n t (ih r2)
section
variable {X : Cx} {e : Expr} {te : TE} {lo hi : Option Expr} {tl th : TO} {pos p2 : Pos}
theorem po_none : PO X none tNoPart := by
  intro pins s σ H Q I h
  rw [evalPart_none]
  exact wpAny_pure ⟨none,H,I,.none,h⟩
theorem po_some (h : PE X e te) : PO X (some e) (tPart te) := by
  intro pins s σ H Q I hw
  rw [evalPart_some]
  refine thn (h pins s σ H _ I hw) fun u s1 ⟨x,H1,I1,r1,q1⟩ => ?_
  obtain ⟨i,rfl,q⟩ := q1
  obtain ⟨t,rfl⟩ := r1
  exact ⟨some i,H1,I1,.int i t,q⟩
def SlR (X : Cx) (r : V -> Option Int -> Option Int -> Hp -> VK -> Prop) : Prop :=
  ∀ (pins : List (Addr × Obj)) (s : Shared) (σ : St) (H : Hp) (x : V) (v vl vu : Value) (lo hi : Option Int) (sl : Addr) (Q : VK),Inv X pins σ H s -> RelV x v -> s.heap.IsSliceOf sl vl vu .none -> IsPart vl lo -> IsPart vu hi -> r x lo hi H Q ->
    ∃ T id,typeLookup (.type T) "__getitem__" = pure (some (.builtin id)) /\ s.TypeIs v T /\ wpAny (model X.prog X.w) X.A (getItem v (.ref sl)) (EP X pins σ Q) X.xe s
def tSl (r : V -> Option Int -> Option Int -> Hp -> VK -> Prop) (te : TE) (tl th : TO) : TE := fun σ H Q => te σ H fun x H1 => tl σ H1 fun l H2 => th σ H2 fun u H3 => r x l u H3 Q
theorem pe_slice {r : V -> Option Int -> Option Int -> Hp -> VK -> Prop} (hr : SlR X r) (he : PE X e te) (hl : PO X lo tl) (hu : PO X hi th) : PE X (.Subscript e (.Slice lo hi none p2) pos) (tSl r te tl th) := by
  intro pins s σ H Q I h
  refine Subscript_ (thn (he pins s σ H _ I h) fun v s1 ⟨x,H1,I1,r1,q1⟩ => ?_)
  refine wpAny_Slice (thn (hl pins s1 σ H1 _ I1 q1) fun vl s2 ⟨l,H2,I2,pl,q2⟩ => thn (hu pins s2 σ H2 _ I2 q2) fun vu s3 ⟨u,H3,I3,pu,q3⟩ => ?_)
  rw [evalPart_none]
  refine wpAny_pure ?_
  have I4 : Inv X pins σ H3 { s3 with heap := s3.heap.push { cls := .type "slice",data := .fields #[vl,vu,.none] } } := I3.kept (t' := s3.toks) fun b ob q => Heap.get?_push_of_some _ q
  obtain ⟨T,id,hT,ht,hg⟩ := hr pins { s3 with heap := s3.heap.push { cls := .type "slice",data := .fields #[vl,vu,.none] } } σ H3 x v vl vu l u s3.heap.objs.size Q I4 r1 (Heap.IsSliceOf.new ..) pl pu q3
  show wpAny (model X.prog X.w) X.A (subscriptTail e (.Slice lo hi none p2) v (.ref s3.heap.objs.size)) (EP X pins σ Q) X.xe { s3 with heap := s3.heap.push { cls := .type "slice",data := .fields #[vl,vu,.none] } }
  exact tail_any (ops := [.ref s3.heap.objs.size,v]) ht hT hg (by with_unfolding_all rfl)
def cutV (xs : List V) (lo hi : Option Int) : List V := (xs.drop (HT.sIx xs.length 0 lo)).take (HT.sIx xs.length xs.length hi - HT.sIx xs.length 0 lo)
theorem cutV_length (xs : List V) (lo hi : Option Int) : (cutV xs lo hi).length <= xs.length := by
  unfold cutV
  rw [List.length_take,List.length_drop]
  omega
def rSlT (K : PySem.W.Frag) : V -> Option Int -> Option Int -> Hp -> VK -> Prop := fun x lo hi H Q => ∃ a xs,x = .ref a /\ SqT K H a xs /\
  ¬ (HT.sIx xs.length 0 lo = 0 /\ HT.sIx xs.length xs.length hi = xs.length) /\ ∀ p,H p = none -> Q (.ref p) (upd H p (.tup (cutV xs lo hi)))
theorem sl_tup : SlR X (rSlT X.K) := by
  intro pins s σ H x v vl vu lo hi sl Q I rx hs pl pu h
  obtain ⟨a,xs,rfl,hx,hw,q⟩ := h
  cases rx
  obtain ⟨its,r,ht,hz⟩ := I.tuple hx
  have hlen : its.toArray.size = xs.length := by rw [List.size_toArray]; exact r.length.symm
  refine ⟨"tuple",_,PyProof.Rows.slot_tuple_getitem.lookup,ht.typeIs,?_⟩
  refine HT.getItem_tuple_cut ht hs pl pu (by rw [hlen]; exact hw) ?_ (by rw [hlen]; exact hz)
  rw [hlen]
  refine ⟨.ref s.heap.objs.size,_,I.laid (t' := s.toks) (o := .tup (cutV xs lo hi)) (fun b ob q => Heap.get?_push_of_some _ q) (Nat.le_refl _) ?_,rfl,q _ (I.hok.fresh (Nat.le_refl _))⟩
  exact ⟨Nat.le_trans (cutV_length xs lo hi) hz,_,(r.drop (HT.sIx xs.length 0 lo)).take (HT.sIx xs.length xs.length hi - HT.sIx xs.length 0 lo),IsTup.new _ _⟩
end
end L2
namespace L2
open PySem PySem.Spec PyProof.Rows
def ixN (n : Nat) (i : Int) : Option Nat := if 0 <= i then (if i < n then some i.toNat else none) else if -(n : Int) <= i then some (i + n).toNat else none
def atI {α : Type} (xs : List α) (i : Int) : Option α := (ixN xs.length i).bind fun j => xs[j]?
theorem ixN_seq {n : Nat} {i : Int} {j : Nat} (h : ixN n i = some j) : seqIndex? i n = some j /\ j < n /\ -(n : Int) <= i /\ i < n := by
  unfold ixN at h
  by_cases h0 : 0 <= i
  · rw [if_pos h0] at h
    by_cases h1 : i < n
    · rw [if_pos h1] at h
      have e : i.toNat = j := Option.some.inj h
      exact ⟨by rw [seqIndex_of h0 h1,e],by omega,by omega,h1⟩
    · rw [if_neg h1] at h; cases h
  · rw [if_neg h0] at h
    by_cases h1 : -(n : Int) <= i
    · rw [if_pos h1] at h
      have e : (i + n).toNat = j := Option.some.inj h
      exact ⟨by rw [seqIndex_neg (by omega) h1,e],by omega,h1,by omega⟩
    · rw [if_neg h1] at h; cases h
theorem atI_get {α : Type} {xs : List α} {i : Int} {v : α} (h : atI xs i = some v) : ∃ j,seqIndex? i xs.length = some j /\ xs[j]? = some v /\ j < xs.length /\ -(xs.length : Int) <= i /\ i < xs.length := by
  unfold atI at h
  cases e : ixN xs.length i with
  | none => rw [e] at h; cases h
  | some j =>
    rw [e] at h
    obtain ⟨h1,h2,h3,h4⟩ := ixN_seq e
    exact ⟨j,h1,h,h2,h3,h4⟩
theorem atI_nat {α : Type} {xs : List α} {j : Nat} {v : α} (h : xs[j]? = some v) : atI xs (j : Int) = some v := by
  have hj : j < xs.length := (List.getElem?_eq_some_iff.mp h).1
  have e : ixN xs.length (j : Int) = some j := by
    unfold ixN
    rw [if_pos (by omega),if_pos (by omega)]; simp
  unfold atI; rw [e]; exact h
theorem atI_last {α : Type} (xs : List α) (v : α) : atI (xs ++ [v]) (-1) = some v := by
  have hl : (xs ++ [v]).length = xs.length + 1 := by simp
  have e : ixN (xs ++ [v]).length (-1) = some xs.length := by
    unfold ixN
    rw [hl,if_neg (by decide),if_pos (by omega)]
    congr 1
    omega
  unfold atI
  rw [e]
  show (xs ++ [v])[xs.length]? = some v
  simp
def PlainIx (b : Expr) : Prop := ∀ o i,subscripted b false o i = operate [o,i] (getItem o i)
def IxR (X : Cx) (r : R2) : Prop :=
  ∀ (value slice : Expr) (pins : List (Addr × Obj)) (s : Shared) (σ : St) (H : Hp) (x y : V) (v u : Value) (Q : VK),Inv X pins σ H s -> RelV x v -> RelV y u -> r x y H Q ->
    subscripted slice false v u = operate [v,u] (getItem v u) -> wpAny (model X.prog X.w) X.A (subscriptTail value slice v u) (EP X pins σ Q) X.xe s
def MtR (X : Cx) (id : String) (r : V -> List V -> Hp -> VK -> Prop) : Prop :=
  ∀ (pins : List (Addr × Obj)) (s : Shared) (σ : St) (H : Hp) (x : V) (xs : List V) (v : Value) (us : List Value) (Q : VK),Inv X pins σ H s -> RelV x v -> Vals xs us -> r x xs H Q ->
    wpAny (model X.prog X.w) X.A (call (.builtin id) (v :: us)) (EP X pins σ Q) X.xe s
section
variable {X : Cx} {a b : Expr} {ta tb : TE} {pos : Pos}
theorem pe_ix {r : R2} (hr : IxR X r) (ha : PE X a ta) (hb : PE X b tb) (hs : PlainIx b) : PE X (.Subscript a b pos) (tOp r ta tb) := by
  intro pins s σ H Q I h
  exact Subscript_ (binT ha hb I h fun v u s2 x y H2 I2 rx ry q => hr a b pins s2 σ H2 x y v u Q I2 rx ry q (hs _ _))
def rIxL (K : PySem.W.Frag) : R2 := fun x y H Q => ∃ p xs i v,x = .ref p /\ y = .int i /\ SqL K H p xs /\ atI xs i = some v /\ Q v H
def rIxT (K : PySem.W.Frag) : R2 := fun x y H Q => ∃ p xs i v,x = .ref p /\ y = .int i /\ SqT K H p xs /\ atI xs i = some v /\ Q v H
def rIxS : R2 := fun x y H Q => ∃ z i c,x = .str z /\ y = .int i /\ z.length <= sizeLine /\ atI z.cps.toList i = some c /\ Q (.str ⟨#[c]⟩) H
theorem ix_list : IxR X (rIxL X.K) := by
  intro value slice pins s σ H x y v u Q I rx ry h hs
  obtain ⟨p,xs,i,z,rfl,rfl,hq,he,q⟩ := h
  cases rx
  obtain ⟨t,rfl⟩ := ry
  obtain ⟨its,r,pl,hz⟩ := I.list hq
  obtain ⟨j,h1,h2,h3,h4,h5⟩ := atI_get he
  obtain ⟨w,ew,rw'⟩ := r.get h2
  have hl := r.length
  have hn := line63
  have fin : EP X pins σ Q w s := ⟨z,H,I,rw',q⟩
  by_cases h0 : 0 <= i
  · have hj : i.toNat = j := by
      rw [seqIndex_of h0 h5] at h1
      exact Option.some.inj h1
    exact item_listR pl.isList h0 (by omega) (by rw [hj]; simpa using ew) fin hs
  · have hj : (i + (its.toArray.size : Int)).toNat = j := by
      rw [seqIndex_neg (by omega) h4] at h1
      rw [List.size_toArray,<- hl]
      exact Option.some.inj h1
    exact subscriptTail_builtinR (x := w) pl.isList.typeIs slot_list_getitem.lookup
      (wpAny_getItem_list_neg (Q := fun r s' => r = w /\ EP X pins σ Q r s') pl.isList (by omega) (by rw [List.size_toArray] <;> omega) (by omega) (by rw [hj]; simpa using ew) ⟨rfl,fin⟩) hs
theorem ix_tup : IxR X (rIxT X.K) := by
  intro value slice pins s σ H x y v u Q I rx ry h hs
  obtain ⟨p,xs,i,z,rfl,rfl,hq,he,q⟩ := h
  cases rx
  obtain ⟨t,rfl⟩ := ry
  obtain ⟨its,r,pl,hz⟩ := I.tuple hq
  obtain ⟨j,h1,h2,h3,h4,h5⟩ := atI_get he
  obtain ⟨w,ew,rw'⟩ := r.get h2
  have hl := r.length
  have hn := line63
  have fin : EP X pins σ Q w s := ⟨z,H,I,rw',q⟩
  exact subscriptTail_builtinR (x := w) pl.typeIs slot_tuple_getitem.lookup
    (getItem_tuple (j := j) (Q := fun r s' => r = w /\ EP X pins σ Q r s') pl (by omega) (by omega) (by rw [List.size_toArray,<- hl]; exact h1) (by simpa using ew) ⟨rfl,fin⟩) hs
theorem ix_str : IxR X rIxS := by
  intro value slice pins s σ H x y v u Q I rx ry h hs
  obtain ⟨z,i,c,rfl,rfl,hz,he,q⟩ := h
  obtain ⟨t,rfl⟩ := rx
  obtain ⟨t',rfl⟩ := ry
  obtain ⟨j,h1,h2,h3,h4,h5⟩ := atI_get he
  have hl : z.cps.toList.length = z.length := by simp [Str.length]
  rw [hl] at h1 h4 h5
  have hn := line63
  exact tail_any (typeIs_str s z t) slot_str_getitem.lookup (getItem_str (c := c) (by
    have e1 : decide (i < -(2 ^ 63 : Int)) = false := decide_eq_false (by omega)
    have e2 : decide (i >= 2 ^ 63) = false := decide_eq_false (by omega)
    rw [e1,e2,Bool.or_false]) (by rw [h1]; simpa using h2) ⟨.str ⟨#[c]⟩,H,I.tok _,⟨_,rfl⟩,q⟩) hs
theorem mapSeq_set (its : List Value) (n j : Nat) (u : Value) : Obj.mapSeq (·.setIfInBounds j u) { cls := .type "list",data := .seq its.toArray n } = { cls := .type "list",data := .seq (its.set j u).toArray n } := by
  simp [Obj.mapSeq]
theorem Inv.lst {pins : List (Addr × Obj)} {σ : St} {H : Hp} {s : Shared} {p : Addr} {xs : List V} (I : Inv X pins σ H s) (h : H p = some (.lst xs)) :
    ∃ (its : List Value) (n : Nat),Vals xs its /\ s.heap.get? p = some { cls := .type "list",data := .seq its.toArray n } /\ xs.length <= sizeLine := by
  obtain ⟨z,its,n,r,e⟩ := I.hok p _ h
  exact ⟨its,n,r,e,z⟩
theorem Inv.lstUpd {pins : List (Addr × Obj)} {σ : St} {H : Hp} {s : Shared} {p : Addr} {xs ys : List V} {its its' : List Value} {n n' : Nat} {f : Obj -> Obj} (I : Inv X pins σ H s) (h : H p = some (.lst xs))
    (ho : s.heap.get? p = some { cls := .type "list",data := .seq its.toArray n }) (hf : f { cls := .type "list",data := .seq its.toArray n } = { cls := .type "list",data := .seq its'.toArray n' }) (r : Vals ys its') (hz : ys.length <= sizeLine) (t : Nat) :
    Inv X pins σ (upd H p (.lst ys)) { s with heap := s.heap.update p f,toks := t } := by
  have e : (s.heap.update p f).get? p = some { cls := .type "list",data := .seq its'.toArray n' } := by
    rw [Heap.get?_update_self f ho (by rw [hf] <;> rfl),hf]
  refine I.write (x := p) (e := p) (by rw [h]; trivial) (.inl rfl) (fun b u hb q => (Heap.get?_update_other _ _ (Ne.symm hb)).trans q) ⟨_,e⟩ ?_
  exact ⟨hz,its',n',r,e⟩
def rSetL : V -> V -> V -> Hp -> (Hp -> Prop) -> Prop := fun o i v H Q => ∃ p xs k j,o = .ref p /\ i = .int k /\ H p = some (.lst xs) /\ ixN xs.length k = some j /\ Q (upd H p (.lst (xs.set j v)))
theorem set_list : PSet X rSetL := by
  intro pins s σ H o i v ov iv u Q I ro ri rv h
  obtain ⟨p,xs,k,j,rfl,rfl,hp,hj,q⟩ := h
  cases ro
  obtain ⟨t,rfl⟩ := ri
  obtain ⟨its,n,r,ho,hz⟩ := I.lst hp
  obtain ⟨h1,h2,h3,h4⟩ := ixN_seq hj
  have hl := r.length
  have hn := line63
  have I' : Inv X pins σ (upd H p (.lst (xs.set j v))) { s with heap := s.heap.update p (Obj.mapSeq (·.setIfInBounds j u)) } :=
    I.lstUpd hp ho (mapSeq_set its n j u) (r.set rv j) (by rw [List.length_set]; exact hz) s.toks
  by_cases h0 : 0 <= k
  · have hk : k.toNat = j := by
      rw [seqIndex_of h0 h4] at h1
      exact Option.some.inj h1
    exact PySem.W.ki_setAt ho h0 (by omega) (by rw [List.size_toArray,<- hl]; exact h4) (by rw [hk]; exact ⟨_,I',q⟩)
  · have hk : (k + (its.toArray.size : Int)).toNat = j := by
      rw [seqIndex_neg (by omega) h3] at h1
      rw [List.size_toArray,<- hl]
      exact Option.some.inj h1
    exact PySem.W.ki_setBack ho (by omega) (by rw [List.size_toArray,<- hl]; exact h3) (by omega) (by rw [hk]; exact ⟨_,I',q⟩)
theorem slice_bounds (lo hi : Option Int) (n : Nat) : (sliceBounds lo hi none n).1 = ((HT.sIx n 0 lo : Nat) : Int) /\ (sliceBounds lo hi none n).2.1 = ((HT.sIx n n hi : Nat) : Int) /\ (sliceBounds lo hi none n).2.2 = 1 := by
  refine ⟨?_,?_,rfl⟩
  · cases lo with
    | none => simp [sliceBounds,HT.sIx]
    | some i =>
      simp only [sliceBounds,HT.sIx,Option.getD_none,show (1 : Int) > 0 by decide,if_true]
      by_cases h : i < 0
      · simp only [h,if_true] <;> omega
      · simp only [h,if_false] <;> omega
  · cases hi with
    | none => simp [sliceBounds,HT.sIx]
    | some i =>
      simp only [sliceBounds,HT.sIx,Option.getD_none,show (1 : Int) > 0 by decide,if_true]
      by_cases h : i < 0
      · simp only [h,if_true] <;> omega
      · simp only [h,if_false] <;> omega
theorem slicePick_cut (its : List Value) (lo hi : Option Int) : slicePick its.toArray lo hi none = ((its.drop (HT.sIx its.length 0 lo)).take (HT.sIx its.length its.length hi - HT.sIx its.length 0 lo)).toArray := by
  obtain ⟨h1,h2,h3⟩ := slice_bounds lo hi its.toArray.size
  unfold slicePick
  rw [h1,h2,h3]
  simp only [sliceRange_one,pick_run,List.size_toArray] <;> rfl
def rSlL (K : PySem.W.Frag) : V -> Option Int -> Option Int -> Hp -> VK -> Prop := fun x lo hi H Q => ∃ a xs,x = .ref a /\ SqL K H a xs /\ ∀ p,H p = none -> Q (.ref p) (upd H p (.lst (cutV xs lo hi)))
theorem sl_list : SlR X (rSlL X.K) := by
  intro pins s σ H x v vl vu lo hi sl Q I rx hs pl pu h
  obtain ⟨a,xs,rfl,hx,q⟩ := h
  cases rx
  obtain ⟨its,r,ht,hz⟩ := I.list hx
  have hlen := r.length
  refine ⟨"list",_,slot_list_getitem.lookup,ht.isList.typeIs,?_⟩
  refine wpAny_getItem_list_slice ht.isList hs pl pu .none (by simp) ?_ (by rw [List.size_toArray] <;> omega)
  rw [slicePick_cut,<- hlen]
  refine ⟨.ref s.heap.objs.size,_,I.laid (t' := s.toks) (o := .lst (cutV xs lo hi)) (fun b ob q => Heap.get?_push_of_some _ q) (Nat.le_refl _) ?_,rfl,q _ (I.hok.fresh (Nat.le_refl _))⟩
  exact ⟨Nat.le_trans (cutV_length xs lo hi) hz,_,0,(r.drop (HT.sIx xs.length 0 lo)).take (HT.sIx xs.length xs.length hi - HT.sIx xs.length 0 lo),Heap.get?_push_size _ rfl⟩
def flatV : V -> Bool
  | .non => true
  | .bl _ => true
  | .int _ => true
  | .str _ => true
  | _ => false
def eqV : V -> V -> Bool
  | .non,.non => true
  | .bl a,.bl b => a == b
  | .bl a,.int b => (if a then 1 else 0) == b
  | .int a,.bl b => a == (if b then 1 else 0)
  | .int a,.int b => a == b
  | .str a,.str b => a == b
  | _,_ => false
theorem eqAt_V {A : Around} {s : Shared} {y x : V} {u v : Value} (ry : RelV y u) (rx : RelV x v) (fy : flatV y = true) (fx : flatV x = true) : SeqAt.EqAt A s u v (eqV y x) := by
  cases y with
  | non =>
    cases ry
    cases x with
    | non => cases rx; exact SeqAt.EqAt.same _
    | bl b => cases rx; exact SeqAt.EqAt.none_bool b
    | int b => obtain ⟨t,rfl⟩ := rx; exact SeqAt.EqAt.none_int b t
    | str b => obtain ⟨t,rfl⟩ := rx; exact SeqAt.EqAt.none_str b t
    | _ => exact absurd (show false = true from fx) Bool.false_ne_true
  | bl a =>
    cases ry
    cases x with
    | non => cases rx; exact SeqAt.EqAt.bool_none a
    | bl b => cases rx; exact SeqAt.EqAt.bool_bool a b
    | int b => obtain ⟨t,rfl⟩ := rx; exact SeqAt.EqAt.bool_int a b t
    | str b => obtain ⟨t,rfl⟩ := rx; exact SeqAt.EqAt.bool_str a b t
    | _ => exact absurd (show false = true from fx) Bool.false_ne_true
  | int a =>
    obtain ⟨t',rfl⟩ := ry
    cases x with
    | non => cases rx; exact SeqAt.EqAt.int_none a t'
    | bl b => cases rx; exact SeqAt.EqAt.int_bool a t' b
    | int b => obtain ⟨t,rfl⟩ := rx; exact SeqAt.EqAt.int_int a t' b t
    | str b => obtain ⟨t,rfl⟩ := rx; exact SeqAt.EqAt.int_str a t' b t
    | _ => exact absurd (show false = true from fx) Bool.false_ne_true
  | str a =>
    obtain ⟨t',rfl⟩ := ry
    cases x with
    | non => cases rx; exact SeqAt.EqAt.str_none a t'
    | bl b => cases rx; exact SeqAt.EqAt.str_bool a t' b
    | int b => obtain ⟨t,rfl⟩ := rx; exact SeqAt.EqAt.str_int a t' b t
    | str b => obtain ⟨t,rfl⟩ := rx; exact SeqAt.EqAt.str_str a t' b t
    | _ => exact absurd (show false = true from fx) Bool.false_ne_true
  | _ => exact absurd (show false = true from fy) Bool.false_ne_true
def eqU (x : V) (u : Value) : Bool := match u with
  | .none => eqV .non x
  | .bool b => eqV (.bl b) x
  | .int i _ => eqV (.int i) x
  | .str z _ => eqV (.str z) x
  | _ => false
theorem eqU_of {x y : V} {u : Value} (r : RelV y u) (f : flatV y = true) : eqU x u = eqV y x := by
  cases y with
  | non => cases r; rfl
  | bl b => cases r; rfl
  | int i => obtain ⟨t,rfl⟩ := r; rfl
  | str z => obtain ⟨t,rfl⟩ := r; rfl
  | _ => exact absurd (show false = true from f) Bool.false_ne_true
theorem any_eqU {x : V} : ∀ {xs : List V} {us : List Value},Vals xs us -> xs.all flatV = true -> us.any (eqU x) = xs.any fun y => eqV y x
  | _,_,.nil,_ => rfl
  | y :: xs,u :: us,.cons r t,f => by
    rw [List.all_cons,Bool.and_eq_true] at f
    rw [List.any_cons,List.any_cons,eqU_of r f.1,any_eqU t f.2]
theorem mem_eqAt {A : Around} {s : Shared} {x : V} {v : Value} (rx : RelV x v) (fx : flatV x = true) : ∀ {xs : List V} {us : List Value},Vals xs us -> xs.all flatV = true -> ∀ u ∈ us,SeqAt.EqAt A s u v (eqU x u)
  | _,_,.nil,_ => fun u hu => by cases hu
  | y :: xs,u :: us,.cons r t,f => fun u' hu => by
    rw [List.all_cons,Bool.and_eq_true] at f
    rcases List.mem_cons.mp hu with rfl | hu
    · rw [eqU_of r f.1]; exact eqAt_V r rx f.1 fx
    · exact mem_eqAt rx fx t f.2 u' hu
def inV (x : V) (xs : List V) : Bool := xs.any fun y => eqV y x
def rIn (K : PySem.W.Frag) (neg : Bool) : R2 := fun x y H Q => ∃ p xs,y = .ref p /\ (SqL K H p xs \/ SqT K H p xs) /\ flatV x = true /\ xs.all flatV = true /\ Q (.bl (if neg then !inV x xs else inV x xs)) H
theorem op_in_seq : OpR X (compareOp .In) (rIn X.K false) := by
  intro pins s σ H x y v u Q I rx ry h
  obtain ⟨p,xs,rfl,hq,fx,fs,q⟩ := h
  cases ry
  rcases hq with hq | hq
  · obtain ⟨its,r,pl,hz⟩ := I.list hq
    refine SeqAt.in_listAt (eqU x) pl.isList (fun w hw => mem_eqAt rx fx r fs w (by simpa using hw)) ⟨.bl _,H,I,rfl,?_⟩
    rw [show its.toArray.any (eqU x) = its.any (eqU x) by simp,any_eqU r fs]
    exact q
  · obtain ⟨its,r,pl,hz⟩ := I.tuple hq
    refine SeqAt.in_tupleAt (eqU x) pl (fun w hw => mem_eqAt rx fx r fs w (by simpa using hw)) ⟨.bl _,H,I,rfl,?_⟩
    rw [show its.toArray.any (eqU x) = its.any (eqU x) by simp,any_eqU r fs]
    exact q
theorem op_notIn_seq : OpR X (compareOp .NotIn) (rIn X.K true) := by
  intro pins s σ H x y v u Q I rx ry h
  obtain ⟨p,xs,rfl,hq,fx,fs,q⟩ := h
  cases ry
  rcases hq with hq | hq
  · obtain ⟨its,r,pl,hz⟩ := I.list hq
    refine SeqAt.notIn_listAt (eqU x) pl.isList (fun w hw => mem_eqAt rx fx r fs w (by simpa using hw)) ⟨.bl _,H,I,rfl,?_⟩
    rw [show its.toArray.any (eqU x) = its.any (eqU x) by simp,any_eqU r fs]
    exact q
  · obtain ⟨its,r,pl,hz⟩ := I.tuple hq
    refine SeqAt.notIn_tupleAt (eqU x) pl (fun w hw => mem_eqAt rx fx r fs w (by simpa using hw)) ⟨.bl _,H,I,rfl,?_⟩
    rw [show its.toArray.any (eqU x) = its.any (eqU x) by simp,any_eqU r fs]
    exact q
theorem op_notIn_str : OpR X (compareOp .NotIn) (fun x y H Q => ∃ i j,x = .str i /\ y = .str j /\ Q (.bl (!(!(Builtin.Str.occurrences j i 0 j.length 1).isEmpty))) H) := by
  intro pins s σ H x y v u Q I rx ry h
  obtain ⟨i,j,rfl,rfl,q⟩ := h
  obtain ⟨t,rfl⟩ := rx
  obtain ⟨t',rfl⟩ := ry
  exact notIn_str ⟨.bl _,H,I,rfl,q⟩
theorem call_len_seq : CallR X (.builtin "len") (fun xs H Q => ∃ p ys,xs = [.ref p] /\ (SqL X.K H p ys \/ SqT X.K H p ys) /\ Q (.int ys.length) H) := by
  intro pins s σ H xs us Q I r h
  obtain ⟨p,ys,rfl,hq,q⟩ := h
  obtain ⟨u,rfl,rx⟩ := vals1 r
  cases rx
  have hn := line63
  rcases hq with hq | hq
  · obtain ⟨its,r',pl,hz⟩ := I.list hq
    have hlen := r'.length
    exact Calls.call_len_list pl.isList (by simp only [List.size_toArray] <;> omega) ⟨.int ys.length,H,I.tok _,⟨s.toks + 1,by rw [List.size_toArray,hlen]⟩,q⟩
  · obtain ⟨its,r',pl,hz⟩ := I.tuple hq
    have hlen := r'.length
    exact len_tuple pl (by simp only [List.size_toArray] <;> omega) ⟨.int ys.length,H,I.tok _,⟨s.toks + 1,by rw [List.size_toArray,hlen]⟩,q⟩
theorem call_len_str : CallR X (.builtin "len") (fun xs H Q => ∃ z,xs = [.str z] /\ z.length <= sizeLine /\ Q (.int z.length) H) := by
  intro pins s σ H xs us Q I r h
  obtain ⟨z,rfl,hz,q⟩ := h
  obtain ⟨u,rfl,t,rfl⟩ := vals1 r
  have hn := line63
  exact len_str (by omega) ⟨.int z.length,H,I.tok _,⟨_,rfl⟩,q⟩
theorem call_list_of : CallR X (.type "list") (fun xs H Q => ∃ p ys,xs = [.ref p] /\ (SqL X.K H p ys \/ SqT X.K H p ys) /\ ∀ l,H l = none -> Q (.ref l) (upd H l (.lst ys))) := by
  intro pins s σ H xs us Q I r h
  obtain ⟨p,ys,rfl,hq,q⟩ := h
  obtain ⟨u,rfl,rx⟩ := vals1 r
  cases rx
  have fin : ∀ (its : List Value),Vals ys its -> ys.length <= sizeLine -> ∀ (h' : Heap) (c' : Nat),(∀ b o',s.heap.get? b = some o' -> h'.get? b = some o') ->
      h'.get? s.heap.objs.size = some { cls := .type "list",dict := none,data := .seq its.toArray c',slots := #[] } -> EP X pins σ Q (.ref s.heap.objs.size) { s with heap := h' } := fun its r' hz h' c' kp e =>
    ⟨.ref s.heap.objs.size,_,I.laid (t' := s.toks) kp (Nat.le_refl _) (show ObjOk X.prog X.w _ h' _ (.lst ys) from ⟨hz,its,c',r',e⟩),rfl,q _ (I.hok.fresh (Nat.le_refl _))⟩
  rcases hq with hq | hq
  · obtain ⟨its,r',pl,hz⟩ := I.list hq
    have hlen := r'.length
    obtain ⟨o,ho,hc,n,hd⟩ := pl.isList
    exact call_list_seq p (.inl rfl) ho hc hd (fun h' c' kp e => fin its r' hz h' c' kp e) (by simp only [List.size_toArray] <;> omega)
  · obtain ⟨its,r',pl,hz⟩ := I.tuple hq
    have hlen := r'.length
    obtain ⟨o,ho,hc,n,hd⟩ := pl
    exact call_list_seq p (.inr rfl) ho hc hd (fun h' c' kp e => fin its r' hz h' c' kp e) (by simp only [List.size_toArray] <;> omega)
theorem call_tuple_of : CallR X (.type "tuple") (fun xs H Q => ∃ p ys,xs = [.ref p] /\ ((SqL X.K H p ys /\ ∀ l,H l = none -> Q (.ref l) (upd H l (.tup ys))) \/ (SqT X.K H p ys /\ Q (.ref p) H))) := by
  intro pins s σ H xs us Q I r h
  obtain ⟨p,ys,rfl,h⟩ := h
  obtain ⟨u,rfl,rx⟩ := vals1 r
  cases rx
  rcases h with ⟨hq,q⟩ | ⟨hq,q⟩
  · obtain ⟨its,r',pl,hz⟩ := I.list hq
    have hlen := r'.length
    refine call_tuple_list pl.isList (fun h' kp => ?_) (by simp only [List.size_toArray] <;> omega)
    have I1 : Inv X pins σ H { s with heap := h' } := I.kept (t' := s.toks) kp
    have I2 : Inv X pins σ (upd H h'.objs.size (.tup ys)) { s with heap := h'.push { cls := .type "tuple",data := .seq its.toArray } } :=
      I1.laid (t' := s.toks) (fun b o e => Heap.get?_push_of_some _ e) (Nat.le_refl _) (show ObjOk X.prog X.w _ _ _ (.tup ys) from ⟨hz,its,r',IsTup.new _ _⟩)
    exact ⟨.ref h'.objs.size,_,I2,rfl,q _ (I1.hok.fresh (Nat.le_refl _))⟩
  · obtain ⟨its,r',pl,hz⟩ := I.tuple hq
    exact call_tuple_same pl ⟨.ref p,H,I,rfl,q⟩
def tyV (K : PySem.W.Frag) (T : String) (x : V) (H : Hp) : Prop := match x with
  | .str _ => T = "str"
  | .int _ => T = "int"
  | .ref p => (T = "list" /\ ∃ xs,SqL K H p xs) \/ (T = "tuple" /\ ∃ o,K.lookup p = some o /\ o.cls = .type "tuple" /\ o.dict = none) \/
      (T = "dict" /\ ((∃ kvs,H p = some (.dK kvs)) \/ ∃ kvs,H p = some (.dT kvs))) \/ (T = "set" /\ ∃ S n,H p = some (.set S n))
  | _ => False
theorem tyV_is {pins : List (Addr × Obj)} {σ : St} {H : Hp} {s : Shared} {T : String} {x : V} {v : Value} (I : Inv X pins σ H s) (r : RelV x v) (ty : tyV X.K T x H) :
    s.TypeIs v T /\ ∀ a,v = .ref a -> ∃ ob,s.heap.get? a = some ob /\ ob.dict = none := by
  cases x with
  | str z =>
    obtain ⟨t,rfl⟩ := r
    cases (show T = "str" from ty)
    exact ⟨typeIs_str s z t,fun _ e => nomatch e⟩
  | int i =>
    obtain ⟨t,rfl⟩ := r
    cases (show T = "int" from ty)
    exact ⟨typeIs_int s i t,fun _ e => nomatch e⟩
  | ref p =>
    cases r
    rcases ty with ⟨rfl,xs,hq⟩ | ⟨rfl,o,hk,hc,hd⟩ | ⟨rfl,hk⟩ | ⟨rfl,S,n,hk⟩
    · obtain ⟨its,_,pl,_⟩ := I.list hq
      refine ⟨pl.isList.typeIs,fun a e => ?_⟩
      cases e
      obtain ⟨o,n,e,c,hd,_⟩ := pl
      exact ⟨o,e,hd⟩
    · refine ⟨⟨o,I.kIn p o hk,hc⟩,fun a e => ?_⟩
      cases e
      exact ⟨o,I.kIn _ o hk,hd⟩
    · have z : ∃ o,s.heap.get? p = some o /\ o.ExactDict := by
        rcases hk with ⟨kvs,hk⟩ | ⟨kvs,hk⟩
        · obtain ⟨_,_,_,_,o,_,_,e,ex,_⟩ := I.hok p _ hk
          exact ⟨o,e,ex⟩
        · obtain ⟨_,_,_,_,o,_,_,e,ex,_⟩ := I.hok p _ hk
          exact ⟨o,e,ex⟩
      obtain ⟨o,e,ex⟩ := z
      refine ⟨⟨o,e,ex.1⟩,fun a e2 => ?_⟩
      cases e2
      exact ⟨o,e,ex.2.1⟩
    · obtain ⟨o,_,_,_,e,ex,_⟩ := I.hok p _ hk
      refine ⟨⟨o,e,ex.1⟩,fun a e2 => ?_⟩
      cases e2
      exact ⟨o,e,ex.2.1⟩
  | _ => exact False.elim ty
def tBM (K : PySem.W.Frag) (T : String) (r : V -> List V -> Hp -> VK -> Prop) (to : TE) (t : TA) : TE := fun σ H Q => to σ H fun x H1 => tyV K T x H1 /\ t σ H1 fun xs H2 => r x xs H2 Q
variable {o e : Expr} {es : List Expr} {to : TE} {t : TA} {name : Str} {apos cpos : Pos} {T id : String} {r : V -> List V -> Hp -> VK -> Prop}
theorem pe_bm (pa : PlainAttrs T) (slot : Slot T name id) (hty : typeOf (.builtin id) = pure (.type "method_descriptor")) (hm : MtR X id r) (ho : PE X o to) (ha : PA X (e :: es) t)
    (hbase : attributeBase o name X.env (eval o X.env) = eval o X.env := by rfl)
    (hfew : ((backTo cpos (starEach (e :: es) X.env)).all (fun x => !x.1) && (backToKw cpos (keywordEach [] X.env)).all (fun x => x.1.isSome)
      && decide ((e :: es).length + ([] : List Keyword).length + (if ([] : List Keyword).isEmpty then 0 else 1) < 30)) = true := by rfl)
    (hline : (apos.endLine == cpos.line) = true := by rfl) (hs : starEach (e :: es) X.env = (false,eval e X.env) :: starEach es X.env := by rfl) (hplain : (backTo cpos (starEach es X.env)).any (·.1) = false := by rfl) :
    PE X (.Call (.Attribute o name apos) (e :: es) [] cpos) (tBM X.K T r to t) := by
  intro pins s σ H Q I h
  refine wpAny_Call_method_late hbase hfew hline rfl (thn (ho pins s σ H _ I h) fun v s1 ⟨x,H1,I1,r1,ty,q1⟩ => ?_)
  obtain ⟨h1,h2⟩ := tyV_is I1 r1 ty
  refine ⟨T,id,pa,slot,hty,h1,h2,?_⟩
  have hA := ha cpos pins s1 σ H1 _ I1 q1
  rw [hs] at hA ⊢
  refine Calls.callWith_builtin (by show (false || (backTo cpos (starEach es X.env)).any (·.1)) = false; rw [hplain] <;> rfl) (Calls.evalArgs_plain ?_)
  exact thn hA fun us s2 ⟨vs,H2,I2,r2,q2⟩ => hm pins s2 σ H2 x vs v us Q I2 r1 r2 q2
end
end L2
namespace L2
open PySem PySem.Spec PyProof.Rows
def MtM (X : Cx) (id : String) (r : V -> List V -> Hp -> VK -> Prop) : Prop :=
  ∀ (pins : List (Addr × Obj)) (s : Shared) (σ : St) (H : Hp) (x : V) (xs : List V) (v : Value) (us : List Value) (Q : VK),Inv X pins σ H s -> RelV x v -> Vals xs us -> r x xs H Q ->
    wpAny (model X.prog X.w) X.A (call (.builtin id) (v :: us)) (EP X pins σ Q) X.xe s
theorem Vals.one : ∀ {x : V} {us : List Value},Vals [x] us -> ∃ u,us = [u] /\ RelV x u
  | _,_,.cons r .nil => ⟨_,rfl,r⟩
theorem Vals.two : ∀ {x y : V} {us : List Value},Vals [x,y] us -> ∃ u v,us = [u,v] /\ RelV x u /\ RelV y v
  | _,_,_,.cons r (.cons q .nil) => ⟨_,_,rfl,r,q⟩
theorem Vals.zero : ∀ {us : List Value},Vals [] us -> us = []
  | _,.nil => rfl
theorem Vals.dropLast {xs : List V} {us : List Value} (h : Vals xs us) : Vals xs.dropLast us.dropLast := by
  induction h with
  | nil => exact .nil
  | cons r t ih =>
    cases t with
    | nil => exact .nil
    | cons q t' => exact .cons r ih
theorem Vals.eraseIdx : ∀ {xs : List V} {us : List Value} (i : Nat),Vals xs us -> Vals (xs.eraseIdx i) (us.eraseIdx i)
  | _,_,_,.nil => .nil
  | _,_,0,.cons _ t => t
  | _,_,i + 1,.cons r t => .cons r (Vals.eraseIdx i t)
theorem Vals.rep {xs : List V} {us : List Value} (h : Vals xs us) : ∀ k : Nat,Vals (List.replicate k xs).flatten (List.replicate k us).flatten
  | 0 => .nil
  | k + 1 => by
    rw [List.replicate_succ,List.replicate_succ,List.flatten_cons,List.flatten_cons]
    exact Vals.append h (Vals.rep h k)
theorem len_erase {α : Type} : ∀ (l : List α) (i : Nat),(l.eraseIdx i).length <= l.length
  | [],_ => Nat.le_refl _
  | _ :: _,0 => Nat.le_succ _
  | _ :: r,i + 1 => Nat.succ_le_succ (len_erase r i)
theorem foldl_rep (its : List Value) : ∀ (k : Nat) (acc : List Value),
    List.foldl (fun x1 x2 => x1 ++ x2) acc.toArray (List.replicate k its.toArray) = (acc ++ (List.replicate k its).flatten).toArray
  | 0,acc => by simp
  | k + 1,acc => by
    have e : acc.toArray ++ its.toArray = (acc ++ its).toArray := by simp
    have e2 : (acc ++ its) ++ (List.replicate k its).flatten = acc ++ (List.replicate (k + 1) its).flatten := by
      rw [List.replicate_succ,List.flatten_cons,List.append_assoc]
    rw [<- e2,<- foldl_rep its k (acc ++ its),<- e,List.replicate_succ,List.foldl_cons]
section
variable {X : Cx} {pins : List (Addr × Obj)} {σ : St} {H : Hp} {s : Shared} {l b : Addr} {xs ys zs : List V}
theorem Inv.lset {its its' : List Value} {n : Nat} {f : Array Value -> Array Value} {t' : Nat} (I : Inv X pins σ H s) (hH : H l = some (.lst xs))
    (e : s.heap.get? l = some { cls := .type "list",data := .seq its.toArray n }) (hf : f its.toArray = its'.toArray) (hv : Vals ys its') (hz : ys.length <= sizeLine) :
    Inv X pins σ (upd H l (.lst ys)) { s with heap := s.heap.update l (Obj.mapSeq f),toks := t' } := by
  have q := PySem.IsL.update e f
  rw [hf] at q
  refine I.write (x := l) (e := l) (by rw [hH]; exact trivial) (.inl rfl) (fun b' u hb hu => (Heap.get?_update_other s.heap (Obj.mapSeq f) (Ne.symm hb)).trans hu) ⟨_,q⟩ ?_
  exact ⟨hz,its',_,hv,q⟩
theorem Inv.lnew {its : List Value} {t' : Nat} (I : Inv X pins σ H s) (hv : Vals ys its) (hz : ys.length <= sizeLine) :
    Inv X pins σ (upd H s.heap.objs.size (.lst ys)) { s with heap := s.heap.push { cls := .type "list",data := .seq its.toArray },toks := t' } :=
  I.laid (fun _ _ q => Heap.get?_push_of_some _ q) (Nat.le_refl _) ⟨hz,its,0,hv,Heap.get?_push_size _ rfl⟩
theorem Inv.fresh (I : Inv X pins σ H s) : H s.heap.objs.size = none := I.hok.fresh (Nat.le_refl _)
theorem Inv.lstM (I : Inv X pins σ H s) (hH : H l = some (.lst xs)) : xs.length <= sizeLine /\ ∃ (its : List Value) (n : Nat),Vals xs its /\ xs.length = its.length /\ s.heap.get? l = some { cls := .type "list",data := .seq its.toArray n } := by
  obtain ⟨z,its,n,r,e⟩ := I.hok l _ hH
  exact ⟨z,its,n,r,r.length,e⟩
theorem notLongL {n : Nat} (h : n <= sizeLine) : Builtin.List.listTooLong n = false := by
  unfold Builtin.List.listTooLong
  exact decide_eq_false (by omega)
end
section
variable {X : Cx}
def rAppend : V -> List V -> Hp -> VK -> Prop := fun x vs H Q => ∃ l xs y,x = .ref l /\ vs = [y] /\ H l = some (.lst xs) /\ xs.length < sizeLine /\ Q .non (upd H l (.lst (xs ++ [y])))
theorem mt_append : MtM X "list.append" rAppend := by
  intro pins s σ H x vs v us Q I rx rv h
  obtain ⟨l,xs,y,rfl,rfl,hH,hz,q⟩ := h
  cases rx
  obtain ⟨u,rfl,ru⟩ := rv.one
  obtain ⟨z,its,n,r,hl,e⟩ := I.lstM hH
  refine call_meets F.slot_list_append ⟨_,e,rfl⟩ F.entry_list_append (F.args_list_append_2 _ _) (PySem.list_append l its.toArray n u (by rw [List.size_toArray]; omega)) ⟨e,?_⟩
  refine ⟨.non,_,I.lset (its' := its ++ [u]) hH e (by simp) (r.append (.cons ru .nil)) ?_,rfl,q⟩
  rw [List.length_append,List.length_singleton]
  omega
def rExtend : V -> List V -> Hp -> VK -> Prop := fun x vs H Q => ∃ l b xs zs,x = .ref l /\ vs = [.ref b] /\ H l = some (.lst xs) /\ H b = some (.lst zs) /\ xs.length + zs.length <= sizeLine /\ Q .non (upd H l (.lst (xs ++ zs)))
theorem mt_extend : MtM X "list.extend" rExtend := by
  intro pins s σ H x vs v us Q I rx rv h
  obtain ⟨l,b,xs,zs,rfl,rfl,hH,hB,hz,q⟩ := h
  cases rx
  obtain ⟨u,rfl,ru⟩ := rv.one
  cases ru
  obtain ⟨z,its,n,r,hl,e⟩ := I.lstM hH
  obtain ⟨z2,its2,n2,r2,hl2,e2⟩ := I.lstM hB
  have hsz : its.toArray.size + its2.toArray.size <= sizeLine := by rw [List.size_toArray,List.size_toArray]; omega
  have hlong : ¬ (!its.toArray.isEmpty && Builtin.List.listTooLong (its.toArray.size + its2.toArray.size)) = true := by
    rw [notLongL hsz,Bool.and_false]
    exact Bool.false_ne_true
  refine call_meets F.slot_list_extend ⟨_,e,rfl⟩ F.entry_list_extend (F.args_list_extend_2 _ _)
    (AutoSeq1.list_extend_list_list_0 l its.toArray n b its2.toArray n2 hlong (by rw [List.size_toArray]; omega) (by omega)) ⟨e,e2,?_⟩
  refine ⟨.non,_,I.lset (its' := its ++ its2) hH e (by simp) (r.append r2) ?_,rfl,q⟩
  rw [List.length_append]
  omega
def rPopAt : V -> List V -> Hp -> VK -> Prop := fun x vs H Q => ∃ l xs i k y,x = .ref l /\ vs = [.int i] /\ H l = some (.lst xs) /\ -(2 ^ 63) <= i /\ i < 2 ^ 63 /\ seqIndex? i xs.length = some k /\ xs[k]? = some y /\ Q y (upd H l (.lst (xs.eraseIdx k)))
theorem mt_popAt : MtM X "list.pop" rPopAt := by
  intro pins s σ H x vs v us Q I rx rv h
  obtain ⟨l,xs,i,k,y,rfl,rfl,hH,h1,h2,hk,hy,q⟩ := h
  cases rx
  obtain ⟨u,rfl,ru⟩ := rv.one
  obtain ⟨t,rfl⟩ := ru
  obtain ⟨z,its,n,r,hl,e⟩ := I.lstM hH
  obtain ⟨w,hw,rw'⟩ := r.get hy
  refine call_meets F.slot_list_pop ⟨_,e,rfl⟩ F.entry_list_pop (F.args_list_pop_2 _ _)
    (MeetsSeq.list_pop_at l its.toArray n i t k w (fitsIndex_both h1 h2) (by rw [List.size_toArray,<- hl]; exact hk) (by rw [<- Array.getElem?_toList]; exact hw) (by rw [List.size_toArray]; omega)) ⟨e,?_⟩
  refine ⟨y,_,I.lset (its' := its.eraseIdx k) hH e ?_ (r.eraseIdx k) ?_,rw',q⟩
  · show its.toArray.eraseIdxIfInBounds k = (its.eraseIdx k).toArray
    rw [List.eraseIdxIfInBounds_toArray]
  · have := len_erase xs k
    omega
def rCat : R2 := fun x y H Q => ∃ l b xs zs,x = .ref l /\ y = .ref b /\ H l = some (.lst xs) /\ H b = some (.lst zs) /\ xs.length + zs.length <= sizeLine /\ ∀ p,H p = none -> Q (.ref p) (upd H p (.lst (xs ++ zs)))
theorem op_cat : OpR X (binaryOp .Add) rCat := by
  intro pins s σ H x y v u Q I rx ry h
  obtain ⟨l,b,xs,zs,rfl,rfl,hH,hB,hz,q⟩ := h
  cases rx
  cases ry
  obtain ⟨z,its,n,r,hl,e⟩ := I.lstM hH
  obtain ⟨z2,its2,n2,r2,hl2,e2⟩ := I.lstM hB
  refine PySem.P.add_list e e2 ?_ (by rw [List.size_toArray,List.size_toArray]; omega)
  have ea : its.toArray ++ its2.toArray = (its ++ its2).toArray := by simp
  rw [ea]
  exact ⟨.ref _,_,I.lnew (t' := s.toks) (r.append r2) (by rw [List.length_append]; omega),rfl,q _ I.fresh⟩
def rRep : R2 := fun x y H Q => ∃ l k xs,x = .ref l /\ y = .int k /\ H l = some (.lst xs) /\ -(2 ^ 63) <= k /\ k < 2 ^ 63 /\ xs.length * k.toNat <= sizeLine /\
  ∀ p,H p = none -> Q (.ref p) (upd H p (.lst (List.replicate k.toNat xs).flatten))
theorem len_rep {α : Type} (xs : List α) (k : Nat) : (List.replicate k xs).flatten.length = k * xs.length := by
  induction k with
  | zero => simp
  | succ k ih => rw [List.replicate_succ,List.flatten_cons,List.length_append,ih,Nat.succ_mul,Nat.add_comm]
theorem op_rep : OpR X (binaryOp .Mult) rRep := by
  intro pins s σ H x y v u Q I rx ry h
  obtain ⟨l,k,xs,rfl,rfl,hH,h1,h2,hz,q⟩ := h
  cases rx
  obtain ⟨t,rfl⟩ := ry
  obtain ⟨z,its,n,r,hl,e⟩ := I.lstM hH
  have hlen : its.toArray.size * k.toNat <= sizeLine := by rw [List.size_toArray,<- hl]; exact hz
  have hcap : ¬ its.toArray.size * k.toNat > (2 ^ 63 - 1) / 8 := by
    have : (sizeLine : Nat) <= (2 ^ 63 - 1) / 8 := by decide
    omega
  have hfit : ¬ (!Builtin.List.listFitsIndex k) = true := by
    rw [fitsIndex_both h1 h2]
    exact Bool.false_ne_true
  have hlong : ¬ Builtin.List.listTooLong (its.toArray.size * k.toNat) = true := by
    rw [notLongL hlen]
    exact Bool.false_ne_true
  have hnew : List.foldl (fun x1 x2 => x1 ++ x2) #[] (List.replicate (if its.toArray.isEmpty = true then 0 else k.toNat) its.toArray) = (List.replicate k.toNat its).flatten.toArray := by
    have f0 : ∀ m : Nat,List.foldl (fun x1 x2 => x1 ++ x2) #[] (List.replicate m its.toArray) = (List.replicate m its).flatten.toArray := fun m => by
      have := foldl_rep its m []
      rw [List.nil_append] at this
      exact this
    rw [f0]
    cases its with
    | nil => simp
    | cons a r' => rw [if_neg (by simp)]
  refine wpAny_binaryOp_repeat_ref (T := "list") (U := "int") (by decide) ⟨_,e,rfl⟩ (fun s' => typeIs_int s' k t) noFill_list_mul F.fills_int_mul F.slot_int_rmul repeat_list F.slot_int_index.lookup
    (call_meets F.slot_int_rmul (typeIs_int s k t) F.entry_int_rmul (F.args_int_rmul_2 _ _) (int___rmul___int_list k t l its.toArray n)
      ⟨e,rfl,⟨_,e,rfl⟩,call_meets F.slot_list_mul ⟨_,e,rfl⟩ F.entry_list_mul (F.args_list_mul_2 _ _) (AutoListH.list___mul___list_int_3 l its.toArray n k t hfit hcap hlong) ⟨e,?_⟩⟩)
  rw [hnew]
  exact ⟨.ref _,_,I.lnew (t' := s.toks) (r.rep k.toNat) (by rw [len_rep,Nat.mul_comm]; exact hz),rfl,q _ I.fresh⟩
end
section
variable {prog : Program} {w : World} {A : Around} {E : Value -> Shared -> Prop} {s : Shared}
end
section
variable {X : Cx}
end
end L2
namespace Att
open PySem PySem.W PySem.Calls PyProof.Rows
theorem ints_of_wellAll {P : Params} {h : Heap} : ∀ (ns : List Int) (vs : List Value),WellAll P h vs (ns.map WData.int) -> IntsAre vs ns := by
  intro ns
  induction ns with
  | nil =>
    intro vs w
    rw [List.map_nil] at w
    cases w
    exact .nil
  | cons n ns ih =>
    intro vs w
    rw [List.map_cons] at w
    cases w with
    | cons a b =>
      cases a
      exact .cons _ _ (ih _ b)
theorem script_of {l : OpenLaw} {n : Nat} (hn : l.most = some n) {P : Params} {h : Heap} {args : List WData} {vals : List Value}
    (hpre : l.row.toRowW.claim.pre args = true) (hwl : WellAll P h vals args) :
    ∃ a vs ns,vals = [Value.ref a] /\ args = [WData.list (ns.map WData.int)] /\ h.get? a = some { cls := .type "list",data := .seq vs.toArray } /\ IntsAre vs ns /\ ns.length <= n := by
  have hsh : WShape.hasAll [] args [.list .int] = true := (pre_splitW hpre).1
  have hc : l.pre.holds [] { args := args } = true := (pre_splitW hpre).2
  obtain ⟨d,r,rfl,h1,h2⟩ := hasAllW_cons hsh
  obtain rfl := hasAllW_nil h2
  obtain ⟨xs,rfl,h3⟩ := hasW_list h1
  obtain ⟨ns,rfl⟩ := items_int h3
  have hlen : ns.length <= n := by
    unfold OpenLaw.pre at hc
    have h4 : (WTm.not (.lt (.lit (.int (n : Int))) (.len (.arg 0)))).holds [] { args := [.list (ns.map .int)] } = true := by
      have h4 := (holds_andW hc).1
      rw [hn] at h4
      exact h4
    have h5 := condW_of h4 (w_not (w_lt w_lit (w_len_list (w_arg rfl))))
    rw [List.length_map] at h5
    refine Nat.le_of_not_lt fun q => ?_
    have q' : (n : Int) < ((ns.length : Nat) : Int) := by omega
    first
      | (rw [decide_eq_true q'] at h5; exact absurd h5 (by decide))
      | (simp at h5; omega)
  cases hwl with
  | cons w1 w2 =>
    cases w2
    cases w1 with
    | list ho hall => exact ⟨_,_,ns,rfl,rfl,ho,ints_of_wellAll ns _ hall,hlen⟩
theorem post_true (l : OpenLaw) (args : List WData) : l.row.toRowW.claim.post args (.bool true) args = true :=
  postW_of (r := l.row.toRowW) (X := (true == true))
    (show WShape.has [] (.bool true) .bool = true by first | rfl | decide | simp [WShape.has,WShape.arms,WShape.armsAll])
    (show (WTm.eq .res (.lit (.bool true))).value [] { args := args,res := some (.bool true),after := args } = some (.bool (true == true)) from w_eq_bool (w_res rfl) w_lit) rfl
theorem attach_call {l : OpenLaw} {n : Nat} {q : Program} {loose : List Str} {XP : (Str -> Option Value) -> Heap -> Prop} {YP : World -> Heap -> Prop} {d : DefRec}
    (hn : l.most = some n) (hdf : d.params.defaults = [])
    (call : ∀ (w : World) (s₀ s₁ : Shared) (mg mb : Str -> Option Value) (fa : Addr) (o : Obj) (pm cd doc : Value) (a : Addr) (vs : List Value) (ns : List Int),
      Ground q loose [] XP w s₀ mg mb s₁.heap -> YP w s₁.heap ->
      s₁.heap.get? fa = some o -> o.data = .func (docDef d.name d.params d.body d.scope pm cd doc) -> s₁.heap.CodeRec cd d.name -> mg d.name = some (.ref fa) ->
      s₁.heap.get? a = some { cls := .type "list",data := .seq vs.toArray } -> IntsAre vs ns -> ns.length <= n -> s₁.gens = #[] ->
      codeAny (model l.prog w) callerA (.call (.ref fa) ⟨[.ref a],[]⟩) (fun r s' => r = .ok (.ret (.bool true)) /\ OldK s₁.heap s'.heap /\ s'.os = s₁.os /\ AllBare s'.gens) s₁) :
    WalkO q loose XP YP l.row.toRowW d [] (fun f vs => PySem.call f vs) := by
  intro w s₀ s₁ mg mb G Y fa o pm cd doc dV kV ho hd hcd hD hmg hg args vals as hpre hlay hrd hwl hlo
  obtain rfl : dV = .none := Dflts.none hD hdf
  obtain rfl : kV = .none := Dflts.noKw hD
  obtain ⟨a,vs,ns,rfl,rfl,hobj,hints,hlen⟩ := script_of hn hpre hwl
  refine enter_call (codeAny_mono (call w s₀ s₁ mg mb fa o pm cd doc a vs ns G Y ho (fd_plain hd) hcd hmg hobj hints hlen hg) fun r s' hq => ?_)
  obtain ⟨rfl,h2,h3,h4⟩ := hq
  exact ⟨.inl ⟨.bool true,.bool true,[],rfl,fun _ => rfl,.bool true,post_true l _,fun _ => ⟨List.Pairwise.nil,fun _ hm => (nomatch hm)⟩⟩,h2,h3,h4⟩
section
variable {prog : Program} {w : World} {A : Around} {E : Value -> Shared -> Prop} {s : Shared} {K : Frag}
end
end Att
namespace L2
open PySem PySem.Spec PyProof.Rows
theorem vals_ints : ∀ {vs : List Value} {ns : List Int},IntsAre vs ns -> Vals (ns.map V.int) vs
  | _,_,.nil => .nil
  | _,_,.cons n t h => .cons ⟨t,rfl⟩ (vals_ints h)
def Only (H : Hp) : Prop := ∀ b,H b = none \/ ∃ o xs,H b = some (.frz o (.lst xs))
theorem law_call {P : Program} {w : World} {K : PySem.W.Frag} {mg mb : Str -> Option Value} {CX : CXT} {k : Nat} {fa a : Addr} {fd : FuncData} {x : Str} {sp : Sp} {s₁ : Shared} {vs : List Value} {ns : List Int}
    (KX : K.In s₁.heap) (hns : s₁.heap.Ns mainGlobals mg) (hb : s₁.heap.Ns builtinsNs mb) (hbb : ∀ x : Str,x ≠ "__name__" -> mb x = bootBuiltins x) (hlim : s₁.heap.NoLimit) (hg : s₁.gens = #[])
    (ha : s₁.heap.get? a = some { cls := .type "list",data := .seq vs.toArray }) (hi : IntsAre vs ns) (hl : ns.length <= sizeLine) (hr : Room k callerA)
    (F : ∀ base : Heap,K.In base -> base.Ns mainGlobals mg -> FnOk P w K mg base CX k fa fd [x] sp) (hbind : ∀ (s : Shared) (u : Value),BindsTo s fd ⟨[u],[]⟩ [(x,u)])
    (hsp : ∀ H : Hp,Only H -> SqL K H a (ns.map V.int) -> sp [.ref a] H (fun v _ => v = .bl true) fun _ _ _ => False)
    (hCX : ∀ H e s',CX [] H s₁ (fun _ _ _ => False) e s' -> False) :
    codeAny (model P w) callerA (.call (.ref fa) ⟨[.ref a],[]⟩) (fun r s' => r = .ok (.ret (.bool true)) /\ OldK s₁.heap s'.heap /\ s'.os = s₁.os /\ AllBare s'.gens) s₁ := by
  have rv := vals_ints hi
  have lenV := hi.length
  have core : ∀ H : Hp,Only H -> SqL K H a (ns.map V.int) -> HOk P w H s₁.heap -> (∀ b,H b ≠ none -> b = a) -> (H a ≠ none -> K.lookup a = none) ->
      codeAny (model P w) callerA (.call (.ref fa) ⟨[.ref a],[]⟩) (fun r s' => r = .ok (.ret (.bool true)) /\ OldK s₁.heap s'.heap /\ s'.os = s₁.os /\ AllBare s'.gens) s₁ := by
    intro H hO hS hok hA hK
    have base_of : ∀ {b : Addr} {o : Obj},s₁.heap.get? b = some o -> H b = none -> (hidT s₁.heap H).get? b = some o := fun e n => hidT_get e n
    have noA : ∀ {b : Addr} {o : Obj} {es : Array DictEntry} {ep : Nat},s₁.heap.get? b = some o -> o.data = .dict es ep -> H b = none := fun {b o es ep} e d => by
      cases q : H b with
      | none => rfl
      | some u =>
        have e' : b = a := hA b (by rw [q]; simp)
        subst e'
        rw [ha] at e; cases e
        have d' : Data.seq vs.toArray _ = Data.dict es ep := d
        cases d'
    have nsK : ∀ {b : Addr} {m : Str -> Option Value},s₁.heap.Ns b m -> (hidT s₁.heap H).Ns b m := fun {b m} ⟨o,es,ep,e,d,r⟩ => ⟨o,es,ep,base_of e (noA e d),d,r⟩
    have hKb : K.In (hidT s₁.heap H) := fun b o e => base_of (KX b o e) (by
      cases q : H b with
      | none => rfl
      | some u =>
        have e' : b = a := hA b (by rw [q]; simp)
        subst e'
        rw [hK (by rw [q]; simp)] at e; cases e)
    have hM : Mod K mg (hidT s₁.heap H) := ⟨hKb,nsK hns,⟨mb,nsK hb,hbb⟩,let ⟨mc,h1,h2⟩ := hlim; ⟨mc,nsK h1,h2⟩⟩
    have e0 : Env0 P w K mg (hidT s₁.heap H) callerA [] s₁ H := ⟨rfl,hM,fun b o e => of_hidT e,Nat.le_of_eq (hidT_size _ _),trivial,fun b hb => absurd (show b ∈ ([] : List Addr) from hb) (by simp),hok,.of_eq hg⟩
    refine codeAny_mono ((F _ hKb (nsK hns)).run callerA [] s₁ H ⟨[.ref a],[]⟩ [.ref a] [.ref a] _ _ hr e0 (hbind s₁ (.ref a)) (.cons rfl .nil) (hsp H hO hS)) fun r s' h => ?_
    cases r with
    | error e => exact (hCX H e s' h).elim
    | ok fl =>
      cases fl with
      | next => exact False.elim h
      | brk => exact False.elim h
      | cont => exact False.elim h
      | ret u =>
        obtain ⟨v,H',os,bare,un,hok',r',q⟩ := h
        have q' : v = .bl true := q
        subst q'
        obtain rfl : u = Value.bool true := r'
        refine ⟨rfl,OldK.of_keep fun b o e => ?_,os,bare⟩
        cases q : H b with
        | none => exact un.keep b o e q (by intro z; exact absurd (show b ∈ ([] : List Addr) from z) (by simp)) (by simp)
        | some u =>
          rcases hO b with z | ⟨ob,xs,z⟩
          · rw [q] at z; cases z
          · have z2 := un.frzs b ob _ z
            obtain ⟨e1,_⟩ := hok b _ z
            obtain ⟨e2,_⟩ := hok' b _ z2
            rw [e] at e1; cases e1
            exact e2
  cases hk : K.lookup a with
  | some o =>
    have e := KX a o hk
    rw [ha] at e
    cases e
    refine core (fun _ => none) (fun _ => .inl rfl) (.inr ⟨_,vs.toArray,_,hk,rfl,rfl,rfl,by rw [List.size_toArray,lenV]; exact hl,by simpa using rv⟩) (fun b u z => by have z' : (none : Option HO) = some u := z; cases z') (fun b z => absurd rfl z) fun z => absurd rfl z
  | none =>
    refine core (fun b => if b = a then some (.frz { cls := .type "list",data := .seq vs.toArray } (.lst (ns.map V.int))) else none) (fun b => ?_) (.inl (.inr ⟨{ cls := .type "list",data := .seq vs.toArray },if_pos rfl⟩)) (fun b u z => ?_) (fun b z => ?_) fun _ => hk
    · by_cases hb : b = a
      · exact .inr ⟨_,_,if_pos hb⟩
      · exact .inl (if_neg hb)
    · by_cases hb : b = a
      · have z' := (if_pos hb).symm.trans z
        cases z'
        subst hb
        exact ⟨ha,by rw [List.length_map]; exact hl,vs,_,rv,ha⟩
      · have z' := (if_neg hb).symm.trans z
        cases z'
    · by_cases hb : b = a
      · exact hb
      · exact absurd (if_neg hb) z
end L2
namespace L2
open PySem PySem.Spec PyProof.Rows
theorem walk_of {l : PySem.W.OpenLaw} {n k : Nat} {q : Program} {loose : List Str} {XP : (Str -> Option Value) -> Heap -> Prop} {YP : World -> Heap -> Prop} {d : DefRec} {K : Params -> PySem.W.Frag} {CX : World -> CXT} {sp : World -> Sp} {x : Str}
    (hn : l.most = some n) (hn2 : n <= sizeLine) (hdf : d.params.defaults = []) (hr : Room k callerA)
    (hY : ∀ (w : World) (h : Heap),YP w h -> (K w.params).In h)
    (F : ∀ (w : World) (mg : Str -> Option Value) (fa : Addr) (h : Heap),(K w.params).In h -> h.Ns mainGlobals mg -> mg d.name = some (.ref fa) ->
      ∃ fd : FuncData,(∀ (s : Shared) (u : Value),BindsTo s fd ⟨[u],[]⟩ [(x,u)]) /\
        ∀ base : Heap,(K w.params).In base -> base.Ns mainGlobals mg -> FnOk l.prog w (K w.params) mg base (CX w) k fa fd [x] (sp w))
    (hsp : ∀ (w : World) (H : Hp) (a : Addr) (ns : List Int),ns.length <= n -> Only H -> SqL (K w.params) H a (ns.map V.int) -> sp w [.ref a] H (fun v _ => v = .bl true) fun _ _ _ => False)
    (hCX : ∀ (w : World) (H : Hp) (s : Shared) (e : Value) (s' : Shared),CX w [] H s (fun _ _ _ => False) e s' -> False) :
    PySem.W.WalkO q loose XP YP l.row.toRowW d [] (fun f vs => PySem.call f vs) := by
  refine Att.attach_call hn hdf fun w s₀ s₁ mg mb fa o pm cd doc a vs ns G Y ho hd hcd hmg hobj hints hlen hg => ?_
  have KX := hY w _ Y
  obtain ⟨fd,hb,hF⟩ := F w mg fa _ KX G.T.g hmg
  exact law_call KX G.T.g G.T.b G.T.builtins G.T.nolimit hg hobj hints (Nat.le_trans hlen hn2) hr hF hb (fun H hO hS => hsp w H a ns hlen hO hS) fun H e s' => hCX w H s₁ e s'
end L2
namespace L2
open PySem PySem.Spec PyProof.Rows
def defArgs (s : Stmt) : Arguments := match s with
  | .FunctionDef _ a _ _ _ _ _ _ _ _ => a
  | _ => { posonlyargs := [],args := [],vararg := none,kwonlyargs := [],kw_defaults := [],kwarg := none,defaults := [] }
def defBody (s : Stmt) : List Stmt := match s with
  | .FunctionDef _ _ b _ _ _ _ _ _ _ => b
  | _ => []
def defScope (s : Stmt) : Scope := match s with
  | .FunctionDef _ _ _ _ _ _ sc _ _ _ => sc
  | _ => { kind := .function,names := [],isGenerator := false,isCoroutine := false }
abbrev CX0 : CXT := fun _ _ _ _ _ _ => False
abbrev E0 : XK := fun _ _ _ => False
theorem pass0 {X : Cx} : Passes CX0 X E0 := fun _ _ _ _ _ _ _ h => h.elim
structure Fun (K : PySem.W.Frag) (x qual : Str) (st : Stmt) (f : Addr) (fd : FuncData) : Prop where
  ex : ∃ (oc : Value) (od : Option Addr) (kV doc pm : Value) (an : Option Addr) (cdv ct : Value) (osl : Array (Option Value)),
    fd = PySem.W.fnOf x qual (defArgs st) (defBody st) (defScope st) .none kV doc pm an cdv ct /\ K.lookup f = some ⟨oc,od,.func fd,osl⟩ /\ PySem.W.codeIn K cdv qual = true
  kp : PySem.W.keepIn K (.ref f) = true
section
variable {P : Program} {w : World} {K : PySem.W.Frag} {mg : Str -> Option Value} {base : Heap}
theorem Fun.ok {x qual : Str} {st : Stmt} {f : Addr} {fd : FuncData} {N ps : List Str} {k : Nat} {sp : Sp} (F : Fun K x qual st f fd) (S : FnScope N ps (defScope st)) (len : ∀ vs H Q E,sp vs H Q E -> vs.length = ps.length)
    (hbody : ∀ (cdv : Value) (A : Around) (outer : List Env) (s : Shared) (H : Hp) (vs : List V) (Q : VK) (E : XK),Room k (A.deeper (envOfC qual (defScope st) s.heap.objs.size f cdv)) -> sp vs H Q E ->
      ∃ t,PSs (cxOf CX0 P w K mg base N qual (defScope st) f cdv A outer s H E).nox (defBody st) t /\ t { nx := fun _ H' => Q .non H',rt := Q } (start N vs) H) : FnOk P w K mg base CX0 (k + 1) f fd ps sp := by
  obtain ⟨oc,od,kV,doc,pm,an,cdv,ct,osl,rfl,lk,hcd⟩ := F.ex
  refine fn_of lk hcd S len fun A outer s H vs Q E hr hsp => ?_
  obtain ⟨t,h,q⟩ := hbody cdv A outer s H vs Q E hr hsp
  exact ⟨t,h.nox,q⟩
theorem Fun.binds {x qual : Str} {st : Stmt} {f : Addr} {fd : FuncData} {ps : List Str} (F : Fun K x qual st f fd)
    (h : ∀ (kV doc pm : Value) (an : Option Addr) (cdv ct : Value) (us : List Value),us.length = ps.length -> bindArgs (PySem.W.fnOf x qual (defArgs st) (defBody st) (defScope st) .none kV doc pm an cdv ct) ⟨us,[]⟩ = pure (ps.zip us)) : Binds K fd ps [] := by
  obtain ⟨oc,od,kV,doc,pm,an,cdv,ct,osl,rfl,lk,hcd⟩ := F.ex
  exact .all (h kV doc pm an cdv ct)
theorem fun_mk {x qual : Str} {st : Stmt} {f : Addr} {oc : Value} {od an : Option Addr} {osl : Array (Option Value)} {kV doc pm cdv ct : Value} (l : K.lookup f = some ⟨oc,od,.func (PySem.W.fnOf x qual (defArgs st) (defBody st) (defScope st) .none kV doc pm an cdv ct),osl⟩)
    (c : PySem.W.codeIn K cdv qual = true) (k : PySem.W.keepIn K (.ref f) = true) : Fun K x qual st f (PySem.W.fnOf x qual (defArgs st) (defBody st) (defScope st) .none kV doc pm an cdv ct) := ⟨⟨oc,od,kV,doc,pm,an,cdv,ct,osl,rfl,l,c⟩,k⟩
end
theorem hu_of {A : Around} {k : Nat} (hr : Room k A) : A.units + 1 < cLine := Nat.lt_of_le_of_lt (Nat.add_le_add_left (by decide : 1 <= 64) _) hr.units
section
variable {X : Cx}
theorem pv (i : Nat) {x : Str} {pos : Pos} (hN : X.N[i]? = some x := by rfl) (hv : Vis X.env.scope x := by first | exact Or.inl rfl | exact Or.inr (Or.inl rfl) | exact Or.inr (Or.inr rfl)) (hd : (x == ("__debug__" : Str)) = false := by decide)
    (hcd : (x == ("__classdict__" : Str)) = false := by decide) : PE X (.Name x pos) (tVar i) := pe_var hN hv hd hcd
end
theorem iteF {A B : Prop} (h : B) : if false = true then A else B := by
  rw [if_neg Bool.false_ne_true]
  exact h
theorem iteT {A B : Prop} (h : A) : if true = true then A else B := by
  rw [if_pos rfl]
  exact h
theorem ite2 {c A B : Prop} [Decidable c] (h1 : c -> A) (h2 : ¬ c -> B) : if c then A else B := by
  by_cases h : c
  · rw [if_pos h]
    exact h1 h
  · rw [if_neg h]
    exact h2 h
theorem iteNS {c A B : Prop} [Decidable c] (hc : c) (h : B) : if (!decide c) = true then A else B := by
  rw [decide_eq_true hc]
  exact iteF h
def Same (H H' : Hp) : Prop := ∀ b o,H b = some o -> H' b = some o
theorem Same.refl (H : Hp) : Same H H := fun _ _ h => h
theorem Same.trans {H H1 H2 : Hp} (a : Same H H1) (b : Same H1 H2) : Same H H2 := fun c o h => b c o (a c o h)
theorem Same.free {H H' : Hp} (e : Same H H') {l : Addr} (h : H' l = Option.none) : H l = Option.none := by
  cases q : H l with
  | none => rfl
  | some o =>
    rw [e l o q] at h
    cases h
theorem Same.seq {K : PySem.W.Frag} {H H' : Hp} {a : Addr} {xs : List V} (e : Same H H') (h : SqL K H a xs) : SqL K H' a xs := by
  rcases h with (h | ⟨o,h⟩) | h
  · exact .inl (.inl (e _ _ h))
  · exact .inl (.inr ⟨o,e _ _ h⟩)
  · exact .inr h
end L2
namespace L2
open PySem PySem.Spec PyProof.Rows
theorem relabel_some {env : Env} : ∀ {names : List (Str × NameKind)} {x : Str} {k : NameKind},names.lookup x = some k ->
    ∃ k',(names.map fun (n,k) => if (k == NameKind.free && env.scope.kind == .function && env.kindOf n == some .cell) then (n,NameKind.cell) else (n,k)).lookup x = some k' /\ (k' = k \/ (k = .free /\ k' = .cell))
  | [],_,_,h => by simp at h
  | (n,k0) :: r,x,k,h => by
    have ih := @relabel_some env r x k
    show ∃ k',List.lookup x ((if (k0 == NameKind.free && env.scope.kind == .function && env.kindOf n == some .cell) = true then (n,NameKind.cell) else (n,k0)) :: _) = some k' /\ _
    cases hx : x == n with
    | true =>
      simp only [List.lookup_cons,hx] at h
      cases h
      by_cases hc : (k0 == NameKind.free && env.scope.kind == .function && env.kindOf n == some .cell) = true
      · rw [if_pos hc]
        refine ⟨.cell,by simp only [List.lookup_cons,hx],.inr ⟨?_,rfl⟩⟩
        have q : (k0 == NameKind.free) = true := by
          rw [Bool.and_eq_true,Bool.and_eq_true] at hc
          exact hc.1.1
        cases k0 <;> first | rfl | exact absurd q (by decide)
      · rw [if_neg hc]
        exact ⟨k0,by simp only [List.lookup_cons,hx],.inl rfl⟩
    | false =>
      simp only [List.lookup_cons,hx] at h
      obtain ⟨k',e,q⟩ := ih h
      by_cases hc : (k0 == NameKind.free && env.scope.kind == .function && env.kindOf n == some .cell) = true
      · rw [if_pos hc]; exact ⟨k',by simp only [List.lookup_cons,hx]; exact e,q⟩
      · rw [if_neg hc]; exact ⟨k',by simp only [List.lookup_cons,hx]; exact e,q⟩
theorem relabel_none {env : Env} : ∀ {names : List (Str × NameKind)} {x : Str},names.lookup x = none ->
    (names.map fun (n,k) => if (k == NameKind.free && env.scope.kind == .function && env.kindOf n == some .cell) then (n,NameKind.cell) else (n,k)).lookup x = none
  | [],_,_ => rfl
  | (n,k0) :: r,x,h => by
    have ih := @relabel_none env r x
    show List.lookup x ((if (k0 == NameKind.free && env.scope.kind == .function && env.kindOf n == some .cell) = true then (n,NameKind.cell) else (n,k0)) :: _) = none
    cases hx : x == n with
    | true => simp only [List.lookup_cons,hx] at h; cases h
    | false =>
      simp only [List.lookup_cons,hx] at h
      by_cases hc : (k0 == NameKind.free && env.scope.kind == .function && env.kindOf n == some .cell) = true
      · rw [if_pos hc]; simp only [List.lookup_cons,hx]; exact ih h
      · rw [if_neg hc]; simp only [List.lookup_cons,hx]; exact ih h
theorem closure_go {env : Env} : ∀ (names : List (Str × NameKind)) (cs : List (Str × Addr)),(∀ y ∈ names,y.2 = NameKind.free -> ∃ c,env.cells.lookup y.1 = some c) ->
    (∀ y c,cs.lookup y = some c -> env.cells.lookup y = some c) ->
    ∃ cl,(forIn names cs fun x r => (match x with
      | (name,kind) => if (kind == NameKind.free) = true then (do let a <- cellOf env name; pure (ForInStep.yield ((name,a) :: r))) else pure (ForInStep.yield r)) : Sem (List (Str × Addr))) = pure cl /\
      (∀ y c,cl.lookup y = some c -> env.cells.lookup y = some c) /\ (∀ y,((∃ c,cs.lookup y = some c) \/ (y,NameKind.free) ∈ names) -> ∃ c,cl.lookup y = some c)
  | [],cs,_,h => ⟨cs,by simp,h,fun y q => q.elim id fun z => absurd z (by simp)⟩
  | (n,k) :: r,cs,hf,h => by
    by_cases hk : (k == NameKind.free) = true
    · have hk' : k = NameKind.free := by cases k <;> first | rfl | exact absurd hk (by decide)
      obtain ⟨c,hc⟩ := hf (n,k) List.mem_cons_self hk'
      have h' : ∀ y c',((n,c) :: cs).lookup y = some c' -> env.cells.lookup y = some c' := fun y c' e => by
        cases hy : y == n with
        | true =>
          simp only [List.lookup_cons,hy] at e
          cases e
          have : y = n := by simpa using hy
          rw [this]; exact hc
        | false =>
          simp only [List.lookup_cons,hy] at e
          exact h y c' e
      obtain ⟨cl,e,q1,q2⟩ := closure_go r ((n,c) :: cs) (fun y hy => hf y (List.mem_cons_of_mem _ hy)) h'
      refine ⟨cl,?_,q1,fun y q => q2 y ?_⟩
      · rw [List.forIn_cons]
        have ec : cellOf env n = pure c := by unfold cellOf; rw [hc]
        simp only [hk,if_true,ec,pure_bind]
        exact e
      · rcases q with ⟨c',q⟩ | q
        · left
          cases hy : y == n with
          | true => exact ⟨c,by simp only [List.lookup_cons,hy]⟩
          | false => exact ⟨c',by simp only [List.lookup_cons,hy]; exact q⟩
        · rcases List.mem_cons.mp q with z | z
          · cases z
            left
            exact ⟨c,by simp [List.lookup_cons]⟩
          · exact .inr z
    · obtain ⟨cl,e,q1,q2⟩ := closure_go r cs (fun y hy => hf y (List.mem_cons_of_mem _ hy)) h
      refine ⟨cl,?_,q1,fun y q => q2 y ?_⟩
      · rw [List.forIn_cons]
        simp only [hk,if_false,pure_bind]
        exact e
      · rcases q with q | q
        · exact .inl q
        · rcases List.mem_cons.mp q with z | z
          · cases z
            exact absurd rfl hk
          · exact .inr z
theorem closure_of {scope : Scope} {env : Env} (h : ∀ y ∈ scope.names,y.2 = NameKind.free -> ∃ c,env.cells.lookup y.1 = some c) :
    ∃ cl,closureFor scope env = pure cl /\ (∀ y c,cl.lookup y = some c -> env.cells.lookup y = some c) /\ (∀ y,(y,NameKind.free) ∈ scope.names -> ∃ c,cl.lookup y = some c) := by
  obtain ⟨cl,e,q1,q2⟩ := closure_go (env := env) scope.names [] h (fun y c e => by simp at e)
  refine ⟨cl,?_,q1,fun y hy => q2 y (.inr hy)⟩
  unfold closureFor
  dsimp only
  rw [show (forIn scope.names ([] : List (Str × Addr)) fun x r => (match x with
      | (name,kind) => if (kind == NameKind.free) = true then (do let a <- cellOf env name; pure (ForInStep.yield ((name,a) :: r))) else pure (ForInStep.yield r)) : Sem (List (Str × Addr))) = pure cl from e]
  rfl
end L2
namespace L2
open PySem PySem.Spec PyProof.Rows
section
variable {prog : Program} {w : World} {A : Around} {R : Result -> Shared -> Prop} {s : Shared}
theorem compLoop_gen {elt target iter : Expr} {ifs : List Expr} {scope : Scope} {pos : Pos} {it acc : Value} {env : Env} (Iv : Nat -> Shared -> Prop)
    (turn : ∀ n s,Iv n s -> wpAny (model prog w) A (pyNext it) (fun r s₁ => match r with
      | none => R (.ok .next) s₁
      | some v => wpAny (model prog w) A (letOwnedTupleGo target it v) (fun _ s₁' => wpAny (model prog w) A (assign target env v) (fun _ s₂ =>
          wpAny (model prog w) A (forIn ifs true fun c r => if r = true then do let ok <- isTrue c env (eval c env); pure (ForInStep.yield ok) else pure (ForInStep.yield r)) (fun ok s₃ =>
            if ok = true then wpAny (model prog w) A (eval elt env) (fun x s₄ =>
              wpAny (model prog w) A (call (.builtin "list.append") [acc,x]) (fun _ s₅ => ∃ m,m < n /\ Iv m s₅) (fun _ _ => False) s₄) (fun _ _ => False) s₃
            else ∃ m,m < n /\ Iv m s₃) (fun _ _ => False) s₂) (fun _ _ => False) s₁') (fun _ _ => False) s₁) (fun _ _ => False) s)
    (n : Nat) (h : Iv n s) :
    codeAny (model prog w) A (.compLoop (.ListComp elt [⟨target,iter,ifs,0⟩] scope pos) 0 it acc env) R s := by
  refine codeAny_loop rfl Iv (fun n s hI => ?_) n h
  show wpAny _ A ((compTurn (.ListComp elt [⟨target,iter,ifs,0⟩] scope pos) 0 it acc env).onRaise (fun x => do noteFrame x env; theTreesLotGoes x)) _ _ s
  refine wpAny_noted ?_
  rw [compTurn_list]
  refine wpAny_bind (wpAny_standAt (wpAny_bind (wpAny_mono (turn n s hI) (fun r s₁ h₁ => ?_) fun _ _ z => z.elim)))
  cases r with
  | none => exact wpAny_pure h₁
  | some v =>
    refine wpAny_bind (wpAny_mono h₁ (fun _ s₁' h₁' => ?_) fun _ _ z => z.elim)
    refine wpAny_bind (wpAny_mono h₁' (fun _ s₂ h₂ => wpAny_bind (wpAny_mono h₂ (fun ok s₃ h₃ => ?_) fun _ _ z => z.elim)) fun _ _ z => z.elim)
    cases ok with
    | false => exact wpAny_pure ⟨rfl,h₃⟩
    | true =>
      exact wpAny_bind (wpAny_bind (wpAny_mono h₃ (fun x s₄ h₄ => wpAny_bind (wpAny_mono h₄ (fun _ s₅ h₅ => wpAny_pure (wpAny_pure ⟨rfl,h₅⟩)) fun _ _ z => z.elim)) fun _ _ z => z.elim))
end
def inSt (M : List (Option Nat)) (σ : St) : St := M.map fun o => o.bind fun j => (σ[j]?).join
theorem inSt_length (M : List (Option Nat)) (σ : St) : (inSt M σ).length = M.length := by unfold inSt; rw [List.length_map]
theorem inSt_get {M : List (Option Nat)} {σ : St} {i : Nat} {v : V} (h : (inSt M σ)[i]? = some (some v)) : ∃ j,M[i]? = some (some j) /\ σ[j]? = some (some v) := by
  unfold inSt at h
  rw [List.getElem?_map] at h
  cases e : M[i]? with
  | none => rw [e] at h; cases h
  | some o =>
    rw [e] at h
    cases o with
    | none => cases h
    | some j =>
      refine ⟨j,rfl,?_⟩
      have h' : (σ[j]?).join = some v := Option.some.inj h
      cases q : σ[j]? with
      | none => rw [q] at h'; cases h'
      | some o2 => rw [q] at h'; cases o2 with
        | none => cases h'
        | some v2 => cases h'; rfl
def cxLc (X : Cx) (N' : List Str) (scope : Scope) (cl : List (Str × Addr)) (C : Addr) (s : Shared) (H : Hp) (fp : List Addr) : Cx :=
  { X with N := N',s₀ := s,H₀ := H,env := compEnvC scope cl C X.env,outer := X.stack,stack := X.stack,ex := fp,fn := fun _ => false,pn := [],xe := fun _ _ => False }
structure LcSc (N N' : List Str) (M : List (Option Nat)) (sc osc : Scope) : Prop where
  kind : sc.kind = .function
  len : N'.length = M.length
  cell : ∀ y ∈ sc.names,y.2 ≠ NameKind.cell
  own : ∀ y ∈ sc.names,y.2 = NameKind.local -> sc.names.lookup y.1 = some NameKind.local
  fre : ∀ y ∈ sc.names,y.2 = NameKind.free -> osc.names.lookup y.1 = some NameKind.cell \/ osc.names.lookup y.1 = some NameKind.free
  at_ : ∀ (i j : Nat),M[i]? = some (some j) -> ∃ y,N'[i]? = some y /\ N[j]? = some y /\ sc.names.lookup y = some NameKind.free
def Frm (M : List (Option Nat)) (g : TG) : Prop := ∀ v σ H Q,g v σ H Q -> g v σ H fun σ' H' => Q σ' H' /\ σ'.length = σ.length /\ ∀ (i j : Nat),M[i]? = some (some j) -> σ'[i]? = σ[i]?
theorem frm_name {M : List (Option Nat)} {i : Nat} (h : M[i]? = some none) : Frm M (gName i) := fun v σ H Q q => by
  refine ⟨q,List.length_set ..,fun k j e => ?_⟩
  have : i ≠ k := by rintro rfl; rw [h] at e; cases e
  exact List.getElem?_set_ne this
def PTs (X : Cx) (ifs : List Expr) (t : TT) : Prop :=
  ∀ (pins : List (Addr × Obj)) (s : Shared) (σ : St) (H : Hp) (Q : Bool -> Hp -> Prop),Inv X pins σ H s -> t σ H Q ->
    wpAny (model X.prog X.w) X.A (forIn ifs true fun c r => if r = true then do let ok <- isTrue c X.env (eval c X.env); pure (ForInStep.yield ok) else pure (ForInStep.yield r)) (TP X pins σ Q) X.xe s
def tYes : TT := fun _ H Q => Q true H
theorem pts_nil {X : Cx} : PTs X [] tYes := fun pins s σ H Q I h => wpAny_tests_nil ⟨H,I,h⟩
theorem pts_one {X : Cx} {c : Expr} {t : TT} (h : PT X c t) : PTs X [c] t := fun pins s σ H Q I q => wpAny_tests_one (h pins s σ H Q I q)
def tLc (wi : TI) (M : List (Option Nat)) (g : TG) (tc : TT) (te : TE) (σ : St) (H : Hp) (F : List V -> Hp -> Prop) : Prop := wi σ H fun J H1 =>
  ∃ W : Nat -> Nat -> List V -> Hp -> Prop,(∃ m,W 0 m [] H1) /\ ∀ i m ys H,W i m ys H -> ys.length <= sizeLine /\
    ((J.stop i H /\ F ys H) \/ (J.go i H /\ ys.length < sizeLine /\ ∃ N : List V -> Hp -> Prop,(∀ ys' H',N ys' H' -> ∃ m',m' < m /\ W (i + 1) m' ys' H') /\ ∀ x H',J.yld i H x H' -> g x (inSt M σ) H' fun σ2 H2 => tc σ2 H2 fun b H3 =>
      if b = true then te σ2 H3 fun v H4 => N (ys ++ [v]) H4 else N ys H3))
theorem lc_block {X : Cx} {N' : List Str} {M : List (Option Nat)} {scope : Scope} {cl : List (Str × Addr)} {tg elt iter : Expr} {ifs : List Expr} {pos : Pos} {g : TG} {tc : TT} {te : TE} {pins : List (Addr × Obj)} {σ : St} {H2 : Hp} {s2 : Shared}
    {it : Addr} {fp : List Addr} {tn : Nat -> Heap -> Prop} {J : It} {F : List V -> Hp -> Prop} {RR : Value -> Addr -> Result -> Shared -> Prop} {E : Value -> Shared -> Prop}
    (S : LcSc X.N N' M scope X.env.scope) (hc : X.calm = true) (q1 : ∀ y c,cl.lookup y = some c -> X.env.cells.lookup y = some c) (q2 : ∀ y,(y,NameKind.free) ∈ scope.names -> ∃ c,cl.lookup y = some c)
    (hg : ∀ C s H fp,PG (cxLc X N' scope cl C s H fp) tg g) (hf : Frm M g) (ht : ∀ C s H fp,PTs (cxLc X N' scope cl C s H fp) ifs tc) (he : ∀ C s H fp,PE (cxLc X N' scope cl C s H fp) elt te)
    (I2 : Inv X pins σ H2 s2) (T : Turn X.prog X.w X.K tg J fp it tn) (st2 : tn 0 s2.heap) (f2 : ∀ b ∈ fp,FpOk X pins H2 b)
    (hw : ∃ W : Nat -> Nat -> List V -> Hp -> Prop,(∃ m,W 0 m [] H2) /\ ∀ i m ys H,W i m ys H -> ys.length <= sizeLine /\
      ((J.stop i H /\ F ys H) \/ (J.go i H /\ ys.length < sizeLine /\ ∃ N : List V -> Hp -> Prop,(∀ ys' H',N ys' H' -> ∃ m',m' < m /\ W (i + 1) m' ys' H') /\ ∀ x H',J.yld i H x H' -> g x (inSt M σ) H' fun σ2 H2 => tc σ2 H2 fun b H3 =>
        if b = true then te σ2 H3 fun v H4 => N (ys ++ [v]) H4 else N ys H3)))
    (hend : ∀ (D C : Addr) (s' : Shared) (H' : Hp) (ys : List V),Inv X pins σ (upd H' D (.lst ys)) s' -> H' D = none -> s2.heap.objs.size <= D -> s2.heap.objs.size < C -> (∃ m,s'.heap.Ns C m) -> (upd H' D (.lst ys)) C = none -> F ys H' -> RR (.ref D) C (.ok .next) s') :
    wpAny (model X.prog X.w) X.A (newList []) (fun acc s₃ => wpAny (model X.prog X.w) X.A (newFunctionEnv scope X.env.globals cl [] X.env.qual none .none (some X.env)) (fun cenv s₄ =>
      codeAny (model X.prog X.w) X.A (.compStart (.ListComp elt [⟨tg,iter,ifs,0⟩] scope pos) 0 (.ref it) acc { cenv with scope := relabel scope X.env }) (RR acc cenv.locals) s₄) E s₃) E s2 := by
  obtain ⟨W,⟨m0,w0⟩,turn⟩ := hw
  refine wpAny_newObj_type (wpAny_newFunctionEnv S.cell (by intro y hy; simp at hy) (fun h₁ hns₁ hsb₁ => ?_) S.kind)
  dsimp only at hns₁ hsb₁ ⊢
  generalize hG : s2.heap.push { cls := .type "list",dict := none,data := .seq ([] : List Value).toArray } = G at hns₁ hsb₁ ⊢
  generalize hD : s2.heap.objs.size = D at *
  have hC : G.objs.size = D + 1 := by rw [<- hG,Heap.size_push,hD]
  generalize hCC : G.objs.size = C at *
  have DC : D < C := by rw [hC]; exact Nat.lt_succ_self _
  have lo : ∀ b o,s2.heap.get? b = some o -> b < D := fun b o e => hD ▸ Heap.lt_size e
  have old : ∀ b o,s2.heap.get? b = some o -> h₁.get? b = some o := fun b o e => by
    have hb := lo b o e
    exact hsb₁.extBut b o (Nat.ne_of_lt (Nat.lt_trans hb DC)) (Heap.get?_push_of_some _ (hG ▸ Heap.get?_push_of_some _ e))
  have hacc : h₁.get? D = some { cls := .type "list",data := .seq ([] : List Value).toArray } :=
    hsb₁.extBut _ _ (Nat.ne_of_lt DC) (Heap.get?_push_of_some _ (by rw [<- hG,<- hD]; exact Heap.get?_push_size _ rfl))
  have fpl : ∀ b ∈ fp,b < D := fun b hb => by
    obtain ⟨o,e,_⟩ := T.obj _ _ st2 b hb
    exact lo b o e
  have cel : ∀ y c,cl.lookup y = some c -> c < D := fun y c e => by
    obtain ⟨v,z⟩ := I2.cell y c (q1 y c e)
    exact hD ▸ z.lt
  generalize hX' : cxLc X N' scope cl C s2 H2 fp = X'
  have envE : X'.env = compEnvC scope cl C X.env := by rw [<- hX']; rfl
  have locE : X'.env.locals = C := by rw [envE]; rfl
  have fsE : X'.fs = frs X.stack := by rw [<- hX']; rfl
  have fsl : ∀ b ∈ frs X.stack,b < D := fun b hb => by
    rcases List.mem_cons.mp (I2.stkSub b hb) with z | z
    · rw [z]; exact hD ▸ I2.lt
    · exact Nat.lt_of_not_le fun q => I2.nofs (hD ▸ q) z
  have relS : ∀ x k,scope.names.lookup x = some k -> ∃ k',X'.env.kindOf x = some k' /\ (k' = k \/ (k = .free /\ k' = .cell)) := fun x k e => by
    obtain ⟨k',e',q⟩ := relabel_some (env := X.env) e
    exact ⟨k',by rw [envE]; exact e',q⟩
  have relN : ∀ x,scope.names.lookup x = none -> X'.env.kindOf x = none := fun x e => by
    rw [envE]; exact relabel_none (env := X.env) e
  have cellsE : X'.env.cells = cl := by rw [envE]; rfl
  have ok' : X'.Ok := by
    refine ⟨?mod,?kind,?glob,?blt,?above,?inj,?has,?cab,?hd,?frames,?stk,?exf,?bs,?bsz,?noex,?exfs,?funs,?frf⟩
    case mod => rw [<- hX']; exact I2.ok.mod
    case kind => rw [envE]; exact S.kind
    case glob => rw [envE]; exact I2.ok.glob
    case blt => rw [envE]; exact I2.ok.blt
    case above => rw [locE,<- hX']; show s2.heap.objs.size <= C; rw [hD]; exact Nat.le_of_lt DC
    case inj => intro x y c e1 e2; rw [cellsE] at e1 e2; exact I2.ok.inj x y c (q1 x c e1) (q1 y c e2)
    case has =>
      intro x hx
      rw [cellsE]
      cases e : scope.names.lookup x with
      | none => rw [relN x e] at hx; rcases hx with z | z <;> cases z
      | some k =>
        obtain ⟨k',e',q⟩ := relS x k e
        rw [e'] at hx
        have kf : k = .free := by
          rcases q with q | q
          · rcases hx with z | z
            · cases z; exact absurd q.symm (S.cell _ (PySem.mem_of_lookup e))
            · cases z; exact q.symm
          · exact q.1
        subst kf
        exact q2 x (PySem.mem_of_lookup e)
    case cab => intro x c h; rw [<- hX'] at h; exact absurd h (by show ¬ (false = true); decide)
    case hd => rw [<- hX']; exact I2.ok.hd
    case frames => rw [<- hX']; exact I2.ok.frames
    case stk => rw [<- hX']; exact .inl rfl
    case exf =>
      intro b hb
      have hb' : b ∈ fp := by rw [<- hX'] at hb; exact hb
      refine ⟨by rw [locE]; exact Nat.ne_of_lt (Nat.lt_trans (fpl b hb') DC),fun x c e => ?_⟩
      rw [cellsE] at e
      exact (f2 b hb').2.2.2.2.1 x c (q1 x c e)
    case bs => rw [<- hX']; exact I2.bs
    case bsz => rw [<- hX']; exact Nat.le_trans I2.ok.bsz I2.sz
    case noex =>
      intro b o e hb
      have hb' : b ∈ fp := by rw [<- hX'] at hb; exact hb
      have e' : X.base.get? b = some o := by rw [<- hX'] at e; exact e
      rcases (f2 b hb').2.2.2.1 with z | z
      · exact I2.ok.noex b o e' z
      · exact absurd (Nat.lt_of_lt_of_le (Heap.lt_size e') (Nat.le_trans I2.ok.bsz z)) (Nat.lt_irrefl _)
    case exfs =>
      intro b hb
      have hb' : b ∈ fp := by rw [<- hX'] at hb; exact hb
      rw [fsE]
      intro z
      rcases List.mem_cons.mp (I2.stkSub b z) with q | q
      · exact (f2 b hb').2.1 q
      · exact (f2 b hb').2.2.1 q
    case funs => rw [<- hX']; exact I2.stack
    case frf => rw [fsE,<- hX']; exact I2.stkFree
  have c0 : H2 C = none := I2.hok.fresh (by rw [hD]; exact Nat.le_of_lt DC)
  have d0 : H2 D = none := I2.hok.fresh (by rw [hD]; exact Nat.le_refl _)
  have I3 : Inv X' [] (inSt M σ) H2 { s2 with heap := h₁,toks := s2.toks + ([] : List (Str × Value)).length } := by
    refine ⟨ok',?os,?bare,?base,?loc,?cell,?free,?freeC,?pin,?hok,?len⟩
    case os => rw [<- hX']; rfl
    case bare => exact I2.bare
    case base => rw [fsE,<- hX']; exact Un.kept old
    case loc =>
      refine ⟨_,by rw [locE]; exact hns₁,fun i x v e1 e2 _ => ?_⟩
      obtain ⟨j,eM,eσ⟩ := inSt_get e2
      obtain ⟨y,n1,n2,n3⟩ := S.at_ i j eM
      have e1' : N'[i]? = some x := by rw [<- hX'] at e1; exact e1
      rw [n1] at e1'; cases e1'
      have hyf : (x,NameKind.free) ∈ scope.names := PySem.mem_of_lookup n3
      have kd := S.fre _ hyf rfl
      obtain ⟨m,hn,hl⟩ := id I2.loc
      obtain ⟨u,ru,lk⟩ := hl j x v n2 eσ (kd.elim (fun z => .inr (.inl z)) fun z => .inr (.inr z))
      refine ⟨u,ru,?_⟩
      rcases lk with ⟨k,_⟩ | ⟨k,c,ec,z⟩
      · have k' : X.env.scope.names.lookup x = some NameKind.local := k
        rcases kd with q | q <;> (rw [k'] at q; cases q)
      · obtain ⟨c',ec'⟩ := q2 x hyf
        have hcc := q1 x c' ec'
        rw [ec] at hcc; cases hcc
        obtain ⟨k',e',q⟩ := relS x _ n3
        refine .inr ⟨?_,c,by rw [cellsE]; exact ec',?_⟩
        · rw [e']; rcases q with q | q
          · right; rw [q]
          · left; rw [q.2]
        · obtain ⟨o,ho,hd'⟩ := z
          exact ⟨o,old _ _ ho,hd'⟩
    case cell =>
      intro x c e
      rw [cellsE] at e
      obtain ⟨v,o,ho,hd'⟩ := I2.cell x c (q1 x c e)
      exact ⟨v,o,old _ _ ho,hd'⟩
    case free => rw [locE]; exact c0
    case freeC => intro x c e; rw [cellsE] at e; exact I2.freeC x c (q1 x c e)
    case pin => intro p hp; rw [<- hX'] at hp; exact absurd (show p ∈ ([] : List (Addr × Obj)) from hp) (by simp)
    case hok => rw [<- hX']; exact I2.hok.kept old
    case len => rw [inSt_length,<- hX']; exact S.len.symm
  have xE : ∀ (e : Value) (s' : Shared),¬ X'.xe e s' := fun e s' z => by rw [<- hX'] at z; exact z
  have progE : X'.prog = X.prog := by rw [<- hX']; rfl
  have wE : X'.w = X.w := by rw [<- hX']; rfl
  have KE' : X'.K = X.K := by rw [<- hX']; rfl
  have AE : X'.A = X.A := by rw [<- hX']; rfl
  have cE : X'.calm = true := by rw [<- hX']; exact hc
  have exE : X'.ex = fp := by rw [<- hX']; rfl
  have s0E : X'.s₀ = s2 := by rw [<- hX']; rfl
  have pnE : X'.pn = [] := by rw [<- hX']; rfl
  have hgX : PG X' tg g := by rw [<- hX']; exact hg C s2 H2 fp
  have htX : PTs X' ifs tc := by rw [<- hX']; exact ht C s2 H2 fp
  have heX : PE X' elt te := by rw [<- hX']; exact he C s2 H2 fp
  have Dfp : D ∉ fp := fun z => Nat.lt_irrefl _ (fpl D z)
  have Dcl : ∀ x c,X'.env.cells.lookup x = some c -> c ≠ D := fun x c e => by rw [cellsE] at e; exact Nat.ne_of_lt (cel x c e)
  have Dloc : D ≠ X'.env.locals := by rw [locE]; exact Nat.ne_of_lt DC
  have Dfs : D ∉ X'.fs := by rw [fsE]; exact fun z => Nat.lt_irrefl _ (fsl D z)
  have D0 : D ∈ X'.ex \/ X'.s₀.heap.objs.size <= D := .inr (by rw [s0E,hD]; exact Nat.le_refl _)
  have stat : ∀ {pl : List (Addr × Obj)} {H' : Hp},(∀ p ∈ pl,p.1 = D) -> (∀ b ∈ fp,H' b = none) -> ∀ b ∈ fp,FpOk X' pl H' b := fun {pl H'} hpl hn b hb => by
    refine ⟨hn b hb,by rw [locE]; exact Nat.ne_of_lt (Nat.lt_trans (fpl b hb) DC),?_,.inl (by rw [exE]; exact hb),fun x c e => ?_,fun p hp => ?_⟩
    · exact ok'.exfs b (by rw [exE]; exact hb)
    · rw [cellsE] at e; exact (f2 b hb).2.2.2.2.1 x c (q1 x c e)
    · rw [pnE,List.nil_append] at hp
      rw [hpl p hp]; exact (Nat.ne_of_lt (fpl b hb)).symm
  have loop : codeAny (model X.prog X.w) X.A (.compLoop (.ListComp elt [⟨tg,iter,ifs,0⟩] scope pos) 0 (.ref it) (.ref D) X'.env) (RR (.ref D) C) { s2 with heap := h₁,toks := s2.toks + ([] : List (Str × Value)).length } := by
    refine compLoop_gen (fun n s' => ∃ i ys H',Inv X' [] (inSt M σ) H' s' /\ tn i s'.heap /\ (∀ b ∈ fp,H' b = none) /\ (∃ (its : List Value) (k : Nat),Vals ys its /\ s'.heap.get? D = some { cls := .type "list",data := .seq its.toArray k }) /\ H' D = none /\ W i n ys H') ?_ m0
      ⟨0,[],H2,I3,T.keep _ _ _ st2 fun b hb o e => old b o e,fun b hb => (f2 b hb).1,⟨[],0,.nil,hacc⟩,d0,w0⟩
    rintro n s3 ⟨i,ys,H3,J3,st3,fr3,⟨its,k,rv,hDs⟩,dn,w3⟩
    obtain ⟨hsz,hcase⟩ := turn i n ys H3 w3
    have J3' : Inv X' [(D,{ cls := .type "list",data := .seq its.toArray k })] (inSt M σ) H3 s3 := J3.pins_of fun p hp => by
      have e : p = (D,{ cls := .type "list",data := .seq its.toArray k }) := by simpa using hp
      subst e
      exact ⟨hDs,dn,Dloc,Dfs,fun v z => by cases z⟩
    have hpl : ∀ p ∈ [((D,{ cls := .type "list",data := .seq its.toArray k }) : Addr × Obj)],p.1 = D := fun p hp => by
      have e : p = (D,{ cls := .type "list",data := .seq its.toArray k }) := by simpa using hp
      rw [e]
    rcases hcase with ⟨stop,qF⟩ | ⟨go,hlt,N,hN,step⟩
    · have q := T.done X' progE wE KE' cE i _ s3 _ H3 (fun _ _ => False) J3' (stat hpl fr3) st3 stop
      rw [AE] at q
      refine thn q fun r s4 ⟨hr,J4⟩ => ?_
      subst hr
      have hD4 : s4.heap.get? D = some { cls := .type "list",data := .seq its.toArray k } := (J4.pin _ (List.mem_append_right _ (List.mem_singleton.mpr rfl))).1
      obtain ⟨mC,hnC,_⟩ := id J4.loc
      rw [locE] at hnC
      have b4 := J4.base
      rw [fsE,exE,s0E,show X'.H₀ = H2 by rw [<- hX']; rfl] at b4
      refine hend D C s4 H3 ys ?_ dn (Nat.le_refl _) DC ⟨mC,hnC⟩ (by rw [upd_ne (Nat.ne_of_gt DC)]; have := J4.free; rw [locE] at this; exact this) qF
      have hok4 := J4.hok
      rw [progE,wE] at hok4
      refine I2.call' (ch := fp) (H' := upd H3 D (.lst ys)) (by rw [J4.os,s0E]) ⟨b4.keep,b4.slot,fun b o e nn hb => ?_,b4.there,fun b xs e => ?_,fun b o u e => ?_,fun b ps e => ?_⟩ ?_ J4.bare fun b hb => ?_
      · rw [upd_ne (Nat.ne_of_lt (lo b o e))]; exact b4.free b o e nn hb
      · rw [upd_ne (ne_of_none (b4.tups b xs e) dn)]; exact b4.tups b xs e
      · rw [upd_ne (ne_of_none (b4.frzs b o u e) dn)]; exact b4.frzs b o u e
      · obtain ⟨more,e'⟩ := b4.tbls b ps e
        exact ⟨more,by rw [upd_ne (ne_of_none e' dn)]; exact e'⟩
      · intro b u e
        by_cases hb : b = D
        · subst hb
          rw [upd_same] at e; cases e
          exact ⟨hsz,its,k,rv,hD4⟩
        · rw [upd_ne hb] at e
          exact (hok4 b u e).stay (fun c v _ q => q) (fun c q => by rw [upd_ne (ne_of_none q dn)]; exact q) fun c xs q => by rw [upd_ne (ne_of_none q dn)]; exact q
      · obtain ⟨f0,f1,f3,f4,f5,f6⟩ := f2 b hb
        exact ⟨f4,f1,f5,f6⟩
    · have q := T.item X' progE wE KE' cE i _ s3 _ H3 (fun _ _ => False) J3' (stat hpl fr3) st3 go
      rw [AE] at q
      refine thn q fun r s4 ⟨u,hr,h4⟩ => ?_
      subst hr
      dsimp only
      refine thn h4 fun _ s5 ⟨x,H5,J5,r5,y5,st5,fr5⟩ => ?_
      have J5' := J5.pinned (stat hpl fr5) (T.obj _ _ st5)
      have qg := hgX _ s5 (inSt M σ) H5 x u _ J5' r5 (hf _ _ _ _ (step x H5 y5))
      rw [progE,wE,AE] at qg
      refine wpAny_mono qg (fun _ s6 h6 => ?_) fun e s' z => xE e s' z
      obtain ⟨σ6,H6,J6,q6,l6,k6⟩ := h6
      have qt := htX _ s6 σ6 H6 _ J6 q6
      rw [progE,wE,AE] at qt
      refine wpAny_mono qt (fun b s7 h7 => ?_) fun e s' z => xE e s' z
      obtain ⟨H7,J7,q7⟩ := h7
      have fin : ∀ {ys' : List V} {σ8 : St} {H8 : Hp} {s8 : Shared},σ8 = σ6 -> Inv X' ([(D,{ cls := .type "list",data := .seq its.toArray k })] ++ pinsAt fp s5.heap) σ8 H8 s8 ->
          s8.heap.get? D = some { cls := .type "list",data := .seq its.toArray k } /\ H8 D = none /\ tn (i + 1) s8.heap /\ (∀ b ∈ fp,H8 b = none) /\ Inv X' [] (inSt M σ) H8 s8 := fun {ys' σ8 H8 s8} e8 J8 => by
        subst e8
        obtain ⟨p1,p2,_⟩ := J8.pin _ (List.mem_append_right _ (List.mem_append_left _ (List.mem_singleton.mpr rfl)))
        refine ⟨p1,p2,T.keep _ _ _ st5 fun b hb o e => (J8.pin (b,o) (List.mem_append_right _ (List.mem_append_right _ (mem_pinsAt hb e)))).1,fun b hb => ?_,?_⟩
        · obtain ⟨o,e,d⟩ := T.obj _ _ st5 b hb
          exact (J8.pin (b,o) (List.mem_append_right _ (List.mem_append_right _ (mem_pinsAt hb e)))).2.1
        · have J9 : Inv X' [] σ8 H8 s8 := J8.pins_of fun p hp => absurd hp (by simp)
          refine J9.weak (l6.symm) fun a v e => ?_
          obtain ⟨j,eM,_⟩ := inSt_get e
          rw [k6 a j eM]; exact e
      cases b with
      | false =>
        rw [if_neg (by decide)] at q7
        rw [if_neg (by decide)]
        obtain ⟨m',hm,w7⟩ := hN _ _ q7
        obtain ⟨a1,a2,a3,a4,a5⟩ := fin (ys' := ys) rfl J7
        exact ⟨m',hm,i + 1,ys,H7,a5,a3,a4,⟨its,k,rv,a1⟩,a2,w7⟩
      | true =>
        rw [if_pos rfl] at q7
        rw [if_pos rfl]
        have qe := heX _ s7 σ6 H7 _ J7 q7
        rw [progE,wE,AE] at qe
        refine wpAny_mono qe (fun v8 s8 h8 => ?_) fun e s' z => xE e s' z
        obtain ⟨y8,H8,J8,r8,n8⟩ := h8
        obtain ⟨m',hm,w8⟩ := hN _ _ n8
        obtain ⟨a1,a2,a3,a4,a5⟩ := fin (ys' := ys) rfl J8
        refine wpAny_list_append_plain (items := its.toArray) ⟨k,a1⟩ (fun h9 hl9 hs9 => ?_) (by have := rv.length; rw [List.size_toArray,<- this]; exact hsz)
        have J9 : Inv X' [] (inSt M σ) H8 { s8 with heap := h9 } := a5.turned (t' := s8.toks) (fun b o hb e => (hs9.2 b hb).trans e) a2 Dloc D0 Dcl fun p hp => by rw [pnE] at hp; exact absurd hp (by simp)
        obtain ⟨k9,e9⟩ := hl9
        refine ⟨m',hm,i + 1,ys ++ [y8],H8,J9,T.keep _ _ _ a3 fun b hb o e => (hs9.2 b (fun z => Dfp (z ▸ hb))).trans e,a4,⟨its ++ [v8],k9,rv.append (.cons r8 .nil),?_⟩,a2,w8⟩
        rw [show (its ++ [v8]).toArray = its.toArray.push v8 by simp]
        exact e9
  have loop' : codeAny (model X.prog X.w) X.A (.compLoop (.ListComp elt [⟨tg,iter,ifs,0⟩] scope pos) 0 (.ref it) (.ref D) (compEnvC scope cl C X.env)) (RR (.ref D) C) { s2 with heap := h₁,toks := s2.toks + ([] : List (Str × Value)).length } := envE ▸ loop
  exact codeAny_compStart_list loop' (T.self _ 0 _ _ _ (T.keep _ _ _ st2 fun b hb o e => old b o e) loop')
end L2
namespace L2
open PySem PySem.Spec PyProof.Rows
section
variable {X : Cx} {N' : List Str} {M : List (Option Nat)} {scope : Scope} {tg elt iter : Expr} {ifs : List Expr} {pos : Pos} {g : TG} {tc : TT} {te : TE} {wi : TI}
theorem lc_clos {pins : List (Addr × Obj)} {σ : St} {H : Hp} {s : Shared} (S : LcSc X.N N' M scope X.env.scope) (I : Inv X pins σ H s) :
    ∃ cl,closureFor scope X.env = pure cl /\ (∀ y c,cl.lookup y = some c -> X.env.cells.lookup y = some c) /\ (∀ y,(y,NameKind.free) ∈ scope.names -> ∃ c,cl.lookup y = some c) :=
  closure_of fun y hy hk => I.ok.has y.1 (S.fre y hy hk)
theorem Inv.gone {pins : List (Addr × Obj)} {σ : St} {H : Hp} {s s' : Shared} {C : Addr} {h' : Heap} (I : Inv X pins σ H s) (hs : Heap.SameBut C s.heap h') (hn : H C = none) (hC : C ≠ X.env.locals) (h1 : X.s₀.heap.objs.size <= C)
    (h2 : ∀ x c,X.env.cells.lookup x = some c -> c ≠ C) (h3 : ∀ p ∈ X.pn ++ pins,p.1 ≠ C) : Inv X pins σ H { s with heap := h' } :=
  I.turned (t' := s.toks) (fun b o hb e => (hs.2 b hb).trans e) hn hC (.inr h1) h2 h3
theorem Inv.young {pins : List (Addr × Obj)} {σ : St} {H : Hp} {s : Shared} {C : Addr} (I : Inv X pins σ H s) (h : s.heap.objs.size <= C) :
    C ≠ X.env.locals /\ X.s₀.heap.objs.size <= C /\ (∀ x c,X.env.cells.lookup x = some c -> c ≠ C) /\ ∀ p ∈ X.pn ++ pins,p.1 ≠ C := by
  refine ⟨(Nat.ne_of_lt (Nat.lt_of_lt_of_le I.lt h)).symm,Nat.le_trans I.sz h,fun x c e => ?_,fun p hp => ?_⟩
  · obtain ⟨v,z⟩ := I.cell x c e
    exact Nat.ne_of_lt (Nat.lt_of_lt_of_le z.lt h)
  · exact Nat.ne_of_lt (Nat.lt_of_lt_of_le (Heap.lt_size (I.pin p hp).1) h)
theorem pe_lc (S : LcSc X.N N' M scope X.env.scope) (hc : X.calm = true) (hi : PI X tg iter wi) (hg : ∀ cl C s H fp,PG (cxLc X N' scope cl C s H fp) tg g) (hf : Frm M g)
    (ht : ∀ cl C s H fp,PTs (cxLc X N' scope cl C s H fp) ifs tc) (he : ∀ cl C s H fp,PE (cxLc X N' scope cl C s H fp) elt te)
    (hs : ∀ x,foldedSetIterable iter X.env x = pure x := by intro _; rfl) :
    PE X (.ListComp elt [⟨tg,iter,ifs,0⟩] scope pos) (fun σ H Q => tLc wi M g tc te σ H fun ys H' => ∀ p,H' p = none -> Q (.ref p) (upd H' p (.lst ys))) := by
  intro pins s σ H Q I h
  obtain ⟨cl,hclos,q1,q2⟩ := lc_clos S I
  rw [eval_ListComp]
  refine wpAny_comprehension_free (use := none) rfl hs hclos S.kind S.own (thn (hi pins s σ H _ I h) fun v s1 h1 => thn h1 fun itv s2 h2 => ?_)
  obtain ⟨it,fp,tn,J,H2,e,I2,T,st2,f2,hw⟩ := h2
  subst e
  refine lc_block (RR := fun acc C => compPost (model X.prog X.w) X.A X.xe none (EP X pins σ Q) acc C) S hc q1 q2 (hg cl) hf (ht cl) (he cl) I2 T st2 f2 hw ?_
  intro D C s' H' ys I' dn hD hC ⟨m,hn⟩ hCn q
  obtain ⟨y1,y2,y3,y4⟩ := I2.young (Nat.le_of_lt hC)
  exact ⟨m,hn,fun h' hs' => ⟨.ref D,_,I'.gone (s' := s') hs' hCn y1 y2 y3 y4,rfl,q D dn⟩⟩
theorem ps_lc {i : Nat} {x : Str} {pos' spos : Pos} (hN : X.N.Nodup) (hi : X.N[i]? = some x) (hx : X.env.scope.names.lookup x = some NameKind.local)
    (S : LcSc X.N N' M scope X.env.scope) (hc : X.calm = true) (hit : PI X tg iter wi) (hg : ∀ cl C s H fp,PG (cxLc X N' scope cl C s H fp) tg g) (hf : Frm M g)
    (ht : ∀ cl C s H fp,PTs (cxLc X N' scope cl C s H fp) ifs tc) (he : ∀ cl C s H fp,PE (cxLc X N' scope cl C s H fp) elt te)
    (hsw : swapsWith (.ListComp elt [⟨tg,iter,ifs,0⟩] scope pos) (some (.Name x pos')) spos.line X.env = pure true := by rfl)
    (hs : ∀ x,foldedSetIterable iter X.env x = pure x := by intro _; rfl) :
    PS X (.Assign [.Name x pos'] (.ListComp elt [⟨tg,iter,ifs,0⟩] scope pos) spos) (fun D σ H => tLc wi M g tc te σ H fun ys H' => ∀ p,H' p = none -> D.nx (σ.set i (some (.ref p))) (upd H' p (.lst ys))) := by
  intro pins s σ H Dn I h
  obtain ⟨cl,hclos,q1,q2⟩ := lc_clos S I
  rw [exec_Assign_Name_used _ _ _ _ hsw]
  refine wpAny_bind (wpAny_standAt (wpAny_bind ?_))
  show wpAny _ X.A (do let _ <- comprehension (.ListComp elt [⟨tg,iter,ifs,0⟩] scope pos) scope X.env _ (newList []) false (eval iter X.env) (some (assign (.Name x pos') X.env))) _ _ s
  refine wpAny_bind (wpAny_mono (wpAny_comprehension_free (use := some (assign (.Name x pos') X.env)) (Q := fun _ s' => SP X pins Dn .next s') rfl hs hclos S.kind S.own
    (thn (hit pins s σ H _ I h) fun v s1 h1 => thn h1 fun itv s2 h2 => ?_)) (fun _ s' hq => wpAny_pure (wpAny_pure hq)) fun _ _ e => e)
  obtain ⟨it,fp,tn,J,H2,e,I2,T,st2,f2,hw⟩ := h2
  subst e
  refine lc_block (RR := fun acc C => compPost (model X.prog X.w) X.A X.xe (some (assign (.Name x pos') X.env)) (fun _ s' => SP X pins Dn .next s') acc C) S hc q1 q2 (hg cl) hf (ht cl) (he cl) I2 T st2 f2 hw ?_
  intro D C s' H' ys I' dn hD hC ⟨m,hn⟩ hCn q
  obtain ⟨y1,y2,y3,y4⟩ := I2.young (Nat.le_of_lt hC)
  show wpAny _ X.A (assign (.Name x pos') X.env (.ref D)) _ _ s'
  refine wpAny_assign_Name (store_ok2 I' hN hi (.inl hx) (v := .ref D) rfl (fun s'' I'' ⟨a,hsb,ha⟩ => ?_) (.inr hx))
  have hCa : C ≠ a := by
    rcases ha with z | z
    · rw [z]; exact y1
    · exact (y3 x a z).symm
  exact ⟨m,hn.sameBut hsb hCa,fun h' hs' => ⟨_,_,I''.gone (s' := s'') hs' hCn y1 y2 y3 y4,q D dn⟩⟩
end
end L2
namespace L2
open PySem PySem.Spec PyProof.Rows
theorem Same.seqT {K : PySem.W.Frag} {H H' : Hp} {a : Addr} {xs : List V} (e : Same H H') (h : SqT K H a xs) : SqT K H' a xs := by
  rcases h with (h | ⟨o,h⟩) | h
  · exact .inl (.inl (e _ _ h))
  · exact .inl (.inr ⟨o,e _ _ h⟩)
  · exact .inr h
theorem Same.new {H : Hp} {p : Addr} {o : HO} (h : H p = none) : Same H (upd H p o) := fun b u e => by rw [upd_ne (ne_of_none e h)]; exact e
theorem Same.new2 {H H1 : Hp} {p : Addr} {o : HO} (e : Same H H1) (h : H1 p = none) : Same H (upd H1 p o) := e.trans (Same.new h)
theorem Same.put {H H1 : Hp} {p : Addr} {o : HO} (e : Same H H1) (h : H p = none) : Same H (upd H1 p o) := fun b u q => by rw [upd_ne (ne_of_none q h)]; exact e b u q
section
variable {X : Cx}
theorem op_mulW : OpR X (binaryOp .Mult) (rI IntMulOk fun i j => .int (i * j)) := opI fun _ _ _ _ _ _ _ hc q => mul_int q hc
def CDivW (i j : Int) : Prop := 0 < j /\ j.natAbs.log2 < 9000
theorem op_fdivW : OpR X (binaryOp .FloorDiv) (rI CDivW fun i j => .int (i / j)) := opI fun i j _ _ _ _ _ hc q => by
  have e : i.fdiv j = i / j := Int.fdiv_eq_ediv_of_nonneg i (Int.le_of_lt hc.1)
  exact floordiv_int (Int.ne_of_gt hc.1) (by rw [e]; exact q) (.inl (PyProof.noPylong_of_log2 hc.2))
theorem mulOk_l {a b : Int} (h : -(2 ^ 64) < a /\ a < 2 ^ 64) : IntMulOk a b := CMul.ok (.inl h)
theorem mulOk_r {a b : Int} (h : -(2 ^ 64) < b /\ b < 2 ^ 64) : IntMulOk a b := CMul.ok (.inr h)
theorem old_keptT {s : Shared} {l : Addr} {h' : Heap} (hk : ∀ b o,b ∉ [s.heap.objs.size] -> (s.heap.push { cls := .type "tuple_iterator",data := .fields #[.ref l,.int 0 0] }).get? b = some o -> h'.get? b = some o) :
    ∀ b o,s.heap.get? b = some o -> h'.get? b = some o := fun b o e => hk b o (fun hm => absurd (Heap.lt_size e) (by rw [List.mem_singleton.mp hm]; exact Nat.lt_irrefl _)) (Heap.get?_push_of_some _ e)
theorem seq_walk {pins : List (Addr × Obj)} {σ : St} {H : Hp} {s : Shared} {a : Addr} {xs : List V} {A : Around} {E : Value -> Shared -> Prop} {Q : Value -> Shared -> Prop} (I : Inv X pins σ H s) (hh : A.handled = none) (hq : SqL X.K H a xs \/ SqT X.K H a xs)
    (h : ∀ (its : List Value) (I' : Addr) (fp wr : List Addr) (St' : Nat -> Heap -> Prop) (s2 : Shared),Vals xs its -> Walks X.prog X.w A I' fp wr its.toArray.size (fun i v => its.toArray[i]? = some v) St' -> St' 0 s2.heap -> (∀ b ∈ fp,b < s2.heap.objs.size) ->
      s2.toks = s.toks -> s2.os = s.os -> s2.gens = s.gens -> s2.drawn = s.drawn -> (∀ h' tk,(∀ b o,b ∉ wr -> s2.heap.get? b = some o -> h'.get? b = some o) -> Inv X pins σ H { s2 with heap := h',toks := tk }) -> Q (.ref I') s2) :
    wpAny (model X.prog X.w) A (pyIter (.ref a)) Q E s := by
  rcases hq with hq | hq
  · obtain ⟨its,rv,p,hz⟩ := I.list hq
    obtain ⟨o,ho,_⟩ := id p.isList
    have hlt := Heap.lt_size ho
    refine wpAny_pyIter_list p.isList (h its s.heap.objs.size [s.heap.objs.size,a] [s.heap.objs.size] _ _ rv (Walks.list hh _ a (Nat.ne_of_lt hlt) its.toArray) ⟨⟨_,Heap.get?_push_size _ rfl,rfl,rfl⟩,p.isList.push _⟩ (fun b hb => ?_) rfl rfl rfl rfl fun h' tk hk => ?_)
    · show b < (s.heap.push _).objs.size
      rw [Heap.size_push]
      rcases List.mem_cons.mp hb with rfl | hb
      · exact Nat.lt_succ_self _
      · rw [List.mem_singleton.mp hb]; exact Nat.lt_succ_of_lt hlt
    · exact I.kept (t' := tk) (old_kept hk)
  · obtain ⟨its,rv,p,hz⟩ := I.tuple hq
    obtain ⟨o,ho,_⟩ := id p
    have hlt := Heap.lt_size ho
    have p' : s.heap.IsTuple a its.toArray := p
    refine wpAny_pyIter_tuple p' (h its s.heap.objs.size [s.heap.objs.size,a] [s.heap.objs.size] _ _ rv (Walks.tuple hh _ a (Nat.ne_of_lt hlt) its.toArray) ⟨⟨_,Heap.get?_push_size _ rfl,rfl,rfl⟩,p'.push _⟩ (fun b hb => ?_) rfl rfl rfl rfl fun h' tk hk => ?_)
    · show b < (s.heap.push _).objs.size
      rw [Heap.size_push]
      rcases List.mem_cons.mp hb with rfl | hb
      · exact Nat.lt_succ_self _
      · rw [List.mem_singleton.mp hb]; exact Nat.lt_succ_of_lt hlt
    · exact I.kept (t' := tk) (old_keptT hk)
theorem vals_int_at {ns : List Int} {its : List Value} (r : Vals (ns.map V.int) its) {i : Nat} {v : Value} (h : its.toArray[i]? = some v) : ∃ t,v = .int (ns.getD i 0) t /\ i < ns.length := by
  have h' : its[i]? = some v := by simpa using h
  have hl := r.length
  rw [List.length_map] at hl
  have hi : i < ns.length := by rw [hl]; exact (List.getElem?_eq_some_iff.mp h').1
  obtain ⟨u,hu,ru⟩ := r.get (i := i) (x := V.int (ns[i])) (by rw [List.getElem?_map,List.getElem?_eq_getElem hi]; rfl)
  rw [hu] at h'; cases h'
  obtain ⟨t,rfl⟩ := ru
  exact ⟨t,by rw [List.getD_eq_getElem?_getD,List.getElem?_eq_getElem hi]; rfl,hi⟩
def IsMax (ns : List Int) (m : Int) : Prop := m ∈ ns /\ ∀ a ∈ ns,a <= m
theorem getD_mem' {ns : List Int} {i : Nat} (h : i < ns.length) : ns.getD i 0 ∈ ns := by
  rw [List.getD_eq_getElem?_getD,List.getElem?_eq_getElem h]; exact List.getElem_mem h
theorem mem_getD' {ns : List Int} {a : Int} (h : a ∈ ns) : ∃ i,i < ns.length /\ ns.getD i 0 = a := by
  obtain ⟨i,hi,e⟩ := List.mem_iff_getElem.mp h
  exact ⟨i,hi,by rw [List.getD_eq_getElem?_getD,List.getElem?_eq_getElem hi]; exact e⟩
theorem call_maxL (hc : X.calm = true) : CallR X (.builtin "max") (fun xs H Q => ∃ (a : Addr) (ns : List Int),xs = [.ref a] /\ (SqL X.K H a (ns.map V.int) \/ SqT X.K H a (ns.map V.int)) /\ ns ≠ [] /\ ∀ m,IsMax ns m -> Q (.int m) H) := by
  intro pins s σ H xs us Q I r h
  obtain ⟨a,ns,rfl,hq,hne,q⟩ := h
  obtain ⟨u,rfl,ru⟩ := vals1 r
  cases ru
  refine call_max_walk (seq_walk I (A := X.A.in1) (I.ok.hd hc) hq fun its I' fp wr St' s2 rv W st hfp _ _ _ _ hI => ?_)
  have hlen : its.toArray.size = ns.length := by rw [List.size_toArray,<- rv.length,List.length_map]
  have hpos : 0 < ns.length := List.length_pos_iff.mpr hne
  refine ⟨_,_,_,_,_,_,_,rfl,W,st,hfp,by rw [hlen]; exact hpos,CmpOf.ints_gt (fun i => ns.getD i 0) (fun i v hv => (vals_int_at rv hv).imp fun t e => e.1),fun v h' tk hP hk => ?_⟩
  obtain ⟨t,rfl,hi⟩ := vals_int_at rv hP
  obtain ⟨h1,h2⟩ := argBest_gt (fun i => ns.getD i 0) (its.toArray.size - 1)
  refine ⟨.int _,H,hI h' tk hk,⟨t,rfl⟩,q _ ⟨getD_mem' hi,fun b hb => ?_⟩⟩
  obtain ⟨j,hj,rfl⟩ := mem_getD' hb
  exact h2 j (by omega)
theorem call_sumL (hc : X.calm = true) : CallR X (.builtin "sum") (fun xs H Q => ∃ (a : Addr) (ns : List Int),xs = [.ref a] /\ (SqL X.K H a (ns.map V.int) \/ SqT X.K H a (ns.map V.int)) /\ Q (.int ns.sum) H) := by
  intro pins s σ H xs us Q I r h
  obtain ⟨a,ns,rfl,hq,q⟩ := h
  obtain ⟨u,rfl,ru⟩ := vals1 r
  cases ru
  refine call_sum_walkG (seq_walk I (A := X.A.in1) (I.ok.hd hc) hq fun its I' fp wr St' s2 rv W st hfp _ _ _ _ hI => ?_)
  refine ⟨_,_,_,_,_,_,fun i => ns.getD i 0,rfl,W,st,hfp,(fun i v hv => (vals_int_at rv hv).imp fun t e => e.1),fun h' tk t' hk => ?_⟩
  have hlen : its.toArray.size = ns.length := by rw [List.size_toArray,<- rv.length,List.length_map]
  refine ⟨.int _,H,hI h' tk hk,⟨t',rfl⟩,?_⟩
  have e : preSum (fun i => ns.getD i 0) its.toArray.size = ns.sum := by
    rw [hlen]
    have gen : ∀ n,n <= ns.length -> preSum (fun i => ns.getD i 0) n = (ns.take n).sum := by
      intro n
      induction n with
      | zero => intro _; rfl
      | succ n ih =>
        intro hn
        have e1 : preSum (fun i => ns.getD i 0) (n + 1) = preSum (fun i => ns.getD i 0) n + ns.getD n 0 := rfl
        have hn' : n < ns.length := hn
        have e2 : ns.take (n + 1) = ns.take n ++ [ns[n]] := by simp
        rw [e1,ih (by omega),e2,List.getD_eq_getElem?_getD,List.getElem?_eq_getElem hn',List.sum_append]
        simp
    rw [gen _ (Nat.le_refl _),List.take_length]
  rw [e]; exact q
theorem vals_bl_at {bs : List Bool} {its : List Value} (r : Vals (bs.map V.bl) its) {i : Nat} {v : Value} (h : its.toArray[i]? = some v) : v = .bool (bs.getD i true) /\ i < bs.length := by
  have h' : its[i]? = some v := by simpa using h
  have hl := r.length
  rw [List.length_map] at hl
  have hi : i < bs.length := by rw [hl]; exact (List.getElem?_eq_some_iff.mp h').1
  obtain ⟨u,hu,ru⟩ := r.get (i := i) (x := V.bl (bs[i])) (by rw [List.getElem?_map,List.getElem?_eq_getElem hi]; rfl)
  rw [hu] at h'; cases h'
  cases (show v = Value.bool (bs[i]) from ru)
  exact ⟨by rw [List.getD_eq_getElem?_getD,List.getElem?_eq_getElem hi]; rfl,hi⟩
theorem range_all (bs : List Bool) (d : Bool) : (List.range bs.length).all (fun i => bs.getD i d) = bs.all id := by
  rw [Bool.eq_iff_iff,List.all_eq_true,List.all_eq_true]
  constructor
  · intro h b hb
    obtain ⟨i,hi,e⟩ := List.mem_iff_getElem.mp hb
    have := h i (List.mem_range.mpr hi)
    rw [List.getD_eq_getElem?_getD,List.getElem?_eq_getElem hi] at this
    rw [<- e]; exact this
  · intro h i hi
    have hi := List.mem_range.mp hi
    rw [List.getD_eq_getElem?_getD,List.getElem?_eq_getElem hi]
    exact h _ (List.getElem_mem hi)
theorem range_any (bs : List Bool) (d : Bool) : (List.range bs.length).any (fun i => bs.getD i d) = bs.any id := by
  rw [Bool.eq_iff_iff,List.any_eq_true,List.any_eq_true]
  constructor
  · rintro ⟨i,hi,h⟩
    have hi := List.mem_range.mp hi
    rw [List.getD_eq_getElem?_getD,List.getElem?_eq_getElem hi] at h
    exact ⟨_,List.getElem_mem hi,h⟩
  · rintro ⟨b,hb,h⟩
    obtain ⟨i,hi,e⟩ := List.mem_iff_getElem.mp hb
    refine ⟨i,List.mem_range.mpr hi,?_⟩
    rw [List.getD_eq_getElem?_getD,List.getElem?_eq_getElem hi]
    show bs[i] = true
    rw [e]; exact h
theorem call_allL (hc : X.calm = true) : CallR X (.builtin "all") (fun xs H Q => ∃ (a : Addr) (bs : List Bool),xs = [.ref a] /\ (SqL X.K H a (bs.map V.bl) \/ SqT X.K H a (bs.map V.bl)) /\ Q (.bl (bs.all id)) H) := by
  intro pins s σ H xs us Q I r h
  obtain ⟨a,bs,rfl,hq,q⟩ := h
  obtain ⟨u,rfl,ru⟩ := vals1 r
  cases ru
  refine call_all_walk (seq_walk I (A := X.A.in1) (I.ok.hd hc) hq fun its I' fp wr St' s2 rv W st hfp _ _ _ _ hI => ?_)
  refine ⟨_,_,_,_,_,_,fun i => bs.getD i true,rfl,W,st,(fun i v s Q E hv hQ => by rw [(vals_bl_at rv hv).1]; exact wpAny_truthy_bool hQ),fun h' tk hk => ?_⟩
  have hlen : its.toArray.size = bs.length := by rw [List.size_toArray,<- rv.length,List.length_map]
  rw [hlen,range_all]
  exact ⟨.bl _,H,hI h' tk hk,rfl,q⟩
theorem call_anyL (hc : X.calm = true) : CallR X (.builtin "any") (fun xs H Q => ∃ (a : Addr) (bs : List Bool),xs = [.ref a] /\ (SqL X.K H a (bs.map V.bl) \/ SqT X.K H a (bs.map V.bl)) /\ Q (.bl (bs.any id)) H) := by
  intro pins s σ H xs us Q I r h
  obtain ⟨a,bs,rfl,hq,q⟩ := h
  obtain ⟨u,rfl,ru⟩ := vals1 r
  cases ru
  refine call_any_walk (seq_walk I (A := X.A.in1) (I.ok.hd hc) hq fun its I' fp wr St' s2 rv W st hfp _ _ _ _ hI => ?_)
  refine ⟨_,_,_,_,_,_,fun i => bs.getD i true,rfl,W,st,(fun i v s Q E hv hQ => by rw [(vals_bl_at rv hv).1]; exact wpAny_truthy_bool hQ),fun h' tk hk => ?_⟩
  have hlen : its.toArray.size = bs.length := by rw [List.size_toArray,<- rv.length,List.length_map]
  rw [hlen,range_any]
  exact ⟨.bl _,H,hI h' tk hk,rfl,q⟩
theorem call_isi : CallR X (.builtin "isinstance") (fun xs H Q => ∃ x n t b,xs = [x,.ty n] /\ TyOf X.K H x t /\ PySem.W.kitOne X.K t (.type n) = some b /\ Q (.bl b) H) := by
  intro pins s σ H xs us Q I r h
  obtain ⟨x,n,t,b,rfl,ty,e,q⟩ := h
  obtain ⟨u,w',rfl,rx,ru⟩ := vals2 r
  cases (show w' = Value.type n from ru)
  exact isinst_ok I rx ty e fun tk => ⟨.bl b,H,I.tok tk,rfl,q⟩
end
end L2
namespace L2
open PySem PySem.Spec PyProof.Rows
section
variable {prog : Program} {w : World} {A : Around} {E : Value -> Shared -> Prop} {s : Shared}
theorem isExact_tup {t : Addr} {items : Array Value} {Q : Bool -> Shared -> Prop} (ht : IsTup s.heap t items) (h : Q true s) : wpAny (model prog w) A (Builtin.Tuple.tupleIsExact (.ref t)) Q E s := by
  unfold Builtin.Tuple.tupleIsExact
  exact wpAny_bind (wpAny_typeOf ht.typeIs (wpAny_pure h))
theorem getItem_tuple_all {t sl : Addr} {items : Array Value} {vl vu : Value} {lo hi : Option Int} {Q : Value -> Shared -> Prop} (ht : IsTup s.heap t items) (hs : s.heap.IsSliceOf sl vl vu .none) (pl : IsPart vl lo) (pu : IsPart vu hi)
    (hw : HT.sIx items.size 0 lo = 0 /\ HT.sIx items.size items.size hi = items.size) (h : Q (.ref t) s) : wpAny (model prog w) A (getItem (.ref t) (.ref sl)) Q E s := by
  obtain ⟨os,hos,hcs,hds⟩ := id hs
  have hTs : s.TypeIs (.ref sl) "slice" := ⟨os,hos,hcs⟩
  unfold getItem
  try with_reducible refine wpAny_holding ?_
  first | refine wpAny_bind (wpAny_pure ?_) | skip
  refine wpAny_bind (wpAny_sequenceKey ht.typeIs (by decide) ?_)
  refine wpAny_bind (wpAny_callSpecial?_slot (name := Str.ofString "__getitem__") ht.typeIs PyProof.Rows.slot_tuple_getitem
    (wpAny_call_entry PyProof.Rows.slot_tuple_getitem ht.typeIs entry_tuple_getitem ?_ (args_tuple_getitem _ _)))
  show wpAny _ _ (Builtin.Tuple.tupleItemsOf (.ref t) >>= _) _ _ s
  refine wpAny_bind (tupleItemsOf_ ht ?_)
  refine wpAny_bind (wpAny_typeOf hTs ?_)
  rw [if_pos (by decide)]
  refine wpAny_bind (HT.sliceApplied_gen hs pl pu ?_)
  have hyes : ((((HT.sIx items.size 0 lo : Nat) : Int) == 0 && (1 : Int) == 1 && (HT.sIx items.size items.size hi - HT.sIx items.size 0 lo) == items.size) = true) := by
    rw [hw.1,hw.2]; simp
  show wpAny _ _ (if (((HT.sIx items.size 0 lo : Nat) : Int) == 0 && (1 : Int) == 1 && (HT.sIx items.size items.size hi - HT.sIx items.size 0 lo) == items.size) = true then _ else _) _ _ s
  rw [if_pos hyes]
  refine wpAny_bind (isExact_tup ht ?_)
  rw [if_pos rfl]
  exact wpAny_bind (wpAny_rule (wpAny_bind (wpAny_pure (wpAny_pure ⟨_,rfl,wpAny_pure h⟩))))
end
section
variable {X : Cx}
theorem sl_tupA : SlR X (fun x lo hi H Q => ∃ a xs,x = .ref a /\ SqT X.K H a xs /\ ∀ p H',Same H H' -> SqT X.K H' p (cutV xs lo hi) -> Q (.ref p) H') := by
  intro pins s σ H x v vl vu lo hi sl Q I rx hs pl pu h
  obtain ⟨a,xs,rfl,hx,q⟩ := h
  by_cases hw : HT.sIx xs.length 0 lo = 0 /\ HT.sIx xs.length xs.length hi = xs.length
  · cases rx
    obtain ⟨its,r,ht,hz⟩ := I.tuple hx
    have hlen : its.toArray.size = xs.length := by rw [List.size_toArray]; exact r.length.symm
    refine ⟨"tuple",_,PyProof.Rows.slot_tuple_getitem.lookup,ht.typeIs,?_⟩
    refine getItem_tuple_all ht hs pl pu (by rw [hlen]; exact hw) ⟨.ref a,H,I,rfl,q a H (Same.refl H) ?_⟩
    have e : cutV xs lo hi = xs := by unfold cutV; rw [hw.1,hw.2]; simp
    rw [e]; exact hx
  · exact sl_tup pins s σ H _ v vl vu lo hi sl Q I rx hs pl pu ⟨a,xs,rfl,hx,hw,fun p hp => q p _ (Same.new hp) (SqT.of upd_same)⟩
end
section
variable {X : Cx}
theorem draw_list {prog : Program} {w : World} {A : Around} {E : Value -> Shared -> Prop} {it t : Addr} {items : Array Value} (hne : t ≠ it) : ∀ (n i : Nat) (s : Shared) (Q : List Value -> Shared -> Prop),s.heap.IsListIter it t i -> s.heap.IsList t items -> i + n <= items.size ->
    (∀ h',h'.IsListIter it t (i + n) -> Heap.SameBut it s.heap h' -> Q ((items.toList.drop i).take n) { s with heap := h' }) -> wpAny (model prog w) A (draw (.ref it) n) Q E s
  | 0,i,s,Q,hit,_,_,hQ => by
    show wpAny _ _ (pure []) Q E s
    exact wpAny_pure (by simpa using hQ s.heap hit (Heap.SameBut.refl ..))
  | n + 1,i,s,Q,hit,ht,hle,hQ => by
    have hlt : i < items.size := by omega
    show wpAny _ _ (pyNext (.ref it) >>= _) Q E s
    refine wpAny_bind (wpAny_pyNext_list_item hit ht (x := items[i]) (by simp [hlt]) fun h₁ hit₁ hs₁ => ?_)
    refine wpAny_bind (wpAny_holding (draw_list hne n (i + 1) _ _ hit₁ (ht.extBut hs₁.extBut hne) (by omega) fun h₂ hit₂ hs₂ => wpAny_pure ?_))
    have hd : items.toList.drop i = items[i] :: items.toList.drop (i + 1) := by simp [List.drop_eq_getElem_cons,hlt]
    have := hQ h₂ (by rw [show i + (n + 1) = i + 1 + n by omega]; exact hit₂) (hs₁.trans hs₂)
    rw [hd,List.take_succ_cons] at this
    exact this
theorem unpackItems_list {prog : Program} {w : World} {A : Around} {E : Value -> Shared -> Prop} {s : Shared} {t : Addr} {items : Array Value} {Q : List Value -> Shared -> Prop} (hh : A.handled = none) (ht : s.heap.IsList t items)
    (hQ : ∀ h',Heap.ExtBut s.heap.objs.size s.heap h' -> Q items.toList { s with heap := h' }) : wpAny (model prog w) A (unpackItems (.ref t) items.size none) Q E s := by
  have hlt : t ≠ s.heap.objs.size := by obtain ⟨o,ho,_⟩ := ht; exact Nat.ne_of_lt (Heap.lt_size ho)
  unfold unpackItems
  refine wpAny_bind ?_
  unfold notIterableAtAll
  refine wpAny_bind (wpAny_specialOf ht.typeIs slot_list_iter.lookup ?_)
  refine wpAny_pure ?_
  simp only [Bool.false_eq_true,if_false]
  refine wpAny_bind (wpAny_holding (wpAny_pyIter_list ht ?_))
  refine wpAny_bind (wpAny_holding (draw_list hlt items.size 0 _ _ ⟨_,Heap.get?_push_size _ rfl,rfl,rfl⟩ (ht.push _) (by omega) fun h₁ hit₁ hs₁ => ?_))
  have hall : List.take items.size (List.drop 0 items.toList) = items.toList := by
    rw [List.drop_zero]; exact List.take_of_length_le (by simp)
  rw [hall]
  rw [if_neg (by simp)]
  have ht₁ : h₁.IsList t items := (ht.push _).extBut hs₁.extBut hlt
  refine wpAny_bind (wpAny_holding (wpAny_pyNext_list_end hh hit₁ ht₁ (by simp) fun h₂ he₂ => ?_))
  simp only [Option.isSome_none,Bool.false_eq_true,if_false]
  refine wpAny_pure (hQ h₂ fun b o hb e => he₂ b o hb (hs₁.extBut b o hb (Heap.get?_push_of_some _ e)))
def gLst (K : PySem.W.Frag) (n : Nat) (t : TGs) : TG := fun v σ H Q => ∃ a xs,v = .ref a /\ SqL K H a xs /\ xs.length = n /\ t xs σ H Q
theorem pg_lst {es : List Expr} {k : Nat} {t : TGs} {n : Nat} {pos : Pos} (hc : X.calm = true) (h : PGs X es t)
    (hn : (assignEach es X.env).length = n := by rfl) (hst : (assignEach es X.env).findIdx? (·.1) = none := by rfl) : PG X (.Tuple es k pos) (gLst X.K n t) := by
  intro pins s σ H v u Q I r hw
  obtain ⟨a,xs,e1,hq,hl,hw⟩ := hw
  subst e1
  cases r
  obtain ⟨its,rv,ht,hz⟩ := I.list hq
  rw [assign_Tuple]
  refine wpAny_bind (wpAny_standAt ?_)
  unfold unpack
  rw [show (assignEach es X.env).length = its.toArray.size by rw [hn,<- hl,rv.length,List.size_toArray],hst]
  refine wpAny_bind (wpAny_holding (unpackItems_list (I.ok.hd hc) ht.isList fun h' hx => ?_))
  have I1 : Inv X pins σ H { s with heap := h' } := I.kept (t' := s.toks) fun b o e => hx b o (Nat.ne_of_lt (Heap.lt_size e)) e
  exact h pins _ σ H xs _ Q I1 (by simpa using rv) hw
end
end L2
namespace L2
open PySem PySem.Spec PyProof.Rows
def lcChk (N N' : List Str) (M : List (Option Nat)) (sc osc : Scope) : Bool :=
  (sc.kind == .function) && (N'.length == M.length) && (sc.names.all fun y => y.2 != NameKind.cell) && (sc.names.all fun y => y.2 != NameKind.local || sc.names.lookup y.1 == some NameKind.local) &&
  (sc.names.all fun y => y.2 != NameKind.free || (osc.names.lookup y.1 == some NameKind.cell || osc.names.lookup y.1 == some NameKind.free)) &&
  ((N'.zip M).all fun p => match p.2 with | none => true | some j => N[j]? == some p.1 && sc.names.lookup p.1 == some NameKind.free)
theorem nk_eq {a b : NameKind} (h : (a == b) = true) : a = b := by
  cases a <;> cases b <;> first | rfl | exact absurd h (by decide)
theorem nko_eq {a : Option NameKind} {b : NameKind} (h : (a == some b) = true) : a = some b := by
  cases a with
  | none => exact absurd h (by cases b <;> decide)
  | some x => rw [nk_eq (show (x == b) = true from h)]
theorem nk_ne {a b : NameKind} (h : (a != b) = true) : a ≠ b := by
  cases a <;> cases b <;> first | (intro z; cases z; done) | exact absurd h (by decide)
theorem lcSc_of {N N' : List Str} {M : List (Option Nat)} {sc osc : Scope} (h : lcChk N N' M sc osc = true) : LcSc N N' M sc osc := by
  unfold lcChk at h
  simp only [Bool.and_eq_true] at h
  obtain ⟨⟨⟨⟨⟨h1,h2⟩,h3⟩,h4⟩,h5⟩,h6⟩ := h
  have hl : N'.length = M.length := by simpa using h2
  refine ⟨?_,hl,fun y hy => nk_ne (List.all_eq_true.mp h3 y hy),fun y hy hk => ?_,fun y hy hk => ?_,fun i j e => ?_⟩
  · revert h1; cases sc.kind <;> intro h1 <;> first | rfl | exact absurd h1 (by decide)
  · have q := List.all_eq_true.mp h4 y hy
    rw [Bool.or_eq_true] at q
    rcases q with q | q
    · exact absurd hk (nk_ne q)
    · exact nko_eq q
  · have q := List.all_eq_true.mp h5 y hy
    rw [Bool.or_eq_true,Bool.or_eq_true] at q
    rcases q with q | q | q
    · exact absurd hk (nk_ne q)
    · exact .inl (nko_eq q)
    · exact .inr (nko_eq q)
  · have hi : i < M.length := (List.getElem?_eq_some_iff.mp e).1
    have hi' : i < N'.length := by rw [hl]; exact hi
    have em : (N'[i],some j) ∈ N'.zip M := by
      refine List.mem_iff_getElem?.mpr ⟨i,?_⟩
      rw [List.getElem?_zip_eq_some]
      exact ⟨List.getElem?_eq_getElem hi',e⟩
    have q := List.all_eq_true.mp h6 _ em
    simp only [Bool.and_eq_true] at q
    exact ⟨N'[i],List.getElem?_eq_getElem hi',by simpa using q.1,nko_eq q.2⟩
section
variable {K : PySem.W.Frag} {a : Addr} {xs : List V} {M : List (Option Nat)} {σ : St} {g : TG} {tc : TT} {te : TE} {F : List V -> Hp -> Prop} {H : Hp}
abbrev LcGoal (J : It) (M : List (Option Nat)) (σ : St) (g : TG) (tc : TT) (te : TE) (F : List V -> Hp -> Prop) (H1 : Hp) : Prop :=
  ∃ W : Nat -> Nat -> List V -> Hp -> Prop,(∃ m,W 0 m [] H1) /\ ∀ i m ys H,W i m ys H -> ys.length <= sizeLine /\
    ((J.stop i H /\ F ys H) \/ (J.go i H /\ ys.length < sizeLine /\ ∃ N : List V -> Hp -> Prop,(∀ ys' H',N ys' H' -> ∃ m',m' < m /\ W (i + 1) m' ys' H') /\ ∀ x H',J.yld i H x H' -> g x (inSt M σ) H' fun σ2 H2 => tc σ2 H2 fun b H3 =>
      if b = true then te σ2 H3 fun v H4 => N (ys ++ [v]) H4 else N ys H3))
theorem lc_list (Pv : Nat -> List V -> Hp -> Prop) (hz : xs.length <= sizeLine) (h0 : Pv 0 [] H) (hl : ∀ i ys H,i <= xs.length -> Pv i ys H -> SqL K H a xs /\ ys.length <= i)
    (hs : ∀ i x ys H,xs[i]? = some x -> Pv i ys H -> g x (inSt M σ) H fun σ2 H2 => tc σ2 H2 fun b H3 => if b = true then te σ2 H3 fun v H4 => Pv (i + 1) (ys ++ [v]) H4 else Pv (i + 1) ys H3)
    (hd : ∀ ys H,Pv xs.length ys H -> F ys H) : LcGoal (Itl K a) M σ g tc te F H := by
  refine ⟨fun i m ys H => m = xs.length - i /\ i <= xs.length /\ Pv i ys H,⟨xs.length,by simp,Nat.zero_le _,h0⟩,?_⟩
  rintro i m ys H ⟨rfl,hi,p⟩
  obtain ⟨q,hy⟩ := hl i ys H hi p
  refine ⟨by omega,?_⟩
  by_cases hlt : i < xs.length
  · refine .inr ⟨⟨xs,xs[i],q,by simp [hlt]⟩,by omega,Pv (i + 1),fun ys' H' p' => ⟨xs.length - (i + 1),by omega,rfl,hlt,p'⟩,fun x H' y => ?_⟩
    obtain ⟨e,y⟩ := y
    subst e
    exact hs i x ys _ (y xs q) p
  · have e : i = xs.length := by omega
    subst e
    exact .inl ⟨⟨xs,q,Nat.le_refl _⟩,hd ys H p⟩
theorem lc_tup (Pv : Nat -> List V -> Hp -> Prop) (hz : xs.length <= sizeLine) (h0 : Pv 0 [] H) (hl : ∀ i ys H,i <= xs.length -> Pv i ys H -> SqT K H a xs /\ ys.length <= i)
    (hs : ∀ i x ys H,xs[i]? = some x -> Pv i ys H -> g x (inSt M σ) H fun σ2 H2 => tc σ2 H2 fun b H3 => if b = true then te σ2 H3 fun v H4 => Pv (i + 1) (ys ++ [v]) H4 else Pv (i + 1) ys H3)
    (hd : ∀ ys H,Pv xs.length ys H -> F ys H) : LcGoal (Itt K a) M σ g tc te F H := by
  refine ⟨fun i m ys H => m = xs.length - i /\ i <= xs.length /\ Pv i ys H,⟨xs.length,by simp,Nat.zero_le _,h0⟩,?_⟩
  rintro i m ys H ⟨rfl,hi,p⟩
  obtain ⟨q,hy⟩ := hl i ys H hi p
  refine ⟨by omega,?_⟩
  by_cases hlt : i < xs.length
  · refine .inr ⟨⟨xs,xs[i],q,by simp [hlt]⟩,by omega,Pv (i + 1),fun ys' H' p' => ⟨xs.length - (i + 1),by omega,rfl,hlt,p'⟩,fun x H' y => ?_⟩
    obtain ⟨e,y⟩ := y
    subst e
    exact hs i x ys _ (y xs q) p
  · have e : i = xs.length := by omega
    subst e
    exact .inl ⟨⟨xs,q,Nat.le_refl _⟩,hd ys H p⟩
theorem lc_range {lo : Int} {n : Nat} (Pv : Nat -> List V -> Hp -> Prop) (hz : n <= sizeLine) (h0 : Pv 0 [] H) (hl : ∀ i ys H,i <= n -> Pv i ys H -> ys.length <= i)
    (hs : ∀ i ys H,i < n -> Pv i ys H -> g (.int (lo + i)) (inSt M σ) H fun σ2 H2 => tc σ2 H2 fun b H3 => if b = true then te σ2 H3 fun v H4 => Pv (i + 1) (ys ++ [v]) H4 else Pv (i + 1) ys H3)
    (hd : ∀ ys H,Pv n ys H -> F ys H) : LcGoal (Itr lo n) M σ g tc te F H := by
  refine ⟨fun i m ys H => m = n - i /\ i <= n /\ Pv i ys H,⟨n,by simp,Nat.zero_le _,h0⟩,?_⟩
  rintro i m ys H ⟨rfl,hi,p⟩
  have hy := hl i ys H hi p
  refine ⟨by omega,?_⟩
  by_cases hlt : i < n
  · refine .inr ⟨hlt,by omega,Pv (i + 1),fun ys' H' p' => ⟨n - (i + 1),by omega,rfl,hlt,p'⟩,fun x H' y => ?_⟩
    obtain ⟨e,y⟩ := y
    subst e y
    exact hs i ys _ hlt p
  · have e : i = n := by omega
    subst e
    exact .inl ⟨Nat.le_refl _,hd ys H p⟩
theorem map_snoc {α : Type} (f : Nat -> α) (i : Nat) : (List.range i).map f ++ [f i] = (List.range (i + 1)).map f := by rw [List.range_succ,List.map_append]; rfl
end
structure Cal (P : Program) (w : World) (K : PySem.W.Frag) (mg : Str -> Option Value) (base : Heap) (k : Nat) (x : Str) (dvs : List V) (sp : Sp) : Prop where
  ex : ∃ f fd ps ds,FnOk P w K mg base CX0 k f fd ps sp /\ mg x = some (.ref f) /\ PySem.W.keepIn K (.ref f) = true /\ Binds K fd ps ds /\ Vals dvs ds
theorem pe_cal {X : Cx} {k : Nat} {x : Str} {dvs : List V} {sp : Sp} {e : Expr} {es : List Expr} {t : TA} {p pos : Pos} (c : Cal X.prog X.w X.K X.mg X.base k x dvs sp) (hr : Room k X.A) (hg : Gl X x) (ha : PA X (e :: es) t) (hd : (x == ("__debug__" : Str)) = false := by decide)
    (he : starEach (e :: es) X.env = (false,eval e X.env) :: starEach es X.env := by rfl) (hpl : (backTo pos (starEach es X.env)).any (·.1) = false := by rfl) :
    PE X (.Call (.Name x p) (e :: es) [] pos) (tCall sp dvs E0 t) := by
  obtain ⟨f,fd,ps,ds,F,hm,hk,hb,hv⟩ := c.ex
  exact pe_call F hr hg hm hk hb hv pass0 ha hd he hpl
theorem Cal.up {P : Program} {w : World} {K : PySem.W.Frag} {mg : Str -> Option Value} {base : Heap} {j k : Nat} {x : Str} {dvs : List V} {sp : Sp} (c : Cal P w K mg base j x dvs sp) (h : j <= k) : Cal P w K mg base k x dvs sp := by
  obtain ⟨f,fd,ps,ds,F,r⟩ := c.ex
  exact ⟨f,fd,ps,ds,F.mono h,r⟩
end L2
namespace L2
open PySem
abbrev Drawn' : List Int -> List Int -> Prop := Paired fun l r => 0 <= r /\ r < l
def LimOk (l : Int) : Prop := 0 < l /\ l.natAbs.log2 < 9000
def spDraw (K : PySem.W.Frag) : Sp := fun vs H Q _ => ∃ (c : Int) (a : Addr) (ls : List Int),vs = [.int c,.ref a] /\ SqL K H a (ls.map V.int) /\ (∀ l ∈ ls,LimOk l) /\ ls.length <= 1000 /\
  ∀ (p : Addr) (rs : List Int) (H' : Hp),H p = none -> Same H H' -> H' p = some (.lst (rs.map V.int)) -> Drawn' ls rs -> Q (.ref p) H'
def spCell (K : PySem.W.Frag) : Sp := fun vs H Q _ => ∃ (a : Addr) (ns : List Int) (k : Int),vs = [.ref a,.int k] /\ SqL K H a (ns.map V.int) /\ 0 <= k /\ k <= 1000 /\ ns.length <= 1000 /\ ∀ z,Q (.int z) H
def spMany (K : PySem.W.Frag) : Sp := fun vs H Q _ => ∃ (a : Addr) (ns : List Int) (f : Int),vs = [.ref a,.int f] /\ SqL K H a (ns.map V.int) /\ ∀ z,f <= z -> (z <= 63 \/ z = f) -> Q (.int z) H
def spSplit : Sp := fun vs H Q _ => ∃ (c n : Int) (w : Int),vs = [.int c,.int n,.int w] /\ 0 <= n /\ n <= 100 /\ 0 <= w /\ w <= 2 /\
  ∀ (p : Addr) (rs : List Int) (H' : Hp),H p = none -> Same H H' -> H' p = some (.lst (rs.map V.int)) -> rs.length = n.toNat -> Q (.ref p) H'
def wayGo : Int -> List Int -> Bool
  | _,[] => true
  | f,w :: r => decide (0 <= w) && decide (w <= f) && wayGo (if w = f then f + 1 else f) r
def isWay (ns : List Int) : Bool := decide (1 <= ns.length) && decide (ns.length <= 9) && wayGo 0 ns
def spWay (K : PySem.W.Frag) : Sp := fun vs H Q _ => ∃ (c n : Int),vs = [.int c,.int n] /\ 1 <= n /\ n <= 9 /\
  ∀ (p : Addr) (ws : List Int) (H' : Hp),H p = none -> Same H H' -> H' p = some (.tup (ws.map V.int)) -> ws.length = n.toNat -> isWay ws = true -> Q (.ref p) H'
theorem getI {ns : List Int} {i : Nat} {y : V} (h : (ns.map V.int)[i]? = some y) : ∃ z,y = V.int z /\ ns[i]? = some z /\ i < ns.length := by
  rw [List.getElem?_map] at h
  cases e : ns[i]? with
  | none => rw [e] at h; cases h
  | some z => rw [e] at h; exact ⟨z,(Option.some.inj h).symm,rfl,(List.getElem?_eq_some_iff.mp e).1⟩
theorem mapV {ns : List Int} {z : Int} : ns.map V.int ++ [V.int z] = (ns ++ [z]).map V.int := by rw [List.map_append]; rfl
theorem nn63 : (sizeLine : Nat) = 16777216 := by decide
theorem le_line {n : Nat} (h : n <= 16777216) : n <= sizeLine := by rw [nn63]; exact h
theorem lt_line {n : Nat} (h : n < 16777216) : n < sizeLine := by rw [nn63]; exact h
theorem ltm (l : List Int) : (l.map V.int).length = l.length := List.length_map ..
theorem drawn_snoc {ls rs : List Int} {l r : Int} (h : Drawn' ls rs) (h1 : 0 <= r) (h2 : r < l) : Drawn' (ls ++ [l]) (rs ++ [r]) := Paired.snoc h ⟨h1,h2⟩
theorem take_snoc {α : Type} {l : List α} {i : Nat} {x : α} (h : l[i]? = some x) : l.take (i + 1) = l.take i ++ [x] := by
  rw [List.take_add_one,h]; rfl
theorem modB (z : Int) {l : Int} (h : 0 < l) : 0 <= z % l /\ z % l < l := ⟨Int.emod_nonneg _ (Int.ne_of_gt h),Int.emod_lt_of_pos _ h⟩
theorem p0 {n : Nat} : (0 : Int) < ((n + 1 : Nat) : Int) := Int.natCast_pos.mpr (Nat.succ_pos n)
theorem ite_P {c : Prop} [Decidable c] {ta tb : TE} {σ : St} {H : Hp} {Q : VK} (P : Int -> Prop) (h : ∀ r,P r -> Q (.int r) H) (ha : ∀ Q' : VK,(∀ r,P r -> Q' (.int r) H) -> ta σ H Q') (hb : ∀ Q' : VK,(∀ r,P r -> Q' (.int r) H) -> tb σ H Q') : if c then ta σ H Q else tb σ H Q := by
  split
  · exact ha _ h
  · exact hb _ h
end L2
namespace L2
open PySem PySem.Spec PyProof.Rows
structure FunD (K : PySem.W.Frag) (x qual : Str) (st : Stmt) (f : Addr) (fd : FuncData) (ds : List Value) : Prop where
  ex : ∃ (oc : Value) (od : Option Addr) (T : Addr) (oT : Obj) (nT : Nat) (kV doc pm : Value) (an : Option Addr) (cdv ct : Value) (osl : Array (Option Value)),
    fd = PySem.W.fnOf x qual (defArgs st) (defBody st) (defScope st) (.ref T) kV doc pm an cdv ct /\ K.lookup f = some ⟨oc,od,.func fd,osl⟩ /\ PySem.W.codeIn K cdv qual = true /\ K.lookup T = some oT /\ oT.data = .seq ds.toArray nT
  kp : PySem.W.keepIn K (.ref f) = true
section
variable {P : Program} {w : World} {K : PySem.W.Frag} {mg : Str -> Option Value} {base : Heap}
theorem FunD.ok {x qual : Str} {st : Stmt} {f : Addr} {fd : FuncData} {ds : List Value} {N ps : List Str} {k : Nat} {sp : Sp} (F : FunD K x qual st f fd ds) (S : FnScope N ps (defScope st)) (len : ∀ vs H Q E,sp vs H Q E -> vs.length = ps.length)
    (hbody : ∀ (cdv : Value) (A : Around) (outer : List Env) (s : Shared) (H : Hp) (vs : List V) (Q : VK) (E : XK),Room k (A.deeper (envOfC qual (defScope st) s.heap.objs.size f cdv)) -> sp vs H Q E ->
      ∃ t,PSs (cxOf CX0 P w K mg base N qual (defScope st) f cdv A outer s H E).nox (defBody st) t /\ t { nx := fun _ H' => Q .non H',rt := Q } (start N vs) H) : FnOk P w K mg base CX0 (k + 1) f fd ps sp := by
  obtain ⟨oc,od,T,oT,nT,kV,doc,pm,an,cdv,ct,osl,rfl,lk,hcd,_,_⟩ := F.ex
  refine fn_of lk hcd S len fun A outer s H vs Q E hr hsp => ?_
  obtain ⟨t,h,q⟩ := hbody cdv A outer s H vs Q E hr hsp
  exact ⟨t,h.nox,q⟩
theorem FunD.binds {x qual : Str} {st : Stmt} {f : Addr} {fd : FuncData} {ds es : List Value} {ps : List Str} (F : FunD K x qual st f fd ds)
    (h : ∀ (T : Addr) (kV doc pm : Value) (an : Option Addr) (cdv ct : Value) (us : List Value),(us ++ es).length = ps.length -> ∃ kk,bindArgs (PySem.W.fnOf x qual (defArgs st) (defBody st) (defScope st) (.ref T) kV doc pm an cdv ct) ⟨us,[]⟩ = seqItems? (.ref T) >>= kk /\ kk (some ds.toArray) = pure (ps.zip (us ++ es))) : Binds K fd ps es := by
  obtain ⟨oc,od,T,oT,nT,kV,doc,pm,an,cdv,ct,osl,rfl,lk,hcd,lT,dT⟩ := F.ex
  intro s us KX hl
  obtain ⟨kk,e1,e2⟩ := h T kV doc pm an cdv ct us hl
  exact BindsTo.of_defaults rfl (KX _ _ lT) dT e1 e2
theorem funD_mk {x qual : Str} {st : Stmt} {f T : Addr} {oT : Obj} {nT : Nat} {ds : List Value} {oc : Value} {od an : Option Addr} {osl : Array (Option Value)} {kV doc pm cdv ct : Value} (l : K.lookup f = some ⟨oc,od,.func (PySem.W.fnOf x qual (defArgs st) (defBody st) (defScope st) (.ref T) kV doc pm an cdv ct),osl⟩)
    (c : PySem.W.codeIn K cdv qual = true) (k : PySem.W.keepIn K (.ref f) = true) (lT : K.lookup T = some oT) (dT : oT.data = .seq ds.toArray nT) : FunD K x qual st f (PySem.W.fnOf x qual (defArgs st) (defBody st) (defScope st) (.ref T) kV doc pm an cdv ct) ds := ⟨⟨oc,od,T,oT,nT,kV,doc,pm,an,cdv,ct,osl,rfl,l,c,lT,dT⟩,k⟩
theorem Fun.cal {x : Str} {qual : Str} {st : Stmt} {f : Addr} {fd : FuncData} {ps : List Str} {k : Nat} {sp : Sp} (F : Fun K x qual st f fd) (G : FnOk P w K mg base CX0 k f fd ps sp) (hm : mg x = some (.ref f))
    (h : ∀ (kV doc pm : Value) (an : Option Addr) (cdv ct : Value) (us : List Value),us.length = ps.length -> bindArgs (PySem.W.fnOf x qual (defArgs st) (defBody st) (defScope st) .none kV doc pm an cdv ct) ⟨us,[]⟩ = pure (ps.zip us)) : Cal P w K mg base k x [] sp :=
  ⟨f,fd,ps,[],G,hm,F.kp,F.binds h,.nil⟩
end
end L2
namespace L2
open PySem
theorem IsMax.uniq {l : List Int} {m n : Int} (h : IsMax l m) (h' : IsMax l n) : m = n := Int.le_antisymm (h'.2 m h.1) (h.2 n h'.1)
def maxL : List Int -> Int
  | [] => 0
  | a :: r => r.foldl max a
theorem foldl_max : ∀ (r : List Int) (a : Int),IsMax (a :: r) (r.foldl max a)
  | [],a => ⟨List.mem_cons_self,fun b hb => by rw [List.mem_singleton.mp hb]; exact Int.le_refl _⟩
  | b :: r,a => by
    obtain ⟨h1,h2⟩ := foldl_max r (max a b)
    refine ⟨?_,fun c hc => ?_⟩
    · show r.foldl max (max a b) ∈ a :: b :: r
      rcases List.mem_cons.mp h1 with e | e
      · rw [e]
        by_cases q : a <= b
        · rw [Int.max_eq_right q]; exact List.mem_cons_of_mem _ List.mem_cons_self
        · rw [Int.max_eq_left (by omega)]; exact List.mem_cons_self
      · exact List.mem_cons_of_mem _ (List.mem_cons_of_mem _ e)
    · show c <= r.foldl max (max a b)
      have q := h2 (max a b) List.mem_cons_self
      rcases List.mem_cons.mp hc with e | e
      · rw [e]; have := Int.le_max_left a b; omega
      · rcases List.mem_cons.mp e with e | e
        · rw [e]; have := Int.le_max_right a b; omega
        · exact h2 c (List.mem_cons_of_mem _ e)
theorem maxL_is {l : List Int} (h : l ≠ []) : IsMax l (maxL l) := by
  cases l with
  | nil => exact absurd rfl h
  | cons a r => exact foldl_max r a
theorem IsMax.eq {l : List Int} {m : Int} (h : IsMax l m) : m = maxL l := h.uniq (maxL_is (by rintro rfl; exact absurd h.1 (by simp)))
def fresh (f : Int) (xs : List Int) : Int := xs.foldl (fun f w => if w = f then f + 1 else f) f
theorem fresh_snoc (f : Int) (xs : List Int) (z : Int) : fresh f (xs ++ [z]) = if z = fresh f xs then fresh f xs + 1 else fresh f xs := by
  unfold fresh; rw [List.foldl_append]; rfl
theorem wayGo_snoc : ∀ (xs : List Int) (f z : Int),wayGo f (xs ++ [z]) = (wayGo f xs && (decide (0 <= z) && decide (z <= fresh f xs)))
  | [],f,z => by
    show (decide (0 <= z) && decide (z <= f) && true) = (true && _)
    rw [Bool.and_true,Bool.true_and]; rfl
  | w :: r,f,z => by
    show (decide (0 <= w) && decide (w <= f) && wayGo (if w = f then f + 1 else f) (r ++ [z])) = ((decide (0 <= w) && decide (w <= f) && wayGo (if w = f then f + 1 else f) r) && _)
    rw [wayGo_snoc r,Bool.and_assoc,Bool.and_assoc,Bool.and_assoc]; rfl
theorem snoc_ind {α : Type} {P : List α -> Prop} (h0 : P []) (h1 : ∀ xs z,P xs -> P (xs ++ [z])) (l : List α) : P l := by
  have : ∀ n (l : List α),l.length = n -> P l := by
    intro n
    induction n with
    | zero => intro l e; rw [List.length_eq_zero_iff.mp e]; exact h0
    | succ n ih =>
      intro l e
      have hl : l ≠ [] := by rintro rfl; simp at e
      rw [<- List.dropLast_concat_getLast hl]
      exact h1 _ _ (ih _ (by rw [List.length_dropLast,e]; rfl))
  exact this _ l rfl
theorem fresh_max (xs : List Int) : wayGo 0 xs = true -> IsMax (-1 :: xs) (fresh 0 xs - 1) := by
  refine snoc_ind (P := fun xs => wayGo 0 xs = true -> IsMax (-1 :: xs) (fresh 0 xs - 1)) ?_ ?_ xs
  · intro _
    exact ⟨by simp [fresh],fun a ha => by simp at ha; simp [fresh,ha]⟩
  · intro xs z ih h
    rw [wayGo_snoc,Bool.and_eq_true,Bool.and_eq_true] at h
    obtain ⟨h1,h2,h3⟩ := h
    have h2 := of_decide_eq_true h2
    have h3 := of_decide_eq_true h3
    obtain ⟨i1,i2⟩ := ih h1
    rw [fresh_snoc]
    by_cases e : z = fresh 0 xs
    · rw [if_pos e]
      refine ⟨by rw [e]; simp,fun a ha => ?_⟩
      rcases List.mem_cons.mp ha with q | q
      · omega
      · rcases List.mem_append.mp q with q | q
        · have := i2 a (List.mem_cons_of_mem _ q); omega
        · rw [List.mem_singleton.mp q]; omega
    · rw [if_neg e]
      refine ⟨?_,fun a ha => ?_⟩
      · rcases List.mem_cons.mp i1 with q | q
        · rw [q]; exact List.mem_cons_self
        · exact List.mem_cons_of_mem _ (List.mem_append_left _ q)
      · rcases List.mem_cons.mp ha with q | q
        · rw [q]; exact i2 _ List.mem_cons_self
        · rcases List.mem_append.mp q with q | q
          · exact i2 a (List.mem_cons_of_mem _ q)
          · rw [List.mem_singleton.mp q]; omega
theorem fresh_pos {xs : List Int} (h : wayGo 0 xs = true) (hne : xs ≠ []) : 1 <= fresh 0 xs /\ IsMax xs (fresh 0 xs - 1) := by
  obtain ⟨i1,i2⟩ := fresh_max xs h
  cases xs with
  | nil => exact absurd rfl hne
  | cons w r =>
    have hw : 0 <= w := by
      have h' : (decide (0 <= w) && decide (w <= 0) && wayGo (if w = 0 then 0 + 1 else 0) r) = true := h
      rw [Bool.and_eq_true,Bool.and_eq_true] at h'
      exact of_decide_eq_true h'.1.1
    have := i2 w (by simp)
    refine ⟨by omega,?_,fun a ha => i2 a (List.mem_cons_of_mem _ ha)⟩
    rcases List.mem_cons.mp i1 with q | q
    · omega
    · exact q
def rowAll (ns : List Int) : Bool := (List.range (ns.length - 1)).all fun i => decide (0 <= ns.getD (i + 1) 0) && decide (ns.getD (i + 1) 0 <= maxL (ns.take (i + 1)) + 1)
def rowOk (ns : List Int) : Bool := decide (1 <= ns.length) && decide (ns.length <= 9) && decide (ns.getD 0 1 = 0) && rowAll ns
theorem rowAll_snoc {xs : List Int} (h : xs ≠ []) (z : Int) : rowAll (xs ++ [z]) = (rowAll xs && (decide (0 <= z) && decide (z <= maxL xs + 1))) := by
  unfold rowAll
  have hp : 0 < xs.length := List.length_pos_iff.mpr h
  have e1 : (xs ++ [z]).length - 1 = (xs.length - 1) + 1 := by rw [List.length_append]; simp; omega
  rw [e1,List.range_succ,List.all_append]
  congr 1
  · rw [Bool.eq_iff_iff,List.all_eq_true,List.all_eq_true]
    constructor
    · intro q i hi
      have q := q i hi
      have hi := List.mem_range.mp hi
      rw [List.getD_eq_getElem?_getD,List.getElem?_append_left (by omega),<- List.getD_eq_getElem?_getD,List.take_append_of_le_length (by omega)] at q
      exact q
    · intro q i hi
      have q := q i hi
      have hi := List.mem_range.mp hi
      rw [List.getD_eq_getElem?_getD,List.getElem?_append_left (by omega),<- List.getD_eq_getElem?_getD,List.take_append_of_le_length (by omega)]
      exact q
  · have e2 : xs.length - 1 + 1 = xs.length := by omega
    simp only [List.all_cons,List.all_nil,Bool.and_true]
    rw [e2,List.getD_eq_getElem?_getD,List.getElem?_append_right (Nat.le_refl _),Nat.sub_self,List.take_append_of_le_length (Nat.le_refl _),List.take_length]
    rfl
theorem way_row (xs : List Int) : xs ≠ [] -> wayGo 0 xs = (decide (xs.getD 0 1 = 0) && rowAll xs) := by
  refine snoc_ind (P := fun xs => xs ≠ [] -> wayGo 0 xs = (decide (xs.getD 0 1 = 0) && rowAll xs)) (fun h => absurd rfl h) ?_ xs
  intro xs z ih _
  by_cases hx : xs = []
  · subst hx
    show (decide (0 <= z) && decide (z <= 0) && true) = (decide (z = 0) && true)
    rw [Bool.and_true,Bool.and_true,Bool.eq_iff_iff,Bool.and_eq_true,decide_eq_true_iff,decide_eq_true_iff,decide_eq_true_iff]
    omega
  · have e0 : (xs ++ [z]).getD 0 1 = xs.getD 0 1 := by
      rw [List.getD_eq_getElem?_getD,List.getElem?_append_left (List.length_pos_iff.mpr hx),<- List.getD_eq_getElem?_getD]
    rw [wayGo_snoc,rowAll_snoc hx,e0,ih hx,<- Bool.and_assoc (decide (xs.getD 0 1 = 0))]
    cases e : (decide (xs.getD 0 1 = 0) && rowAll xs) with
    | false => simp
    | true =>
      rw [Bool.true_and,Bool.true_and]
      have q := (fresh_pos (by rw [ih hx]; exact e) hx).2.eq
      rw [show fresh 0 xs = maxL xs + 1 by omega]
theorem way_rowOk (ns : List Int) : isWay ns = rowOk ns := by
  unfold isWay rowOk
  by_cases h : ns = []
  · subst h; rfl
  · rw [way_row ns h,<- Bool.and_assoc]
end L2
namespace L2
open PySem
theorem cut_take (xs : List V) (k : Nat) : cutV xs none (some (k : Int)) = xs.take k := by
  unfold cutV
  rw [HT.sIx_none,HT.sIx_nat,List.drop_zero,Nat.sub_zero]
  by_cases h : k <= xs.length
  · rw [Nat.min_eq_left h]
  · rw [Nat.min_eq_right (by omega),List.take_of_length_le (Nat.le_refl _),List.take_of_length_le (by omega)]
theorem cut_drop (xs : List V) (k : Nat) : cutV xs (some (k : Int)) none = xs.drop k := by
  unfold cutV
  rw [HT.sIx_none,HT.sIx_nat]
  by_cases h : k <= xs.length
  · rw [Nat.min_eq_left h,List.take_of_length_le (by rw [List.length_drop]; exact Nat.le_refl _)]
  · rw [Nat.min_eq_right (by omega),List.drop_of_length_le (Nat.le_refl _),List.drop_of_length_le (by omega)]
    simp
theorem cut_take_int (ns : List Int) (k : Nat) : cutV (ns.map V.int) none (some (k : Int)) = (ns.take k).map V.int := by rw [cut_take,List.map_take]
theorem cut_drop_int (ns : List Int) (k : Nat) : cutV (ns.map V.int) (some (k : Int)) none = (ns.drop k).map V.int := by rw [cut_drop,List.map_drop]
theorem atI_int {ns : List Int} {i : Int} {z : Int} (h0 : 0 <= i) (h : ns[i.toNat]? = some z) : atI (ns.map V.int) i = some (V.int z) := by
  have := atI_nat (xs := ns.map V.int) (j := i.toNat) (v := V.int z) (by rw [List.getElem?_map,h]; rfl)
  rw [Int.toNat_of_nonneg h0] at this
  exact this
theorem atI_lt {ns : List Int} {i : Int} (h0 : 0 <= i) (h1 : i < ns.length) : atI (ns.map V.int) i = some (V.int (ns.getD i.toNat 0)) := by
  refine atI_int h0 ?_
  have : i.toNat < ns.length := by omega
  rw [List.getElem?_eq_getElem this,List.getD_eq_getElem?_getD,List.getElem?_eq_getElem this]; rfl
theorem mapV2 (f : Nat -> Int) (n : Nat) : ((List.range n).map fun j => V.int (f j)) = ((List.range n).map f).map V.int := by rw [List.map_map]; rfl
theorem mapB2 (f : Nat -> Bool) (n : Nat) : ((List.range n).map fun j => V.bl (f j)) = ((List.range n).map f).map V.bl := by rw [List.map_map]; rfl
theorem Drawn'.uncons {l : Int} {ls rs : List Int} (h : Drawn' (l :: ls) rs) : ∃ r rs',rs = r :: rs' /\ 0 <= r /\ r < l /\ Drawn' ls rs' := by
  cases h with
  | cons h t => exact ⟨_,_,rfl,h.1,h.2,t⟩
theorem limOk_small {l : Int} (h0 : 0 < l) (h1 : l < 1000000) : LimOk l := by
  refine ⟨h0,?_⟩
  by_cases h : l.natAbs = 0
  · omega
  · exact Nat.lt_of_lt_of_le (Nat.log2_lt h |>.mpr (show l.natAbs < 2 ^ 20 by omega)) (by decide)
end L2
namespace L2
open PySem PySem.Spec PyProof.Rows
section
variable {X : Cx} {K : PySem.W.Frag}
theorem kix_list (h : X.K = K := by rfl) : IxR X (rIxL K) := by subst h; exact ix_list
theorem kix_tup (h : X.K = K := by rfl) : IxR X (rIxT K) := by subst h; exact ix_tup
theorem ksl_list (h : X.K = K := by rfl) : SlR X (rSlL K) := by subst h; exact sl_list
theorem ksl_tup (h : X.K = K := by rfl) : SlR X (fun x lo hi H Q => ∃ a xs,x = .ref a /\ SqT K H a xs /\ ∀ p H',Same H H' -> SqT K H' p (cutV xs lo hi) -> Q (.ref p) H') := by subst h; exact sl_tupA
theorem kop_in (h : X.K = K := by rfl) : OpR X (compareOp .In) (rIn K false) := by subst h; exact op_in_seq
theorem kop_notIn (h : X.K = K := by rfl) : OpR X (compareOp .NotIn) (rIn K true) := by subst h; exact op_notIn_seq
theorem kc_len (h : X.K = K := by rfl) : CallR X (.builtin "len") (fun xs H Q => ∃ p ys,xs = [.ref p] /\ (SqL K H p ys \/ SqT K H p ys) /\ Q (.int ys.length) H) := by subst h; exact call_len_seq
theorem kc_max (hc : X.calm = true := by rfl) (h : X.K = K := by rfl) : CallR X (.builtin "max") (fun xs H Q => ∃ (a : Addr) (ns : List Int),xs = [.ref a] /\ (SqL K H a (ns.map V.int) \/ SqT K H a (ns.map V.int)) /\ ns ≠ [] /\ ∀ m,IsMax ns m -> Q (.int m) H) := by subst h; exact call_maxL hc
theorem kc_sum (hc : X.calm = true := by rfl) (h : X.K = K := by rfl) : CallR X (.builtin "sum") (fun xs H Q => ∃ (a : Addr) (ns : List Int),xs = [.ref a] /\ (SqL K H a (ns.map V.int) \/ SqT K H a (ns.map V.int)) /\ Q (.int ns.sum) H) := by subst h; exact call_sumL hc
theorem kc_all (hc : X.calm = true := by rfl) (h : X.K = K := by rfl) : CallR X (.builtin "all") (fun xs H Q => ∃ (a : Addr) (bs : List Bool),xs = [.ref a] /\ (SqL K H a (bs.map V.bl) \/ SqT K H a (bs.map V.bl)) /\ Q (.bl (bs.all id)) H) := by subst h; exact call_allL hc
theorem kc_any (hc : X.calm = true := by rfl) (h : X.K = K := by rfl) : CallR X (.builtin "any") (fun xs H Q => ∃ (a : Addr) (bs : List Bool),xs = [.ref a] /\ (SqL K H a (bs.map V.bl) \/ SqT K H a (bs.map V.bl)) /\ Q (.bl (bs.any id)) H) := by subst h; exact call_anyL hc
theorem kc_isi (h : X.K = K := by rfl) : CallR X (.builtin "isinstance") (fun xs H Q => ∃ x n t b,xs = [x,.ty n] /\ TyOf K H x t /\ PySem.W.kitOne K t (.type n) = some b /\ Q (.bl b) H) := by subst h; exact call_isi
theorem kc_tuple (h : X.K = K := by rfl) : CallR X (.type "tuple") (fun xs H Q => ∃ p ys,xs = [.ref p] /\ ((SqL K H p ys /\ ∀ l,H l = none -> Q (.ref l) (upd H l (.tup ys))) \/ (SqT K H p ys /\ Q (.ref p) H))) := by subst h; exact call_tuple_of
theorem kc_list (h : X.K = K := by rfl) : CallR X (.type "list") (fun xs H Q => ∃ p ys,xs = [.ref p] /\ (SqL K H p ys \/ SqT K H p ys) /\ ∀ l,H l = none -> Q (.ref l) (upd H l (.lst ys))) := by subst h; exact call_list_of
theorem kc_max2 (hc : X.calm = true := by rfl) : CallR X (.builtin "max") (fun xs H Q => ∃ i j,xs = [.int i,.int j] /\ Q (.int (if j > i then j else i)) H) := call_max2 hc
theorem kc_min2 (hc : X.calm = true := by rfl) : CallR X (.builtin "min") (fun xs H Q => ∃ i j,xs = [.int i,.int j] /\ Q (.int (if j < i then j else i)) H) := call_min2 hc
theorem kpi_list {tg l : Expr} {tl : TE} (hl : PE X l tl) (h : X.K = K := by rfl) : PI X tg l (iList K tl) := by subst h; exact pi_list hl
theorem kpi_tup {tg l : Expr} {tl : TE} (hl : PE X l tl) (h : X.K = K := by rfl) : PI X tg l (iTup K tl) := by subst h; exact pi_tup hl
end
theorem mulOk_of {a b : Int} (h : (decide (Builtin.Int.intBits a <= 2 ^ 20) && decide (Builtin.Int.intBits b <= 2 ^ 20)) = true) : IntMulOk a b := by
  rw [Bool.and_eq_true] at h
  exact IntMulOk.of_bits (of_decide_eq_true h.1) (of_decide_eq_true h.2)
theorem lcN {i : Nat} {x : V} {te : TE} {σ : St} {H : Hp} {N : V -> Hp -> Prop} {N' : Hp -> Prop} (h : te (σ.set i (some x)) H N) : gName i x σ H fun σ2 H2 => tYes σ2 H2 fun b H3 => if b = true then te σ2 H3 N else N' H3 := by
  show if true = true then te (σ.set i (some x)) H N else N' H
  rw [if_pos rfl]; exact h
end L2
namespace L2
open PySem PySem.Spec PyProof.Rows
def CXE (P : Program) (w : World) : CXT := fun outer H s E e s' => ∃ (ea : Addr) (cls : Value) (H' : Hp) (B : Heap),e = .ref ea /\ s'.os = s.os /\ AllBare s'.gens /\ Un (frs outer) [] H H' s.heap s'.heap /\ HOk P w H' s'.heap /\
  (∃ a0,Heap.FlyingW B outer ea cls a0 s'.heap) /\ (∀ b o u,s'.heap.get? b = some o -> H' b = some u -> B.get? b = some o) /\ (∀ b o,s.heap.get? b = some o -> H b = none -> b ∉ frs outer -> B.get? b = some o) /\
  (∀ b o,s.heap.get? b = some o -> b ∉ frs outer -> ∃ o',B.get? b = some o') /\ E cls none H'
theorem ObjOk.get {P : Program} {w : World} {H : Hp} {h : Heap} {a : Addr} {o : HO} (x : ObjOk P w H h a o) : ∃ ob,h.get? a = some ob := by
  cases o with
  | lst xs => obtain ⟨_,_,_,_,e⟩ := x; exact ⟨_,e⟩
  | tup xs => obtain ⟨_,_,_,ob,e,_⟩ := x; exact ⟨ob,e⟩
  | dK kvs => obtain ⟨_,_,_,_,ob,_,_,e,_⟩ := x; exact ⟨ob,e⟩
  | dT kvs => obtain ⟨_,_,_,_,ob,_,_,e,_⟩ := x; exact ⟨ob,e⟩
  | set S n => obtain ⟨ob,_,_,_,e,_⟩ := x; exact ⟨ob,e⟩
  | ins C dx fs => obtain ⟨_,_,_,e,_⟩ := x; exact ⟨_,e⟩
  | own y => exact x
  | xd fs => obtain ⟨_,⟨ob,_,_,e,_⟩,_⟩ := x; exact ⟨ob,e⟩
  | rng lo hi => obtain ⟨_,_,_,e⟩ := x; exact ⟨_,e⟩
  | frz ob u => obtain ⟨e,_⟩ := x; exact ⟨_,e⟩
  | tbl ps => exact ⟨_,x⟩
  | met f y => exact ⟨_,x⟩
  | ext φ => obtain ⟨_,e,_⟩ := x; exact e
section
variable {X : Cx} {pins : List (Addr × Obj)} {σ : St} {H : Hp} {s : Shared}
theorem cxe_mk {B h' : Heap} {ea : Addr} {cls a0 : Value} {E : XK} (I : Inv X pins σ H s) (hex : X.ex = []) (fl : Heap.FlyingW B X.outer ea cls a0 h')
    (fr : ∀ b ∈ frs X.outer,∀ o,s.heap.get? b = some o -> (∀ vs,o.data ≠ .fields vs) -> ∃ sl,h'.get? b = some { o with slots := sl })
    (c1 : ∀ b o u,s.heap.get? b = some o -> H b = some u -> B.get? b = some o) (c2 : ∀ b o,X.s₀.heap.get? b = some o -> X.H₀ b = none -> b ∉ X.fs -> B.get? b = some o)
    (c3 : ∀ b o,X.s₀.heap.get? b = some o -> b ∉ X.fs -> ∃ o',B.get? b = some o') (hE : E cls none H) : CXE X.prog X.w X.outer X.H₀ X.s₀ E (.ref ea) { s with heap := h' } := by
  have nex : ∀ b : Addr,b ∉ X.ex := fun b => by rw [hex]; simp
  have hfr : ∀ b ∈ X.fs,∃ o,s.heap.get? b = some o /\ ∀ vs,o.data ≠ .fields vs := fun b hb => (I.funs.mem hb).2
  have tr : ∀ b o u,s.heap.get? b = some o -> H b = some u -> h'.get? b = some o := fun b o u e q => fl.1 b o (c1 b o u e q)
  refine ⟨ea,cls,H,B,rfl,I.os,I.bare,⟨fun b o e n hb _ => fl.1 b o (c2 b o e n hb),fun b o e n hb _ => ?_,fun b o e n _ => I.base.free b o e n (nex b),fun b o e _ => ?_,I.base.tups,I.base.frzs,I.base.tbls⟩,fun b u e => ?_,⟨a0,fl⟩,fun b o u e q => ?_,c2,c3,hE⟩
  · obtain ⟨sl,e1⟩ := I.base.slot b o e n hb (nex b)
    obtain ⟨o1,e2,hd⟩ := hfr b hb
    obtain ⟨sl2,e3⟩ := fr b hb _ e2 hd
    rw [e1] at e2; cases e2
    exact ⟨sl2,e3⟩
  · by_cases hb : b ∈ X.fs
    · obtain ⟨o1,e2,hd⟩ := hfr b hb
      obtain ⟨sl2,e3⟩ := fr b hb _ e2 hd
      exact ⟨_,e3⟩
    · obtain ⟨o',e'⟩ := c3 b o e hb
      exact ⟨o',fl.1 b o' e'⟩
  · refine (I.hok b u e).stay (fun c v hc q => ?_) (fun _ q => q) fun _ _ q => q
    rcases hc with z | z
    · subst z; exact tr c v u q e
    · exact tr c v _ q z
  · obtain ⟨o1,e0⟩ := (I.hok b u q).get
    have q1 := tr b o1 u e0 q
    rw [e] at q1; cases q1
    exact c1 b o u e0 q
structure Fn0 (X : Cx) (E : XK) : Prop where
  xe : X.xe = fun e s' => wpAny (model X.prog X.w) X.A (leaving X.env e) (fun _ s'' => CXE X.prog X.w X.outer X.H₀ X.s₀ E e s'') (fun e' s'' => CXE X.prog X.w X.outer X.H₀ X.s₀ E e' s'') s'
  stk : X.stack = X.env :: X.outer
  frm : X.env.frame = some X.env.locals
  ex : X.ex = []
theorem Fn0.nstk (F : Fn0 X E) (I : Inv X pins σ H s) {b : Addr} {o : Obj} (e : X.s₀.heap.get? b = some o) (hb : b ∉ X.fs) : b ∉ frs X.stack := fun z => by
  rcases List.mem_cons.mp (I.stkSub b z) with q | q
  · exact absurd (Nat.lt_of_lt_of_le (Heap.lt_size e) I.ok.above) (by rw [q]; exact Nat.lt_irrefl _)
  · exact hb q
abbrev bmV : List Value := [.type "ValueError",.type "Exception",.type "BaseException",.type "object"]
theorem excObj {K : PySem.W.Frag} {h : Heap} {C : Addr} (X : K.In h) (q : PySem.W.excIn K C bmV "ValueError.__new__" = true) :
    ∃ bm N nm q bs hdct sn sub ab col dd k0 k1 k2 k3 k5 mN,h.get? C = some (excClassObj nm q C N bs bm hdct sn sub ab col dd k0 k1 k2 k3 k5 "ValueError.__new__") /\ h.Ns N mN /\ mN "__init__" = none /\ OwnTail h bmV bm := by
  unfold PySem.W.excIn at q
  split at q
  · rename_i dd cd sl ho
    split at q
    · rename_i C' bm k0 k1 k2 k3 n k5 hm hs
      simp only [Bool.and_eq_true,beq_iff_eq,Bool.not_eq_true'] at q
      obtain ⟨⟨⟨⟨⟨rfl,rfl⟩,hdel⟩,ht⟩,hok⟩,hni⟩ := q
      obtain ⟨nm,bs,mro,ns,qn,hd,sn,sub,ab,col,del⟩ := cd
      dsimp only at hm hdel hok hni
      subst hm hdel
      obtain ⟨l⟩ := sl
      simp only at hs
      subst hs
      exact ⟨bm,ns,nm,qn,bs,hd,sn,sub,ab,col,dd,k0,k1,k2,k3,k5,_,X _ _ ho,.of_isNs (PySem.W.isNs_of_in X hok),PySem.W.nsMap_none_of_in X hok hni,PySem.W.tail_of_in X ht⟩
    · cases q
  · cases q
theorem ps_raise {E : XK} {x : Str} {C : Addr} {e₀ : Expr} {rest : List Expr} {t : TA} {np cpos pos : Pos} (F : Fn0 X E) (hc : X.calm = true) (hg : Gl X x) (hm : X.mg x = some (.ref C)) (hq : PySem.W.excIn X.K C bmV "ValueError.__new__" = true) (ha : PA X (e₀ :: rest) t)
    (he : starEach (e₀ :: rest) X.env = (false,eval e₀ X.env) :: starEach rest X.env := by rfl) (hplain : (backTo cpos (starEach rest X.env)).any (·.1) = false := by rfl) (hd : (x == ("__debug__" : Str)) = false := by decide) :
    PS X (.Raise (some (.Call (.Name x np) (e₀ :: rest) [] cpos)) none pos) (fun _ σ H => t σ H fun vs H1 => vs.length <= sizeLine /\ E (.ref C) none H1) := by
  intro pins s σ H D I h
  obtain ⟨bm,N,nm,q,bs,hdct,sn,sub,ab,col,dd,k0,k1,k2,k3,k5,mN,hC,hN,hni,T⟩ := excObj I.ok.mod.kin hq
  refine wpAny_Raise_call_subT (C := C) (nm := nm) (q := q) (N := N) (bs := bs) (bm := bm) (hdct := hdct) (sn := sn) (sub := sub) (ab := ab) (col := col) (dd := dd) (k0 := k0) (k1 := k1) (k2 := k2) (k3 := k3) (k5 := k5)
    PySem.F.excBase_ValueError (mN := mN) (T.hasType (by decide +kernel)) (I.ok.hd hc) (by rw [he]; show (false || (backTo cpos (starEach rest X.env)).any (·.1)) = false; rw [hplain]; rfl) hni (ld_glob I hg hm ⟨rfl,?_⟩ hd)
  have hA := ha cpos pins s σ H _ I h
  rw [he] at hA ⊢
  refine Calls.evalArgs_plain (wpAny_mono hA (fun us s2 h2 => ?_) fun _ _ y => y)
  obtain ⟨vs,H1,I1,r,hl,hE⟩ := h2
  refine ⟨rfl,by rw [<- r.length]; exact hl,I1.bk _ _ hC,hN.keeps I1.bk,T.keeps I1.bk,fun h' e hme => ?_⟩
  rw [F.xe]
  have hin : ∀ env ∈ X.env :: X.outer,∀ b,env.frame = some b -> b ∈ frs X.stack := fun env he b hb => by
    rw [F.stk]; exact List.mem_filterMap.mpr ⟨env,he,hb⟩
  have hstk := I1.stack
  rw [F.stk] at hstk
  refine wpAny_leaves_madeW (base := PySem.W.hideAll s2.heap (frs X.stack)) (by rw [I1.ok.frames,F.stk]) F.frm (fun b o q => PySem.W.of_hideAll _ q) (PySem.W.funFrames_hide hstk hin) hme fun h'' t fl tup bt ups => ?_
  have nex : ∀ b : Addr,b ∉ X.ex := fun b => by rw [F.ex]; simp
  show CXE X.prog X.w X.outer X.H₀ X.s₀ E (.ref e) { s2 with heap := h'' }
  refine cxe_mk I1 F.ex fl (fun b hb o e hd => ups b o (hme.keeps b o e) hd) (fun b o u e q => PySem.W.hideAll_get _ e fun z => ?_) (fun b o e n hb => PySem.W.hideAll_get _ (I1.base.keep b o e n hb (nex b)) (F.nstk I1 e hb)) (fun b o e hb => ?_) hE
  · rw [I1.stkFree b z] at q; cases q
  · obtain ⟨o',e'⟩ := I1.base.there b o e (nex b)
    exact ⟨o',PySem.W.hideAll_get _ e' (F.nstk I1 e hb)⟩
theorem Inv.slots {B h' : Heap} (I : Inv X pins σ H s) (hB : B.StaysIn h') (ups : s.heap.UpToSlots h') (c1 : ∀ b o u,s.heap.get? b = some o -> H b = some u -> B.get? b = some o)
    (c2 : ∀ b o,X.s₀.heap.get? b = some o -> X.H₀ b = none -> b ∉ X.fs -> b ∉ X.ex -> B.get? b = some o) (c3 : ∀ b o,X.s₀.heap.get? b = some o -> b ∉ X.fs -> b ∉ X.ex -> ∃ o',B.get? b = some o')
    (c4 : ∀ p ∈ X.pn ++ pins,B.get? p.1 = some p.2) : Inv X pins σ H { s with heap := h' } := by
  have hfr : ∀ b ∈ X.fs,∃ o,s.heap.get? b = some o /\ ∀ vs,o.data ≠ .fields vs := fun b hb => (I.funs.mem hb).2
  have tr : ∀ b o u,s.heap.get? b = some o -> H b = some u -> h'.get? b = some o := fun b o u e q => hB b o (c1 b o u e q)
  have cl : ∀ c v,s.heap.IsCell c v -> h'.IsCell c v := fun c v z => by
    obtain ⟨o,ho,hd⟩ := z
    obtain ⟨sl,e⟩ := ups c o ho fun vs q => by rw [hd] at q; cases q
    exact ⟨_,e,hd⟩
  refine ⟨I.ok,I.os,I.bare,⟨fun b o e n hb hx => hB b o (c2 b o e n hb hx),fun b o e n hb hx => ?_,I.base.free,fun b o e hx => ?_,I.base.tups,I.base.frzs,I.base.tbls⟩,?_,fun x c e => ?_,I.free,I.freeC,fun p hp => ?_,fun b u e => ?_,I.len⟩
  · obtain ⟨sl,e1⟩ := I.base.slot b o e n hb hx
    obtain ⟨o1,e2,hd⟩ := hfr b hb
    obtain ⟨sl2,e3⟩ := ups b _ e2 hd
    rw [e1] at e2; cases e2
    exact ⟨sl2,e3⟩
  · by_cases hb : b ∈ X.fs
    · obtain ⟨o1,e2,hd⟩ := hfr b hb
      obtain ⟨sl2,e3⟩ := ups b _ e2 hd
      exact ⟨_,e3⟩
    · obtain ⟨o',e'⟩ := c3 b o e hb hx
      exact ⟨o',hB b o' e'⟩
  · obtain ⟨m,hn,hl⟩ := I.loc
    refine ⟨m,ups.ns hn,fun i x v e1 e2 e3 => ?_⟩
    obtain ⟨u,ru,lk⟩ := hl i x v e1 e2 e3
    refine ⟨u,ru,?_⟩
    rcases lk with lk | ⟨k,c,ec,z⟩
    · exact .inl lk
    · exact .inr ⟨k,c,ec,cl c _ z⟩
  · obtain ⟨v,z⟩ := I.cell x c e
    exact ⟨v,cl c v z⟩
  · obtain ⟨_,n,ne,nf,d⟩ := I.pin p hp
    exact ⟨hB _ _ (c4 p hp),n,ne,nf,d⟩
  · refine (I.hok b u e).stay (fun c v hc q => ?_) (fun _ q => q) fun _ _ q => q
    rcases hc with z | z
    · subst z; exact tr c v u q e
    · exact tr c v _ q z
abbrev Cx.alt (X : Cx) (pn : List (Addr × Obj)) (A : Around) (cm : Bool) (E : Value -> Shared -> Prop) : Cx := { X with pn := pn,A := A,calm := cm,xe := E }
theorem Inv.alt {pn : List (Addr × Obj)} {A : Around} {cm : Bool} {E : Value -> Shared -> Prop} {pins' : List (Addr × Obj)} (I : Inv X pins σ H s) (hfr : A.frames = X.A.frames) (hcm : cm = true -> A.handled = none) (hp : ∀ p ∈ pn ++ pins',p ∈ X.pn ++ pins) : Inv (X.alt pn A cm E) pins' σ H s :=
  ⟨⟨I.ok.mod,I.ok.kind,I.ok.glob,I.ok.blt,I.ok.above,I.ok.inj,I.ok.has,I.ok.cab,hcm,hfr.trans I.ok.frames,I.ok.stk,I.ok.exf,I.ok.bs,I.ok.bsz,I.ok.noex,I.ok.exfs,I.ok.funs,I.ok.frf⟩,I.os,I.bare,I.base,I.loc,I.cell,I.free,I.freeC,fun p h => I.pin p (hp p h),I.hok,I.len⟩
def XB (X : Cx) (pins : List (Addr × Obj)) (E : XK) : Value -> Shared -> Prop := fun e s1 => ∃ (ea : Addr) (cls : Value) (H' : Hp) (B : Heap) (σ' : St),e = .ref ea /\ Inv (X.alt (X.pn ++ pins) X.A X.calm fun _ _ => False) [] σ' H' s1 /\ (∃ a0,Heap.FlyingW B X.stack ea cls a0 s1.heap) /\
  (∀ b o u,s1.heap.get? b = some o -> H' b = some u -> B.get? b = some o) /\ (∀ b o,X.s₀.heap.get? b = some o -> X.H₀ b = none -> b ∉ X.fs -> b ∉ X.ex -> B.get? b = some o) /\ (∀ b o,X.s₀.heap.get? b = some o -> b ∉ X.fs -> b ∉ X.ex -> ∃ o',B.get? b = some o') /\ (∀ p ∈ X.pn ++ pins,B.get? p.1 = some p.2) /\ E cls none H'
abbrev tryCx (X : Cx) (pins : List (Addr × Obj)) (E : XK) : Cx := X.alt (X.pn ++ pins) X.A X.calm (XB X pins E)
theorem pass_try {E : XK} : Passes (CXE X.prog X.w) (tryCx X pins E) E := by
  intro pins' σ H s e s' I h
  obtain ⟨ea,cls,H',B,rfl,os,bare,un,hok,fl,c1,c2,c3,hE⟩ := h
  have J : Inv (tryCx X pins E) pins' σ H' s' := I.call' os un hok bare fun b z => absurd z (by simp)
  have nst : ∀ b o,X.s₀.heap.get? b = some o -> b ∉ X.fs -> b ∉ frs X.stack := fun b o e hb z => by
    rcases List.mem_cons.mp (I.stkSub b z) with q | q
    · exact absurd (Nat.lt_of_lt_of_le (Heap.lt_size e) I.ok.above) (by rw [q]; exact Nat.lt_irrefl _)
    · exact hb q
  refine ⟨ea,cls,H',B,σ,rfl,J.alt rfl J.ok.hd fun p hp => ?_,fl,c1,fun b o e n hb hx => c2 b o (I.base.keep b o e n hb hx) (I.base.free b o e n hx) (nst b o e hb),fun b o e hb hx => ?_,fun p hp => ?_,hE⟩
  · exact List.mem_append_left _ (by simpa using hp)
  · obtain ⟨o',e'⟩ := I.base.there b o e hx
    exact c3 b o' e' (nst b o e hb)
  · obtain ⟨e,n,ne,nf,d⟩ := I.pin p (List.mem_append_left _ hp)
    refine c2 _ _ e n fun z => ?_
    rcases List.mem_cons.mp (I.stkSub _ z) with q | q
    · exact ne q
    · exact nf q
abbrev hndCx (X : Cx) (pins : List (Addr × Obj)) (ea : Addr) : Cx := X.alt (X.pn ++ pins) (X.A.mark (some (.ref ea))) false fun _ _ => False
def tTry (C : Addr) (n : Nat) (tb : XK -> TS) (th : TS) : TS := fun D σ H => tb (fun c _ H' => c = .ref C /\ th D (List.replicate n none) H') D σ H
theorem ps_try {x : Str} {C : Addr} {body : List Stmt} {b₀ : Stmt} {suite : List Stmt} {tb : XK -> TS} {th : TS} {np hpos pos : Pos} (hst : X.stack = X.env :: X.outer) (hfm : X.env.frame = some X.env.locals) (hc : X.calm = true)
    (hg : Gl X x) (hm : X.mg x = some (.ref C)) (hq : PySem.W.excIn X.K C bmV "ValueError.__new__" = true) (hb : ∀ pins E,PSs (tryCx X pins E) body (tb E)) (hh : ∀ pins ea,PSs (hndCx X pins ea) (b₀ :: suite) th) (hd : (x == ("__debug__" : Str)) = false := by decide) :
    PS X (.Try body [.ExceptHandler (some (.Name x np)) none (b₀ :: suite) hpos] [] [] pos) (tTry C X.N.length tb th) := by
  intro pins s σ H D I h
  have back : ∀ {A : Around} {cm : Bool} {E : Value -> Shared -> Prop} {f : Flow} {s' : Shared},SP (X.alt (X.pn ++ pins) A cm E) [] D f s' -> SP X pins D f s' := fun {A cm E f s'} q => by
    have un : ∀ {σ' : St} {H' : Hp},Inv (X.alt (X.pn ++ pins) A cm E) [] σ' H' s' -> Inv X pins σ' H' s' := fun {σ' H'} J =>
      ⟨I.ok,J.os,J.bare,J.base,J.loc,J.cell,J.free,J.freeC,fun p hp => J.pin p (by simpa using hp),J.hok,J.len⟩
    cases f with
    | next => obtain ⟨σ',H',J,q⟩ := q; exact ⟨σ',H',un J,q⟩
    | brk => obtain ⟨σ',H',J,q⟩ := q; exact ⟨σ',H',un J,q⟩
    | cont => obtain ⟨σ',H',J,q⟩ := q; exact ⟨σ',H',un J,q⟩
    | ret v => obtain ⟨x',σ',H',J,r,q⟩ := q; exact ⟨x',σ',H',un J,r,q⟩
  have I0 : Inv (tryCx X pins (fun c _ H' => c = .ref C /\ th D (List.replicate X.N.length none) H')) [] σ H s := I.alt rfl I.ok.hd fun p hp => by simpa using hp
  refine wpAny_Try_except (wpAny_mono (hb pins _ [] s σ H D I0 h) (fun f s1 q => ?_) (fun e s1 q => ?_))
  · have q' := back q
    cases f with
    | next => exact wpAny_execs_nil q'
    | brk => exact q'
    | cont => exact q'
    | ret v => exact q'
  · obtain ⟨ea,cls,H',B,σ',rfl,J,⟨a0,fl⟩,c1,c2,c3,c4,hcls,hE⟩ := q
    subst hcls
    rw [hst] at fl
    refine wpAny_looks_onW (by rw [I.ok.frames,hst]) hfm fl fun h4 hheld hsm4 => ?_
    refine wpAny_landsW hheld fun h5 fl5 hsm5 => ?_
    have sm5 := hsm4.trans hsm5
    have J5 := J.slots fl5.1 sm5 c1 c2 c3 (fun p hp => c4 p (by simpa using hp))
    obtain ⟨ob,hob,hobc⟩ := fl5.there
    have Jh : Inv (hndCx X pins ea) [] σ' H' { s1 with heap := h5 } := J5.alt rfl (fun z => by cases z) fun p hp => hp
    refine wpAny_handleBy_cons (codeAny_handlers_test (ld_glob Jh hg hm ?_ hd)) (by intro q; cases q)
    obtain ⟨bm,N,nm,q,bs,hdct,sn,sub,ab,col,dd,k0,k1,k2,k3,k5,mN,hC,hN,hni,TL⟩ := excObj Jh.ok.mod.kin hq
    refine wpAny_excMatches_sub_self (Jh.bk _ _ hC) hob hobc (TL.hasType (by decide +kernel)) (codeAny_handlers_suite ?_)
    refine lands_againW fl5 fun h6 fl6 hsm6 => ?_
    have J6 := J.slots fl6.1 (sm5.trans hsm6) c1 c2 c3 (fun p hp => c4 p (by simpa using hp))
    have Jh6 : Inv (hndCx X pins ea) [] σ' H' { s1 with heap := h6 } := J6.alt rfl (fun z => by cases z) fun p hp => hp
    have Jw : Inv (hndCx X pins ea) [] (List.replicate X.N.length none) H' { s1 with heap := h6 } := Jh6.weak (by rw [List.length_replicate]; exact Jh6.len.symm) fun i v e => by
      rw [List.getElem?_replicate] at e
      split at e <;> cases e
    exact wpAny_mono (hh pins ea [] _ _ H' D Jw hE) (fun f s2 q2 => back q2) fun _ _ z => z.elim
end
section
variable {P : Program} {w : World} {K : PySem.W.Frag} {mg : Str -> Option Value} {base : Heap}
theorem Fun.okE {x qual : Str} {st : Stmt} {f : Addr} {fd : FuncData} {N ps : List Str} {k : Nat} {sp : Sp} (F : Fun K x qual st f fd) (S : FnScope N ps (defScope st)) (len : ∀ vs H Q E,sp vs H Q E -> vs.length = ps.length)
    (hbody : ∀ (cdv : Value) (A : Around) (outer : List Env) (s : Shared) (H : Hp) (vs : List V) (Q : VK) (E : XK),Room k (A.deeper (envOfC qual (defScope st) s.heap.objs.size f cdv)) -> Fn0 (cxOf (CXE P w) P w K mg base N qual (defScope st) f cdv A outer s H E) E -> sp vs H Q E ->
      ∃ t,PSs (cxOf (CXE P w) P w K mg base N qual (defScope st) f cdv A outer s H E) (defBody st) t /\ t { nx := fun _ H' => Q .non H',rt := Q } (start N vs) H) : FnOk P w K mg base (CXE P w) (k + 1) f fd ps sp := by
  obtain ⟨oc,od,kV,doc,pm,an,cdv,ct,osl,rfl,lk,hcd⟩ := F.ex
  exact fn_of lk hcd S len fun A outer s H vs Q E hr hsp => hbody cdv A outer s H vs Q E hr ⟨rfl,rfl,rfl,rfl⟩ hsp
structure CalE (P : Program) (w : World) (K : PySem.W.Frag) (mg : Str -> Option Value) (base : Heap) (k : Nat) (x : Str) (dvs : List V) (sp : Sp) : Prop where
  ex : ∃ f fd ps ds,FnOk P w K mg base (CXE P w) k f fd ps sp /\ mg x = some (.ref f) /\ PySem.W.keepIn K (.ref f) = true /\ Binds K fd ps ds /\ Vals dvs ds
theorem Fun.calE {x : Str} {qual : Str} {st : Stmt} {f : Addr} {fd : FuncData} {ps : List Str} {k : Nat} {sp : Sp} (F : Fun K x qual st f fd) (G : FnOk P w K mg base (CXE P w) k f fd ps sp) (hm : mg x = some (.ref f))
    (h : ∀ (kV doc pm : Value) (an : Option Addr) (cdv ct : Value) (us : List Value),us.length = ps.length -> bindArgs (PySem.W.fnOf x qual (defArgs st) (defBody st) (defScope st) .none kV doc pm an cdv ct) ⟨us,[]⟩ = pure (ps.zip us)) : CalE P w K mg base k x [] sp :=
  ⟨f,fd,ps,[],G,hm,F.kp,F.binds h,.nil⟩
end
theorem pe_calE {X : Cx} {k : Nat} {x : Str} {dvs : List V} {sp : Sp} {E : XK} {e : Expr} {es : List Expr} {t : TA} {p pos : Pos} (c : CalE X.prog X.w X.K X.mg X.base k x dvs sp) (hr : Room k X.A) (hg : Gl X x) (hx : Passes (CXE X.prog X.w) X E) (ha : PA X (e :: es) t) (hd : (x == ("__debug__" : Str)) = false := by decide)
    (he : starEach (e :: es) X.env = (false,eval e X.env) :: starEach es X.env := by rfl) (hpl : (backTo pos (starEach es X.env)).any (·.1) = false := by rfl) :
    PE X (.Call (.Name x p) (e :: es) [] pos) (tCall sp dvs E t) := by
  obtain ⟨f,fd,ps,ds,F,hm,hk,hb,hv⟩ := c.ex
  exact pe_call F hr hg hm hk hb hv hx ha hd he hpl
end L2
namespace L2
open PySem PySem.Spec PyProof.Rows
section
variable {κ : Type} [DecidableEq κ]
def valV (kvs : List (κ × V)) (k : κ) : Option V := (kvs.find? fun kv => decide (kv.1 = k)).map (·.2)
def putK (kvs : List (κ × V)) (k : κ) (v : V) : List (κ × V) :=
  if (kvs.any fun kv => decide (kv.1 = k)) = true then kvs.map (fun kv => if kv.1 = k then (kv.1,v) else kv) else kvs ++ [(k,v)]
def dropK (kvs : List (κ × V)) (k : κ) : List (κ × V) := kvs.filter fun kv => decide (kv.1 ≠ k)
theorem valV_nil {k : κ} : valV ([] : List (κ × V)) k = none := rfl
theorem valV_pos {p : κ × V} {r : List (κ × V)} {k : κ} (e : p.1 = k) : valV (p :: r) k = some p.2 := by simp [valV,List.find?_cons,e]
theorem valV_neg {p : κ × V} {r : List (κ × V)} {k : κ} (e : ¬ p.1 = k) : valV (p :: r) k = valV r k := by simp [valV,List.find?_cons,e]
theorem valV_any (k : κ) : ∀ kvs : List (κ × V),(kvs.any fun kv => decide (kv.1 = k)) = (valV kvs k).isSome
  | [] => rfl
  | p :: r => by
    rw [List.any_cons]
    by_cases e : p.1 = k
    · simp only [valV_pos e,decide_eq_true e,Bool.true_or,Option.isSome_some]
    · rw [valV_neg e,decide_eq_false e,Bool.false_or]; exact valV_any k r
theorem length_putK (kvs : List (κ × V)) (k : κ) (v : V) : (putK kvs k v).length <= kvs.length + 1 := by
  unfold putK
  split
  · rw [List.length_map]; omega
  · rw [List.length_append,List.length_cons,List.length_nil]; omega
theorem putK_new {kvs : List (κ × V)} {k : κ} (v : V) (h : valV kvs k = none) : putK kvs k v = kvs ++ [(k,v)] := by
  unfold putK
  rw [valV_any,h]
  exact if_neg (by decide)
theorem RelO.isSome_eq {o : Option V} {u : Option Value} (r : RelO o u) : o.isSome = u.isSome := by
  cases o with
  | none => cases u with
    | none => rfl
    | some _ => exact (show False from r).elim
  | some _ => cases u with
    | none => exact (show False from r).elim
    | some _ => rfl
theorem RelO.getD {o : Option V} {u : Option Value} {d : V} {d' : Value} (r : RelO o u) (rd : RelV d d') : RelV (o.getD d) (u.getD d') := by
  cases o with
  | none => cases u with
    | none => exact rd
    | some _ => exact (show False from r).elim
  | some _ => cases u with
    | none => exact (show False from r).elim
    | some _ => exact r
theorem KV.val {kvs : List (κ × V)} {vs : List (κ × Value)} (r : KV kvs vs) (k : κ) : RelO (valV kvs k) (valueAt vs k) := by
  unfold KV at r
  induction r with
  | nil => exact True.intro
  | @cons p q ps qs h t ih =>
    obtain ⟨h1,h2⟩ := h
    by_cases e : p.1 = k
    · have e' : q.1 = k := h1.symm.trans e
      have b : valueAt (q :: qs) k = some q.2 := by simp [valueAt,List.find?_cons,e']
      rw [valV_pos e,b]; exact h2
    · have e' : ¬ q.1 = k := fun z => e (h1.trans z)
      have b : valueAt (q :: qs) k = valueAt qs k := by simp [valueAt,List.find?_cons,e']
      rw [valV_neg e,b]; exact ih
theorem KV.any {kvs : List (κ × V)} {vs : List (κ × Value)} (r : KV kvs vs) (k : κ) : (kvs.any fun kv => decide (kv.1 = k)) = vs.any fun kv => decide (kv.1 = k) := by
  unfold KV at r
  induction r with
  | nil => rfl
  | cons h t ih => rw [List.any_cons,List.any_cons,ih,h.1]
theorem KV.repl {kvs : List (κ × V)} {vs : List (κ × Value)} (r : KV kvs vs) (k : κ) {y : V} {u : Value} (ry : RelV y u) :
    KV (kvs.map fun kv => if kv.1 = k then (kv.1,y) else kv) (vs.map fun kv => if kv.1 = k then (kv.1,u) else kv) := by
  unfold KV at r ⊢
  induction r with
  | nil => exact .nil
  | @cons p q ps qs h t ih =>
    rw [List.map_cons,List.map_cons]
    refine .cons ?_ ih
    obtain ⟨h1,h2⟩ := h
    by_cases e : p.1 = k
    · rw [if_pos e,if_pos (h1.symm.trans e)]; exact ⟨h1,ry⟩
    · rw [if_neg e,if_neg (fun z => e (h1.trans z))]; exact ⟨h1,h2⟩
theorem KV.put {kvs : List (κ × V)} {vs : List (κ × Value)} (r : KV kvs vs) (k : κ) {y : V} {u : Value} (ry : RelV y u) : KV (putK kvs k y) (stored vs k u) := by
  unfold putK stored
  rw [r.any k]
  by_cases e : (vs.any fun kv => decide (kv.1 = k)) = true
  · rw [if_pos e,if_pos e]; exact r.repl k ry
  · rw [if_neg e,if_neg e]; exact Paired.snoc r ⟨rfl,ry⟩
theorem KV.drop {kvs : List (κ × V)} {vs : List (κ × Value)} (r : KV kvs vs) (k : κ) : KV (dropK kvs k) (without vs k) := by
  unfold KV at r ⊢
  unfold dropK without
  induction r with
  | nil => exact .nil
  | @cons p q ps qs h t ih =>
    obtain ⟨h1,h2⟩ := h
    rw [List.filter_cons,List.filter_cons]
    by_cases e : p.1 = k
    · have a : ¬ decide (p.1 ≠ k) = true := by simp [e]
      have b : ¬ decide (q.1 ≠ k) = true := by simp [h1.symm.trans e]
      rw [if_neg a,if_neg b]; exact ih
    · have e' : ¬ q.1 = k := fun z => e (h1.trans z)
      have a : decide (p.1 ≠ k) = true := by simp [e]
      have b : decide (q.1 ≠ k) = true := by simp [e']
      rw [if_pos a,if_pos b]; exact .cons ⟨h1,h2⟩ ih
theorem KV.keys {kvs : List (κ × V)} {vs : List (κ × Value)} (r : KV kvs vs) : kvs.map (·.1) = vs.map (·.1) := by
  unfold KV at r
  induction r with
  | nil => rfl
  | cons h t ih => rw [List.map_cons,List.map_cons,ih,h.1]
theorem KV.length {kvs : List (κ × V)} {vs : List (κ × Value)} (r : KV kvs vs) : kvs.length = vs.length := Paired.length r
end
theorem kV_is {P : Program} {w : World} {k : Key} {u : Value} (r : RelV (kV k) u) : (mixKind P w).is k u = true := by
  cases k with
  | inl i => obtain ⟨t,e⟩ := (show ∃ t,u = Value.int i t from r); subst e; exact mixKind_int P w i t
  | inr x => obtain ⟨t,e⟩ := (show ∃ t,u = Value.str x t from r); subst e; exact mixKind_str P w x t
theorem items_are {P : Program} {w : World} : ∀ {ks : List Key} {us : List Value},Vals (ks.map kV) us -> ItemsAre (mixKind P w) ks us
  | [],_,r => by rw [List.map_nil] at r; cases r; exact .nil
  | k :: ks,_,r => by
    rw [List.map_cons] at r
    cases r with
    | cons h t => exact .cons (kV_is h) (items_are t)
abbrev KT (H : Hp) : List (List Key × V) -> List (List Key × Addr × Value) -> Prop := Paired fun p q => p.1 = q.1 /\ H q.2.1 = some (.tup (p.1.map kV)) /\ RelV p.2 q.2.2
theorem KT.val {H : Hp} {kvs : List (List Key × V)} {xs : List (List Key × Addr × Value)} (r : KT H kvs xs) (k : List Key) : RelO (valV kvs k) ((atKey xs k).map (·.2)) := by
  induction r with
  | nil => exact True.intro
  | @cons p q ps qs h t ih =>
    obtain ⟨h1,_,h2⟩ := h
    by_cases e : p.1 = k
    · have e' : q.1 = k := h1.symm.trans e
      have b : atKey (q :: qs) k = some q.2 := by simp [atKey,List.find?_cons,e']
      rw [valV_pos e,b]; exact h2
    · have e' : ¬ q.1 = k := fun z => e (h1.trans z)
      have b : atKey (q :: qs) k = atKey qs k := by simp [atKey,List.find?_cons,e']
      rw [valV_neg e,b]; exact ih
theorem KT.repl {H : Hp} {kvs : List (List Key × V)} {xs : List (List Key × Addr × Value)} (r : KT H kvs xs) (k : List Key) {y : V} {u : Value} (ry : RelV y u) :
    KT H (kvs.map fun kv => if kv.1 = k then (kv.1,y) else kv) (xs.map (putAt k u)) := by
  induction r with
  | nil => exact .nil
  | @cons p q ps qs h t ih =>
    rw [List.map_cons,List.map_cons]
    refine .cons ?_ ih
    obtain ⟨h1,h2,h3⟩ := h
    unfold putAt
    by_cases e : p.1 = k
    · rw [if_pos e,if_pos (h1.symm.trans e)]; exact ⟨h1,h2,ry⟩
    · rw [if_neg e,if_neg (fun z => e (h1.trans z))]; exact ⟨h1,h2,h3⟩
theorem KT.put {H : Hp} {kvs : List (List Key × V)} {xs : List (List Key × Addr × Value)} (r : KT H kvs xs) (k : List Key) {b : Addr} {y : V} {u : Value} (hb : H b = some (.tup (k.map kV))) (ry : RelV y u) :
    KT H (putK kvs k y) (storedH xs k b u) := by
  have e : (kvs.any fun kv => decide (kv.1 = k)) = (atKey xs k).isSome := by
    rw [valV_any,(r.val k).isSome_eq,Option.isSome_map]
  unfold putK storedH
  rw [e]
  by_cases q : (atKey xs k).isSome = true
  · rw [if_pos q,if_pos q]; exact r.repl k ry
  · rw [if_neg q,if_neg q]; exact Paired.snoc r ⟨rfl,hb,ry⟩
theorem KT.keeps {H H' : Hp} {kvs : List (List Key × V)} {xs : List (List Key × Addr × Value)} (r : KT H kvs xs) (ht : ∀ b ys,H b = some (.tup ys) -> H' b = some (.tup ys)) : KT H' kvs xs :=
  Paired.mapP r fun _ _ z => ⟨z.1,ht _ _ z.2.1,z.2.2⟩
section
variable {P : Program} {w : World} {H : Hp} {h : Heap} {a : Addr}
theorem rd_of {u : HO} (ok : HOk P w H h) (e : Rd H a u) : ObjOk P w H h a u := e.ok ok
theorem dk_rd {kvs : List (Key × V)} (ok : HOk P w H h) (e : Rd H a (.dK kvs)) : kvs.length <= sizeLine /\ (a == sysModules) = false /\ ∃ vs,KV kvs vs /\ h.DictOf (mixKind P w) a vs :=
  show ObjOk P w H h a (.dK kvs) from rd_of ok e
theorem dk_of {kvs : List (Key × V)} (ok : HOk P w H h) (e : H a = some (.dK kvs)) : kvs.length <= sizeLine /\ (a == sysModules) = false /\ ∃ vs,KV kvs vs /\ h.DictOf (mixKind P w) a vs := dk_rd ok (.inl e)
theorem key_of {ks : List Key} (ok : HOk P w H h) (e : H a = some (.tup (ks.map kV))) : (tupleKind (mixKind P w)).is h ks a := by
  obtain ⟨_,its,r,o,h1,h2,n,h3⟩ := (show ObjOk P w H h a (.tup (ks.map kV)) from ok a _ e)
  exact ⟨o,its.toArray,n,h1,h2,h3,by simpa using items_are r⟩
theorem dt_rd {kvs : List (List Key × V)} (ok : HOk P w H h) (e : Rd H a (.dT kvs)) : kvs.length <= sizeLine /\ (a == sysModules) = false /\
    ∃ xs,KT H kvs xs /\ h.DictOfH (tupleKind (mixKind P w)) a xs := by
  obtain ⟨z,y,xs,r,o,es,ep,h1,h2,h3,h4,h5⟩ := (show ObjOk P w H h a (.dT kvs) from rd_of ok e)
  refine ⟨z,y,xs,r,o,es,ep,h1,h2,h3,h4,fun x hx => ?_,h5⟩
  have all : ∀ {l : List (List Key × V)} {m : List (List Key × Addr × Value)},KT H l m -> ∀ x ∈ m,(tupleKind (mixKind P w)).is h x.1 x.2.1 := by
    intro l m q
    induction q with
    | nil => intro x hx; exact nomatch hx
    | @cons p q ps qs hq t ih =>
      intro x hx
      rcases List.mem_cons.mp hx with e | hx
      · subst e
        exact key_of ok (by rw [<- hq.1]; exact hq.2.1)
      · exact ih x hx
  exact all r x hx
theorem dt_of {kvs : List (List Key × V)} (ok : HOk P w H h) (e : H a = some (.dT kvs)) : kvs.length <= sizeLine /\ (a == sysModules) = false /\
    ∃ xs,KT H kvs xs /\ h.DictOfH (tupleKind (mixKind P w)) a xs := dt_rd ok (.inl e)
end
def DGet (H : Hp) (a : Addr) (y : V) (r : Option V) : Prop :=
  (∃ kvs k,Rd H a (.dK kvs) /\ y = kV k /\ r = valV kvs k) \/ ∃ kvs k b,Rd H a (.dT kvs) /\ y = .ref b /\ H b = some (.tup (k.map kV)) /\ r = valV kvs k
def DPut (H : Hp) (a : Addr) (y v : V) (H' : Hp) : Prop :=
  (∃ kvs k,H a = some (.dK kvs) /\ y = kV k /\ kvs.length < sizeLine /\ H' = upd H a (.dK (putK kvs k v))) \/
  ∃ kvs k b,H a = some (.dT kvs) /\ y = .ref b /\ H b = some (.tup (k.map kV)) /\ kvs.length < sizeLine /\ H' = upd H a (.dT (putK kvs k v))
theorem DGet.k {H : Hp} {a : Addr} {kvs : List (Key × V)} {k : Key} (e : H a = some (.dK kvs)) : DGet H a (kV k) (valV kvs k) := .inl ⟨kvs,k,.inl e,rfl,rfl⟩
theorem DGet.t {H : Hp} {a b : Addr} {kvs : List (List Key × V)} {k : List Key} (e : H a = some (.dT kvs)) (eb : H b = some (.tup (k.map kV))) : DGet H a (.ref b) (valV kvs k) := .inr ⟨kvs,k,b,.inl e,rfl,eb,rfl⟩
theorem DPut.k {H : Hp} {a : Addr} {kvs : List (Key × V)} {k : Key} {v : V} (e : H a = some (.dK kvs)) (hl : kvs.length < sizeLine) : DPut H a (kV k) v (upd H a (.dK (putK kvs k v))) := .inl ⟨kvs,k,e,rfl,hl,rfl⟩
theorem DPut.t {H : Hp} {a b : Addr} {kvs : List (List Key × V)} {k : List Key} {v : V} (e : H a = some (.dT kvs)) (eb : H b = some (.tup (k.map kV))) (hl : kvs.length < sizeLine) :
    DPut H a (.ref b) v (upd H a (.dT (putK kvs k v))) := .inr ⟨kvs,k,b,e,rfl,eb,hl,rfl⟩
section
variable {X : Cx} {pins : List (Addr × Obj)} {σ : St} {H : Hp} {s : Shared} {a : Addr} {y v : V} {u r : Value} {o : Option V} {A : Around} {E : Value -> Shared -> Prop}
theorem Inv.big (I : Inv X pins σ H s) : sysModules < s.heap.objs.size := by
  have h : mainGlobals < s.heap.objs.size := (I.mod.glob.keeps I.bk).lt
  exact Nat.lt_trans (by decide) h
theorem d_getItem {Q : Value -> Shared -> Prop} (hu : A.units + 1 < cLine) (I : Inv X pins σ H s) (g : DGet H a y (some v)) (ry : RelV y u) (h : ∀ w' s',Inv X pins σ H s' -> RelV v w' -> Q w' s') :
    wpAny (model X.prog X.w) A (getItem (.ref a) u) Q E s := by
  rcases g with ⟨kvs,k,e,ey,l⟩ | ⟨kvs,k,b,e,ey,eb,l⟩
  · subst ey
    obtain ⟨z,hd,vs,rel,dd⟩ := dk_rd I.hok e
    obtain ⟨w',hw,rw'⟩ := RelO.some_of (v := v) (o := valueAt vs k) (by rw [l]; exact rel.val k)
    exact wpAny_getItem_of (kV_is ry) dd.mapOf hw (h w' _ (I.tok _) rw')
  · subst ey
    cases (show u = Value.ref b from ry)
    obtain ⟨z,hd,xs,rel,dd⟩ := dt_rd I.hok e
    obtain ⟨w',hw,rw'⟩ := RelO.some_of (v := v) (o := (atKey xs k).map (·.2)) (by rw [l]; exact rel.val k)
    obtain ⟨p,hp,hp2⟩ := Option.map_eq_some_iff.mp hw
    refine wpAny_getItem_heap (tupleKind_room_in1 hu) (key_of I.hok eb) dd hp ?_
    rw [hp2]
    exact h w' _ (I.tok _) rw'
theorem d_notIn {Q : Value -> Shared -> Prop} (hu : A.units + 1 < cLine) (I : Inv X pins σ H s) (g : DGet H a y o) (ry : RelV y u) (h : ∀ s',Inv X pins σ H s' -> Q (.bool (!o.isSome)) s') :
    wpAny (model X.prog X.w) A (compareOp .NotIn u (.ref a)) Q E s := by
  rcases g with ⟨kvs,k,e,ey,l⟩ | ⟨kvs,k,b,e,ey,eb,l⟩
  · subst ey
    obtain ⟨z,hd,vs,rel,dd⟩ := dk_rd I.hok e
    refine wpAny_notIn_of (kV_is ry) hd dd.mapOf ?_
    rw [<- (rel.val k).isSome_eq,<- l]
    exact h _ (I.tok _)
  · subst ey
    cases (show u = Value.ref b from ry)
    obtain ⟨z,hd,xs,rel,dd⟩ := dt_rd I.hok e
    refine wpAny_notIn_heap (tupleKind_room_in1 hu) (key_of I.hok eb) hd dd ?_
    have q := (rel.val k).isSome_eq
    rw [Option.isSome_map] at q
    rw [<- q,<- l]
    exact h _ (I.tok _)
theorem d_write {h' : Heap} {t' : Nat} {ob : HO} (I : Inv X pins σ H s) (mu : Mut (H a)) (hs : Heap.SameBut a s.heap h') (he : ∃ q,h'.get? a = some q) (new : ObjOk X.prog X.w (upd H a ob) h' a ob) :
    Inv X pins σ (upd H a ob) { s with heap := h',toks := t' } :=
  I.write (x := a) (e := a) mu (.inl rfl) (fun b q hb z => (hs.2 b hb).trans z) he new
theorem dk_new {P : Program} {w : World} {H' : Hp} {h' : Heap} {kvs : List (Key × V)} {vs : List (Key × Value)} (z : kvs.length <= sizeLine) (hd : (a == sysModules) = false) (rel : KV kvs vs) (dd : h'.DictOf (mixKind P w) a vs) :
    ObjOk P w H' h' a (.dK kvs) := ⟨z,hd,vs,rel,dd⟩
theorem d_setItem {H' : Hp} {Q : Unit -> Shared -> Prop} (hu : A.units + 1 < cLine) (I : Inv X pins σ H s) (g : DPut H a y v H') (ry : RelV y u) (rv : RelV v r) (h : ∀ s',Inv X pins σ H' s' -> Q () s') :
    wpAny (model X.prog X.w) A (setItem (.ref a) u r) Q E s := by
  rcases g with ⟨kvs,k,e,ey,l,eH⟩ | ⟨kvs,k,b,e,ey,eb,l,eH⟩
  · subst ey eH
    obtain ⟨z,hd,vs,rel,dd⟩ := dk_of I.hok e
    have hz : vs.length <= sizeLine := by rw [<- rel.length]; exact z
    have hl : (putK kvs k v).length <= sizeLine := by have := length_putK kvs k v; omega
    refine wpAny_setItem_pairs (hsz := hz) (kV_is ry) dd fun h' dd' hs => h _ ?_
    have he : ∃ q,h'.get? a = some q := let ⟨q,_,_,hq,_⟩ := dd'; ⟨q,hq⟩
    exact d_write I (by rw [e]; exact True.intro) hs he (dk_new hl hd (rel.put k rv) dd')
  · subst ey eH
    cases (show u = Value.ref b from ry)
    obtain ⟨z,hd,xs,rel,dd⟩ := dt_of I.hok e
    have hz : xs.length <= sizeLine := by rw [<- Paired.length rel]; exact z
    have hl : (putK kvs k v).length <= sizeLine := by have := length_putK kvs k v; omega
    refine wpAny_setItem_heap (hsz := hz) (tupleKind_room_in1 hu) (key_of I.hok eb) dd fun h' dd' hs => h _ ?_
    obtain ⟨q,es,ep,hq,h2,h3,h4,_,h5⟩ := dd'
    refine d_write I (by rw [e]; exact True.intro) hs ⟨q,hq⟩ ⟨hl,hd,_,(rel.put k eb rv).keeps fun c ys ec => ?_,q,es,ep,hq,h2,h3,h4,h5⟩
    rw [upd_ne (ne_of ec e (fun z => nomatch z))]
    exact ec
end
section
variable {X : Cx} {pins : List (Addr × Obj)} {σ : St} {H : Hp} {s : Shared} {a : Addr} {kvs : List (Key × V)} {k : Key} {u : Value} {A : Around} {E : Value -> Shared -> Prop}
theorem d_len {Q : Value -> Shared -> Prop} (I : Inv X pins σ H s) (e : Rd H a (.dK kvs)) (h : ∀ t s',Inv X pins σ H s' -> Q (.int kvs.length t) s') : wpAny (model X.prog X.w) A (call (.builtin "len") [.ref a]) Q E s := by
  obtain ⟨z,hd,vs,rel,dd⟩ := dk_rd I.hok e
  refine call_len_dict hd dd (by rw [<- rel.length]; rw [sizeLine_eq] at z; omega) ?_
  rw [<- rel.length]
  exact h _ _ (I.tok _)
end
def NoSl (i : Expr) : Prop := ∀ ov iv,subscripted i false ov iv = operate [ov,iv] (getItem ov iv)
theorem subD_of {prog : Program} {w : World} {A : Around} {E : Value -> Shared -> Prop} {s : Shared} {env : Env} {value slice : Expr} {pos : Pos} {T id : String} {Q : Value -> Shared -> Prop}
    (hl : typeLookup (.type T) "__getitem__" = pure (some (.builtin id))) (hs : NoSl slice)
    (h : wpAny (model prog w) A (eval value env) (fun o s₁ => wpAny (model prog w) A (eval slice env) (fun i s₂ => s₂.TypeIs o T /\ wpAny (model prog w) A (getItem o i) Q E s₂) E s₁) E s) :
    wpAny (model prog w) A (eval (.Subscript value slice pos) env) Q E s := by
  refine Subscript_ (wpAny_mono h (fun o s₁ h₁ => wpAny_mono h₁ (fun i s₂ h₂ => ?_) fun _ _ x => x) fun _ _ x => x)
  obtain ⟨hT,h₂⟩ := h₂
  unfold subscriptTail
  refine wpAny_bind ?_
  rw [getitemInPython_of_ne hT.not_modules]
  refine wpAny_bind (wpAny_specialOf hT hl ?_)
  have fin : wpAny (model prog w) A (subscripted slice false o i) (fun r s₃ => wpAny (model prog w) A (letTemporaryGo value o r >>= fun _ => pure r) Q E s₃) E s₂ := by
    rw [hs o i]
    exact wpAny_operating (wpAny_mono h₂ (fun r s₃ h₃ => wpAny_bind (wpAny_letTemporaryGo (wpAny_pure h₃))) fun _ _ x => x)
  first
    | exact wpAny_pure (wpAny_bind fin)
    | exact wpAny_bind (wpAny_pure (wpAny_bind fin))
    | exact wpAny_bind fin
theorem dict_typeIs {X : Cx} {pins : List (Addr × Obj)} {σ : St} {H : Hp} {s : Shared} {a : Addr} {y : V} {o : Option V} (I : Inv X pins σ H s) (g : DGet H a y o) : s.TypeIs (.ref a) "dict" := by
  rcases g with ⟨kvs,k,e,_,_⟩ | ⟨kvs,k,b,e,_,_,_⟩
  · obtain ⟨_,_,vs,_,dd⟩ := dk_rd I.hok e
    exact dd.typeIs
  · obtain ⟨_,_,xs,_,dd⟩ := dt_rd I.hok e
    exact dd.typeIs
def tDGet (td ty : TE) : TE := fun σ H Q => td σ H fun x H1 => ty σ H1 fun y H2 => ∃ a v,x = .ref a /\ DGet H2 a y (some v) /\ Q v H2
def tDNotIn (ty td : TE) : TE := fun σ H Q => ty σ H fun y H1 => td σ H1 fun x H2 => ∃ a o,x = .ref a /\ DGet H2 a y o /\ Q (.bl (!o.isSome)) H2
def sDPut (td ty tv : TE) : TS := fun D σ H => tv σ H fun v H1 => td σ H1 fun x H2 => ty σ H2 fun y H3 => ∃ a H4,x = .ref a /\ DPut H3 a y v H4 /\ D.nx σ H4
section
variable {X : Cx} {o i e value : Expr} {pos pos' tpos : Pos} {td ty tv : TE}
theorem pe_dget (hu : X.A.units + 1 < cLine) (ho : PE X o td) (hi : PE X i ty) (hs : NoSl i) : PE X (.Subscript o i pos) (tDGet td ty) := by
  intro pins s σ H Q I h
  refine subD_of PySem.F.slot_dict_getitem.lookup hs (thn (ho pins s σ H _ I h) fun u s1 ⟨x,H1,I1,rx,q1⟩ => thn (hi pins s1 σ H1 _ I1 q1) fun iv s2 ⟨y,H2,I2,ry,a,v,ex,g,q2⟩ => ?_)
  subst ex
  obtain rfl : u = Value.ref a := rx
  exact ⟨dict_typeIs I2 g,d_getItem hu I2 g ry fun w' s3 I3 rw' => ⟨v,H2,I3,rw',q2⟩⟩
theorem pc_dnotin (hu : X.A.units + 1 < cLine) (hi : PE X i ty) (ho : PE X o td) : PC X .NotIn i o (tDNotIn ty td) := by
  intro pins s σ H Q I h
  refine thn (hi pins s σ H _ I h) fun iv s1 ⟨y,H1,I1,ry,q1⟩ => thn (ho pins s1 σ H1 _ I1 q1) fun u s2 ⟨x,H2,I2,rx,a,ov,ex,g,q2⟩ => ?_
  subst ex
  obtain rfl : u = Value.ref a := rx
  exact d_notIn hu I2 g ry fun s3 I3 => ⟨.bl (!ov.isSome),H2,I3,rfl,q2⟩
theorem ps_dput (hu : X.A.units + 1 < cLine) (ho : PE X o td) (hi : PE X i ty) (hv : PE X value tv) (hs : swapsWith value (some (.Subscript o i pos')) pos.line X.env = pure false) :
    PS X (.Assign [.Subscript o i pos'] value pos) (sDPut td ty tv) := by
  intro pins s σ H D I h
  refine wpAny_Assign_Subscript (thn (hv pins s σ H _ I h) fun r s1 ⟨v,H1,I1,rv,q1⟩ => thn (ho pins s1 σ H1 _ I1 q1) fun u s2 ⟨x,H2,I2,rx,q2⟩ => thn (hi pins s2 σ H2 _ I2 q2) fun iv s3 ⟨y,H3,I3,ry,a,H4,ex,g,q3⟩ => ?_) hs
  subst ex
  obtain rfl : u = Value.ref a := rx
  exact d_setItem hu I3 g ry rv fun s4 I4 => ⟨σ,H4,I4,q3⟩
end
theorem dk_empty {P : Program} {w : World} {H : Hp} (h : Heap) (hb : sysModules < h.objs.size) : ObjOk P w H (h.push { cls := .type "dict",data := .dict #[] }) h.objs.size (.dK []) :=
  ⟨Nat.zero_le _,beq_eq_false_iff_ne.mpr (Ne.symm (Nat.ne_of_lt hb)),[],.nil,Heap.DictOf.new h⟩
def tDNewK : TE := fun _ H Q => ∀ p,H p = none -> Q (.ref p) (upd H p (.dK []))
section
variable {X : Cx} {pos : Pos}
theorem pe_dnewK : PE X (.Dict [] [] pos) tDNewK := fun pins s σ H Q I h =>
  wpAny_Dict_empty ⟨.ref s.heap.objs.size,_,I.laid (a := s.heap.objs.size) (o := .dK []) (t' := s.toks) (fun _ _ q => Heap.get?_push_of_some _ q) (Nat.le_refl _) (dk_empty s.heap I.big),rfl,h _ (I.hok.fresh (Nat.le_refl _))⟩
end
section
variable {X : Cx} {pins : List (Addr × Obj)} {σ : St} {H : Hp} {s : Shared} {a : Addr} {y d : V} {u r : Value} {o : Option V} {A : Around} {E : Value -> Shared -> Prop}
end
section
variable {X : Cx} {o e f : Expr} {apos cpos : Pos} {td ty tx : TE}
end
section
variable {X : Cx} {pins : List (Addr × Obj)} {σ : St} {H : Hp} {s : Shared} {a : Addr} {kvs : List (Key × V)} {A : Around} {E : Value -> Shared -> Prop}
end
section
variable {X : Cx} {pins : List (Addr × Obj)} {σ : St} {H : Hp} {s : Shared} {a : Addr} {y : V} {u : Value} {A : Around} {E : Value -> Shared -> Prop}
end
end L2
namespace L2
open PySem PySem.Spec PyProof.Rows
section
variable {X : Cx}
theorem call_lenD : CallR X (.builtin "len") (fun xs H Q => ∃ a kvs,xs = [V.ref a] /\ H a = some (.dK kvs) /\ Q (.int kvs.length) H) := by
  intro pins s σ H xs us Q I r h
  obtain ⟨a,kvs,rfl,ha,q⟩ := h
  obtain ⟨u,rfl,ru⟩ := vals1 r
  cases ru
  exact d_len I (.inl ha) fun t s' I' => ⟨.int kvs.length,H,I',⟨t,rfl⟩,q⟩
end
section
variable {κ : Type} [DecidableEq κ]
end
end L2
namespace L2
open PySem PySem.Spec PyProof.Rows
theorem range_eq {ns ms : List Int} : ((List.range (min ns.length ms.length)).all (fun j => ns.getD j 0 == ms.getD j 0) && (ns.length == ms.length)) = decide (ns = ms) := by
  rw [Bool.eq_iff_iff,Bool.and_eq_true,List.all_eq_true,decide_eq_true_iff,beq_iff_eq]
  constructor
  · rintro ⟨h1,h2⟩
    refine List.ext_getElem h2 fun i hi hi' => ?_
    have := h1 i (List.mem_range.mpr (by omega))
    rw [List.getD_eq_getElem?_getD,List.getElem?_eq_getElem hi,List.getD_eq_getElem?_getD,List.getElem?_eq_getElem hi'] at this
    simpa using this
  · rintro rfl
    exact ⟨fun i _ => by simp,rfl⟩
theorem range_eq' {ns ms : List Int} (h : ns.length = ms.length) : (List.range ns.length).all (fun j => ns.getD j 0 == ms.getD j 0) = decide (ns = ms) := by
  rw [<- range_eq,h,Nat.min_self,beq_self_eq_true,Bool.and_true]
section
variable {X : Cx} {K : PySem.W.Frag}
theorem ints_eqAt {A : Around} {s : Shared} {ns ms : List Int} {its its2 : List Value} (r1 : Vals (ns.map V.int) its) (r2 : Vals (ms.map V.int) its2) (j : Nat) (h1 : j < its.toArray.size) (h2 : j < its2.toArray.size) :
    SeqAt.EqAt A s its.toArray[j] its2.toArray[j] (ns.getD j 0 == ms.getD j 0) := by
  obtain ⟨t,e1,_⟩ := vals_int_at r1 (i := j) (v := its.toArray[j]) (by simp)
  obtain ⟨t2,e2,_⟩ := vals_int_at r2 (i := j) (v := its2.toArray[j]) (by simp)
  rw [e1,e2]
  exact eqAt_V (y := .int _) (x := .int _) ⟨_,rfl⟩ ⟨_,rfl⟩ rfl rfl
def SqEq (K : PySem.W.Frag) (g : Bool -> V) : R2 := fun x y H Q => ∃ (a b : Addr) (ns ms : List Int),x = .ref a /\ y = .ref b /\ ((SqT K H a (ns.map V.int) /\ SqT K H b (ms.map V.int)) \/ (SqL K H a (ns.map V.int) /\ SqL K H b (ms.map V.int))) /\ Q (g (decide (ns = ms))) H
theorem op_eqS (hu : X.A.units < cLine) (h : X.K = K := by rfl) : OpR X (compareOp .Eq) (SqEq K V.bl) := by
  subst h
  intro pins s σ H x y v u Q I rx ry h
  obtain ⟨a,b,ns,ms,rfl,rfl,hq,q⟩ := h
  cases rx
  cases ry
  rcases hq with ⟨ha,hb⟩ | ⟨ha,hb⟩
  · obtain ⟨its,r1,p1,_⟩ := I.tuple ha
    obtain ⟨its2,r2,p2,_⟩ := I.tuple hb
    have l1 : its.toArray.size = ns.length := by rw [List.size_toArray,<- r1.length,ltm]
    have l2 : its2.toArray.size = ms.length := by rw [List.size_toArray,<- r2.length,ltm]
    refine SeqAt.eq_tupleAt p1 p2 hu (fun j h1 h2 => ints_eqAt r1 r2 j h1 h2) ?_
    rw [l1,l2,range_eq]
    exact ⟨.bl _,H,I,rfl,q⟩
  · obtain ⟨its,r1,p1,_⟩ := I.list ha
    obtain ⟨its2,r2,p2,_⟩ := I.list hb
    have l1 : its.toArray.size = ns.length := by rw [List.size_toArray,<- r1.length,ltm]
    have l2 : its2.toArray.size = ms.length := by rw [List.size_toArray,<- r2.length,ltm]
    by_cases hl : ns.length = ms.length
    · refine SeqAt.eq_listAt p1.isList p2.isList (by rw [l1,l2,hl]) hu (fun j h1 h2 => ints_eqAt r1 r2 j h1 h2) ?_
      rw [l1,range_eq' hl]
      exact ⟨.bl _,H,I,rfl,q⟩
    · rw [decide_eq_false (fun e => hl (by rw [e]))] at q
      exact SeqAt.eq_list_lengthsAt p1.isList p2.isList (by rw [l1,l2]; simpa using hl) hu ⟨.bl _,H,I,rfl,q⟩
theorem op_neS (hu : X.A.units < cLine) (h : X.K = K := by rfl) : OpR X (compareOp .NotEq) (SqEq K fun b => .bl (!b)) := by
  subst h
  intro pins s σ H x y v u Q I rx ry h
  obtain ⟨a,b,ns,ms,rfl,rfl,hq,q⟩ := h
  cases rx
  cases ry
  rcases hq with ⟨ha,hb⟩ | ⟨ha,hb⟩
  · obtain ⟨its,r1,p1,_⟩ := I.tuple ha
    obtain ⟨its2,r2,p2,_⟩ := I.tuple hb
    have l1 : its.toArray.size = ns.length := by rw [List.size_toArray,<- r1.length,ltm]
    have l2 : its2.toArray.size = ms.length := by rw [List.size_toArray,<- r2.length,ltm]
    refine SeqAt.RcNeAt.tuples p1 p2 hu (fun j h1 h2 => ints_eqAt r1 r2 j h1 h2) _ _ _ _ ?_
    rw [l1,l2,range_eq]
    exact ⟨.bl _,H,I,rfl,q⟩
  · obtain ⟨its,r1,p1,_⟩ := I.list ha
    obtain ⟨its2,r2,p2,_⟩ := I.list hb
    have l1 : its.toArray.size = ns.length := by rw [List.size_toArray,<- r1.length,ltm]
    have l2 : its2.toArray.size = ms.length := by rw [List.size_toArray,<- r2.length,ltm]
    by_cases hl : ns.length = ms.length
    · refine SeqAt.RcNeAt.lists p1.isList p2.isList (by rw [l1,l2,hl]) hu (fun j h1 h2 => ints_eqAt r1 r2 j h1 h2) _ _ _ _ ?_
      rw [l1,range_eq' hl]
      exact ⟨.bl _,H,I,rfl,q⟩
    · rw [decide_eq_false (fun e => hl (by rw [e]))] at q
      exact SeqAt.RcNeAt.lists_lengths p1.isList p2.isList (by rw [l1,l2]; simpa using hl) hu _ _ _ _ ⟨.bl _,H,I,rfl,q⟩
theorem idx_before : ∀ (ns : List Int) (z : Int) (m : Nat),m < ns.idxOf z -> ns.getD m 0 ≠ z
  | [],_,_,h => by simp at h
  | a :: r,z,m,h => by
    rw [List.idxOf_cons] at h
    by_cases e : a = z
    · subst e; simp at h
    · have e' : (a == z) = false := beq_eq_false_iff_ne.mpr e
      rw [e'] at h
      cases m with
      | zero => exact e
      | succ m => exact idx_before r z m (by simp at h; omega)
def rIndex : V -> List V -> Hp -> VK -> Prop := fun x vs H Q => ∃ (l : Addr) (ns : List Int) (z : Int),x = .ref l /\ vs = [.int z] /\ H l = some (.lst (ns.map V.int)) /\ z ∈ ns /\ ns.length <= 1000 /\ Q (.int (ns.idxOf z)) H
theorem mt_index : MtR X "list.index" rIndex := by
  intro pins s σ H x vs v us Q I rx rv h
  obtain ⟨l,ns,z,rfl,rfl,hH,hz,hl,q⟩ := h
  cases rx
  obtain ⟨u,rfl,ru⟩ := rv.one
  obtain ⟨hzz,its,n,r,hlen,e⟩ := I.lstM hH
  have hj : ns.idxOf z < ns.length := List.idxOf_lt_length_of_mem hz
  have l1 : its.toArray.size = ns.length := by rw [List.size_toArray,<- r.length,ltm]
  have at_ : ∀ m (hm : m < its.toArray.size),∃ t,its.toArray[m] = .int (ns.getD m 0) t := fun m hm => (vals_int_at r (i := m) (v := its.toArray[m]) (by simp)).imp fun t e => e.1
  refine call_meets F.slot_list_index ⟨_,e,rfl⟩ F.entry_list_index (F.args_list_index_2 _ _) (SeqAt.list_indexAt l its.toArray n none #[] u (fun y => match y with | .int i _ => i == z | _ => false) (ns.idxOf z) (by omega) (by omega) ?_ ?_) ⟨e,?_,?_⟩
  · obtain ⟨t,q1⟩ := at_ (ns.idxOf z) (by omega)
    rw [q1]
    show (ns.getD (ns.idxOf z) 0 == z) = true
    rw [List.getD_eq_getElem?_getD,List.getElem?_eq_getElem hj]
    simp
  · intro m hm hmj
    obtain ⟨t,q1⟩ := at_ m hm
    rw [q1]
    show (ns.getD m 0 == z) = false
    exact beq_eq_false_iff_ne.mpr (idx_before ns z m hmj)
  · intro y hy
    obtain ⟨m,hm,rfl⟩ := Array.mem_iff_getElem.mp hy
    obtain ⟨t,q1⟩ := at_ m hm
    rw [q1]
    obtain ⟨t2,rfl⟩ := ru
    exact eqAt_V (y := .int _) (x := .int _) ⟨_,rfl⟩ ⟨_,rfl⟩ rfl rfl
  · exact ⟨.int _,H,I.tok _,⟨_,rfl⟩,q⟩
end
end L2
namespace L2
open PySem
def seenP (s : List Int) (z : Int) : List Int := if z ∈ s then s else s ++ [z]
def seen (ns : List Int) : List Int := ns.foldl seenP []
def numRow (ns : List Int) : List Int := ns.map fun z => ((seen ns).idxOf z : Int)
theorem seen_snoc (xs : List Int) (z : Int) : seen (xs ++ [z]) = seenP (seen xs) z := by unfold seen; rw [List.foldl_append]; rfl
theorem mem_seenP {s : List Int} {z y : Int} : y ∈ seenP s z ↔ y ∈ s \/ y = z := by
  unfold seenP; split
  · constructor
    · exact .inl
    · rintro (h | rfl)
      · exact h
      · assumption
  · simp
theorem mem_seen (xs : List Int) : ∀ z,z ∈ seen xs ↔ z ∈ xs := by
  refine snoc_ind (P := fun xs => ∀ z,z ∈ seen xs ↔ z ∈ xs) (fun z => by simp [seen]) (fun xs y ih z => ?_) xs
  rw [seen_snoc,mem_seenP,ih z]; simp
theorem seenP_idx {s : List Int} {z y : Int} (h : y ∈ s) : (seenP s z).idxOf y = s.idxOf y := by
  unfold seenP; split
  · rfl
  · rw [List.idxOf_append,if_pos h]
theorem seenP_new {s : List Int} {z : Int} (h : z ∉ s) : (seenP s z).idxOf z = s.length := by
  unfold seenP; rw [if_neg h,List.idxOf_append,if_neg h]; simp
theorem numRow_snoc (xs : List Int) (z : Int) : numRow (xs ++ [z]) = numRow xs ++ [((seenP (seen xs) z).idxOf z : Int)] := by
  unfold numRow
  rw [seen_snoc,List.map_append]
  congr 1
  refine List.map_congr_left fun y hy => ?_
  rw [seenP_idx ((mem_seen xs y).mpr hy)]
theorem numRow_length (xs : List Int) : (numRow xs).length = xs.length := by unfold numRow; rw [List.length_map]
theorem seen_length (xs : List Int) : (seen xs).length <= xs.length := by
  refine snoc_ind (P := fun xs => (seen xs).length <= xs.length) (by simp [seen]) (fun xs z ih => ?_) xs
  rw [seen_snoc]; unfold seenP; split
  · simp; omega
  · simp; omega
theorem numRow_way (xs : List Int) : wayGo 0 (numRow xs) = true /\ fresh 0 (numRow xs) = (seen xs).length := by
  refine snoc_ind (P := fun xs => wayGo 0 (numRow xs) = true /\ fresh 0 (numRow xs) = (seen xs).length) ⟨rfl,rfl⟩ (fun xs z ih => ?_) xs
  obtain ⟨h1,h2⟩ := ih
  rw [numRow_snoc,wayGo_snoc,fresh_snoc,h1,h2,seen_snoc]
  by_cases h : z ∈ seen xs
  · have e : (seenP (seen xs) z).idxOf z = (seen xs).idxOf z := seenP_idx h
    have hl : (seen xs).idxOf z < (seen xs).length := List.idxOf_lt_length_of_mem h
    rw [e]
    refine ⟨?_,?_⟩
    · rw [decide_eq_true (by omega),decide_eq_true (by omega)]; rfl
    · rw [if_neg (by omega)]; unfold seenP; rw [if_pos h]
  · rw [seenP_new h]
    refine ⟨?_,?_⟩
    · rw [decide_eq_true (by omega),decide_eq_true (by omega)]; rfl
    · rw [if_pos rfl]; unfold seenP; rw [if_neg h,List.length_append]; simp
theorem numRow_isWay {xs : List Int} (h1 : 1 <= xs.length) (h9 : xs.length <= 9) : isWay (numRow xs) = true := by
  unfold isWay
  rw [numRow_length,(numRow_way xs).1,decide_eq_true h1,decide_eq_true h9]; rfl
def kvOf : List Int -> Nat -> List (Key × V)
  | [],_ => []
  | z :: r,n => (Sum.inl z,V.int n) :: kvOf r (n + 1)
theorem kvOf_length : ∀ (s : List Int) (n : Nat),(kvOf s n).length = s.length
  | [],_ => rfl
  | _ :: r,n => by show (kvOf r (n + 1)).length + 1 = _; rw [kvOf_length r]; rfl
theorem kvOf_snoc : ∀ (s : List Int) (n : Nat) (z : Int),kvOf (s ++ [z]) n = kvOf s n ++ [(Sum.inl z,V.int ((n + s.length : Nat) : Int))]
  | [],n,z => by show [(Sum.inl z,V.int n)] = _; simp [kvOf]
  | y :: r,n,z => by
    show (Sum.inl y,V.int n) :: kvOf (r ++ [z]) (n + 1) = (Sum.inl y,V.int n) :: (kvOf r (n + 1) ++ _)
    rw [kvOf_snoc r,List.length_cons]
    rw [show n + 1 + r.length = n + (r.length + 1) by omega]
theorem valV_kvOf : ∀ (s : List Int) (n : Nat) (z : Int),valV (kvOf s n) (Sum.inl z : Key) = if z ∈ s then some (V.int ((n + s.idxOf z : Nat) : Int)) else none
  | [],n,z => by simp [kvOf,valV_nil]
  | y :: r,n,z => by
    by_cases e : y = z
    · subst e
      rw [if_pos List.mem_cons_self]
      show valV ((Sum.inl y,V.int n) :: kvOf r (n + 1)) (Sum.inl y) = _
      rw [valV_pos rfl]
      simp
    · show valV ((Sum.inl y,V.int n) :: kvOf r (n + 1)) (Sum.inl z) = _
      rw [valV_neg (fun q => e (Sum.inl.inj q)),valV_kvOf r]
      have e2 : (y :: r).idxOf z = r.idxOf z + 1 := by rw [List.idxOf_cons,beq_eq_false_iff_ne.mpr e]; rfl
      rw [e2]
      by_cases h : z ∈ r
      · rw [if_pos h,if_pos (List.mem_cons_of_mem _ h),show n + 1 + r.idxOf z = n + (r.idxOf z + 1) by omega]
      · rw [if_neg h,if_neg (fun q => (List.mem_cons.mp q).elim (fun w => e w.symm) h)]
end L2
namespace L2
open PySem
def endStep (u : Int) (cs : List Int) : List Int := (List.range (cs.length - 1)).map fun (k : Nat) => (u + (k : Int)) * cs.getD k 0 + cs.getD (k + 1) 0
def endC (l : Nat) (u : Int) : Nat -> List Int
  | 0 => List.replicate (l + 1) 1
  | n + 1 => endStep u (endC l u n)
def endF (l : Nat) (u : Int) : Int := (endC l u l).getD 0 0
def moStep (n : Nat) (cs : List Int) : List Int := 0 :: (List.range n).map fun (j : Nat) => cs.getD j 0 + ((j : Int) + 1) * cs.getD (j + 1) 0
def moC (n : Nat) : Nat -> List Int
  | 0 => 1 :: List.replicate n 0
  | s + 1 => moStep n (moC n s)
def manyOf (n c : Int) : Int := if 1 <= c /\ c <= n then (moC n.toNat n.toNat).getD c.toNat 0 else 0
def stAt (w : List Int) (k : Nat) : Int := (k : Int) * w.getD k 0 + (if k = 0 then w.getD (w.length - 1) 0 else w.getD (k - 1) 0) * (if (1 : Int) < (k : Int) then 1 else (k : Int))
def stStep (row : List Int) : List Int := (List.range (row.length + 1)).map (stAt (row ++ [0]))
def stC : Nat -> List Int
  | 0 => [1]
  | n + 1 => stStep (stC n)
def rowFine (n : Nat) (r : List Int) : Bool := !r.isEmpty && decide (r.length <= 6) && decide (0 <= maxL r) && decide (maxL r + 1 <= (n : Int) + 1)
theorem chk9 : ((List.range 9).all fun m => decide (endF (m + 1) 0 = (stC (m + 1)).sum) && ((List.range (m + 2)).all fun c => decide (manyOf ((m : Int) + 1) (c : Int) = (stC (m + 1)).getD c 0))) = true := by decide +kernel
theorem m9 {n : Int} (h1 : 1 <= n) (h9 : n <= 9) : endF n.toNat 0 = (stC n.toNat).sum /\ ∀ c : Int,manyOf n c = if 0 <= c /\ c <= n then (stC n.toNat).getD c.toNat 0 else 0 := by
  have q := List.all_eq_true.mp chk9 (n.toNat - 1) (List.mem_range.mpr (by omega))
  rw [Bool.and_eq_true,List.all_eq_true] at q
  rw [show n.toNat - 1 + 1 = n.toNat by omega] at q
  refine ⟨of_decide_eq_true q.1,fun c => ?_⟩
  by_cases hc : 0 <= c /\ c <= n
  · rw [if_pos hc]
    have q2 := of_decide_eq_true (q.2 c.toNat (List.mem_range.mpr (by omega)))
    rw [show ((n.toNat - 1 : Nat) : Int) + 1 = n by omega,Int.toNat_of_nonneg hc.1] at q2
    exact q2
  · rw [if_neg hc]
    unfold manyOf
    rw [if_neg (fun z => hc ⟨by omega,z.2⟩)]
theorem row_of {m : Nat} {r : List Int} (h : rowFine m r = true) (hm : m <= 5) : r ≠ [] /\ r.length <= 6 /\ 0 <= maxL r /\ maxL r <= 5 := by
  unfold rowFine at h
  simp only [Bool.and_eq_true,decide_eq_true_eq] at h
  refine ⟨fun e => by rw [e] at h; exact absurd h.1.1.1 (by decide),h.1.1.2,h.1.2,by omega⟩
theorem SqT.put {K : PySem.W.Frag} {H : Hp} {a l : Addr} {xs ys : List V} {o : HO} (h : SqT K H a xs) (hl : H l = some (.lst ys)) : SqT K (upd H l o) a xs := by
  rcases h with (h | ⟨u,h⟩) | h
  · exact .inl (.inl (by rw [upd_ne (fun e => by rw [e,hl] at h; cases h)]; exact h))
  · exact .inl (.inr ⟨u,by rw [upd_ne (fun e => by rw [e,hl] at h; cases h)]; exact h⟩)
  · exact .inr h
theorem flat_le {α β : Type} (f : α -> List β) (l : List α) (i : Nat) : ((l.take i).flatMap f).length <= (l.flatMap f).length := by
  conv => rhs; rw [<- List.take_append_drop i l,List.flatMap_append,List.length_append]
  omega
end L2
namespace L2
open PySem PySem.Spec PyProof.Rows
section
variable {X : Cx} {K : PySem.W.Frag}
theorem call_rangeV : CallR X (.type "range") (fun xs H Q => ∃ n : Int,xs = [.int n] /\ ∀ p,H p = none -> Q (.ref p) (upd H p (.rng 0 n))) := by
  intro pins s σ H xs us Q I r h
  obtain ⟨n,rfl,q⟩ := h
  obtain ⟨u,rfl,t,rfl⟩ := vals1 r
  refine call_range_1 ⟨.ref s.heap.objs.size,_,I.laid (t' := s.toks + 1 + 1) (fun b o e => Heap.get?_push_of_some _ e) (Nat.le_refl _) (show ObjOk X.prog X.w _ _ _ (.rng 0 n) from ⟨_,_,_,Heap.get?_push_size _ rfl⟩),rfl,q _ (I.hok.fresh (Nat.le_refl _))⟩
theorem call_listR (hc : X.calm = true := by rfl) : CallR X (.type "list") (fun xs H Q => ∃ (p : Addr) (n : Int),xs = [.ref p] /\ H p = some (.rng 0 n) /\ n <= 1000 /\ -1000 <= n /\ ∀ l,H l = none -> Q (.ref l) (upd H l (.lst (((List.range n.toNat).map fun (k : Nat) => (k : Int)).map V.int)))) := by
  intro pins s σ H xs us Q I r h
  obtain ⟨p,n,rfl,hp,h1,h2,q⟩ := h
  obtain ⟨u,rfl,ru⟩ := vals1 r
  cases ru
  obtain ⟨t,u,v,e⟩ : ∃ t u v,s.heap.get? p = some { cls := .type "range",data := .fields #[.int 0 t,.int n u,.int 1 v] } := I.hok p _ hp
  refine call_list_range (n := n.toNat) (I.ok.hd hc) e (small_one (by omega) (by omega) (by omega) (by omega)) (by rw [rangeSize_one]; split <;> omega) (by omega) fun h' tk acc c' hk hD hI => ?_
  have hI2 := PySem.W.kll_ints acc.toList 0 n.toNat (by rw [Array.length_toList]; exact hI.1) fun j v hj => hI.2 j v (by rw [<- hj,Array.getElem?_toList])
  have e2 : PySem.W.rangeKs 0 n.toNat = (List.range n.toNat).map fun (k : Nat) => (k : Int) := by
    unfold PySem.W.rangeKs
    exact List.map_congr_left fun k _ => by omega
  rw [e2] at hI2
  have hD' : h'.get? s.heap.objs.size = some { cls := .type "list",dict := none,data := .seq acc.toList.toArray c',slots := #[] } := by rw [Array.toArray_toList]; exact hD
  exact ⟨.ref s.heap.objs.size,_,I.laid (t' := tk) hk (Nat.le_refl _) (show ObjOk X.prog X.w _ _ _ (.lst _) from ⟨le_line (by simp; omega),acc.toList,c',vals_ints hI2,hD'⟩),rfl,q _ (I.hok.fresh (Nat.le_refl _))⟩
def rInsert : V -> List V -> Hp -> VK -> Prop := fun x vs H Q => ∃ l xs i y,x = .ref l /\ vs = [.int i,y] /\ H l = some (.lst xs) /\ 0 <= i /\ i <= xs.length /\ xs.length < 1000 /\ Q .non (upd H l (.lst (xs.take i.toNat ++ y :: xs.drop i.toNat)))
theorem vals_ins : ∀ {xs : List V} {us : List Value} (k : Nat) {y : V} {u : Value},Vals xs us -> RelV y u -> Vals (xs.take k ++ y :: xs.drop k) (us.take k ++ u :: us.drop k)
  | _,_,0,_,_,h,r => .cons r h
  | _,_,k + 1,_,_,.nil,r => .cons r .nil
  | _,_,k + 1,_,_,.cons q t,r => .cons q (vals_ins k t r)
theorem mt_insert : MtM X "list.insert" rInsert := by
  intro pins s σ H x vs v us Q I rx rv h
  obtain ⟨l,xs,i,y,rfl,rfl,hH,h0,h1,hz,q⟩ := h
  cases rx
  obtain ⟨u,w,rfl,⟨t,rfl⟩,rw'⟩ := rv.two
  obtain ⟨z,its,n,r,hl,e⟩ := I.lstM hH
  have hfit : ¬ (!Builtin.List.listFitsIndex i) = true := by
    rw [fitsIndex_both (by omega) (by omega)]; decide
  refine call_meets F.slot_list_insert ⟨_,e,rfl⟩ F.entry_list_insert (F.args_list_insert_3 _ _ _) (AutoSeq1.list_insert_list_int_val_1 l its.toArray n i t w hfit (by rw [List.size_toArray]; omega)) ⟨e,?_⟩
  refine ⟨.non,_,I.lset (its' := its.take i.toNat ++ w :: its.drop i.toNat) hH e ?_ (vals_ins i.toNat r rw') ?_,rfl,q⟩
  · have hk : (if i < 0 then (i + (its.toArray.size : Int)).toNat else min i.toNat its.toArray.size) = i.toNat := by
      rw [if_neg (by omega),List.size_toArray]; omega
    show (its.toArray.extract 0 (if i < 0 then (i + (its.toArray.size : Int)).toNat else min i.toNat its.toArray.size)).push w ++ its.toArray.extract (if i < 0 then (i + (its.toArray.size : Int)).toNat else min i.toNat its.toArray.size) = _
    rw [hk]
    apply Array.toList_inj.mp
    simp
    exact List.take_of_length_le (by simp)
  · exact le_line (by simp; omega)
end
end L2
namespace L2
open PySem PySem.Spec PyProof.Rows
def rg (n : Nat) : List Int := (List.range n).map fun (k : Nat) => (k : Int)
theorem rg_length (n : Nat) : (rg n).length = n := by unfold rg; simp
theorem rg_succ (n : Nat) : rg (n + 1) = rg n ++ [(n : Int)] := by unfold rg; rw [List.range_succ,List.map_append]; rfl
theorem mem_rg {n : Nat} {z : Int} : z ∈ rg n ↔ 0 <= z /\ z < n := by
  unfold rg
  rw [List.mem_map]
  constructor
  · rintro ⟨k,hk,rfl⟩
    have := List.mem_range.mp hk
    omega
  · rintro ⟨h0,h1⟩
    exact ⟨z.toNat,List.mem_range.mpr (by omega),by omega⟩
theorem rg_get {n i : Nat} (h : i < n) : (rg n)[i]? = some (i : Int) := by
  unfold rg; rw [List.getElem?_map,List.getElem?_range h]; rfl
theorem rg_nodup (n : Nat) : (rg n).Nodup := by
  unfold rg
  rw [List.nodup_iff_pairwise_ne,List.pairwise_map]
  exact List.Pairwise.imp (fun h => by omega) List.pairwise_lt_range
theorem idx_of_get {l : List Int} (hn : l.Nodup) {i : Nat} {z : Int} (h : l[i]? = some z) : l.idxOf z = i := by
  obtain ⟨hi,rfl⟩ := List.getElem?_eq_some_iff.mp h
  exact hn.idxOf_getElem i hi
theorem idx_rg {n : Nat} {z : Int} (h0 : 0 <= z) (h1 : z < n) : (((rg n).idxOf z : Nat) : Int) = z := by
  have := idx_of_get (rg_nodup n) (rg_get (n := n) (i := z.toNat) (by omega))
  rw [show ((z.toNat : Nat) : Int) = z by omega] at this
  omega
theorem numRow_self (ws : List Int) : wayGo 0 ws = true -> numRow ws = ws /\ seen ws = rg (fresh 0 ws).toNat /\ 0 <= fresh 0 ws := by
  refine snoc_ind (P := fun ws => wayGo 0 ws = true -> numRow ws = ws /\ seen ws = rg (fresh 0 ws).toNat /\ 0 <= fresh 0 ws) (fun _ => ⟨rfl,rfl,by decide⟩) (fun xs z ih h => ?_) ws
  rw [wayGo_snoc,Bool.and_eq_true,Bool.and_eq_true] at h
  obtain ⟨h1,h2,h3⟩ := h
  have h2 := of_decide_eq_true h2
  have h3 := of_decide_eq_true h3
  obtain ⟨e1,e2,e3⟩ := ih h1
  rw [numRow_snoc,e1,seen_snoc,fresh_snoc,e2]
  by_cases hz : z = fresh 0 xs
  · rw [if_pos hz]
    have hn : z ∉ rg (fresh 0 xs).toNat := by rw [mem_rg]; omega
    refine ⟨?_,?_,by omega⟩
    · rw [seenP_new hn,rg_length,hz]
      congr 2; omega
    · unfold seenP
      rw [if_neg hn,show (fresh 0 xs + 1).toNat = (fresh 0 xs).toNat + 1 by omega,rg_succ]
      congr 2; omega
  · rw [if_neg hz]
    have hn : z ∈ rg (fresh 0 xs).toNat := by rw [mem_rg]; omega
    refine ⟨?_,?_,by omega⟩
    · rw [seenP_idx hn,idx_rg h2 (by omega)]
    · unfold seenP
      rw [if_pos hn]
theorem idx_map {f : Int -> Int} : ∀ {l : List Int} {z : Int},(∀ a ∈ l,f a = f z -> a = z) -> (l.map f).idxOf (f z) = l.idxOf z
  | [],_,_ => rfl
  | a :: l,z,h => by
    rw [List.map_cons,List.idxOf_cons,List.idxOf_cons]
    by_cases e : a = z
    · subst e; simp
    · have e2 : ¬ f a = f z := fun q => e (h a (List.mem_cons_self ..) q)
      rw [show (f a == f z) = false by simp [e2],show (a == z) = false by simp [e],idx_map fun b hb => h b (List.mem_cons_of_mem _ hb)]
theorem seen_map {f : Int -> Int} (ns : List Int) : (∀ a ∈ ns,∀ b ∈ ns,f a = f b -> a = b) -> seen (ns.map f) = (seen ns).map f := by
  refine snoc_ind (P := fun ns => (∀ a ∈ ns,∀ b ∈ ns,f a = f b -> a = b) -> seen (ns.map f) = (seen ns).map f) (fun _ => rfl) (fun xs z ih h => ?_) ns
  have ih := ih fun a ha b hb => h a (List.mem_append_left _ ha) b (List.mem_append_left _ hb)
  rw [List.map_append,List.map_cons,List.map_nil,seen_snoc,seen_snoc,ih]
  unfold seenP
  have e : f z ∈ (seen xs).map f ↔ z ∈ seen xs := by
    rw [List.mem_map]
    constructor
    · rintro ⟨a,ha,e⟩
      have := h a (List.mem_append_left _ ((mem_seen xs a).mp ha)) z (by simp) e
      exact this ▸ ha
    · exact fun q => ⟨z,q,rfl⟩
  by_cases q : z ∈ seen xs
  · rw [if_pos q,if_pos (e.mpr q)]
  · rw [if_neg q,if_neg (fun x => q (e.mp x)),List.map_append]; rfl
theorem numRow_map {f : Int -> Int} {ns : List Int} (h : ∀ a ∈ ns,∀ b ∈ ns,f a = f b -> a = b) : numRow (ns.map f) = numRow ns := by
  unfold numRow
  rw [seen_map ns h,List.map_map]
  refine List.map_congr_left fun z hz => ?_
  show (((List.map f (seen ns)).idxOf (f z) : Nat) : Int) = _
  rw [idx_map fun a ha e => h a ((mem_seen ns a).mp ha) z hz e]
def turnL (ws zs : List Int) : List Int := zs.map fun z => ws.getD z.toNat 0
end L2
namespace PySem
open Sem (wp)
open AutoSeq1 (wpAny_loadPart')
section
variable {prog : Program} {w : World} {A : Around} {E : Value -> Shared -> Prop} {s : Shared}
theorem wpAny_nextOf_tuple_item {it l : Addr} {i : Nat} {items} {x : Value} {Q : Value -> Shared -> Prop} (hit : s.heap.IsTupleIter it l i)
    (hl : s.heap.IsTuple l items) (hx : items[i]? = some x)
    (hQ : ∀ h',h'.IsTupleIter it l (i + 1) -> Heap.SameBut it s.heap h' -> Q x { s with heap := h' }) :
    wpAny (model prog w) A (Builtin.SmallTypes.nextOf (.ref it)) Q E s := by
  obtain ⟨o,ho,hc,hd⟩ := id hit
  obtain ⟨ol,hol,_,nl,hdl⟩ := hl
  unfold Builtin.SmallTypes.nextOf
  refine wpAny_bind (wpAny_callSpecial?_slot (name := Str.ofString "__next__") hit.typeIs F.slot_tuple_iterator_next
    (wpAny_call_entry F.slot_tuple_iterator_next hit.typeIs F.entry_tuple_iterator_next ?_ (F.args_tuple_iterator_next_1 _)))
  show wpAny _ _ (field (.ref it) 0 >>= _) _ _ s
  refine wpAny_bind (wpAny_field ho hd (x := .ref l) rfl ?_)
  show wpAny _ _ (if (Value.ref l == Value.none) = true then _ else _) _ _ s
  rw [if_neg (show ¬ ((Value.ref l == Value.none) = true) from Bool.false_ne_true)]
  show wpAny _ _ (field (.ref it) 1 >>= _) _ _ s
  refine wpAny_bind (wpAny_field ho hd (x := .int i 0) rfl ?_)
  show wpAny _ _ (seqItems? (.ref l) >>= _) _ _ s
  refine wpAny_bind (wpAny_seqItems hol hdl ?_)
  simp only [Int.toNat_natCast,hx]
  refine wpAny_bind (wpAny_setField ho hd (by simp) (wpAny_pure ⟨x,rfl,wpAny_pure (hQ _ ?_ (Heap.SameBut.update ..))⟩))
  exact ⟨_,Heap.get?_update_self _ ho (Obj.isFreed_of_fields (Obj.data_mapFields hd _)),(Obj.cls_mapFields ..).trans hc,by
    rw [Obj.data_mapFields hd]; simp [rawInt]⟩
theorem wpAny_nextOf_tuple_end {it l : Addr} {i : Nat} {items} {Q : Value -> Shared -> Prop} (hh : A.handled = none)
    (hit : s.heap.IsTupleIter it l i) (hl : s.heap.IsTuple l items) (hx : items[i]? = none)
    (hE : ∀ h' e,Heap.ExtBut it s.heap h' -> (∃ o,h'.get? e = some o /\ o.cls = .type "StopIteration") -> E (.ref e) { s with heap := h' }) :
    wpAny (model prog w) A (Builtin.SmallTypes.nextOf (.ref it)) Q E s := by
  obtain ⟨o,ho,hc,hd⟩ := id hit
  obtain ⟨ol,hol,_,nl,hdl⟩ := hl
  unfold Builtin.SmallTypes.nextOf
  refine wpAny_bind (wpAny_callSpecial?_slot (name := Str.ofString "__next__") hit.typeIs F.slot_tuple_iterator_next
    (wpAny_call_entry F.slot_tuple_iterator_next hit.typeIs F.entry_tuple_iterator_next ?_ (F.args_tuple_iterator_next_1 _)))
  show wpAny _ _ (field (.ref it) 0 >>= _) _ _ s
  refine wpAny_bind (wpAny_field ho hd (x := .ref l) rfl ?_)
  show wpAny _ _ (if (Value.ref l == Value.none) = true then _ else _) _ _ s
  rw [if_neg (show ¬ ((Value.ref l == Value.none) = true) from Bool.false_ne_true)]
  show wpAny _ _ (field (.ref it) 1 >>= _) _ _ s
  refine wpAny_bind (wpAny_field ho hd (x := .int i 0) rfl ?_)
  show wpAny _ _ (seqItems? (.ref l) >>= _) _ _ s
  refine wpAny_bind (wpAny_seqItems hol hdl ?_)
  simp only [Int.toNat_natCast,hx]
  refine wpAny_bind (wpAny_rule (wpAny_bind (wpAny_setField ho hd (by simp) ?_)))
  show wpAny _ _ (newExc (.type "StopIteration") [] >>= _) _ _ _
  refine wpAny_bind ?_
  simp only [newExc,newTuple]
  refine wpAny_bind (wpAny_newObj_type ?_ (by size_fits))
  refine wpAny_bind (m := firstArgMember _ _) (wpAny_of_eq (a := Value.none) (by first | rfl | (simp only [firstArgMember]; rfl)) ?_)
  refine wpAny_newObj_type ?_ (by size_fits)
  simp only [raiseNew]
  refine wpAny_bind (wpAny_handled ?_)
  first | rw [show A.in1.handled = none from hh] | rw [hh]
  refine wpAny_bind (wpAny_pure (wpAny_throw ?_))
  exact hE _ _ (((Heap.SameBut.update ..).extBut.push _).push _) ⟨_,Heap.get?_push_size _ rfl,rfl⟩
end
theorem Draws.tuple {prog : Program} {w : World} {A : Around} (hh : A.handled = none) (it l : Addr) (hne : l ≠ it) (items : Array Value) :
    Draws prog w A it [it,l] items.size (fun i v => items[i]? = some v) (fun i h => h.IsTupleIter it l i /\ h.IsTuple l items) where
  live := fun _ _ st => let ⟨o,ho,_⟩ := st.1; ⟨o,ho⟩
  frame := fun _ _ _ st hk => ⟨st.1.at fun o e => hk it (by simp) o e,st.2.at fun o e => hk l (by simp) o e⟩
  item := fun i s Q E hi st hQ => by
    refine wpAny_nextOf_tuple_item st.1 st.2 (x := items[i]) (by simp [hi]) fun h' hit' hs' => ?_
    exact hQ _ h' s.toks (by simp [hi]) ⟨hit',st.2.extBut hs'.extBut hne⟩ hs'
  done := fun s Q E st hE => wpAny_nextOf_tuple_end hh st.1 st.2 (by simp) hE
theorem meets_enumerate_newT (l : Addr) (items : Array Value) (n : Nat) (dct : Option Addr) (sl : Array (Option Value)) :
    Meets (Builtin.«enumerate.__new__» ⟨[.type "enumerate",.ref l],[]⟩) (fun _ R s => s.heap.get? l = some { cls := .type "tuple",dict := dct,data := .seq items n,slots := sl } /\
      R (.ok (.ret (.ref (s.heap.push { cls := .type "tuple_iterator",data := .fields #[.ref l,.int 0 0] }).objs.size)))
        { s with heap := (s.heap.push { cls := .type "tuple_iterator",data := .fields #[.ref l,.int 0 0] }).push { cls := .type "enumerate",data := .fields #[.none,.bool false,.ref s.heap.objs.size,rawInt 0,.none,.none] } }) :=
  .of_wp fun prog w A R s h => by
    obtain ⟨hp,g,d,tk,os⟩ := s; obtain ⟨hl,h⟩ := h
    have hsub := sub_enumerate
    have hL : Heap.IsTuple (Shared.heap ⟨hp,g,d,tk,os⟩) l items := ⟨_,hl,rfl,n,rfl⟩
    wp_walk using wpAny_loadPart' hl
    refine wpAny_stack_any fun st => wpAny_pure ?_
    split
    · rename_i c _ _ _ _ _
      cases (c == Value.type "enumerate")
      · wp_walk using wpAny_loadPart' hl,wpAny_pyIter_tuple hL
        exact ⟨_,rfl,h⟩
      · wp_walk using wpAny_loadPart' hl,wpAny_pyIter_tuple hL
        exact ⟨_,rfl,h⟩
    · wp_walk using wpAny_loadPart' hl,wpAny_pyIter_tuple hL
      exact ⟨_,rfl,h⟩
section
variable {prog : Program} {w : World} {A : Around} {E : Value -> Shared -> Prop} {s : Shared}
theorem call_enumerate_tuple {l : Addr} {items : Array Value} {Q : Value -> Shared -> Prop} (hL : s.heap.IsTuple l items)
    (h : ∀ h',IsEnum h' (s.heap.objs.size + 1) s.heap.objs.size 0 .none -> h'.IsTupleIter s.heap.objs.size l 0 -> h'.objs.size = s.heap.objs.size + 2 ->
      (∀ b o,s.heap.get? b = some o -> h'.get? b = some o) -> Q (.ref (s.heap.objs.size + 1)) { s with heap := h' }) :
    wpAny (model prog w) A (call (.type "enumerate") [.ref l]) Q E s := by
  obtain ⟨⟨c,dct,dt,sl⟩,hl,hc,n,hd⟩ := hL
  replace hc : c = .type "tuple" := hc
  replace hd : dt = .seq items n := hd
  subst hc hd
  refine callType_new F.called_enumerate (by decide) (F.typeCall_enumerate_1 _) (F.newCall_enumerate_1 _) (fun obj => F.args_object_init_2 obj _) F.entry_enumerate_new
    (meets_enumerate_newT l items n dct sl) ⟨hl,?_⟩
  have hz : (s.heap.push { cls := .type "tuple_iterator",data := .fields #[.ref l,.int 0 0] }).objs.size = s.heap.objs.size + 1 := Heap.size_push ..
  show _ /\ _
  rw [hz]
  have he : IsEnum ((s.heap.push { cls := .type "tuple_iterator",data := .fields #[.ref l,.int 0 0] }).push
      { cls := .type "enumerate",data := .fields #[.none,.bool false,.ref s.heap.objs.size,rawInt 0,.none,.none] }) (s.heap.objs.size + 1) s.heap.objs.size 0 .none := by
    have := Heap.get?_push_size (s.heap.push { cls := .type "tuple_iterator",data := .fields #[.ref l,.int 0 0] })
      (o := { cls := .type "enumerate",data := .fields #[.none,.bool false,.ref s.heap.objs.size,rawInt 0,.none,.none] }) rfl
    rw [hz] at this; exact this
  refine ⟨⟨_,he,rfl⟩,h _ he ⟨_,Heap.get?_push_of_some _ (Heap.get?_push_size _ rfl),rfl,rfl⟩ (by rw [Heap.size_push,hz]) fun b o x => Heap.get?_push_of_some _ (Heap.get?_push_of_some _ x)⟩
end
end PySem
namespace L2
open PySem PySem.Spec PyProof.Rows
theorem Inv.turnL {X : Cx} {pins : List (Addr × Obj)} {σ : St} {H : Hp} {s : Shared} {h' : Heap} {t' : Nat} {wr : List Addr} (I : Inv X pins σ H s) (k : ∀ b o,b ∉ wr -> s.heap.get? b = some o -> h'.get? b = some o) (f : ∀ b ∈ wr,FpOk X pins H b) : Inv X pins σ H { s with heap := h',toks := t' } := by
  have nit : ∀ b u,H b = some u -> b ∉ wr := fun b u e z => by rw [(f b z).1] at e; cases e
  refine I.step (g' := s.gens) (d' := s.drawn) (ch := wr) (fun b hb => ?_) (fun b o _ _ hc e _ => k b o hc e) (fun b o _ _ hc e _ => ⟨o.slots,k b o hc e⟩) (fun _ _ _ _ n => n)
    (fun b o hc e => ⟨o,k b o hc e⟩) (fun _ _ e => e) (fun _ _ _ e => e) (fun b ps e => ⟨#[],by rw [e]; simp⟩) (fun m hm => ?_) (fun b u e => ?_) I.bare
  · obtain ⟨_,a2,_,a4,a5,a6⟩ := f b hb
    exact ⟨a4,a2,a5,a6⟩
  · obtain ⟨o,es,ep,ho,r⟩ := hm
    exact ⟨o,es,ep,k _ o (fun z => (f _ z).2.1 rfl) ho,r⟩
  · refine (I.hok b u e).stay (fun c v hc q => k c v ?_ q) (fun _ q => q) fun _ _ q => q
    rcases hc with z | z
    · rw [z]; exact nit b u e
    · exact nit c _ z
theorem Inv.turnNew {X : Cx} {pins : List (Addr × Obj)} {σ : St} {H : Hp} {s : Shared} {h' : Heap} {t' : Nat} {wr : List Addr} {T : Addr} {xs : List V} {its : List Value} (I : Inv X pins σ H s) (k : ∀ b o,b ∉ wr -> s.heap.get? b = some o -> h'.get? b = some o) (f : ∀ b ∈ wr,FpOk X pins H b)
    (hT : s.heap.objs.size <= T) (hz : xs.length <= sizeLine) (r : Vals xs its) (ht : h'.IsTuple T its.toArray) : Inv X pins σ (upd H T (.tup xs)) { s with heap := h',toks := t' } := by
  have hn : H T = none := I.hok.fresh hT
  have nT : ∀ b o,s.heap.get? b = some o -> b ≠ T := fun b o e z => absurd (Heap.lt_size e) (by rw [z]; exact Nat.not_lt.mpr hT)
  have nit : ∀ b u,H b = some u -> b ∉ wr := fun b u e z => by rw [(f b z).1] at e; cases e
  refine I.step (g' := s.gens) (d' := s.drawn) (ch := wr) (fun b hb => ?_) (fun b o _ _ hc e _ => k b o hc e) (fun b o _ _ hc e _ => ⟨o.slots,k b o hc e⟩) (fun b o _ e n => by rw [upd_ne (nT b o e)]; exact n)
    (fun b o hc e => ⟨o,k b o hc e⟩) (fun b xs e => by rw [upd_ne (ne_of_none e hn)]; exact e) (fun b o u e => by rw [upd_ne (ne_of_none e hn)]; exact e) (fun b ps e => ⟨#[],by rw [upd_ne (ne_of_none e hn),e]; simp⟩) (fun m hm => ?_) (fun b u e => ?_) I.bare
  · obtain ⟨_,a2,_,a4,a5,a6⟩ := f b hb
    exact ⟨a4,a2,a5,a6⟩
  · obtain ⟨o,es,ep,ho,r⟩ := hm
    exact ⟨o,es,ep,k _ o (fun z => (f _ z).2.1 rfl) ho,r⟩
  · by_cases hb : b = T
    · subst hb
      rw [upd_same] at e
      cases e
      exact ⟨hz,its,r,ht⟩
    · rw [upd_ne hb] at e
      refine (I.hok b u e).stay (fun c v hc q => k c v ?_ q) (fun c q => by rw [upd_ne (ne_of_none q hn)]; exact q) fun c ys q => by rw [upd_ne (ne_of_none q hn)]; exact q
      rcases hc with z | z
      · rw [z]; exact nit b u e
      · exact nit c _ z
theorem for_it {J : It} {n : Nat} {g : TG} {tb : TS} {D : Ends} {σ : St} {H : Hp} (Pv : Nat -> St -> Hp -> Prop) (h0 : Pv 0 σ H) (hgo : ∀ i σ H,i < n -> Pv i σ H -> J.go i H) (hst : ∀ σ H,Pv n σ H -> J.stop n H)
    (hs : ∀ i x σ H H',i < n -> Pv i σ H -> J.yld i H x H' -> g x σ H' fun σ2 H2 => tb { D with nx := Pv (i + 1),ct := Pv (i + 1),bk := D.nx } σ2 H2) (hd : ∀ σ H,Pv n σ H -> D.nx σ H) :
    ∃ W : Nat -> Nat -> St -> Hp -> Prop,(∃ m,W 0 m σ H) /\ ∀ i m σ H,W i m σ H ->
      (J.stop i H /\ D.nx σ H) \/ (J.go i H /\ ∃ N : St -> Hp -> Prop,(∀ σ' H',N σ' H' -> ∃ m',m' < m /\ W (i + 1) m' σ' H') /\ ∀ x H',J.yld i H x H' -> g x σ H' fun σ2 H2 => tb { D with nx := N,ct := N,bk := D.nx } σ2 H2) := by
  refine ⟨fun i m σ H => m = n - i /\ i <= n /\ Pv i σ H,⟨n,by simp,Nat.zero_le _,h0⟩,?_⟩
  rintro i m σ H ⟨rfl,hi,p⟩
  by_cases hlt : i < n
  · exact .inr ⟨hgo i σ H hlt p,Pv (i + 1),fun σ' H' p' => ⟨n - (i + 1),by omega,rfl,hlt,p'⟩,fun x H' y => hs i x σ H H' hlt p y⟩
  · have e : i = n := by omega
    subst e
    exact .inl ⟨hst σ H p,hd σ H p⟩
theorem lc_it {J : It} {n : Nat} {M : List (Option Nat)} {σ : St} {g : TG} {tc : TT} {te : TE} {F : List V -> Hp -> Prop} {H : Hp} (Pv : Nat -> List V -> Hp -> Prop) (hz : n <= sizeLine) (h0 : Pv 0 [] H) (hgo : ∀ i ys H,i < n -> Pv i ys H -> J.go i H) (hst : ∀ ys H,Pv n ys H -> J.stop n H) (hl : ∀ i ys H,i <= n -> Pv i ys H -> ys.length <= i)
    (hs : ∀ i x ys H H',i < n -> Pv i ys H -> J.yld i H x H' -> g x (inSt M σ) H' fun σ2 H2 => tc σ2 H2 fun b H3 => if b = true then te σ2 H3 fun v H4 => Pv (i + 1) (ys ++ [v]) H4 else Pv (i + 1) ys H3)
    (hd : ∀ ys H,Pv n ys H -> F ys H) : LcGoal J M σ g tc te F H := by
  refine ⟨fun i m ys H => m = n - i /\ i <= n /\ Pv i ys H,⟨n,by simp,Nat.zero_le _,h0⟩,?_⟩
  rintro i m ys H ⟨rfl,hi,p⟩
  have hy := hl i ys H hi p
  refine ⟨by omega,?_⟩
  by_cases hlt : i < n
  · exact .inr ⟨hgo i ys H hlt p,by omega,Pv (i + 1),fun ys' H' p' => ⟨n - (i + 1),by omega,rfl,hlt,p'⟩,fun x H' y => hs i x ys H H' hlt p y⟩
  · have e : i = n := by omega
    subst e
    exact .inl ⟨hst ys H p,hd ys H p⟩
def IteT (K : PySem.W.Frag) (a : Addr) : It :=
  ⟨fun i H => ∃ xs x,SqT K H a xs /\ xs[i]? = some x,fun i H x H' => ∃ T y,H T = none /\ x = .ref T /\ H' = upd H T (.tup [.int (i : Int),y]) /\ ∀ xs,SqT K H a xs -> xs[i]? = some y,fun i H => ∃ xs,SqT K H a xs /\ xs.length <= i⟩
theorem turn_enumT {P : Program} {w : World} {K : PySem.W.Frag} {elts : List Expr} {kk : Nat} {ps : Pos} (a e it : Addr) (hei : e ≠ it) : Turn P w K (.Tuple elts kk ps) (IteT K a) [e,it] e (fun i h => (∃ old,IsEnum h e it i old) /\ h.IsTupleIter it a i) where
  mem := by simp
  obj := fun i h st b hb => by
    obtain ⟨⟨old,h1⟩,o,e2,c,d⟩ := st
    rcases List.mem_cons.mp hb with rfl | hb
    · exact ⟨_,h1,fun v z => by cases z⟩
    · have : b = it := by simpa using hb
      subst this
      exact ⟨o,e2,fun v z => by rw [d] at z; cases z⟩
  keep := fun i h h' st k => ⟨let ⟨old,h1⟩ := st.1; ⟨old,k e (by simp) _ h1⟩,let ⟨o,h1,r⟩ := st.2; ⟨o,k it (by simp) _ h1,r⟩⟩
  item := by
    intro X hP hw hK hc i pins s σ H E I hf st hg
    subst hP hw hK
    obtain ⟨xs,x,hq,hx⟩ := hg
    obtain ⟨its,rv,p,hz⟩ := I.tuple hq
    obtain ⟨u,hu,ru⟩ := rv.get hx
    have hp : s.heap.IsTuple a its.toArray := show s.heap.IsTuple a its.toArray from p
    have hai : a ≠ it := fun z => by
      obtain ⟨o1,e1,c1,_⟩ := hp
      obtain ⟨o2,e2,c2,_⟩ := st.2
      rw [z,e2] at e1; cases e1; rw [c1] at c2; injection c2 with c3; exact absurd c3 (by decide)
    have hea : e ≠ a := fun z => by
      obtain ⟨o1,e1,c1,_⟩ := hp
      obtain ⟨old,e2⟩ := st.1
      rw [<- z,e2] at e1; cases e1; injection c1 with c3; exact absurd c3 (by decide)
    have hh : X.A.in1.handled = none := I.ok.hd hc
    have W := WalksT.enumerateD (Draws.tuple (prog := X.prog) (w := X.w) hh it a hai its.toArray) e hei (by simp [hei,hea]) (by simp)
    have il : i < its.toArray.size := by
      have := (List.getElem?_eq_some_iff.mp hu).1
      simpa using this
    refine W.item i s _ _ il ⟨st.1,st.2,hp⟩ fun T vals h' tk hP hT ht mid k => ?_
    obtain ⟨t,y,hy,rfl⟩ := hP
    have ey : y = u := by
      have : its.toArray[i]? = some u := by simpa using hu
      rw [this] at hy; exact (Option.some.inj hy).symm
    subst ey
    have hf' : ∀ b ∈ [e,it],FpOk X pins H b := hf
    have I1 : Inv X pins σ (upd H T (.tup [.int (i : Int),x])) { s with heap := h',toks := tk } := I.turnNew (its := [.int i t,y]) k hf' hT (by simp [le_line]) (.cons ⟨t,rfl⟩ (.cons ru .nil)) ht
    have hTn : H T = none := I.hok.fresh hT
    have hne : ∀ b ∈ [e,it],upd H T (.tup [.int (i : Int),x]) b = none := fun b hb => by
      have hbT : b ≠ T := fun z => absurd hb (by rw [z]; exact W.apart _ _ _ mid)
      rw [upd_ne hbT]; exact (hf b hb).1
    refine ⟨_,rfl,W.go elts kk ps i T { s with heap := h',toks := tk } _ E mid fun h'' st2 k2 => ?_⟩
    refine ⟨.ref T,upd H T (.tup [.int (i : Int),x]),I1.turnL (t' := tk) (wr := [e,it]) k2 (fun b hb => ⟨hne b hb,(hf b hb).2⟩),rfl,⟨T,x,hTn,rfl,rfl,fun ys hy => by rw [I.tuple_inj hy hq]; exact hx⟩,⟨st2.1,st2.2.1⟩,hne⟩
  done := by
    intro X hP hw hK hc i pins s σ H E I hf st hg
    subst hP hw hK
    obtain ⟨xs,hq,hx⟩ := hg
    obtain ⟨its,rv,p,hz⟩ := I.tuple hq
    have hp : s.heap.IsTuple a its.toArray := show s.heap.IsTuple a its.toArray from p
    have hai : a ≠ it := fun z => by
      obtain ⟨o1,e1,c1,_⟩ := hp
      obtain ⟨o2,e2,c2,_⟩ := st.2
      rw [z,e2] at e1; cases e1; rw [c1] at c2; injection c2 with c3; exact absurd c3 (by decide)
    have hh : X.A.in1.handled = none := I.ok.hd hc
    have hl := rv.length
    have st2 := st.2
    obtain ⟨old,st1⟩ := st.1
    unfold pyNext
    have hT : s.TypeIs (.ref e) "enumerate" := ⟨_,st1,rfl⟩
    refine wpAny_bind (wpAny_attempt (wpAny_callSpecial?_slot (name := Str.ofString "__next__") hT F.slot_enumerate_next (wpAny_call_entry F.slot_enumerate_next hT F.entry_enumerate_next ?_ (F.args_enumerate_next_1 _))))
    show wpAny _ _ (field (.ref e) 2 >>= _) _ _ _
    refine wpAny_bind (wpAny_field st1 rfl (x := .ref it) rfl ?_)
    refine wpAny_bind (wpAny_nextOf_tuple_end hh st2 hp (by simp; omega) fun h' x he' hx' => ?_)
    obtain ⟨o,ho,hc'⟩ := hx'
    refine wpAny_bind (wpAny_isInstance (T := "StopIteration") (b := true) ⟨o,ho,hc'⟩ isSubtype_stop ?_)
    exact wpAny_pure ⟨rfl,I.turnL (t' := s.toks) (wr := [it]) (fun b o hb q => he' b o (by simpa using hb) q) fun b hb => hf b (List.mem_cons_of_mem _ hb)⟩
  self := fun _ _ _ _ _ st h => let ⟨_,h1⟩ := st.1; wpAny_pyIter_enum h1 h
def iEnumT (K : PySem.W.Frag) (ta : TA) : TI := fun σ H R => ta σ H fun vs H1 => ∃ a,vs = [.ref a] /\ (∃ xs,SqT K H1 a xs) /\ R (IteT K a) H1
theorem pi_enumT {X : Cx} {K : PySem.W.Frag} {elts : List Expr} {kk : Nat} {ps p pos : Pos} {l : Expr} {ta : TA} (hg : Gl X "enumerate") (hm : X.mg "enumerate" = none) (ha : PA X [l] ta) (hs : starEach [l] X.env = [(false,eval l X.env)] := by rfl) (h : X.K = K := by rfl) :
    PI X (.Tuple elts kk ps) (.Call (.Name "enumerate" p) [l] [] pos) (iEnumT K ta) := by
  subst h
  intro pins s σ H R I h
  refine Call_ (ld_blt I hg hm (PyProof.Rows.boot_enumerate) (PyProof.Rows.callWith_type1 (thn (ha pos pins s σ H _ I h) fun us s1 ⟨vs,H1,I1,r1,q1⟩ => ?_) hs rfl))
  obtain ⟨a,e,⟨xs,hq⟩,q⟩ := q1
  subst e
  obtain ⟨u,rfl,ru⟩ := r1.one
  cases ru
  obtain ⟨its,rv,p,hz⟩ := I1.tuple hq
  have hp : s1.heap.IsTuple a its.toArray := show s1.heap.IsTuple a its.toArray from p
  refine call_enumerate_tuple hp fun h' he hit hsz hk => ?_
  have I2 : Inv X pins σ H1 { s1 with heap := h',toks := s1.toks } := I1.kept hk
  refine wpAny_pyIter_enum he ⟨_,[s1.heap.objs.size + 1,s1.heap.objs.size],_,_,H1,rfl,I2,turn_enumT a (s1.heap.objs.size + 1) s1.heap.objs.size (Nat.succ_ne_self _),⟨⟨_,he⟩,hit⟩,fun b hb => ?_,q⟩
  have hge : s1.heap.objs.size <= b := by
    rcases List.mem_cons.mp hb with rfl | hb
    · exact Nat.le_succ _
    · rw [List.mem_singleton.mp hb]; exact Nat.le_refl _
  exact I1.fpOk hge (I1.hok.fresh hge)
def IteL (K : PySem.W.Frag) (a : Addr) : It :=
  ⟨fun i H => ∃ xs x,SqL K H a xs /\ xs[i]? = some x,fun i H x H' => ∃ T y,H T = none /\ x = .ref T /\ H' = upd H T (.tup [.int (i : Int),y]) /\ ∀ xs,SqL K H a xs -> xs[i]? = some y,fun i H => ∃ xs,SqL K H a xs /\ xs.length <= i⟩
theorem turn_enumL {P : Program} {w : World} {K : PySem.W.Frag} {elts : List Expr} {kk : Nat} {ps : Pos} (a e it : Addr) (hei : e ≠ it) : Turn P w K (.Tuple elts kk ps) (IteL K a) [e,it] e (fun i h => (∃ old,IsEnum h e it i old) /\ h.IsListIter it a i) where
  mem := by simp
  obj := fun i h st b hb => by
    obtain ⟨⟨old,h1⟩,o,e2,c,d⟩ := st
    rcases List.mem_cons.mp hb with rfl | hb
    · exact ⟨_,h1,fun v z => by cases z⟩
    · have : b = it := by simpa using hb
      subst this
      exact ⟨o,e2,fun v z => by rw [d] at z; cases z⟩
  keep := fun i h h' st k => ⟨let ⟨old,h1⟩ := st.1; ⟨old,k e (by simp) _ h1⟩,let ⟨o,h1,r⟩ := st.2; ⟨o,k it (by simp) _ h1,r⟩⟩
  item := by
    intro X hP hw hK hc i pins s σ H E I hf st hg
    subst hP hw hK
    obtain ⟨xs,x,hq,hx⟩ := hg
    obtain ⟨its,rv,p,hz⟩ := I.list hq
    obtain ⟨u,hu,ru⟩ := rv.get hx
    have hp : s.heap.IsList a its.toArray := show s.heap.IsList a its.toArray from p.isList
    have hai : a ≠ it := fun z => by
      obtain ⟨o1,e1,c1,_⟩ := hp
      obtain ⟨o2,e2,c2,_⟩ := st.2
      rw [z,e2] at e1; cases e1; rw [c1] at c2; injection c2 with c3; exact absurd c3 (by decide)
    have hea : e ≠ a := fun z => by
      obtain ⟨o1,e1,c1,_⟩ := hp
      obtain ⟨old,e2⟩ := st.1
      rw [<- z,e2] at e1; cases e1; injection c1 with c3; exact absurd c3 (by decide)
    have hh : X.A.in1.handled = none := I.ok.hd hc
    have W := WalksT.enumerateD (Draws.list (prog := X.prog) (w := X.w) hh it a hai its.toArray) e hei (by simp [hei,hea]) (by simp)
    have il : i < its.toArray.size := by
      have := (List.getElem?_eq_some_iff.mp hu).1
      simpa using this
    refine W.item i s _ _ il ⟨st.1,st.2,hp⟩ fun T vals h' tk hP hT ht mid k => ?_
    obtain ⟨t,y,hy,rfl⟩ := hP
    have ey : y = u := by
      have : its.toArray[i]? = some u := by simpa using hu
      rw [this] at hy; exact (Option.some.inj hy).symm
    subst ey
    have hf' : ∀ b ∈ [e,it],FpOk X pins H b := hf
    have I1 : Inv X pins σ (upd H T (.tup [.int (i : Int),x])) { s with heap := h',toks := tk } := I.turnNew (its := [.int i t,y]) k hf' hT (by simp [le_line]) (.cons ⟨t,rfl⟩ (.cons ru .nil)) ht
    have hTn : H T = none := I.hok.fresh hT
    have hne : ∀ b ∈ [e,it],upd H T (.tup [.int (i : Int),x]) b = none := fun b hb => by
      have hbT : b ≠ T := fun z => absurd hb (by rw [z]; exact W.apart _ _ _ mid)
      rw [upd_ne hbT]; exact (hf b hb).1
    refine ⟨_,rfl,W.go elts kk ps i T { s with heap := h',toks := tk } _ E mid fun h'' st2 k2 => ?_⟩
    refine ⟨.ref T,upd H T (.tup [.int (i : Int),x]),I1.turnL (t' := tk) (wr := [e,it]) k2 (fun b hb => ⟨hne b hb,(hf b hb).2⟩),rfl,⟨T,x,hTn,rfl,rfl,fun ys hy => by rw [I.list_inj hy hq]; exact hx⟩,⟨st2.1,st2.2.1⟩,hne⟩
  done := by
    intro X hP hw hK hc i pins s σ H E I hf st hg
    subst hP hw hK
    obtain ⟨xs,hq,hx⟩ := hg
    obtain ⟨its,rv,p,hz⟩ := I.list hq
    have hp : s.heap.IsList a its.toArray := show s.heap.IsList a its.toArray from p.isList
    have hai : a ≠ it := fun z => by
      obtain ⟨o1,e1,c1,_⟩ := hp
      obtain ⟨o2,e2,c2,_⟩ := st.2
      rw [z,e2] at e1; cases e1; rw [c1] at c2; injection c2 with c3; exact absurd c3 (by decide)
    have hh : X.A.in1.handled = none := I.ok.hd hc
    have hl := rv.length
    have st2 := st.2
    obtain ⟨old,st1⟩ := st.1
    unfold pyNext
    have hT : s.TypeIs (.ref e) "enumerate" := ⟨_,st1,rfl⟩
    refine wpAny_bind (wpAny_attempt (wpAny_callSpecial?_slot (name := Str.ofString "__next__") hT F.slot_enumerate_next (wpAny_call_entry F.slot_enumerate_next hT F.entry_enumerate_next ?_ (F.args_enumerate_next_1 _))))
    show wpAny _ _ (field (.ref e) 2 >>= _) _ _ _
    refine wpAny_bind (wpAny_field st1 rfl (x := .ref it) rfl ?_)
    refine wpAny_bind (wpAny_nextOf_list_end hh st2 hp (by simp; omega) fun h' x he' hx' => ?_)
    obtain ⟨o,ho,hc'⟩ := hx'
    refine wpAny_bind (wpAny_isInstance (T := "StopIteration") (b := true) ⟨o,ho,hc'⟩ isSubtype_stop ?_)
    exact wpAny_pure ⟨rfl,I.turnL (t' := s.toks) (wr := [it]) (fun b o hb q => he' b o (by simpa using hb) q) fun b hb => hf b (List.mem_cons_of_mem _ hb)⟩
  self := fun _ _ _ _ _ st h => let ⟨_,h1⟩ := st.1; wpAny_pyIter_enum h1 h
def iEnumL (K : PySem.W.Frag) (ta : TA) : TI := fun σ H R => ta σ H fun vs H1 => ∃ a,vs = [.ref a] /\ (∃ xs,SqL K H1 a xs) /\ R (IteL K a) H1
theorem pi_enumL {X : Cx} {K : PySem.W.Frag} {elts : List Expr} {kk : Nat} {ps p pos : Pos} {l : Expr} {ta : TA} (hg : Gl X "enumerate") (hm : X.mg "enumerate" = none) (ha : PA X [l] ta) (hs : starEach [l] X.env = [(false,eval l X.env)] := by rfl) (h : X.K = K := by rfl) :
    PI X (.Tuple elts kk ps) (.Call (.Name "enumerate" p) [l] [] pos) (iEnumL K ta) := by
  subst h
  intro pins s σ H R I h
  refine Call_ (ld_blt I hg hm (PyProof.Rows.boot_enumerate) (PyProof.Rows.callWith_type1 (thn (ha pos pins s σ H _ I h) fun us s1 ⟨vs,H1,I1,r1,q1⟩ => ?_) hs rfl))
  obtain ⟨a,e,⟨xs,hq⟩,q⟩ := q1
  subst e
  obtain ⟨u,rfl,ru⟩ := r1.one
  cases ru
  obtain ⟨its,rv,p,hz⟩ := I1.list hq
  have hp : s1.heap.IsList a its.toArray := show s1.heap.IsList a its.toArray from p.isList
  refine call_enumerate_list hp fun h' he hit hsz hk => ?_
  have I2 : Inv X pins σ H1 { s1 with heap := h',toks := s1.toks } := I1.kept hk
  refine wpAny_pyIter_enum he ⟨_,[s1.heap.objs.size + 1,s1.heap.objs.size],_,_,H1,rfl,I2,turn_enumL a (s1.heap.objs.size + 1) s1.heap.objs.size (Nat.succ_ne_self _),⟨⟨_,he⟩,hit⟩,fun b hb => ?_,q⟩
  have hge : s1.heap.objs.size <= b := by
    rcases List.mem_cons.mp hb with rfl | hb
    · exact Nat.le_succ _
    · rw [List.mem_singleton.mp hb]; exact Nat.le_refl _
  exact I1.fpOk hge (I1.hok.fresh hge)
end L2
namespace PySem
open Sem (wp)
open AutoSeq1 (wpAny_loadPart')
section
variable {prog : Program} {w : World} {A : Around} {E : Value -> Shared -> Prop} {s : Shared}
theorem zip_next_itemT {z TI TO i1 i2 l1 l2 : Addr} {k1 k2 : Nat} {xs ys : Array Value} {x y a b : Value} {Q : Value -> Shared -> Prop} (D : ZipApart z TI TO i1 i2 l1 l2)
    (hz : IsZip s.heap z TI TO .none) (hTI : IsPair s.heap TI (.ref i1) (.ref i2)) (hTO : IsPair s.heap TO a b)
    (h1 : s.heap.IsTupleIter i1 l1 k1) (h2 : s.heap.IsTupleIter i2 l2 k2) (hl1 : s.heap.IsTuple l1 xs) (hl2 : s.heap.IsTuple l2 ys) (hx : xs[k1]? = some x) (hy : ys[k2]? = some y)
    (hQ : ∀ h',IsZip h' z TI TO (rawInt s.heap.objs.size) -> IsPair h' TO x y -> h'.IsTupleIter i1 l1 (k1 + 1) -> h'.IsTupleIter i2 l2 (k2 + 1) -> IsPair h' s.heap.objs.size x y -> h'.objs.size = s.heap.objs.size + 1 ->
      (∀ c o,c ≠ z -> c ≠ TO -> c ≠ i1 -> c ≠ i2 -> s.heap.get? c = some o -> h'.get? c = some o) -> Q (.ref s.heap.objs.size) { s with heap := h' }) :
    wpAny (model prog w) A (Builtin.«zip.__next__» ⟨[.ref z],[]⟩) (fun fin s' => ∃ v,fin = .done (.ret v) /\ Q v s') E s := by
  show wpAny _ _ (field (.ref z) 2 >>= _) _ _ _
  refine wpAny_bind (wpAny_field hz rfl (x := .bool false) rfl ?_)
  show wpAny _ _ (field (.ref z) 3 >>= _) _ _ _
  refine wpAny_bind (wpAny_field hz rfl (x := .ref TI) rfl ?_)
  refine wpAny_bind (wpAny_seqItems hTI rfl ?_)
  show wpAny _ _ (Builtin.SmallTypes.ownedTupleIsFree (.ref z) >>= _) _ _ _
  refine wpAny_bind ?_
  unfold Builtin.SmallTypes.ownedTupleIsFree
  refine wpAny_bind (wpAny_field hz rfl (x := .none) rfl (wpAny_pure ?_))
  simp only [if_true]
  refine wpAny_bind (wpAny_rule ?_)
  refine wpAny_bind (wpAny_field hz rfl (x := .ref TO) rfl ?_)
  refine wpAny_bind (wpAny_setField_rec hz (by simp) fun h₁ hz₁ hs₁ => ?_)
  replace hz₁ : IsZip h₁ z TI TO .ellipsis := hz₁
  refine wpAny_bind ?_
  simp only [List.zipIdx_cons,List.zipIdx_nil,List.forIn_cons,List.forIn_nil]
  refine wpAny_bind (wpAny_bind (wpAny_onRaise ?_))
  show wpAny _ _ (Builtin.SmallTypes.nextOf (.ref i1) >>= _) _ _ _
  refine wpAny_bind (wpAny_nextOf_tuple_item (h1.extBut hs₁.extBut D.i1z) (hl1.extBut hs₁.extBut D.l1z) hx fun h₂ h1₂ hs₂ => wpAny_pure ?_)
  have hTO₂ : IsPair h₂ TO a b := hs₂.extBut _ _ D.TOi1 (hs₁.extBut _ _ D.TOz hTO)
  refine wpAny_bind (wpAny_seqItems hTO₂ rfl ?_)
  refine wpAny_bind (wpAny_updateSeq_pair hTO₂ fun h₃ hTO₃ hs₃ => ?_)
  replace hTO₃ : IsPair h₃ TO x b := hTO₃
  refine wpAny_bind (wpAny_letGo (wpAny_pure ?_))
  refine wpAny_bind (wpAny_bind (wpAny_onRaise ?_))
  show wpAny _ _ (Builtin.SmallTypes.nextOf (.ref i2) >>= _) _ _ _
  refine wpAny_bind (wpAny_nextOf_tuple_item (((h2.extBut hs₁.extBut D.i2z).extBut hs₂.extBut D.i12.symm).extBut hs₃.extBut D.TOi2.symm)
    (((hl2.extBut hs₁.extBut D.l2z).extBut hs₂.extBut D.l2i1).extBut hs₃.extBut D.l2TO) hy fun h₄ h2₄ hs₄ => wpAny_pure ?_)
  have hTO₄ : IsPair h₄ TO x b := hs₄.extBut _ _ D.TOi2 hTO₃
  refine wpAny_bind (wpAny_seqItems hTO₄ rfl ?_)
  refine wpAny_bind (wpAny_updateSeq_pair hTO₄ fun h₅ hTO₅ hs₅ => ?_)
  replace hTO₅ : IsPair h₅ TO x y := hTO₅
  refine wpAny_bind (wpAny_letGo (wpAny_pure (wpAny_pure ?_)))
  refine wpAny_bind (wpAny_seqItems hTO₅ rfl ?_)
  refine wpAny_bind (wpAny_newTuple ?_)
  have hsz : h₅.objs.size = s.heap.objs.size := by rw [hs₅.1,hs₄.1,hs₃.1,hs₂.1,hs₁.1]
  have hz₅ : IsZip h₅ z TI TO .ellipsis := hs₅.extBut _ _ D.TOz.symm (hs₄.extBut _ _ D.i2z.symm (hs₃.extBut _ _ D.TOz.symm (hs₂.extBut _ _ D.i1z.symm hz₁)))
  have hk₅ : ∀ c o,c ≠ z -> c ≠ TO -> c ≠ i1 -> c ≠ i2 -> s.heap.get? c = some o -> h₅.get? c = some o := fun c o c1 c2 c3 c4 e =>
    hs₅.extBut _ _ c2 (hs₄.extBut _ _ c4 (hs₃.extBut _ _ c2 (hs₂.extBut _ _ c3 (hs₁.extBut _ _ c1 e))))
  have h1₅ : h₅.IsTupleIter i1 l1 (k1 + 1) := ((h1₂.extBut hs₃.extBut D.TOi1.symm).extBut hs₄.extBut D.i12).extBut hs₅.extBut D.TOi1.symm
  have h2₅ : h₅.IsTupleIter i2 l2 (k2 + 1) := h2₄.extBut hs₅.extBut D.TOi2.symm
  have hzlt : z < h₅.objs.size := Heap.lt_size hz₅
  have hTOlt : TO < h₅.objs.size := Heap.lt_size hTO₅
  have hi1lt : i1 < h₅.objs.size := by obtain ⟨_,e,_⟩ := h1₅; exact Heap.lt_size e
  have hi2lt : i2 < h₅.objs.size := by obtain ⟨_,e,_⟩ := h2₅; exact Heap.lt_size e
  show wpAny _ _ (Builtin.SmallTypes.ownedTupleHandOut (.ref z) (.ref h₅.objs.size) >>= _) _ _ _
  refine wpAny_bind ?_
  unfold Builtin.SmallTypes.ownedTupleHandOut
  have hz₆ : IsZip (h₅.push { cls := .type "tuple",data := .seq #[x,y] }) z TI TO .ellipsis := Heap.get?_push_of_some _ hz₅
  refine wpAny_bind (wpAny_setField_rec hz₆ (by simp) fun h₇ hz₇ hs₇ => ?_)
  replace hz₇ : IsZip h₇ z TI TO (rawInt h₅.objs.size) := hz₇
  refine wpAny_setField_rec hz₇ (by simp) fun h₈ hz₈ hs₈ => ?_
  replace hz₈ : IsZip h₈ z TI TO (rawInt h₅.objs.size) := hz₈
  have up : ∀ c o,c ≠ z -> h₅.get? c = some o -> h₈.get? c = some o := fun c o c1 e => hs₈.extBut _ _ c1 (hs₇.extBut _ _ c1 (Heap.get?_push_of_some _ e))
  have hT₈ : IsPair h₈ h₅.objs.size x y := hs₈.extBut _ _ (Nat.ne_of_gt hzlt) (hs₇.extBut _ _ (Nat.ne_of_gt hzlt) (Heap.get?_push_size _ rfl))
  have hz8 : h₈.objs.size = h₅.objs.size + 1 := by rw [hs₈.1,hs₇.1,Heap.size_push]
  rw [hsz] at hz₈ hT₈ hz8
  refine wpAny_pure ⟨_,rfl,?_⟩
  show Q (.ref h₅.objs.size) _
  rw [hsz]
  exact hQ h₈ hz₈ (up _ _ D.TOz hTO₅) (h1₅.at fun o e => up _ o D.i1z e) (h2₅.at fun o e => up _ o D.i2z e) hT₈ hz8 fun c o c1 c2 c3 c4 e => up c o c1 (hk₅ c o c1 c2 c3 c4 e)
theorem zip_next_endT {z TI TO i1 i2 l1 l2 : Addr} {k1 k2 : Nat} {xs ys : Array Value} {a b : Value} {Q : Fin -> Shared -> Prop} (hh : A.handled = none) (D : ZipApart z TI TO i1 i2 l1 l2)
    (hz : IsZip s.heap z TI TO .none) (hTI : IsPair s.heap TI (.ref i1) (.ref i2)) (hTO : IsPair s.heap TO a b)
    (h1 : s.heap.IsTupleIter i1 l1 k1) (h2 : s.heap.IsTupleIter i2 l2 k2) (hl1 : s.heap.IsTuple l1 xs) (hl2 : s.heap.IsTuple l2 ys) (hend : xs[k1]? = none \/ ys[k2]? = none)
    (hE : ∀ h' e,(∀ c o,c ≠ z -> c ≠ TO -> c ≠ i1 -> c ≠ i2 -> s.heap.get? c = some o -> h'.get? c = some o) -> (∃ o,h'.get? e = some o /\ o.cls = .type "StopIteration") -> E (.ref e) { s with heap := h' }) :
    wpAny (model prog w) A (Builtin.«zip.__next__» ⟨[.ref z],[]⟩) Q E s := by
  show wpAny _ _ (field (.ref z) 2 >>= _) _ _ _
  refine wpAny_bind (wpAny_field hz rfl (x := .bool false) rfl ?_)
  show wpAny _ _ (field (.ref z) 3 >>= _) _ _ _
  refine wpAny_bind (wpAny_field hz rfl (x := .ref TI) rfl ?_)
  refine wpAny_bind (wpAny_seqItems hTI rfl ?_)
  show wpAny _ _ (Builtin.SmallTypes.ownedTupleIsFree (.ref z) >>= _) _ _ _
  refine wpAny_bind ?_
  unfold Builtin.SmallTypes.ownedTupleIsFree
  refine wpAny_bind (wpAny_field hz rfl (x := .none) rfl (wpAny_pure ?_))
  simp only [if_true]
  refine wpAny_bind (wpAny_rule ?_)
  refine wpAny_bind (wpAny_field hz rfl (x := .ref TO) rfl ?_)
  refine wpAny_bind (wpAny_setField_rec hz (by simp) fun h₁ hz₁ hs₁ => ?_)
  replace hz₁ : IsZip h₁ z TI TO .ellipsis := hz₁
  refine wpAny_bind ?_
  simp only [List.zipIdx_cons,List.zipIdx_nil,List.forIn_cons,List.forIn_nil]
  refine wpAny_bind (wpAny_bind (wpAny_onRaise ?_))
  show wpAny _ _ (Builtin.SmallTypes.nextOf (.ref i1) >>= _) _ _ _
  cases hx : xs[k1]? with
  | none =>
    refine wpAny_bind (wpAny_nextOf_tuple_end hh (h1.extBut hs₁.extBut D.i1z) (hl1.extBut hs₁.extBut D.l1z) hx fun h₂ e hs₂ he => ?_)
    obtain ⟨oe,hoe,hce⟩ := he
    have hz₂ : IsZip h₂ z TI TO .ellipsis := hs₂ _ _ D.i1z.symm hz₁
    have hez : e ≠ z := fun x => by subst x; rw [hz₂] at hoe; cases hoe; simp at hce
    refine wpAny_setField_rec hz₂ (by simp) fun h₃ _ hs₃ => hE h₃ e (fun c o c1 _ c3 _ x => hs₃.extBut _ _ c1 (hs₂ _ _ c3 (hs₁.extBut _ _ c1 x))) ⟨oe,hs₃.extBut _ _ hez hoe,hce⟩
  | some x =>
    have hy : ys[k2]? = none := by rcases hend with h | h; rw [hx] at h; cases h; exact h
    refine wpAny_bind (wpAny_nextOf_tuple_item (h1.extBut hs₁.extBut D.i1z) (hl1.extBut hs₁.extBut D.l1z) hx fun h₂ h1₂ hs₂ => wpAny_pure ?_)
    have hTO₂ : IsPair h₂ TO a b := hs₂.extBut _ _ D.TOi1 (hs₁.extBut _ _ D.TOz hTO)
    refine wpAny_bind (wpAny_seqItems hTO₂ rfl ?_)
    refine wpAny_bind (wpAny_updateSeq_pair hTO₂ fun h₃ hTO₃ hs₃ => ?_)
    refine wpAny_bind (wpAny_letGo (wpAny_pure ?_))
    refine wpAny_bind (wpAny_bind (wpAny_onRaise ?_))
    show wpAny _ _ (Builtin.SmallTypes.nextOf (.ref i2) >>= _) _ _ _
    refine wpAny_bind (wpAny_nextOf_tuple_end hh (((h2.extBut hs₁.extBut D.i2z).extBut hs₂.extBut D.i12.symm).extBut hs₃.extBut D.TOi2.symm)
      (((hl2.extBut hs₁.extBut D.l2z).extBut hs₂.extBut D.l2i1).extBut hs₃.extBut D.l2TO) hy fun h₄ e hs₄ he => ?_)
    obtain ⟨oe,hoe,hce⟩ := he
    have hz₄ : IsZip h₄ z TI TO .ellipsis := hs₄ _ _ D.i2z.symm (hs₃.extBut _ _ D.TOz.symm (hs₂.extBut _ _ D.i1z.symm hz₁))
    have hez : e ≠ z := fun x => by subst x; rw [hz₄] at hoe; cases hoe; simp at hce
    refine wpAny_setField_rec hz₄ (by simp) fun h₅ _ hs₅ => hE h₅ e (fun c o c1 c2 c3 c4 x => hs₅.extBut _ _ c1 (hs₄ _ _ c4 (hs₃.extBut _ _ c2 (hs₂.extBut _ _ c3 (hs₁.extBut _ _ c1 x))))) ⟨oe,hs₅.extBut _ _ hez hoe,hce⟩
theorem wpAny_pyNext_zip_itemT {z TI TO i1 i2 l1 l2 : Addr} {k1 k2 : Nat} {xs ys : Array Value} {x y a b : Value} {Q : Option Value -> Shared -> Prop} (D : ZipApart z TI TO i1 i2 l1 l2)
    (hz : IsZip s.heap z TI TO .none) (hTI : IsPair s.heap TI (.ref i1) (.ref i2)) (hTO : IsPair s.heap TO a b)
    (h1 : s.heap.IsTupleIter i1 l1 k1) (h2 : s.heap.IsTupleIter i2 l2 k2) (hl1 : s.heap.IsTuple l1 xs) (hl2 : s.heap.IsTuple l2 ys) (hx : xs[k1]? = some x) (hy : ys[k2]? = some y)
    (hQ : ∀ h',IsZip h' z TI TO (rawInt s.heap.objs.size) -> IsPair h' TO x y -> h'.IsTupleIter i1 l1 (k1 + 1) -> h'.IsTupleIter i2 l2 (k2 + 1) -> IsPair h' s.heap.objs.size x y -> h'.objs.size = s.heap.objs.size + 1 ->
      (∀ c o,c ≠ z -> c ≠ TO -> c ≠ i1 -> c ≠ i2 -> s.heap.get? c = some o -> h'.get? c = some o) -> Q (some (.ref s.heap.objs.size)) { s with heap := h' }) :
    wpAny (model prog w) A (pyNext (.ref z)) Q E s := by
  have hT : s.TypeIs (.ref z) "zip" := ⟨_,hz,rfl⟩
  unfold pyNext
  exact wpAny_bind (wpAny_attempt (wpAny_callSpecial?_slot (name := Str.ofString "__next__") hT F.slot_zip_next
    (wpAny_call_entry F.slot_zip_next hT F.entry_zip_next
      (zip_next_itemT D hz hTI hTO h1 h2 hl1 hl2 hx hy fun h' a1 a2 a3 a4 a5 a6 a7 => wpAny_pure (hQ h' a1 a2 a3 a4 a5 a6 a7)) (F.args_zip_next_1 _))))
theorem wpAny_pyNext_zip_endT {z TI TO i1 i2 l1 l2 : Addr} {k1 k2 : Nat} {xs ys : Array Value} {a b : Value} {Q : Option Value -> Shared -> Prop} (hh : A.handled = none) (D : ZipApart z TI TO i1 i2 l1 l2)
    (hz : IsZip s.heap z TI TO .none) (hTI : IsPair s.heap TI (.ref i1) (.ref i2)) (hTO : IsPair s.heap TO a b)
    (h1 : s.heap.IsTupleIter i1 l1 k1) (h2 : s.heap.IsTupleIter i2 l2 k2) (hl1 : s.heap.IsTuple l1 xs) (hl2 : s.heap.IsTuple l2 ys) (hend : xs[k1]? = none \/ ys[k2]? = none)
    (hQ : ∀ h',(∀ c o,c ≠ z -> c ≠ TO -> c ≠ i1 -> c ≠ i2 -> s.heap.get? c = some o -> h'.get? c = some o) -> Q none { s with heap := h' }) : wpAny (model prog w) A (pyNext (.ref z)) Q E s := by
  have hT : s.TypeIs (.ref z) "zip" := ⟨_,hz,rfl⟩
  unfold pyNext
  refine wpAny_bind (wpAny_attempt (wpAny_callSpecial?_slot (name := Str.ofString "__next__") hT F.slot_zip_next
    (wpAny_call_entry F.slot_zip_next hT F.entry_zip_next (zip_next_endT hh D hz hTI hTO h1 h2 hl1 hl2 hend fun h' e hk he => ?_) (F.args_zip_next_1 _))))
  obtain ⟨o,ho,hc⟩ := he
  refine wpAny_bind (wpAny_isInstance (T := "StopIteration") (b := true) ⟨o,ho,hc⟩ isSubtype_stop ?_)
  exact wpAny_pure (hQ _ hk)
end
abbrev zipT1 (h : Heap) (l1 : Addr) : Heap := h.push { cls := .type "tuple_iterator",data := .fields #[.ref l1,.int 0 0] }
abbrev zipT2 (h : Heap) (l1 l2 : Addr) : Heap := (zipT1 h l1).push { cls := .type "tuple_iterator",data := .fields #[.ref l2,.int 0 0] }
abbrev zipT3 (h : Heap) (l1 l2 : Addr) : Heap := (zipT2 h l1 l2).push { cls := .type "tuple",data := .seq #[.ref h.objs.size,.ref (zipT1 h l1).objs.size] }
abbrev zipT4 (h : Heap) (l1 l2 : Addr) : Heap := (zipT3 h l1 l2).push { cls := .type "tuple",data := .seq #[.none,.none] }
abbrev zipT5 (h : Heap) (l1 l2 : Addr) : Heap := (zipT4 h l1 l2).push { cls := .type "zip",data := .fields #[.none,.bool false,.bool false,.ref (zipT2 h l1 l2).objs.size,.ref (zipT3 h l1 l2).objs.size] }
theorem meets_zip_newT (l1 l2 : Addr) (xs ys : Array Value) :
    Meets (Builtin.«zip.__new__» ⟨[.type "zip",.ref l1,.ref l2],[]⟩) (fun _ R s => s.heap.IsTuple l1 xs /\ s.heap.IsTuple l2 ys /\
      R (.ok (.ret (.ref (zipT4 s.heap l1 l2).objs.size))) { s with heap := zipT5 s.heap l1 l2 }) :=
  .of_wp fun prog w A R s h => by
    obtain ⟨hp,g,d,tk,os⟩ := s; obtain ⟨hl1,hl2,h⟩ := h
    have hsub := sub_zip
    have hL1 : Heap.IsTuple (Shared.heap ⟨hp,g,d,tk,os⟩) l1 xs := hl1
    have hL2 : Heap.IsTuple (Shared.heap ⟨hp.push { cls := .type "tuple_iterator",data := .fields #[.ref l1,.int 0 0] },g,d,tk,os⟩) l2 ys := Heap.IsTuple.push hl2 _
    wp_walk using wpAny_pyIter_tuple hL1,wpAny_pyIter_tuple hL2
    exact ⟨_,rfl,h⟩
section
variable {prog : Program} {w : World} {A : Around} {E : Value -> Shared -> Prop} {s : Shared}
theorem call_zip_2T {l1 l2 : Addr} {xs ys : Array Value} {Q : Value -> Shared -> Prop} (hl1 : s.heap.IsTuple l1 xs) (hl2 : s.heap.IsTuple l2 ys)
    (h : ∀ h',IsZip h' (s.heap.objs.size + 4) (s.heap.objs.size + 2) (s.heap.objs.size + 3) .none -> IsPair h' (s.heap.objs.size + 2) (.ref s.heap.objs.size) (.ref (s.heap.objs.size + 1)) ->
      IsPair h' (s.heap.objs.size + 3) .none .none -> h'.IsTupleIter s.heap.objs.size l1 0 -> h'.IsTupleIter (s.heap.objs.size + 1) l2 0 -> h'.objs.size = s.heap.objs.size + 5 ->
      (∀ c o,s.heap.get? c = some o -> h'.get? c = some o) -> Q (.ref (s.heap.objs.size + 4)) { s with heap := h' }) :
    wpAny (model prog w) A (call (.type "zip") [.ref l1,.ref l2]) Q E s := by
  refine callType_new F.called_zip (by decide) (F.typeCall_zip_2 _ _) (F.newCall_zip_2 _ _) (fun obj => F.args_object_init_3 obj _ _) F.entry_zip_new
    (meets_zip_newT l1 l2 xs ys) ⟨hl1,hl2,?_⟩
  have z1 : (zipT1 s.heap l1).objs.size = s.heap.objs.size + 1 := Heap.size_push ..
  have z2 : (zipT2 s.heap l1 l2).objs.size = s.heap.objs.size + 2 := by rw [Heap.size_push,z1]
  have z3 : (zipT3 s.heap l1 l2).objs.size = s.heap.objs.size + 3 := by rw [Heap.size_push,z2]
  have z4 : (zipT4 s.heap l1 l2).objs.size = s.heap.objs.size + 4 := by rw [Heap.size_push,z3]
  have z5 : (zipT5 s.heap l1 l2).objs.size = s.heap.objs.size + 5 := by rw [Heap.size_push,z4]
  have g5 : (zipT5 s.heap l1 l2).get? (zipT4 s.heap l1 l2).objs.size = some _ := Heap.get?_push_size _ rfl
  have g4 : (zipT5 s.heap l1 l2).get? (zipT3 s.heap l1 l2).objs.size = some _ := Heap.get?_push_of_some _ (Heap.get?_push_size _ rfl)
  have g3 : (zipT5 s.heap l1 l2).get? (zipT2 s.heap l1 l2).objs.size = some _ := Heap.get?_push_of_some _ (Heap.get?_push_of_some _ (Heap.get?_push_size _ rfl))
  have g2 : (zipT5 s.heap l1 l2).get? (zipT1 s.heap l1).objs.size = some _ := Heap.get?_push_of_some _ (Heap.get?_push_of_some _ (Heap.get?_push_of_some _ (Heap.get?_push_size _ rfl)))
  have g1 : (zipT5 s.heap l1 l2).get? s.heap.objs.size = some _ := Heap.get?_push_of_some _ (Heap.get?_push_of_some _ (Heap.get?_push_of_some _ (Heap.get?_push_of_some _ (Heap.get?_push_size _ rfl))))
  show _ /\ _
  rw [z2,z3,z4] at g5
  rw [z1,z2] at g3
  rw [z3] at g4
  rw [z1] at g2
  rw [z4]
  exact ⟨⟨_,g5,rfl⟩,h _ g5 g3 g4 ⟨_,g1,rfl,rfl⟩ ⟨_,g2,rfl,rfl⟩ z5 fun c o x =>
    Heap.get?_push_of_some _ (Heap.get?_push_of_some _ (Heap.get?_push_of_some _ (Heap.get?_push_of_some _ (Heap.get?_push_of_some _ x))))⟩
theorem WalksT.zip2T (hh : A.handled = none) (z TI TO i1 i2 l1 l2 : Addr) (D : ZipApart z TI TO i1 i2 l1 l2) (xs ys : Array Value) :
    WalksT prog w A z [z,TI,TO,i1,i2,l1,l2] [z,TO,i1,i2] (min xs.size ys.size)
      (fun i vals => ∃ x y,xs[i]? = some x /\ ys[i]? = some y /\ vals = #[x,y])
      (fun i h => IsZip h z TI TO .none /\ IsPair h TI (.ref i1) (.ref i2) /\ (∃ a b,IsPair h TO a b) /\ h.IsTupleIter i1 l1 i /\ h.IsTupleIter i2 l2 i /\ h.IsTuple l1 xs /\ h.IsTuple l2 ys)
      (fun i T h => IsZip h z TI TO (rawInt T) /\ IsPair h TI (.ref i1) (.ref i2) /\ (∃ a b,IsPair h TO a b) /\ h.IsTupleIter i1 l1 (i + 1) /\ h.IsTupleIter i2 l2 (i + 1) /\ h.IsTuple l1 xs /\ h.IsTuple l2 ys /\
        T ≠ z /\ T ≠ TO /\ T ≠ i1 /\ T ≠ i2) where
  sub := fun c hc => by simp at hc ⊢; rcases hc with rfl | rfl | rfl | rfl <;> simp
  frame := fun i h h' hst hk => by
    obtain ⟨hz,hTI,⟨a,b,hTO⟩,h1,h2,hl1,hl2⟩ := hst
    exact ⟨hk z (by simp) _ hz,hk TI (by simp) _ hTI,⟨a,b,hk TO (by simp) _ hTO⟩,h1.at fun o e => hk i1 (by simp) o e,h2.at fun o e => hk i2 (by simp) o e,
      hl1.at fun o e => hk l1 (by simp) o e,hl2.at fun o e => hk l2 (by simp) o e⟩
  item := fun i s Q E hi hst hQ => by
    obtain ⟨hz,hTI,⟨a,b,hTO⟩,h1,h2,hl1,hl2⟩ := hst
    have hix : i < xs.size := Nat.lt_of_lt_of_le hi (Nat.min_le_left ..)
    have hiy : i < ys.size := Nat.lt_of_lt_of_le hi (Nat.min_le_right ..)
    refine wpAny_pyNext_zip_itemT D hz hTI hTO h1 h2 hl1 hl2 (Array.getElem?_eq_getElem hix) (Array.getElem?_eq_getElem hiy) fun h' a1 a2 a3 a4 a5 a6 hk => ?_
    have lt : ∀ {c o},s.heap.get? c = some o -> s.heap.objs.size ≠ c := fun e => Nat.ne_of_gt (Heap.lt_size e)
    exact hQ s.heap.objs.size #[xs[i],ys[i]] h' s.toks ⟨_,_,Array.getElem?_eq_getElem hix,Array.getElem?_eq_getElem hiy,rfl⟩ (Nat.le_refl _) ⟨_,a5,rfl,_,rfl⟩
      ⟨a1,hk _ _ D.TIz D.TITO D.TIi1 D.TIi2 hTI,⟨_,_,a2⟩,a3,a4,hl1.at fun o e => hk _ o D.l1z D.l1TO D.l1i1 D.l1i2 e,hl2.at fun o e => hk _ o D.l2z D.l2TO D.l2i1 D.l2i2 e,
        lt hz,lt hTO,(by obtain ⟨_,e,_⟩ := h1; exact lt e),(by obtain ⟨_,e,_⟩ := h2; exact lt e)⟩
      fun c o hc e => hk c o (fun x => hc (by simp [x])) (fun x => hc (by simp [x])) (fun x => hc (by simp [x])) (fun x => hc (by simp [x])) e
  go := fun elts k pos i T s Q E hm hQ => by
    obtain ⟨hz,hTI,⟨a,b,hTO⟩,h1,h2,hl1,hl2,_⟩ := hm
    refine wpAny_letOwnedTupleGo_zip hz fun h' hz' hs' => hQ h' ⟨hz',hs'.extBut _ _ D.TIz hTI,⟨a,b,hs'.extBut _ _ D.TOz hTO⟩,h1.extBut hs'.extBut D.i1z,h2.extBut hs'.extBut D.i2z,
      hl1.extBut hs'.extBut D.l1z,hl2.extBut hs'.extBut D.l2z⟩ fun c o hc e => hs'.extBut _ _ (fun x => hc (by simp [x])) e
  apart := fun i T h hm hT => by
    obtain ⟨_,_,_,_,_,_,_,t1,t2,t3,t4⟩ := hm
    simp at hT
    rcases hT with rfl | rfl | rfl | rfl
    · exact t1 rfl
    · exact t2 rfl
    · exact t3 rfl
    · exact t4 rfl
  done := fun s Q E hst hQ => by
    obtain ⟨hz,hTI,⟨a,b,hTO⟩,h1,h2,hl1,hl2⟩ := hst
    have hend : xs[min xs.size ys.size]? = none \/ ys[min xs.size ys.size]? = none := by
      rcases Nat.le_total xs.size ys.size with h | h
      · exact .inl (by rw [Nat.min_eq_left h]; exact Array.getElem?_eq_none (Nat.le_refl _))
      · exact .inr (by rw [Nat.min_eq_right h]; exact Array.getElem?_eq_none (Nat.le_refl _))
    exact wpAny_pyNext_zip_endT hh D hz hTI hTO h1 h2 hl1 hl2 hend fun h' hk => hQ h' s.toks fun c o hc e =>
      hk c o (fun x => hc (by simp [x])) (fun x => hc (by simp [x])) (fun x => hc (by simp [x])) (fun x => hc (by simp [x])) e
  self := fun i s Q E hst hQ => wpAny_pyIter_zip hst.1 hQ
end
end PySem
namespace L2
open PySem PySem.Spec PyProof.Rows
def ItzT (K : PySem.W.Frag) (a b : Addr) : It :=
  ⟨fun i H => ∃ xs ys x y,SqT K H a xs /\ SqT K H b ys /\ xs[i]? = some x /\ ys[i]? = some y,fun i H v H' => ∃ T x y,H T = none /\ v = .ref T /\ H' = upd H T (.tup [x,y]) /\ (∀ xs,SqT K H a xs -> xs[i]? = some x) /\ (∀ ys,SqT K H b ys -> ys[i]? = some y),
    fun i H => ∃ xs ys,SqT K H a xs /\ SqT K H b ys /\ i = min xs.length ys.length⟩
theorem turn_zipT {P : Program} {w : World} {K : PySem.W.Frag} {elts : List Expr} {kk : Nat} {ps : Pos} {a b z TI TO i1 i2 : Addr} (D : ZipApart z TI TO i1 i2 a b) : Turn P w K (.Tuple elts kk ps) (ItzT K a b) [z,TI,TO,i1,i2] z
    (fun i h => IsZip h z TI TO .none /\ IsPair h TI (.ref i1) (.ref i2) /\ (∃ c d,IsPair h TO c d) /\ h.IsTupleIter i1 a i /\ h.IsTupleIter i2 b i) where
  mem := by simp
  obj := fun i h st c hc => by
    obtain ⟨g1,g2,⟨_,_,g3⟩,⟨o4,e4,_,d4⟩,o5,e5,_,d5⟩ := st
    simp only [List.mem_cons,List.not_mem_nil,or_false] at hc
    rcases hc with rfl | rfl | rfl | rfl | rfl
    · exact ⟨_,g1,fun v q => by cases q⟩
    · exact ⟨_,g2,fun v q => by cases q⟩
    · exact ⟨_,g3,fun v q => by cases q⟩
    · exact ⟨_,e4,fun v q => by rw [d4] at q; cases q⟩
    · exact ⟨_,e5,fun v q => by rw [d5] at q; cases q⟩
  keep := fun i h h' st k => by
    obtain ⟨g1,g2,⟨_,_,g3⟩,⟨o4,e4,r4⟩,o5,e5,r5⟩ := st
    exact ⟨k z (by simp) _ g1,k TI (by simp) _ g2,⟨_,_,k TO (by simp) _ g3⟩,⟨o4,k i1 (by simp) _ e4,r4⟩,o5,k i2 (by simp) _ e5,r5⟩
  item := by
    intro X hP hw hK hc i pins s σ H E I hf st hg
    subst hP hw hK
    obtain ⟨xs,ys,x,y,hq1,hq2,hx,hy⟩ := hg
    obtain ⟨its1,rv1,p1,hz1⟩ := I.tuple hq1
    obtain ⟨its2,rv2,p2,hz2⟩ := I.tuple hq2
    obtain ⟨u1,hu1,ru1⟩ := rv1.get hx
    obtain ⟨u2,hu2,ru2⟩ := rv2.get hy
    have q1 : s.heap.IsTuple a its1.toArray := show s.heap.IsTuple a its1.toArray from p1
    have q2 : s.heap.IsTuple b its2.toArray := show s.heap.IsTuple b its2.toArray from p2
    have hh : X.A.handled = none := I.ok.hd hc
    have W := WalksT.zip2T (prog := X.prog) (w := X.w) hh z TI TO i1 i2 a b D its1.toArray its2.toArray
    have l1 := (List.getElem?_eq_some_iff.mp hu1).1
    have l2 := (List.getElem?_eq_some_iff.mp hu2).1
    obtain ⟨g1,g2,g3,g4,g5⟩ := st
    refine W.item i s _ _ (by simp only [List.size_toArray]; omega) ⟨g1,g2,g3,g4,g5,q1,q2⟩ fun T vals h' tk hP hT ht mid k => ?_
    obtain ⟨v1,v2,e1,e2,rfl⟩ := hP
    have ev1 : v1 = u1 := by
      have : its1.toArray[i]? = some u1 := by simpa using hu1
      rw [this] at e1; exact (Option.some.inj e1).symm
    have ev2 : v2 = u2 := by
      have : its2.toArray[i]? = some u2 := by simpa using hu2
      rw [this] at e2; exact (Option.some.inj e2).symm
    subst ev1 ev2
    have hf' : ∀ c ∈ [z,TO,i1,i2],FpOk X pins H c := fun c hc => hf c (by simp only [List.mem_cons,List.not_mem_nil,or_false] at hc ⊢; rcases hc with h | h | h | h <;> simp [h])
    have I1 : Inv X pins σ (upd H T (.tup [x,y])) { s with heap := h',toks := tk } := I.turnNew (its := [v1,v2]) k hf' hT (by simp [le_line]) (.cons ru1 (.cons ru2 .nil)) ht
    have hTn : H T = none := I.hok.fresh hT
    have hne : ∀ c ∈ [z,TI,TO,i1,i2],upd H T (.tup [x,y]) c = none := fun c hc => by
      have hcT : c ≠ T := fun q => by
        have : c < s.heap.objs.size := by
          obtain ⟨_,_,g3⟩ := g3
          obtain ⟨o4,e4,_⟩ := g4
          obtain ⟨o5,e5,_⟩ := g5
          simp only [List.mem_cons,List.not_mem_nil,or_false] at hc
          rcases hc with rfl | rfl | rfl | rfl | rfl
          · exact Heap.lt_size g1
          · exact Heap.lt_size g2
          · exact Heap.lt_size g3
          · exact Heap.lt_size e4
          · exact Heap.lt_size e5
        exact absurd this (by rw [q]; exact Nat.not_lt.mpr hT)
      rw [upd_ne hcT]; exact (hf c hc).1
    refine ⟨_,rfl,W.go elts kk ps i T { s with heap := h',toks := tk } _ E mid fun h'' st2 k2 => ?_⟩
    refine ⟨.ref T,upd H T (.tup [x,y]),I1.turnL (t' := tk) (wr := [z,TO,i1,i2]) k2 (fun c hc => ⟨hne c (by simp only [List.mem_cons,List.not_mem_nil,or_false] at hc ⊢; rcases hc with h | h | h | h <;> simp [h]),(hf' c hc).2⟩),rfl,
      ⟨T,x,y,hTn,rfl,rfl,fun zs hy => by rw [I.tuple_inj hy hq1]; exact hx,fun zs hy' => by rw [I.tuple_inj hy' hq2]; exact hy⟩,⟨st2.1,st2.2.1,st2.2.2.1,st2.2.2.2.1,st2.2.2.2.2.1⟩,hne⟩
  done := by
    intro X hP hw hK hc i pins s σ H E I hf st hg
    subst hP hw hK
    obtain ⟨xs,ys,hq1,hq2,hx⟩ := hg
    obtain ⟨its1,rv1,p1,hz1⟩ := I.tuple hq1
    obtain ⟨its2,rv2,p2,hz2⟩ := I.tuple hq2
    have q1 : s.heap.IsTuple a its1.toArray := show s.heap.IsTuple a its1.toArray from p1
    have q2 : s.heap.IsTuple b its2.toArray := show s.heap.IsTuple b its2.toArray from p2
    have hh : X.A.handled = none := I.ok.hd hc
    have W := WalksT.zip2T (prog := X.prog) (w := X.w) hh z TI TO i1 i2 a b D its1.toArray its2.toArray
    obtain ⟨g1,g2,g3,g4,g5⟩ := st
    have e1 := rv1.length
    have e2 := rv2.length
    have ei : i = min its1.toArray.size its2.toArray.size := by simp only [List.size_toArray]; rw [<- e1,<- e2]; exact hx
    subst ei
    exact W.done s _ _ ⟨g1,g2,g3,g4,g5,q1,q2⟩ fun h' tk k => ⟨rfl,I.turnL (t' := tk) (wr := [z,TO,i1,i2]) k fun c hc => hf c (by simp only [List.mem_cons,List.not_mem_nil,or_false] at hc ⊢; rcases hc with h | h | h | h <;> simp [h])⟩
  self := fun _ _ _ _ _ st h => wpAny_pyIter_zip st.1 h
def iZipT (K : PySem.W.Frag) (ta : TA) : TI := fun σ H R => ta σ H fun vs H1 => ∃ a b,vs = [.ref a,.ref b] /\ (∃ xs,SqT K H1 a xs) /\ (∃ ys,SqT K H1 b ys) /\ R (ItzT K a b) H1
theorem pi_zipT {X : Cx} {K : PySem.W.Frag} {elts : List Expr} {kk : Nat} {ps p pos : Pos} {l m : Expr} {ta : TA} (hg : Gl X "zip") (hm : X.mg "zip" = none) (ha : PA X [l,m] ta) (hs : starEach [l,m] X.env = [(false,eval l X.env),(false,eval m X.env)] := by rfl) (hs2 : starEach [m] X.env = [(false,eval m X.env)] := by rfl) (h : X.K = K := by rfl) :
    PI X (.Tuple elts kk ps) (.Call (.Name "zip" p) [l,m] [] pos) (iZipT K ta) := by
  subst h
  intro pins s σ H R I h
  refine Call_ (ld_blt I hg hm (PyProof.Rows.Boot.«zip») (PyProof.Rows.callWith_type1 (thn (ha pos pins s σ H _ I h) fun us s1 ⟨vs,H1,I1,r1,q1⟩ => ?_) (by rw [hs,hs2]) (by rw [hs2]; rfl)))
  obtain ⟨a,b,e,⟨xs,hq1⟩,⟨ys,hq2⟩,q⟩ := q1
  subst e
  obtain ⟨u1,u2,rfl,ru1,ru2⟩ := r1.two
  cases ru1
  cases ru2
  obtain ⟨its1,rv1,p1,hz1⟩ := I1.tuple hq1
  obtain ⟨its2,rv2,p2,hz2⟩ := I1.tuple hq2
  have q1 : s1.heap.IsTuple a its1.toArray := show s1.heap.IsTuple a its1.toArray from p1
  have q2 : s1.heap.IsTuple b its2.toArray := show s1.heap.IsTuple b its2.toArray from p2
  have al : @LT.lt Nat _ a s1.heap.objs.size := by obtain ⟨_,e,_⟩ := q1; exact Heap.lt_size e
  have bl : @LT.lt Nat _ b s1.heap.objs.size := by obtain ⟨_,e,_⟩ := q2; exact Heap.lt_size e
  refine call_zip_2T q1 q2 fun h' hz hTI hTO h1 h2 hsz hk => ?_
  have I2 : Inv X pins σ H1 { s1 with heap := h',toks := s1.toks } := I1.kept hk
  have D : ZipApart (s1.heap.objs.size + 4) (s1.heap.objs.size + 2) (s1.heap.objs.size + 3) s1.heap.objs.size (s1.heap.objs.size + 1) a b := by
    constructor <;> (intro q; have q : @Eq Nat _ _ := q; omega)
  refine wpAny_pyIter_zip hz ⟨_,[s1.heap.objs.size + 4,s1.heap.objs.size + 2,s1.heap.objs.size + 3,s1.heap.objs.size,s1.heap.objs.size + 1],_,_,H1,rfl,I2,turn_zipT D,⟨hz,hTI,⟨_,_,hTO⟩,h1,h2⟩,fun c hc => ?_,q⟩
  have hge : s1.heap.objs.size <= c := by
    simp only [List.mem_cons,List.not_mem_nil,or_false] at hc
    show @LE.le Nat _ _ c
    rcases hc with q | q | q | q | q <;> (have q : @Eq Nat _ _ := q; omega)
  exact I1.fpOk hge (I1.hok.fresh hge)
def ItzL (K : PySem.W.Frag) (a b : Addr) : It :=
  ⟨fun i H => ∃ xs ys x y,SqL K H a xs /\ SqL K H b ys /\ xs[i]? = some x /\ ys[i]? = some y,fun i H v H' => ∃ T x y,H T = none /\ v = .ref T /\ H' = upd H T (.tup [x,y]) /\ (∀ xs,SqL K H a xs -> xs[i]? = some x) /\ (∀ ys,SqL K H b ys -> ys[i]? = some y),
    fun i H => ∃ xs ys,SqL K H a xs /\ SqL K H b ys /\ i = min xs.length ys.length⟩
theorem turn_zipL {P : Program} {w : World} {K : PySem.W.Frag} {elts : List Expr} {kk : Nat} {ps : Pos} {a b z TI TO i1 i2 : Addr} (D : ZipApart z TI TO i1 i2 a b) : Turn P w K (.Tuple elts kk ps) (ItzL K a b) [z,TI,TO,i1,i2] z
    (fun i h => IsZip h z TI TO .none /\ IsPair h TI (.ref i1) (.ref i2) /\ (∃ c d,IsPair h TO c d) /\ h.IsListIter i1 a i /\ h.IsListIter i2 b i) where
  mem := by simp
  obj := fun i h st c hc => by
    obtain ⟨g1,g2,⟨_,_,g3⟩,⟨o4,e4,_,d4⟩,o5,e5,_,d5⟩ := st
    simp only [List.mem_cons,List.not_mem_nil,or_false] at hc
    rcases hc with rfl | rfl | rfl | rfl | rfl
    · exact ⟨_,g1,fun v q => by cases q⟩
    · exact ⟨_,g2,fun v q => by cases q⟩
    · exact ⟨_,g3,fun v q => by cases q⟩
    · exact ⟨_,e4,fun v q => by rw [d4] at q; cases q⟩
    · exact ⟨_,e5,fun v q => by rw [d5] at q; cases q⟩
  keep := fun i h h' st k => by
    obtain ⟨g1,g2,⟨_,_,g3⟩,⟨o4,e4,r4⟩,o5,e5,r5⟩ := st
    exact ⟨k z (by simp) _ g1,k TI (by simp) _ g2,⟨_,_,k TO (by simp) _ g3⟩,⟨o4,k i1 (by simp) _ e4,r4⟩,o5,k i2 (by simp) _ e5,r5⟩
  item := by
    intro X hP hw hK hc i pins s σ H E I hf st hg
    subst hP hw hK
    obtain ⟨xs,ys,x,y,hq1,hq2,hx,hy⟩ := hg
    obtain ⟨its1,rv1,p1,hz1⟩ := I.list hq1
    obtain ⟨its2,rv2,p2,hz2⟩ := I.list hq2
    obtain ⟨u1,hu1,ru1⟩ := rv1.get hx
    obtain ⟨u2,hu2,ru2⟩ := rv2.get hy
    have q1 : s.heap.IsList a its1.toArray := show s.heap.IsList a its1.toArray from p1.isList
    have q2 : s.heap.IsList b its2.toArray := show s.heap.IsList b its2.toArray from p2.isList
    have hh : X.A.handled = none := I.ok.hd hc
    have W := WalksT.zip2 (prog := X.prog) (w := X.w) hh z TI TO i1 i2 a b D its1.toArray its2.toArray
    have l1 := (List.getElem?_eq_some_iff.mp hu1).1
    have l2 := (List.getElem?_eq_some_iff.mp hu2).1
    obtain ⟨g1,g2,g3,g4,g5⟩ := st
    refine W.item i s _ _ (by simp only [List.size_toArray]; omega) ⟨g1,g2,g3,g4,g5,q1,q2⟩ fun T vals h' tk hP hT ht mid k => ?_
    obtain ⟨v1,v2,e1,e2,rfl⟩ := hP
    have ev1 : v1 = u1 := by
      have : its1.toArray[i]? = some u1 := by simpa using hu1
      rw [this] at e1; exact (Option.some.inj e1).symm
    have ev2 : v2 = u2 := by
      have : its2.toArray[i]? = some u2 := by simpa using hu2
      rw [this] at e2; exact (Option.some.inj e2).symm
    subst ev1 ev2
    have hf' : ∀ c ∈ [z,TO,i1,i2],FpOk X pins H c := fun c hc => hf c (by simp only [List.mem_cons,List.not_mem_nil,or_false] at hc ⊢; rcases hc with h | h | h | h <;> simp [h])
    have I1 : Inv X pins σ (upd H T (.tup [x,y])) { s with heap := h',toks := tk } := I.turnNew (its := [v1,v2]) k hf' hT (by simp [le_line]) (.cons ru1 (.cons ru2 .nil)) ht
    have hTn : H T = none := I.hok.fresh hT
    have hne : ∀ c ∈ [z,TI,TO,i1,i2],upd H T (.tup [x,y]) c = none := fun c hc => by
      have hcT : c ≠ T := fun q => by
        have : c < s.heap.objs.size := by
          obtain ⟨_,_,g3⟩ := g3
          obtain ⟨o4,e4,_⟩ := g4
          obtain ⟨o5,e5,_⟩ := g5
          simp only [List.mem_cons,List.not_mem_nil,or_false] at hc
          rcases hc with rfl | rfl | rfl | rfl | rfl
          · exact Heap.lt_size g1
          · exact Heap.lt_size g2
          · exact Heap.lt_size g3
          · exact Heap.lt_size e4
          · exact Heap.lt_size e5
        exact absurd this (by rw [q]; exact Nat.not_lt.mpr hT)
      rw [upd_ne hcT]; exact (hf c hc).1
    refine ⟨_,rfl,W.go elts kk ps i T { s with heap := h',toks := tk } _ E mid fun h'' st2 k2 => ?_⟩
    refine ⟨.ref T,upd H T (.tup [x,y]),I1.turnL (t' := tk) (wr := [z,TO,i1,i2]) k2 (fun c hc => ⟨hne c (by simp only [List.mem_cons,List.not_mem_nil,or_false] at hc ⊢; rcases hc with h | h | h | h <;> simp [h]),(hf' c hc).2⟩),rfl,
      ⟨T,x,y,hTn,rfl,rfl,fun zs hy => by rw [I.list_inj hy hq1]; exact hx,fun zs hy' => by rw [I.list_inj hy' hq2]; exact hy⟩,⟨st2.1,st2.2.1,st2.2.2.1,st2.2.2.2.1,st2.2.2.2.2.1⟩,hne⟩
  done := by
    intro X hP hw hK hc i pins s σ H E I hf st hg
    subst hP hw hK
    obtain ⟨xs,ys,hq1,hq2,hx⟩ := hg
    obtain ⟨its1,rv1,p1,hz1⟩ := I.list hq1
    obtain ⟨its2,rv2,p2,hz2⟩ := I.list hq2
    have q1 : s.heap.IsList a its1.toArray := show s.heap.IsList a its1.toArray from p1.isList
    have q2 : s.heap.IsList b its2.toArray := show s.heap.IsList b its2.toArray from p2.isList
    have hh : X.A.handled = none := I.ok.hd hc
    have W := WalksT.zip2 (prog := X.prog) (w := X.w) hh z TI TO i1 i2 a b D its1.toArray its2.toArray
    obtain ⟨g1,g2,g3,g4,g5⟩ := st
    have e1 := rv1.length
    have e2 := rv2.length
    have ei : i = min its1.toArray.size its2.toArray.size := by simp only [List.size_toArray]; rw [<- e1,<- e2]; exact hx
    subst ei
    exact W.done s _ _ ⟨g1,g2,g3,g4,g5,q1,q2⟩ fun h' tk k => ⟨rfl,I.turnL (t' := tk) (wr := [z,TO,i1,i2]) k fun c hc => hf c (by simp only [List.mem_cons,List.not_mem_nil,or_false] at hc ⊢; rcases hc with h | h | h | h <;> simp [h])⟩
  self := fun _ _ _ _ _ st h => wpAny_pyIter_zip st.1 h
def iZipL (K : PySem.W.Frag) (ta : TA) : TI := fun σ H R => ta σ H fun vs H1 => ∃ a b,vs = [.ref a,.ref b] /\ (∃ xs,SqL K H1 a xs) /\ (∃ ys,SqL K H1 b ys) /\ R (ItzL K a b) H1
theorem pi_zipL {X : Cx} {K : PySem.W.Frag} {elts : List Expr} {kk : Nat} {ps p pos : Pos} {l m : Expr} {ta : TA} (hg : Gl X "zip") (hm : X.mg "zip" = none) (ha : PA X [l,m] ta) (hs : starEach [l,m] X.env = [(false,eval l X.env),(false,eval m X.env)] := by rfl) (hs2 : starEach [m] X.env = [(false,eval m X.env)] := by rfl) (h : X.K = K := by rfl) :
    PI X (.Tuple elts kk ps) (.Call (.Name "zip" p) [l,m] [] pos) (iZipL K ta) := by
  subst h
  intro pins s σ H R I h
  refine Call_ (ld_blt I hg hm (PyProof.Rows.Boot.«zip») (PyProof.Rows.callWith_type1 (thn (ha pos pins s σ H _ I h) fun us s1 ⟨vs,H1,I1,r1,q1⟩ => ?_) (by rw [hs,hs2]) (by rw [hs2]; rfl)))
  obtain ⟨a,b,e,⟨xs,hq1⟩,⟨ys,hq2⟩,q⟩ := q1
  subst e
  obtain ⟨u1,u2,rfl,ru1,ru2⟩ := r1.two
  cases ru1
  cases ru2
  obtain ⟨its1,rv1,p1,hz1⟩ := I1.list hq1
  obtain ⟨its2,rv2,p2,hz2⟩ := I1.list hq2
  have q1 : s1.heap.IsList a its1.toArray := show s1.heap.IsList a its1.toArray from p1.isList
  have q2 : s1.heap.IsList b its2.toArray := show s1.heap.IsList b its2.toArray from p2.isList
  have al : @LT.lt Nat _ a s1.heap.objs.size := by obtain ⟨_,e,_⟩ := q1; exact Heap.lt_size e
  have bl : @LT.lt Nat _ b s1.heap.objs.size := by obtain ⟨_,e,_⟩ := q2; exact Heap.lt_size e
  refine call_zip_2 q1 q2 fun h' hz hTI hTO h1 h2 hsz hk => ?_
  have I2 : Inv X pins σ H1 { s1 with heap := h',toks := s1.toks } := I1.kept hk
  have D : ZipApart (s1.heap.objs.size + 4) (s1.heap.objs.size + 2) (s1.heap.objs.size + 3) s1.heap.objs.size (s1.heap.objs.size + 1) a b := by
    constructor <;> (intro q; have q : @Eq Nat _ _ := q; omega)
  refine wpAny_pyIter_zip hz ⟨_,[s1.heap.objs.size + 4,s1.heap.objs.size + 2,s1.heap.objs.size + 3,s1.heap.objs.size,s1.heap.objs.size + 1],_,_,H1,rfl,I2,turn_zipL D,⟨hz,hTI,⟨_,_,hTO⟩,h1,h2⟩,fun c hc => ?_,q⟩
  have hge : s1.heap.objs.size <= c := by
    simp only [List.mem_cons,List.not_mem_nil,or_false] at hc
    show @LE.le Nat _ _ c
    rcases hc with q | q | q | q | q <;> (have q : @Eq Nat _ _ := q; omega)
  exact I1.fpOk hge (I1.hok.fresh hge)
end L2
namespace PySem
open Sem (wp)
open AutoSeq1 (wpAny_loadPart')
namespace RV
theorem mro : mroOf (.type "reversed") = pure [.type "reversed",.type "object"] := by rw [mroOf_type]; kernel_rfl
theorem sub : isSubtype (.type "reversed") (.type "reversed") = pure true := by rw [isSubtype_type]; kernel_rfl
end RV
section
variable {prog : Program} {w : World} {A : Around} {E : Value -> Shared -> Prop} {s : Shared}
end
end PySem
namespace HT
open PySem PySem.Spec PyProof.Rows
section
open PySem.SeqAt
open PySem.AutoSeq1 (wpAny_loadPart')
open PySem.MeetsSeq PySem.MeetsSeq2 PySem.MeetsSeq3
end
section
variable {prog : Program} {w : World} {A : Around} {E : Value -> Shared -> Prop} {s : Shared}
end
end HT
namespace L2
open PySem PySem.Spec PyProof.Rows
section
variable {X : Cx} {K : PySem.W.Frag}
def Itv (x : Int) (n : Nat) : It := ⟨fun i _ => i < n,fun i H v H' => H' = H /\ v = .int (x - i),fun i _ => n <= i⟩
theorem turn_rev {P : Program} {w : World} {tg : Expr} (it : Addr) (lo : Int) (n : Nat) : Turn P w K tg (Itv lo n) [it] it (fun i h => IsRangeIter h it (lo + (i : Nat) * (-1)) ((n : Int) - (i : Nat)) (-1)) where
  mem := by simp
  obj := fun i h st b hb => by
    have e : b = it := by simpa using hb
    subst e
    exact ⟨_,st,fun v z => by
      have z' : Data.fields _ = Data.cell v := z
      cases z'⟩
  keep := fun i h h' st k => k it (by simp) _ st
  item := by
    intro X hP hw hK hc i pins s σ H E I hf st hg
    subst hP hw hK
    obtain ⟨f0,f1,f2,f3,f4,f5⟩ := hf it (by simp)
    have W := Walks.range (prog := X.prog) (w := X.w) (I.ok.hd hc) it lo (-1) n
    refine W.item i s _ _ hg st fun v h' tk hv st' kk => ?_
    obtain ⟨t,rfl⟩ := hv
    have I1 : Inv X pins σ H { s with heap := h',toks := tk } := I.turned (fun b o hb e => kk b o (by simpa using hb) e) f0 f1 f3 f4 f5
    refine ⟨_,rfl,go_of (s := { s with heap := h',toks := tk }) (n := "range_iterator") st' rfl rfl (by decide) ⟨.int (lo - i),H,I1,⟨t,?_⟩,⟨rfl,rfl⟩,st',fun b hb => (hf b hb).1⟩⟩
    rw [show lo + (i : Int) * (-1) = lo - i by omega]
  done := by
    intro X hP hw hK hc i pins s σ H E I hf st hg
    subst hP hw hK
    obtain ⟨f0,f1,f2,f3,f4,f5⟩ := hf it (by simp)
    exact wpAny_pyNext_range_end (I.ok.hd hc) st (by have : n <= i := hg; omega) fun h' eb => ⟨rfl,I.turned (t' := s.toks) (fun b o hb e => eb b o hb e) f0 f1 f3 f4 f5⟩
  self := fun _ _ _ _ _ st h => wpAny_pyIter_rangeiter st h
end
end L2
namespace PySem
open Sem (wp)
open AutoSeq1 (wpAny_loadPart')
section
variable {prog : Program} {w : World} {A : Around} {E : Value -> Shared -> Prop} {s : Shared}
end
end PySem
namespace L2
open PySem PySem.Spec PyProof.Rows
section
variable {X : Cx} {K : PySem.W.Frag}
end
end L2
namespace L2
open PySem PySem.Spec PyProof.Rows
section
variable {X : Cx} {K : PySem.W.Frag}
end
end L2
namespace L2
open PySem
def En : Nat -> Int -> Int
  | 0,_ => 1
  | n + 1,u => u * En n u + En n (u + 1)
def nf (f w : Int) : Int := if w = f then f + 1 else f
def rank : Int -> List Int -> Int
  | _,[] => 0
  | f,w :: r => w * En r.length f + rank (nf f w) r
theorem way_cons {f w : Int} {r : List Int} (h : wayGo f (w :: r) = true) : 0 <= w /\ w <= f /\ wayGo (nf f w) r = true := by
  have h' : (decide (0 <= w) && decide (w <= f) && wayGo (nf f w) r) = true := h
  simp only [Bool.and_eq_true,decide_eq_true_eq] at h'
  exact ⟨h'.1.1,h'.1.2,h'.2⟩
theorem isWay_iff {ws : List Int} : isWay ws = true ↔ 1 <= ws.length /\ ws.length <= 9 /\ wayGo 0 ws = true := by
  unfold isWay
  simp only [Bool.and_eq_true,decide_eq_true_eq]
  exact ⟨fun ⟨⟨a,b⟩,c⟩ => ⟨a,b,c⟩,fun ⟨a,b,c⟩ => ⟨⟨a,b⟩,c⟩⟩
def pre : Nat -> Int -> List Int -> Int
  | _,_,[] => 0
  | m,f,w :: r => w * En (r.length + m) f + pre m (nf f w) r
theorem rank_app : ∀ (xs ys : List Int) (f : Int),rank f (xs ++ ys) = pre ys.length f xs + rank (fresh f xs) ys
  | [],ys,f => by show rank f ys = 0 + rank f ys; omega
  | w :: r,ys,f => by
    show w * En (r ++ ys).length f + rank (nf f w) (r ++ ys) = w * En (r.length + ys.length) f + pre ys.length (nf f w) r + rank (fresh (nf f w) r) ys
    rw [rank_app r ys,List.length_append]; omega
theorem way_app : ∀ (xs ys : List Int) (f : Int),wayGo f (xs ++ ys) = (wayGo f xs && wayGo (fresh f xs) ys)
  | [],ys,f => by show wayGo f ys = (true && wayGo f ys); rw [Bool.true_and]
  | w :: r,ys,f => by
    show (decide (0 <= w) && decide (w <= f) && wayGo (nf f w) (r ++ ys)) = (decide (0 <= w) && decide (w <= f) && wayGo (nf f w) r && wayGo (fresh (nf f w) r) ys)
    rw [way_app r ys,Bool.and_assoc,Bool.and_assoc,Bool.and_assoc]
end L2
namespace L2
open PySem PySem.Spec PyProof.Rows
section
variable {X : Cx} {K : PySem.W.Frag}
end
end L2
namespace L2
open PySem
end L2
namespace L2
open PySem PySem.Spec PyProof.Rows
theorem cf_lookup : ∀ (names : List (Str × NameKind)) (n : Nat) (acc : List (Str × Addr)) (y : Str) (c : Addr),(cellsFrom n names acc).lookup y = some c -> ((y,NameKind.cell) ∈ names /\ n <= c) \/ acc.lookup y = some c
  | [],n,acc,y,c,h => .inr h
  | (x,k) :: r,n,acc,y,c,h => by
    unfold cellsFrom at h
    split at h
    · rename_i hk
      rcases cf_lookup r _ _ y c h with ⟨h1,h2⟩ | h1
      · exact .inl ⟨List.mem_cons_of_mem _ h1,Nat.le_trans (Nat.le_succ _) h2⟩
      · rw [List.lookup_cons] at h1
        cases hb : y == x with
        | true =>
          rw [hb] at h1
          have e : n = c := Option.some.inj h1
          have ek : k = NameKind.cell := nk_eq hk
          have ey : y = x := by simpa using hb
          subst e ek ey
          exact .inl ⟨List.mem_cons_self,Nat.le_refl _⟩
        | false => rw [hb] at h1; exact .inr h1
    · rcases cf_lookup r _ _ y c h with ⟨h1,h2⟩ | h1
      · exact .inl ⟨List.mem_cons_of_mem _ h1,h2⟩
      · exact .inr h1
theorem cf_acc : ∀ (names : List (Str × NameKind)) (n : Nat) (acc : List (Str × Addr)) (y : Str),(∃ c,acc.lookup y = some c) -> ∃ c,(cellsFrom n names acc).lookup y = some c
  | [],n,acc,y,h => h
  | (x,k) :: r,n,acc,y,h => by
    unfold cellsFrom
    split
    · refine cf_acc r _ _ y ?_
      obtain ⟨c,hc⟩ := h
      rw [List.lookup_cons]
      cases y == x with
      | true => exact ⟨n,rfl⟩
      | false => exact ⟨c,hc⟩
    · exact cf_acc r _ _ y h
theorem cf_has : ∀ (names : List (Str × NameKind)) (n : Nat) (acc : List (Str × Addr)) (y : Str),(y,NameKind.cell) ∈ names -> ∃ c,(cellsFrom n names acc).lookup y = some c
  | [],n,acc,y,h => by simp at h
  | (x,k) :: r,n,acc,y,h => by
    unfold cellsFrom
    rcases List.mem_cons.mp h with e | h
    · cases e
      rw [if_pos (by decide)]
      exact cf_acc r _ _ x ⟨n,by rw [List.lookup_cons]; simp⟩
    · split
      · exact cf_has r _ _ y h
      · exact cf_has r _ _ y h
theorem cf_keep : ∀ (names : List (Str × NameKind)) (n : Nat) (acc : List (Str × Addr)) (y : Str),(y,NameKind.cell) ∉ names -> (cellsFrom n names acc).lookup y = acc.lookup y
  | [],n,acc,y,h => rfl
  | (x,k) :: r,n,acc,y,h => by
    unfold cellsFrom
    split
    · rename_i hk
      rw [cf_keep r _ _ y (fun z => h (List.mem_cons_of_mem _ z)),List.lookup_cons]
      cases hb : y == x with
      | true =>
        have ek : k = NameKind.cell := nk_eq hk
        have ey : y = x := by simpa using hb
        subst ek ey
        exact absurd List.mem_cons_self h
      | false => rfl
    · exact cf_keep r _ _ y (fun z => h (List.mem_cons_of_mem _ z))
theorem cf_own : ∀ (names : List (Str × NameKind)) (n : Nat) (acc : List (Str × Addr)) (y : Str) (c : Addr),(y,NameKind.cell) ∈ names -> (cellsFrom n names acc).lookup y = some c -> n <= c
  | [],n,acc,y,c,h,_ => by simp at h
  | (x,k) :: r,n,acc,y,c,h,e => by
    unfold cellsFrom at e
    by_cases hr : (y,NameKind.cell) ∈ r
    · split at e
      · exact Nat.le_trans (Nat.le_succ _) (cf_own r _ _ y c hr e)
      · exact cf_own r _ _ y c hr e
    · rcases List.mem_cons.mp h with q | q
      · cases q
        rw [if_pos (by decide),cf_keep r _ _ x hr,List.lookup_cons] at e
        simp at e
        exact Nat.le_of_eq e
      · exact absurd q hr
theorem cf_inj : ∀ (names : List (Str × NameKind)) (n : Nat) (acc : List (Str × Addr)),(∀ z d,(z,d) ∈ acc -> d < n) -> ∀ (x y : Str) (c : Addr),(x,c) ∈ cellsFrom n names acc -> (y,c) ∈ cellsFrom n names acc -> n <= c -> x = y := by
  have gen : ∀ (names : List (Str × NameKind)) (m n : Nat) (acc : List (Str × Addr)),m <= n -> (∀ z d,(z,d) ∈ acc -> d < n) -> (∀ x y c,(x,c) ∈ acc -> (y,c) ∈ acc -> m <= c -> x = y) -> ∀ (x y : Str) (c : Addr),(x,c) ∈ cellsFrom n names acc -> (y,c) ∈ cellsFrom n names acc -> m <= c -> x = y := by
    intro names
    induction names with
    | nil => intro m n acc _ _ h x y c h1 h2 h3; exact h x y c h1 h2 h3
    | cons p r ih =>
      obtain ⟨z,k⟩ := p
      intro m n acc hm hlt hin x y c h1 h2 h3
      unfold cellsFrom at h1 h2
      split at h1
      · rename_i hk
        rw [if_pos hk] at h2
        refine ih m (n + 1) ((z,n) :: acc) (Nat.le_trans hm (Nat.le_succ _)) (fun a d hd => ?_) (fun a b d ha hb hd => ?_) x y c h1 h2 h3
        · rcases List.mem_cons.mp hd with q | q
          · cases q; exact Nat.lt_succ_self _
          · exact Nat.lt_succ_of_lt (hlt a d q)
        · rcases List.mem_cons.mp ha with q | q <;> rcases List.mem_cons.mp hb with q' | q'
          · cases q; cases q'; rfl
          · cases q; exact absurd (hlt b n q') (Nat.lt_irrefl _)
          · cases q'; exact absurd (hlt a n q) (Nat.lt_irrefl _)
          · exact hin a b d q q' hd
      · rename_i hk
        rw [if_neg hk] at h2
        exact ih m n acc hm hlt hin x y c h1 h2 h3
  intro names n acc hlt x y c h1 h2 h3
  exact gen names n n acc (Nat.le_refl _) hlt (fun x y c hx _ hc => absurd (hlt x c hx) (Nat.not_lt.mpr hc)) x y c h1 h2 h3
theorem cf_cell : ∀ (names : List (Str × NameKind)) (h : Heap) (acc : List (Str × Addr)) (lo : h.objs.size = h.objs.size),(∀ z d,(z,d) ∈ acc -> h.objs.size <= d -> h.IsCell d none) -> ∀ (y : Str) (c : Addr),(y,c) ∈ cellsFrom h.objs.size names acc -> h.objs.size <= c -> (pushCells h names).IsCell c none := by
  have gen : ∀ (names : List (Str × NameKind)) (m : Nat) (h : Heap) (acc : List (Str × Addr)),m <= h.objs.size -> (∀ z d,(z,d) ∈ acc -> m <= d -> h.IsCell d none) -> ∀ (y : Str) (c : Addr),(y,c) ∈ cellsFrom h.objs.size names acc -> m <= c -> (pushCells h names).IsCell c none := by
    intro names
    induction names with
    | nil => intro m h acc _ ha y c hy hc; exact ha y c hy hc
    | cons p r ih =>
      obtain ⟨z,k⟩ := p
      intro m h acc hm ha y c hy hc
      unfold cellsFrom at hy
      unfold pushCells
      split at hy
      · rename_i hk
        rw [if_pos hk]
        have hz : (h.push { cls := .type "cell",data := .cell none }).objs.size = h.objs.size + 1 := Heap.size_push ..
        refine ih m (h.push { cls := .type "cell",data := .cell none }) ((z,h.objs.size) :: acc) (by rw [hz]; exact Nat.le_trans hm (Nat.le_succ _)) (fun a d hd hmd => ?_) y c (by rw [hz]; exact hy) hc
        rcases List.mem_cons.mp hd with q | q
        · cases q; exact ⟨_,Heap.get?_push_size _ rfl,rfl⟩
        · exact (ha a d q hmd).keeps fun b o e => Heap.get?_push_of_some _ e
      · rename_i hk
        rw [if_neg hk]
        exact ih m h acc hm ha y c hy hc
  intro names h acc _ ha y c hy hc
  exact gen names h.objs.size h acc (Nat.le_refl _) ha y c hy hc
theorem newEnv_cells {M : Model} {A : Around} {E : Value -> Shared -> Prop} {s : Shared} {scope : Scope} {globals : Addr} {closure : List (Str × Addr)} {qual : Str} {func : Option Addr} {code : Value} {outer : Env} {builtins : Addr} {Q : Env -> Shared -> Prop}
    (hQ : Q (newEnv scope s.heap.objs.size globals (cellsFrom (s.heap.objs.size + 1) scope.names closure) qual func code (some outer) builtins) { s with heap := pushCells (s.heap.push { cls := .type "dict",data := .dict #[] }) scope.names }) :
    wpAny M A (newFunctionEnv scope globals closure [] qual func code (some outer) builtins) Q E s := by
  simp only [newFunctionEnv,Option.isSome_some,if_true]
  refine wpAny_bind (wpAny_alloc ?_)
  refine wpAny_bind (wpAny_layCells _ (fun name kind cells => by cases hkc : kind == NameKind.cell <;> simp [hkc]) _ _ _ _ ?_)
  rw [show ({ s with heap := s.heap.push { cls := .type "dict",data := .dict #[] } } : Shared).heap.objs.size = s.heap.objs.size + 1 from Heap.size_push ..]
  rw [List.forIn_nil]
  refine wpAny_bind (wpAny_pure ?_)
  exact wpAny_pure hQ
def cxLcC (X : Cx) (N' : List Str) (scope : Scope) (cl : List (Str × Addr)) (C : Addr) (s : Shared) (H : Hp) (fp : List Addr) : Cx :=
  { X with N := N',s₀ := s,H₀ := H,env := compEnvC scope cl C X.env,outer := X.stack,stack := X.stack,ex := fp,fn := fun x => scope.names.lookup x == some NameKind.cell,pn := [],xe := fun _ _ => False }
structure LcScC (N N' : List Str) (M : List (Option Nat)) (sc osc : Scope) : Prop where
  kind : sc.kind = .function
  len : N'.length = M.length
  uni : ∀ y ∈ sc.names,y.2 = NameKind.cell -> sc.names.lookup y.1 = some NameKind.cell
  own : ∀ y ∈ sc.names,y.2 = NameKind.local -> sc.names.lookup y.1 = some NameKind.local
  fre : ∀ y ∈ sc.names,y.2 = NameKind.free -> osc.names.lookup y.1 = some NameKind.cell \/ osc.names.lookup y.1 = some NameKind.free
  at_ : ∀ (i j : Nat),M[i]? = some (some j) -> ∃ y,N'[i]? = some y /\ N[j]? = some y /\ sc.names.lookup y = some NameKind.free
theorem nko_eq0 {a : Option NameKind} {b : NameKind} (h : (a == some b) = true) : a = some b := nko_eq h
theorem lc_blockC {X : Cx} {N' : List Str} {M : List (Option Nat)} {scope : Scope} {cl : List (Str × Addr)} {tg elt iter : Expr} {ifs : List Expr} {pos : Pos} {g : TG} {tc : TT} {te : TE} {pins : List (Addr × Obj)} {σ : St} {H2 : Hp} {s2 : Shared}
    {it : Addr} {fp : List Addr} {tn : Nat -> Heap -> Prop} {J : It} {F : List V -> Hp -> Prop} {RR : Value -> Addr -> Result -> Shared -> Prop} {E : Value -> Shared -> Prop}
    (S : LcScC X.N N' M scope X.env.scope) (hc : X.calm = true) (q0 : ∀ y c,(y,c) ∈ cl -> X.env.cells.lookup y = some c) (q1 : ∀ y c,cl.lookup y = some c -> X.env.cells.lookup y = some c) (q2 : ∀ y,(y,NameKind.free) ∈ scope.names -> ∃ c,cl.lookup y = some c)
    (hg : ∀ cl C s H fp,PG (cxLcC X N' scope cl C s H fp) tg g) (hf : Frm M g) (ht : ∀ cl C s H fp,PTs (cxLcC X N' scope cl C s H fp) ifs tc) (he : ∀ cl C s H fp,PE (cxLcC X N' scope cl C s H fp) elt te)
    (I2 : Inv X pins σ H2 s2) (T : Turn X.prog X.w X.K tg J fp it tn) (st2 : tn 0 s2.heap) (f2 : ∀ b ∈ fp,FpOk X pins H2 b)
    (hw : ∃ W : Nat -> Nat -> List V -> Hp -> Prop,(∃ m,W 0 m [] H2) /\ ∀ i m ys H,W i m ys H -> ys.length <= sizeLine /\
      ((J.stop i H /\ F ys H) \/ (J.go i H /\ ys.length < sizeLine /\ ∃ N : List V -> Hp -> Prop,(∀ ys' H',N ys' H' -> ∃ m',m' < m /\ W (i + 1) m' ys' H') /\ ∀ x H',J.yld i H x H' -> g x (inSt M σ) H' fun σ2 H2 => tc σ2 H2 fun b H3 =>
        if b = true then te σ2 H3 fun v H4 => N (ys ++ [v]) H4 else N ys H3)))
    (hend : ∀ (D C : Addr) (s' : Shared) (H' : Hp) (ys : List V),Inv X pins σ (upd H' D (.lst ys)) s' -> H' D = none -> s2.heap.objs.size <= D -> s2.heap.objs.size < C -> (∃ m,s'.heap.Ns C m) -> (upd H' D (.lst ys)) C = none -> F ys H' -> RR (.ref D) C (.ok .next) s') :
    wpAny (model X.prog X.w) X.A (newList []) (fun acc s₃ => wpAny (model X.prog X.w) X.A (newFunctionEnv scope X.env.globals cl [] X.env.qual none .none (some X.env)) (fun cenv s₄ =>
      codeAny (model X.prog X.w) X.A (.compStart (.ListComp elt [⟨tg,iter,ifs,0⟩] scope pos) 0 (.ref it) acc { cenv with scope := relabel scope X.env }) (RR acc cenv.locals) s₄) E s₃) E s2 := by
  obtain ⟨W,⟨m0,w0⟩,turn⟩ := hw
  refine wpAny_newObj_type (newEnv_cells ?_)
  dsimp only
  generalize hG : s2.heap.push { cls := .type "list",dict := none,data := .seq ([] : List Value).toArray } = G
  generalize hD : s2.heap.objs.size = D at *
  have cel0 : ∀ y c,(y,c) ∈ cl -> c < D := fun y c hm => by
    obtain ⟨v,z⟩ := I2.cell y c (q0 y c hm)
    exact hD ▸ z.lt
  have hC : G.objs.size = D + 1 := by rw [<- hG,Heap.size_push,hD]
  generalize hCC : G.objs.size = C at *
  have DC : D < C := by rw [hC]; exact Nat.lt_succ_self _
  have hpush : (G.push { cls := .type "dict",data := .dict #[] }).objs.size = C + 1 := by rw [Heap.size_push,hCC]
  generalize hh₁ : pushCells (G.push { cls := .type "dict",data := .dict #[] }) scope.names = h₁
  have hns₁ : h₁.Ns C (fun _ => none) := by
    rw [<- hh₁,<- hCC]
    exact (Heap.Ns.new G (.type "dict")).keeps (pushCells_keeps _ _)
  have keepG : ∀ b o,G.get? b = some o -> h₁.get? b = some o := fun b o e => by rw [<- hh₁]; exact pushCells_keeps _ _ b o (Heap.get?_push_of_some _ e)
  have newCell : ∀ y c,(y,c) ∈ cellsFrom (C + 1) scope.names cl -> C + 1 <= c -> h₁.IsCell c none := fun y c hm hc => by
    rw [<- hh₁]
    exact cf_cell scope.names _ cl (by rw [hpush]) (fun z d hz hd => by
      rw [hpush] at hd
      exact absurd (Nat.lt_trans (cel0 z d hz) DC) (Nat.not_lt.mpr (Nat.le_trans (Nat.le_succ _) hd))) y c (by rw [hpush]; exact hm) (by rw [hpush]; exact hc)
  have lo : ∀ b o,s2.heap.get? b = some o -> b < D := fun b o e => hD ▸ Heap.lt_size e
  have old : ∀ b o,s2.heap.get? b = some o -> h₁.get? b = some o := fun b o e => by
    exact keepG b o (hG ▸ Heap.get?_push_of_some _ e)
  have hacc : h₁.get? D = some { cls := .type "list",data := .seq ([] : List Value).toArray } :=
    keepG _ _ (by rw [<- hG,<- hD]; exact Heap.get?_push_size _ rfl)
  have fpl : ∀ b ∈ fp,b < D := fun b hb => by
    obtain ⟨o,e,_⟩ := T.obj _ _ st2 b hb
    exact lo b o e
  have cel : ∀ y c,cl.lookup y = some c -> c < D := fun y c e => by
    obtain ⟨v,z⟩ := I2.cell y c (q1 y c e)
    exact hD ▸ z.lt
  generalize hcl' : cellsFrom (C + 1) scope.names cl = cl' at newCell ⊢
  have cl1 : ∀ y c,cl'.lookup y = some c -> ((y,NameKind.cell) ∈ scope.names /\ C + 1 <= c) \/ cl.lookup y = some c := fun y c e => by rw [<- hcl'] at e; exact cf_lookup _ _ _ _ _ e
  have cl2 : ∀ y,(y,NameKind.cell) ∈ scope.names -> ∃ c,cl'.lookup y = some c := fun y hy => by rw [<- hcl']; exact cf_has _ _ _ _ hy
  have cl3 : ∀ y,(y,NameKind.cell) ∉ scope.names -> cl'.lookup y = cl.lookup y := fun y hy => by rw [<- hcl']; exact cf_keep _ _ _ _ hy
  have cl4 : ∀ x y c,cl'.lookup x = some c -> cl'.lookup y = some c -> C + 1 <= c -> x = y := fun x y c e1 e2 hc => by
    rw [<- hcl'] at e1 e2
    exact cf_inj _ _ _ (fun z d hz => Nat.lt_succ_of_lt (Nat.lt_trans (cel0 z d hz) DC)) _ _ _ (PySem.mem_of_lookup e1) (PySem.mem_of_lookup e2) hc
  have cl5 : ∀ y c,cl'.lookup y = some c -> c ≠ D /\ c ≠ C /\ (C + 1 <= c \/ c < D) := fun y c e => by
    rcases cl1 y c e with ⟨_,h⟩ | h
    · exact ⟨by intro z; subst z; exact absurd DC (Nat.not_lt.mpr (Nat.le_trans (Nat.le_succ _) h)),by intro z; subst z; exact absurd h (Nat.not_succ_le_self _),.inl h⟩
    · have := cel y c h
      exact ⟨Nat.ne_of_lt this,Nat.ne_of_lt (Nat.lt_trans this DC),.inr this⟩
  generalize hX' : cxLcC X N' scope cl' C s2 H2 fp = X'
  have envE : X'.env = compEnvC scope cl' C X.env := by rw [<- hX']; rfl
  have locE : X'.env.locals = C := by rw [envE]; rfl
  have fsE : X'.fs = frs X.stack := by rw [<- hX']; rfl
  have fsl : ∀ b ∈ frs X.stack,b < D := fun b hb => by
    rcases List.mem_cons.mp (I2.stkSub b hb) with z | z
    · rw [z]; exact hD ▸ I2.lt
    · exact Nat.lt_of_not_le fun q => I2.nofs (hD ▸ q) z
  have relS : ∀ x k,scope.names.lookup x = some k -> ∃ k',X'.env.kindOf x = some k' /\ (k' = k \/ (k = .free /\ k' = .cell)) := fun x k e => by
    obtain ⟨k',e',q⟩ := relabel_some (env := X.env) e
    exact ⟨k',by rw [envE]; exact e',q⟩
  have relN : ∀ x,scope.names.lookup x = none -> X'.env.kindOf x = none := fun x e => by
    rw [envE]; exact relabel_none (env := X.env) e
  have cellsE : X'.env.cells = cl' := by rw [envE]; rfl
  have s0E0 : X'.s₀ = s2 := by rw [<- hX']; rfl
  have ok' : X'.Ok := by
    refine ⟨?mod,?kind,?glob,?blt,?above,?inj,?has,?cab,?hd,?frames,?stk,?exf,?bs,?bsz,?noex,?exfs,?funs,?frf⟩
    case mod => rw [<- hX']; exact I2.ok.mod
    case kind => rw [envE]; exact S.kind
    case glob => rw [envE]; exact I2.ok.glob
    case blt => rw [envE]; exact I2.ok.blt
    case above => rw [locE,<- hX']; show s2.heap.objs.size <= C; rw [hD]; exact Nat.le_of_lt DC
    case inj =>
      intro x y c e1 e2
      rw [cellsE] at e1 e2
      rcases (cl5 x c e1).2.2 with h | h
      · exact cl4 x y c e1 e2 h
      · have f : ∀ z,cl'.lookup z = some c -> cl.lookup z = some c := fun z ez => by
          rcases cl1 z c ez with ⟨_,h'⟩ | h'
          · exact absurd (Nat.lt_of_lt_of_le (Nat.lt_trans h DC) (Nat.le_trans (Nat.le_succ _) h')) (Nat.lt_irrefl _)
          · exact h'
        exact I2.ok.inj x y c (q1 x c (f x e1)) (q1 y c (f y e2))
    case has =>
      intro x hx
      rw [cellsE]
      cases e : scope.names.lookup x with
      | none => rw [relN x e] at hx; rcases hx with z | z <;> cases z
      | some k =>
        obtain ⟨k',e',q⟩ := relS x k e
        rw [e'] at hx
        by_cases hcx : (x,NameKind.cell) ∈ scope.names
        · exact cl2 x hcx
        rw [cl3 x hcx]
        have kf : k = .free := by
          rcases q with q | q
          · rcases hx with z | z
            · cases z; exact absurd (PySem.mem_of_lookup (q ▸ e)) hcx
            · cases z; exact q.symm
          · exact q.1
        subst kf
        exact q2 x (PySem.mem_of_lookup e)
    case cab =>
      intro x c h e
      rw [<- hX'] at h
      rw [cellsE] at e
      have hx : scope.names.lookup x = some NameKind.cell := nko_eq0 h
      rw [s0E0,hD]
      rcases cl1 x c e with ⟨_,h'⟩ | h'
      · exact Nat.le_trans (Nat.le_of_lt DC) (Nat.le_trans (Nat.le_succ _) h')
      · obtain ⟨c2,e2⟩ := cl2 x (PySem.mem_of_lookup hx)
        rw [e] at e2; cases e2
        rw [<- hcl'] at e
        exact absurd (cf_own _ _ _ _ _ (PySem.mem_of_lookup hx) e) (Nat.not_le.mpr (Nat.lt_succ_of_lt (Nat.lt_trans (cel x c h') DC)))
    case hd => rw [<- hX']; exact I2.ok.hd
    case frames => rw [<- hX']; exact I2.ok.frames
    case stk => rw [<- hX']; exact .inl rfl
    case exf =>
      intro b hb
      have hb' : b ∈ fp := by rw [<- hX'] at hb; exact hb
      refine ⟨by rw [locE]; exact Nat.ne_of_lt (Nat.lt_trans (fpl b hb') DC),fun x c e => ?_⟩
      rw [cellsE] at e
      rcases cl1 x c e with ⟨_,h'⟩ | h'
      · intro z; subst z; exact absurd (fpl _ hb') (Nat.not_lt.mpr (Nat.le_trans (Nat.le_of_lt DC) (Nat.le_trans (Nat.le_succ _) h')))
      · exact (f2 b hb').2.2.2.2.1 x c (q1 x c h')
    case bs => rw [<- hX']; exact I2.bs
    case bsz => rw [<- hX']; exact Nat.le_trans I2.ok.bsz I2.sz
    case noex =>
      intro b o e hb
      have hb' : b ∈ fp := by rw [<- hX'] at hb; exact hb
      have e' : X.base.get? b = some o := by rw [<- hX'] at e; exact e
      rcases (f2 b hb').2.2.2.1 with z | z
      · exact I2.ok.noex b o e' z
      · exact absurd (Nat.lt_of_lt_of_le (Heap.lt_size e') (Nat.le_trans I2.ok.bsz z)) (Nat.lt_irrefl _)
    case exfs =>
      intro b hb
      have hb' : b ∈ fp := by rw [<- hX'] at hb; exact hb
      rw [fsE]
      intro z
      rcases List.mem_cons.mp (I2.stkSub b z) with q | q
      · exact (f2 b hb').2.1 q
      · exact (f2 b hb').2.2.1 q
    case funs => rw [<- hX']; exact I2.stack
    case frf => rw [fsE,<- hX']; exact I2.stkFree
  have c0 : H2 C = none := I2.hok.fresh (by rw [hD]; exact Nat.le_of_lt DC)
  have d0 : H2 D = none := I2.hok.fresh (by rw [hD]; exact Nat.le_refl _)
  have I3 : Inv X' [] (inSt M σ) H2 { s2 with heap := h₁,toks := s2.toks } := by
    refine ⟨ok',?os,?bare,?base,?loc,?cell,?free,?freeC,?pin,?hok,?len⟩
    case os => rw [<- hX']; rfl
    case bare => exact I2.bare
    case base => rw [fsE,<- hX']; exact Un.kept old
    case loc =>
      refine ⟨_,by rw [locE]; exact hns₁,fun i x v e1 e2 _ => ?_⟩
      obtain ⟨j,eM,eσ⟩ := inSt_get e2
      obtain ⟨y,n1,n2,n3⟩ := S.at_ i j eM
      have e1' : N'[i]? = some x := by rw [<- hX'] at e1; exact e1
      rw [n1] at e1'; cases e1'
      have hyf : (x,NameKind.free) ∈ scope.names := PySem.mem_of_lookup n3
      have kd := S.fre _ hyf rfl
      obtain ⟨m,hn,hl⟩ := id I2.loc
      obtain ⟨u,ru,lk⟩ := hl j x v n2 eσ (kd.elim (fun z => .inr (.inl z)) fun z => .inr (.inr z))
      refine ⟨u,ru,?_⟩
      rcases lk with ⟨k,_⟩ | ⟨k,c,ec,z⟩
      · have k' : X.env.scope.names.lookup x = some NameKind.local := k
        rcases kd with q | q <;> (rw [k'] at q; cases q)
      · obtain ⟨c',ec'⟩ := q2 x hyf
        have hcc := q1 x c' ec'
        rw [ec] at hcc; cases hcc
        obtain ⟨k',e',q⟩ := relS x _ n3
        refine .inr ⟨?_,c,by rw [cellsE,cl3 x (fun z => by have := S.uni _ z rfl; rw [n3] at this; cases this)]; exact ec',?_⟩
        · rw [e']; rcases q with q | q
          · right; rw [q]
          · left; rw [q.2]
        · obtain ⟨o,ho,hd'⟩ := z
          exact ⟨o,old _ _ ho,hd'⟩
    case cell =>
      intro x c e
      rw [cellsE] at e
      rcases cl1 x c e with ⟨_,h'⟩ | h'
      · exact ⟨none,newCell x c (PySem.mem_of_lookup e) h'⟩
      · obtain ⟨v,o,ho,hd'⟩ := I2.cell x c (q1 x c h')
        exact ⟨v,o,old _ _ ho,hd'⟩
    case free => rw [locE]; exact c0
    case freeC =>
      intro x c e
      rw [cellsE] at e
      rcases cl1 x c e with ⟨_,h'⟩ | h'
      · exact I2.hok.fresh (by rw [hD]; exact Nat.le_trans (Nat.le_of_lt DC) (Nat.le_trans (Nat.le_succ _) h'))
      · exact I2.freeC x c (q1 x c h')
    case pin => intro p hp; rw [<- hX'] at hp; exact absurd (show p ∈ ([] : List (Addr × Obj)) from hp) (by simp)
    case hok => rw [<- hX']; exact I2.hok.kept old
    case len => rw [inSt_length,<- hX']; exact S.len.symm
  have xE : ∀ (e : Value) (s' : Shared),¬ X'.xe e s' := fun e s' z => by rw [<- hX'] at z; exact z
  have progE : X'.prog = X.prog := by rw [<- hX']; rfl
  have wE : X'.w = X.w := by rw [<- hX']; rfl
  have KE' : X'.K = X.K := by rw [<- hX']; rfl
  have AE : X'.A = X.A := by rw [<- hX']; rfl
  have cE : X'.calm = true := by rw [<- hX']; exact hc
  have exE : X'.ex = fp := by rw [<- hX']; rfl
  have s0E : X'.s₀ = s2 := by rw [<- hX']; rfl
  have pnE : X'.pn = [] := by rw [<- hX']; rfl
  have hgX : PG X' tg g := by rw [<- hX']; exact hg cl' C s2 H2 fp
  have htX : PTs X' ifs tc := by rw [<- hX']; exact ht cl' C s2 H2 fp
  have heX : PE X' elt te := by rw [<- hX']; exact he cl' C s2 H2 fp
  have Dfp : D ∉ fp := fun z => Nat.lt_irrefl _ (fpl D z)
  have Dcl : ∀ x c,X'.env.cells.lookup x = some c -> c ≠ D := fun x c e => by rw [cellsE] at e; exact (cl5 x c e).1
  have Dloc : D ≠ X'.env.locals := by rw [locE]; exact Nat.ne_of_lt DC
  have Dfs : D ∉ X'.fs := by rw [fsE]; exact fun z => Nat.lt_irrefl _ (fsl D z)
  have D0 : D ∈ X'.ex \/ X'.s₀.heap.objs.size <= D := .inr (by rw [s0E,hD]; exact Nat.le_refl _)
  have stat : ∀ {pl : List (Addr × Obj)} {H' : Hp},(∀ p ∈ pl,p.1 = D) -> (∀ b ∈ fp,H' b = none) -> ∀ b ∈ fp,FpOk X' pl H' b := fun {pl H'} hpl hn b hb => by
    refine ⟨hn b hb,by rw [locE]; exact Nat.ne_of_lt (Nat.lt_trans (fpl b hb) DC),?_,.inl (by rw [exE]; exact hb),fun x c e => ?_,fun p hp => ?_⟩
    · exact ok'.exfs b (by rw [exE]; exact hb)
    · rw [cellsE] at e
      rcases cl1 x c e with ⟨_,h'⟩ | h'
      · intro z; subst z; exact absurd (fpl _ hb) (Nat.not_lt.mpr (Nat.le_trans (Nat.le_of_lt DC) (Nat.le_trans (Nat.le_succ _) h')))
      · exact (f2 b hb).2.2.2.2.1 x c (q1 x c h')
    · rw [pnE,List.nil_append] at hp
      rw [hpl p hp]; exact (Nat.ne_of_lt (fpl b hb)).symm
  have loop : codeAny (model X.prog X.w) X.A (.compLoop (.ListComp elt [⟨tg,iter,ifs,0⟩] scope pos) 0 (.ref it) (.ref D) X'.env) (RR (.ref D) C) { s2 with heap := h₁,toks := s2.toks } := by
    refine compLoop_gen (fun n s' => ∃ i ys H',Inv X' [] (inSt M σ) H' s' /\ tn i s'.heap /\ (∀ b ∈ fp,H' b = none) /\ (∃ (its : List Value) (k : Nat),Vals ys its /\ s'.heap.get? D = some { cls := .type "list",data := .seq its.toArray k }) /\ H' D = none /\ W i n ys H') ?_ m0
      ⟨0,[],H2,I3,T.keep _ _ _ st2 fun b hb o e => old b o e,fun b hb => (f2 b hb).1,⟨[],0,.nil,hacc⟩,d0,w0⟩
    rintro n s3 ⟨i,ys,H3,J3,st3,fr3,⟨its,k,rv,hDs⟩,dn,w3⟩
    obtain ⟨hsz,hcase⟩ := turn i n ys H3 w3
    have J3' : Inv X' [(D,{ cls := .type "list",data := .seq its.toArray k })] (inSt M σ) H3 s3 := J3.pins_of fun p hp => by
      have e : p = (D,{ cls := .type "list",data := .seq its.toArray k }) := by simpa using hp
      subst e
      exact ⟨hDs,dn,Dloc,Dfs,fun v z => by cases z⟩
    have hpl : ∀ p ∈ [((D,{ cls := .type "list",data := .seq its.toArray k }) : Addr × Obj)],p.1 = D := fun p hp => by
      have e : p = (D,{ cls := .type "list",data := .seq its.toArray k }) := by simpa using hp
      rw [e]
    rcases hcase with ⟨stop,qF⟩ | ⟨go,hlt,N,hN,step⟩
    · have q := T.done X' progE wE KE' cE i _ s3 _ H3 (fun _ _ => False) J3' (stat hpl fr3) st3 stop
      rw [AE] at q
      refine thn q fun r s4 ⟨hr,J4⟩ => ?_
      subst hr
      have hD4 : s4.heap.get? D = some { cls := .type "list",data := .seq its.toArray k } := (J4.pin _ (List.mem_append_right _ (List.mem_singleton.mpr rfl))).1
      obtain ⟨mC,hnC,_⟩ := id J4.loc
      rw [locE] at hnC
      have b4 := J4.base
      rw [fsE,exE,s0E,show X'.H₀ = H2 by rw [<- hX']; rfl] at b4
      refine hend D C s4 H3 ys ?_ dn (Nat.le_refl _) DC ⟨mC,hnC⟩ (by rw [upd_ne (Nat.ne_of_gt DC)]; have := J4.free; rw [locE] at this; exact this) qF
      have hok4 := J4.hok
      rw [progE,wE] at hok4
      refine I2.call' (ch := fp) (H' := upd H3 D (.lst ys)) (by rw [J4.os,s0E]) ⟨b4.keep,b4.slot,fun b o e nn hb => ?_,b4.there,fun b xs e => ?_,fun b o u e => ?_,fun b ps e => ?_⟩ ?_ J4.bare fun b hb => ?_
      · rw [upd_ne (Nat.ne_of_lt (lo b o e))]; exact b4.free b o e nn hb
      · rw [upd_ne (ne_of_none (b4.tups b xs e) dn)]; exact b4.tups b xs e
      · rw [upd_ne (ne_of_none (b4.frzs b o u e) dn)]; exact b4.frzs b o u e
      · obtain ⟨more,e'⟩ := b4.tbls b ps e
        exact ⟨more,by rw [upd_ne (ne_of_none e' dn)]; exact e'⟩
      · intro b u e
        by_cases hb : b = D
        · subst hb
          rw [upd_same] at e; cases e
          exact ⟨hsz,its,k,rv,hD4⟩
        · rw [upd_ne hb] at e
          exact (hok4 b u e).stay (fun c v _ q => q) (fun c q => by rw [upd_ne (ne_of_none q dn)]; exact q) fun c xs q => by rw [upd_ne (ne_of_none q dn)]; exact q
      · obtain ⟨f0,f1,f3,f4,f5,f6⟩ := f2 b hb
        exact ⟨f4,f1,f5,f6⟩
    · have q := T.item X' progE wE KE' cE i _ s3 _ H3 (fun _ _ => False) J3' (stat hpl fr3) st3 go
      rw [AE] at q
      refine thn q fun r s4 ⟨u,hr,h4⟩ => ?_
      subst hr
      dsimp only
      refine thn h4 fun _ s5 ⟨x,H5,J5,r5,y5,st5,fr5⟩ => ?_
      have J5' := J5.pinned (stat hpl fr5) (T.obj _ _ st5)
      have qg := hgX _ s5 (inSt M σ) H5 x u _ J5' r5 (hf _ _ _ _ (step x H5 y5))
      rw [progE,wE,AE] at qg
      refine wpAny_mono qg (fun _ s6 h6 => ?_) fun e s' z => xE e s' z
      obtain ⟨σ6,H6,J6,q6,l6,k6⟩ := h6
      have qt := htX _ s6 σ6 H6 _ J6 q6
      rw [progE,wE,AE] at qt
      refine wpAny_mono qt (fun b s7 h7 => ?_) fun e s' z => xE e s' z
      obtain ⟨H7,J7,q7⟩ := h7
      have fin : ∀ {ys' : List V} {σ8 : St} {H8 : Hp} {s8 : Shared},σ8 = σ6 -> Inv X' ([(D,{ cls := .type "list",data := .seq its.toArray k })] ++ pinsAt fp s5.heap) σ8 H8 s8 ->
          s8.heap.get? D = some { cls := .type "list",data := .seq its.toArray k } /\ H8 D = none /\ tn (i + 1) s8.heap /\ (∀ b ∈ fp,H8 b = none) /\ Inv X' [] (inSt M σ) H8 s8 := fun {ys' σ8 H8 s8} e8 J8 => by
        subst e8
        obtain ⟨p1,p2,_⟩ := J8.pin _ (List.mem_append_right _ (List.mem_append_left _ (List.mem_singleton.mpr rfl)))
        refine ⟨p1,p2,T.keep _ _ _ st5 fun b hb o e => (J8.pin (b,o) (List.mem_append_right _ (List.mem_append_right _ (mem_pinsAt hb e)))).1,fun b hb => ?_,?_⟩
        · obtain ⟨o,e,d⟩ := T.obj _ _ st5 b hb
          exact (J8.pin (b,o) (List.mem_append_right _ (List.mem_append_right _ (mem_pinsAt hb e)))).2.1
        · have J9 : Inv X' [] σ8 H8 s8 := J8.pins_of fun p hp => absurd hp (by simp)
          refine J9.weak (l6.symm) fun a v e => ?_
          obtain ⟨j,eM,_⟩ := inSt_get e
          rw [k6 a j eM]; exact e
      cases b with
      | false =>
        rw [if_neg (by decide)] at q7
        rw [if_neg (by decide)]
        obtain ⟨m',hm,w7⟩ := hN _ _ q7
        obtain ⟨a1,a2,a3,a4,a5⟩ := fin (ys' := ys) rfl J7
        exact ⟨m',hm,i + 1,ys,H7,a5,a3,a4,⟨its,k,rv,a1⟩,a2,w7⟩
      | true =>
        rw [if_pos rfl] at q7
        rw [if_pos rfl]
        have qe := heX _ s7 σ6 H7 _ J7 q7
        rw [progE,wE,AE] at qe
        refine wpAny_mono qe (fun v8 s8 h8 => ?_) fun e s' z => xE e s' z
        obtain ⟨y8,H8,J8,r8,n8⟩ := h8
        obtain ⟨m',hm,w8⟩ := hN _ _ n8
        obtain ⟨a1,a2,a3,a4,a5⟩ := fin (ys' := ys) rfl J8
        refine wpAny_list_append_plain (items := its.toArray) ⟨k,a1⟩ (fun h9 hl9 hs9 => ?_) (by have := rv.length; rw [List.size_toArray,<- this]; exact hsz)
        have J9 : Inv X' [] (inSt M σ) H8 { s8 with heap := h9 } := a5.turned (t' := s8.toks) (fun b o hb e => (hs9.2 b hb).trans e) a2 Dloc D0 Dcl fun p hp => by rw [pnE] at hp; exact absurd hp (by simp)
        obtain ⟨k9,e9⟩ := hl9
        refine ⟨m',hm,i + 1,ys ++ [y8],H8,J9,T.keep _ _ _ a3 fun b hb o e => (hs9.2 b (fun z => Dfp (z ▸ hb))).trans e,a4,⟨its ++ [v8],k9,rv.append (.cons r8 .nil),?_⟩,a2,w8⟩
        rw [show (its ++ [v8]).toArray = its.toArray.push v8 by simp]
        exact e9
  have loop' : codeAny (model X.prog X.w) X.A (.compLoop (.ListComp elt [⟨tg,iter,ifs,0⟩] scope pos) 0 (.ref it) (.ref D) (compEnvC scope cl' C X.env)) (RR (.ref D) C) { s2 with heap := h₁,toks := s2.toks } := envE ▸ loop
  exact codeAny_compStart_list loop' (T.self _ 0 _ _ _ (T.keep _ _ _ st2 fun b hb o e => old b o e) loop')
end L2
namespace L2
open PySem PySem.Spec PyProof.Rows
theorem closure_mem {env : Env} : ∀ (names : List (Str × NameKind)) (cs : List (Str × Addr)),(∀ y ∈ names,y.2 = NameKind.free -> ∃ c,env.cells.lookup y.1 = some c) -> (∀ y c,(y,c) ∈ cs -> env.cells.lookup y = some c) ->
    ∀ cl,(forIn names cs fun x r => (match x with
      | (name,kind) => if (kind == NameKind.free) = true then (do let a <- cellOf env name; pure (ForInStep.yield ((name,a) :: r))) else pure (ForInStep.yield r)) : Sem (List (Str × Addr))) = pure cl -> ∃ cl2,(forIn names cs fun x r => (match x with
      | (name,kind) => if (kind == NameKind.free) = true then (do let a <- cellOf env name; pure (ForInStep.yield ((name,a) :: r))) else pure (ForInStep.yield r)) : Sem (List (Str × Addr))) = pure cl2 /\ ∀ y c,(y,c) ∈ cl2 -> env.cells.lookup y = some c
  | [],cs,_,h,cl,_ => ⟨cs,by rw [List.forIn_nil],h⟩
  | (n,k) :: r,cs,hf,h,cl,e => by
    rw [List.forIn_cons] at e ⊢
    by_cases hk : (k == NameKind.free) = true
    · obtain ⟨c,hc⟩ := hf (n,k) List.mem_cons_self (nk_eq hk)
      have ec : cellOf env n = pure c := by unfold cellOf; rw [hc]
      simp only [hk,if_true,ec,pure_bind] at e ⊢
      refine closure_mem r ((n,c) :: cs) (fun y hy => hf y (List.mem_cons_of_mem _ hy)) (fun y c' hm => ?_) cl e
      rcases List.mem_cons.mp hm with q | q
      · cases q; exact hc
      · exact h y c' q
    · simp only [hk,if_false,pure_bind] at e ⊢
      exact closure_mem r cs (fun y hy => hf y (List.mem_cons_of_mem _ hy)) h cl e
theorem pure_inj_sem {α : Type} {a b : α} (h : (pure a : Sem α) = pure b) : a = b := by
  injection h
section
variable {X : Cx} {N' : List Str} {M : List (Option Nat)} {scope : Scope} {tg elt iter : Expr} {ifs : List Expr} {pos : Pos} {g : TG} {tc : TT} {te : TE} {wi : TI}
theorem lc_closC {pins : List (Addr × Obj)} {σ : St} {H : Hp} {s : Shared} (S : LcScC X.N N' M scope X.env.scope) (I : Inv X pins σ H s) :
    ∃ cl,closureFor scope X.env = pure cl /\ (∀ y c,(y,c) ∈ cl -> X.env.cells.lookup y = some c) /\ (∀ y c,cl.lookup y = some c -> X.env.cells.lookup y = some c) /\ (∀ y,(y,NameKind.free) ∈ scope.names -> ∃ c,cl.lookup y = some c) := by
  have hh : ∀ y ∈ scope.names,y.2 = NameKind.free -> ∃ c,X.env.cells.lookup y.1 = some c := fun y hy hk => I.ok.has y.1 (S.fre y hy hk)
  obtain ⟨cl,e,q1,q2⟩ := closure_go (env := X.env) scope.names [] hh (fun y c e => by simp at e)
  obtain ⟨cl2,e2,q0⟩ := closure_mem (env := X.env) scope.names [] hh (fun y c h => by simp at h) cl e
  have ecl : cl = cl2 := pure_inj_sem (e.symm.trans e2)
  subst ecl
  refine ⟨cl,?_,q0,q1,fun y hy => q2 y (.inr hy)⟩
  unfold closureFor
  dsimp only
  rw [show (forIn scope.names ([] : List (Str × Addr)) fun x r => (match x with
      | (name,kind) => if (kind == NameKind.free) = true then (do let a <- cellOf X.env name; pure (ForInStep.yield ((name,a) :: r))) else pure (ForInStep.yield r)) : Sem (List (Str × Addr))) = pure cl from e]
  rfl
theorem pe_lcC (S : LcScC X.N N' M scope X.env.scope) (hc : X.calm = true) (hi : PI X tg iter wi) (hg : ∀ cl C s H fp,PG (cxLcC X N' scope cl C s H fp) tg g) (hf : Frm M g)
    (ht : ∀ cl C s H fp,PTs (cxLcC X N' scope cl C s H fp) ifs tc) (he : ∀ cl C s H fp,PE (cxLcC X N' scope cl C s H fp) elt te)
    (hs : ∀ x,foldedSetIterable iter X.env x = pure x := by intro _; rfl) :
    PE X (.ListComp elt [⟨tg,iter,ifs,0⟩] scope pos) (fun σ H Q => tLc wi M g tc te σ H fun ys H' => ∀ p,H' p = none -> Q (.ref p) (upd H' p (.lst ys))) := by
  intro pins s σ H Q I h
  obtain ⟨cl,hclos,q0,q1,q2⟩ := lc_closC S I
  rw [eval_ListComp]
  refine wpAny_comprehension_free (use := none) rfl hs hclos S.kind S.own (thn (hi pins s σ H _ I h) fun v s1 h1 => thn h1 fun itv s2 h2 => ?_)
  obtain ⟨it,fp,tn,J,H2,e,I2,T,st2,f2,hw⟩ := h2
  subst e
  refine lc_blockC (RR := fun acc C => compPost (model X.prog X.w) X.A X.xe none (EP X pins σ Q) acc C) S hc q0 q1 q2 hg hf ht he I2 T st2 f2 hw ?_
  intro D C s' H' ys I' dn hD hC ⟨m,hn⟩ hCn q
  obtain ⟨y1,y2,y3,y4⟩ := I2.young (Nat.le_of_lt hC)
  exact ⟨m,hn,fun h' hs' => ⟨.ref D,_,I'.gone (s' := s') hs' hCn y1 y2 y3 y4,rfl,q D dn⟩⟩
end
def lcChkC (N N' : List Str) (M : List (Option Nat)) (sc osc : Scope) : Bool :=
  (sc.kind == .function) && (N'.length == M.length) && (sc.names.all fun y => y.2 != NameKind.cell || sc.names.lookup y.1 == some NameKind.cell) && (sc.names.all fun y => y.2 != NameKind.local || sc.names.lookup y.1 == some NameKind.local) &&
  (sc.names.all fun y => y.2 != NameKind.free || (osc.names.lookup y.1 == some NameKind.cell || osc.names.lookup y.1 == some NameKind.free)) &&
  ((N'.zip M).all fun p => match p.2 with | none => true | some j => N[j]? == some p.1 && sc.names.lookup p.1 == some NameKind.free)
theorem lcScC_of {N N' : List Str} {M : List (Option Nat)} {sc osc : Scope} (h : lcChkC N N' M sc osc = true) : LcScC N N' M sc osc := by
  unfold lcChkC at h
  simp only [Bool.and_eq_true] at h
  obtain ⟨⟨⟨⟨⟨h1,h2⟩,h3⟩,h4⟩,h5⟩,h6⟩ := h
  have hl : N'.length = M.length := by simpa using h2
  have one : ∀ {k : NameKind} (hh : (sc.names.all fun y => y.2 != k || sc.names.lookup y.1 == some k) = true),∀ y ∈ sc.names,y.2 = k -> sc.names.lookup y.1 = some k := fun {k} hh y hy hk => by
    have q := List.all_eq_true.mp hh y hy
    rw [Bool.or_eq_true] at q
    rcases q with q | q
    · exact absurd hk (nk_ne q)
    · exact nko_eq q
  refine ⟨?_,hl,one h3,one h4,fun y hy hk => ?_,fun i j e => ?_⟩
  · revert h1; cases sc.kind <;> intro h1 <;> first | rfl | exact absurd h1 (by decide)
  · have q := List.all_eq_true.mp h5 y hy
    rw [Bool.or_eq_true,Bool.or_eq_true] at q
    rcases q with q | q | q
    · exact absurd hk (nk_ne q)
    · exact .inl (nko_eq q)
    · exact .inr (nko_eq q)
  · have hi : i < M.length := (List.getElem?_eq_some_iff.mp e).1
    have hi' : i < N'.length := by rw [hl]; exact hi
    have em : (N'[i],some j) ∈ N'.zip M := by
      refine List.mem_iff_getElem?.mpr ⟨i,?_⟩
      rw [List.getElem?_zip_eq_some]
      exact ⟨List.getElem?_eq_getElem hi',e⟩
    have q := List.all_eq_true.mp h6 _ em
    simp only [Bool.and_eq_true] at q
    exact ⟨N'[i],List.getElem?_eq_getElem hi',by simpa using q.1,nko_eq q.2⟩
def tLcV (wi : TI) (M : List (Option Nat)) (g : TG) (tc : TT) (te : TE) : TE := fun σ H Q => tLc wi M g tc te σ H fun ys H' => ∀ p,H' p = none -> Q (.ref p) (upd H' p (.lst ys))
theorem pe_lcV {X : Cx} {N' : List Str} {M : List (Option Nat)} {scope : Scope} {tg elt iter : Expr} {ifs : List Expr} {pos : Pos} {g : TG} {tc : TT} {te : TE} {wi : TI} (S : LcSc X.N N' M scope X.env.scope) (hc : X.calm = true) (hi : PI X tg iter wi) (hg : ∀ cl C s H fp,PG (cxLc X N' scope cl C s H fp) tg g) (hf : Frm M g)
    (ht : ∀ cl C s H fp,PTs (cxLc X N' scope cl C s H fp) ifs tc) (he : ∀ cl C s H fp,PE (cxLc X N' scope cl C s H fp) elt te)
    (hs : ∀ x,foldedSetIterable iter X.env x = pure x := by intro _; rfl) : PE X (.ListComp elt [⟨tg,iter,ifs,0⟩] scope pos) (tLcV wi M g tc te) := pe_lc S hc hi hg hf ht he hs
end L2
namespace L2
open PySem
theorem getD_lt {α : Type} {l : List α} {i : Nat} (h : i < l.length) (d : α) : l.getD i d = l[i] := by rw [List.getD_eq_getElem?_getD,List.getElem?_eq_getElem h]; rfl
theorem getD_app1 {α : Type} {l m : List α} {i : Nat} (h : i < l.length) (d : α) : (l ++ m).getD i d = l.getD i d := by
  rw [List.getD_eq_getElem?_getD,List.getElem?_append_left h,List.getD_eq_getElem?_getD]
theorem getD_app2 {α : Type} (l : List α) (x : α) (d : α) : (l ++ [x]).getD l.length d = x := by
  rw [List.getD_eq_getElem?_getD,List.getElem?_append_right (Nat.le_refl _),Nat.sub_self]; rfl
theorem mem_getD {l : List Int} {z : Int} : z ∈ l ↔ ∃ i,i < l.length /\ l.getD i 0 = z := by
  constructor
  · intro h
    obtain ⟨i,hi,e⟩ := List.getElem_of_mem h
    exact ⟨i,hi,by rw [getD_lt hi]; exact e⟩
  · rintro ⟨i,hi,e⟩
    rw [getD_lt hi] at e
    exact e ▸ List.getElem_mem hi
theorem numRow_at {xs : List Int} {i : Nat} (h : i < xs.length) : (numRow xs).getD i 0 = ((seen xs).idxOf (xs.getD i 0) : Int) := by
  unfold numRow
  rw [List.getD_eq_getElem?_getD,List.getElem?_map,getD_lt h,List.getElem?_eq_getElem h]; rfl
theorem numRow_pat {xs : List Int} {i j : Nat} (hi : i < xs.length) (hj : j < xs.length) : (numRow xs).getD i 0 = (numRow xs).getD j 0 ↔ xs.getD i 0 = xs.getD j 0 := by
  rw [numRow_at hi,numRow_at hj]
  have mi : xs.getD i 0 ∈ seen xs := (mem_seen xs _).mpr (mem_getD.mpr ⟨i,hi,rfl⟩)
  have mj : xs.getD j 0 ∈ seen xs := (mem_seen xs _).mpr (mem_getD.mpr ⟨j,hj,rfl⟩)
  refine ⟨fun e => ?_,fun e => by rw [e]⟩
  have e : (seen xs).idxOf (xs.getD i 0) = (seen xs).idxOf (xs.getD j 0) := Int.ofNat.inj e
  have a := List.getElem_idxOf (List.idxOf_lt_length_of_mem mi)
  have b := List.getElem_idxOf (List.idxOf_lt_length_of_mem mj)
  rw [<- a,<- b]
  congr 1
theorem pat_numRow : ∀ (n : Nat) (xs ys : List Int),xs.length = n -> ys.length = n -> (∀ i j,i < n -> j < n -> (xs.getD i 0 = xs.getD j 0 ↔ ys.getD i 0 = ys.getD j 0)) -> numRow xs = numRow ys
  | 0,xs,ys,hx,hy,_ => by rw [List.length_eq_zero_iff.mp hx,List.length_eq_zero_iff.mp hy]
  | n + 1,xs,ys,hx,hy,h => by
    have nx : xs ≠ [] := by intro e; rw [e] at hx; simp at hx
    have ny : ys ≠ [] := by intro e; rw [e] at hy; simp at hy
    have ex := (List.dropLast_concat_getLast nx).symm
    have ey := (List.dropLast_concat_getLast ny).symm
    generalize xs.dropLast = x' at ex
    generalize ys.dropLast = y' at ey
    generalize xs.getLast nx = x at ex
    generalize ys.getLast ny = y at ey
    subst ex ey
    have lx : x'.length = n := by simpa using hx
    have ly : y'.length = n := by simpa using hy
    have ih := pat_numRow n x' y' lx ly (fun i j hi hj => by
      have := h i j (by omega) (by omega)
      rw [getD_app1 (by omega),getD_app1 (by omega),getD_app1 (by omega),getD_app1 (by omega)] at this
      exact this)
    have last : ∀ i,i < n -> (x'.getD i 0 = x ↔ y'.getD i 0 = y) := fun i hi => by
      have := h i n (by omega) (by omega)
      rw [getD_app1 (l := x') (i := i) (by omega),getD_app1 (l := y') (i := i) (by omega)] at this
      have e1 : (x' ++ [x]).getD n 0 = x := by rw [<- lx]; exact getD_app2 x' x 0
      have e2 : (y' ++ [y]).getD n 0 = y := by rw [<- ly]; exact getD_app2 y' y 0
      rw [e1,e2] at this
      exact this
    rw [numRow_snoc,numRow_snoc,ih]
    congr 3
    by_cases hm : x ∈ x'
    · obtain ⟨i,hi,e⟩ := mem_getD.mp hm
      have e2 := (last i (by omega)).mp e
      have hm2 : y ∈ y' := mem_getD.mpr ⟨i,by omega,e2⟩
      rw [seenP_idx ((mem_seen x' x).mpr hm),seenP_idx ((mem_seen y' y).mpr hm2)]
      have a := numRow_at (xs := x') (i := i) hi
      have b := numRow_at (xs := y') (i := i) (by omega)
      rw [ih,b,e,e2] at a
      exact (Int.ofNat.inj a).symm
    · have hm2 : y ∉ y' := fun z => by
        obtain ⟨i,hi,e⟩ := mem_getD.mp z
        exact hm (mem_getD.mpr ⟨i,by omega,(last i (by omega)).mpr e⟩)
      rw [seenP_new (fun z => hm ((mem_seen x' x).mp z)),seenP_new (fun z => hm2 ((mem_seen y' y).mp z))]
      have a := (numRow_way x').2
      have b := (numRow_way y').2
      rw [ih,b] at a
      exact (Int.ofNat.inj a).symm
theorem way_pat {ws xs : List Int} {n : Nat} (hw : wayGo 0 ws = true) (hl : ws.length = n) (hx : xs.length = n) (h : ∀ i j,i < n -> j < n -> (xs.getD i 0 = xs.getD j 0 ↔ ws.getD i 0 = ws.getD j 0)) : numRow xs = ws := by
  rw [pat_numRow n xs ws hx hl h]
  exact (numRow_self ws hw).1
def Within (n : Nat) (xs ys : List Int) : Prop := ∀ i j,i < n -> j < n -> xs.getD i 0 = xs.getD j 0 -> ys.getD i 0 = ys.getD j 0
theorem way_memJ (ws : List Int) : wayGo 0 ws = true -> ∀ z,z ∈ ws ↔ 0 <= z /\ z < fresh 0 ws := by
  refine snoc_ind (P := fun ws => wayGo 0 ws = true -> ∀ z,z ∈ ws ↔ 0 <= z /\ z < fresh 0 ws) (fun _ z => by simp [fresh] <;> omega) (fun ws y ih h z => ?_) ws
  rw [wayGo_snoc,Bool.and_eq_true,Bool.and_eq_true] at h
  obtain ⟨h1,h2,h3⟩ := h
  have h2 := of_decide_eq_true h2
  have h3 := of_decide_eq_true h3
  have ih := ih h1 z
  have f0 : 0 <= fresh 0 ws := by have := (fresh_max ws h1).2 (-1) List.mem_cons_self; omega
  rw [List.mem_append,List.mem_singleton,ih,fresh_snoc]
  split <;> omega
theorem fresh_le (ws : List Int) : fresh 0 ws <= ws.length := by
  refine snoc_ind (P := fun ws => fresh 0 ws <= (ws.length : Int)) (by show (0 : Int) <= _; simp) (fun xs z ih => ?_) ws
  rw [fresh_snoc,List.length_append]
  show _ <= ((xs.length + 1 : Nat) : Int)
  split <;> omega
theorem way_small {ws : List Int} (hw : isWay ws = true) {i : Nat} (h : i < ws.length) : 0 <= ws.getD i 0 /\ ws.getD i 0 < 9 /\ ws.getD i 0 < fresh 0 ws := by
  obtain ⟨w1,w9,w0⟩ := isWay_iff.mp hw
  have hf := (way_memJ ws w0 (ws.getD i 0)).mp (mem_getD.mpr ⟨i,h,rfl⟩)
  have := fresh_le ws
  exact ⟨hf.1,by omega,hf.2⟩
theorem within_anti {ws vs : List Int} {n : Nat} (hw : isWay ws = true) (hv : isWay vs = true) (e1 : ws.length = n) (e2 : vs.length = n) (h1 : Within n ws vs) (h2 : Within n vs ws) : ws = vs := by
  have := way_pat (isWay_iff.mp hv).2.2 e2 e1 fun i j hi hj => ⟨fun e => h1 i j hi hj e,fun e => h2 i j hi hj e⟩
  rw [<- this]
  exact ((numRow_self ws (isWay_iff.mp hw).2.2).1).symm
def relab (L : List Int) (old new : Int) : List Int := L.map fun l => if l = old then new else l
theorem relab_length (L : List Int) (o n : Int) : (relab L o n).length = L.length := by unfold relab; simp
theorem relab_at {L : List Int} {o n : Int} {i : Nat} (h : i < L.length) : (relab L o n).getD i 0 = if L.getD i 0 = o then n else L.getD i 0 := by
  unfold relab
  rw [List.getD_eq_getElem?_getD,List.getElem?_map,getD_lt h,List.getElem?_eq_getElem h]; rfl
def mg (L : List Int) (p : Nat × Nat) : List Int := relab L (L.getD p.2 0) (L.getD p.1 0)
theorem mg_length (L : List Int) (p : Nat × Nat) : (mg L p).length = L.length := relab_length ..
def mgs (L : List Int) (ps : List (Nat × Nat)) : List Int := ps.foldl mg L
theorem mgs_length : ∀ (ps : List (Nat × Nat)) (L : List Int),(mgs L ps).length = L.length
  | [],_ => rfl
  | p :: ps,L => by show (mgs (mg L p) ps).length = _; rw [mgs_length ps,mg_length]
theorem mg_keep {L : List Int} {p : Nat × Nat} {i j : Nat} (hi : i < L.length) (hj : j < L.length) (h : L.getD i 0 = L.getD j 0) : (mg L p).getD i 0 = (mg L p).getD j 0 := by
  unfold mg
  rw [relab_at hi,relab_at hj,h]
theorem mgs_keep : ∀ (ps : List (Nat × Nat)) {L : List Int} {i j : Nat},i < L.length -> j < L.length -> L.getD i 0 = L.getD j 0 -> (mgs L ps).getD i 0 = (mgs L ps).getD j 0
  | [],_,_,_,_,_,h => h
  | p :: ps,L,i,j,hi,hj,h => mgs_keep ps (L := mg L p) (by rw [mg_length]; exact hi) (by rw [mg_length]; exact hj) (mg_keep hi hj h)
theorem mg_pair {L : List Int} {p : Nat × Nat} (h1 : p.1 < L.length) (h2 : p.2 < L.length) : (mg L p).getD p.1 0 = (mg L p).getD p.2 0 := by
  unfold mg
  rw [relab_at h1,relab_at h2,if_pos rfl]
  split <;> rfl
theorem mgs_pairs : ∀ (ps : List (Nat × Nat)) {L : List Int},(∀ p ∈ ps,p.1 < L.length /\ p.2 < L.length) -> ∀ p ∈ ps,(mgs L ps).getD p.1 0 = (mgs L ps).getD p.2 0
  | [],_,_,p,hp => by simp at hp
  | q :: ps,L,h,p,hp => by
    have hq := h q List.mem_cons_self
    rcases List.mem_cons.mp hp with e | hp
    · rw [e]
      exact mgs_keep ps (L := mg L q) (by rw [mg_length]; exact hq.1) (by rw [mg_length]; exact hq.2) (mg_pair hq.1 hq.2)
    · exact mgs_pairs ps (L := mg L q) (fun r hr => by rw [mg_length]; exact h r (List.mem_cons_of_mem _ hr)) p hp
theorem mg_least {L : List Int} {p : Nat × Nat} {g : Nat -> Int} (h1 : p.1 < L.length) (h2 : p.2 < L.length) (hg : ∀ i j,i < L.length -> j < L.length -> L.getD i 0 = L.getD j 0 -> g i = g j) (hp : g p.1 = g p.2) :
    ∀ i j,i < L.length -> j < L.length -> (mg L p).getD i 0 = (mg L p).getD j 0 -> g i = g j := fun i j hi hj h => by
  unfold mg at h
  rw [relab_at hi,relab_at hj] at h
  by_cases ei : L.getD i 0 = L.getD p.2 0
  · rw [if_pos ei] at h
    have gi := hg i p.2 hi h2 ei
    by_cases ej : L.getD j 0 = L.getD p.2 0
    · rw [gi,hg j p.2 hj h2 ej]
    · rw [if_neg ej] at h
      rw [gi,<- hp,hg p.1 j h1 hj h]
  · rw [if_neg ei] at h
    by_cases ej : L.getD j 0 = L.getD p.2 0
    · rw [if_pos ej] at h
      rw [hg j p.2 hj h2 ej,<- hp,hg i p.1 hi h1 h]
    · rw [if_neg ej] at h
      exact hg i j hi hj h
theorem mgs_least : ∀ (ps : List (Nat × Nat)) {L : List Int} {g : Nat -> Int},(∀ p ∈ ps,p.1 < L.length /\ p.2 < L.length) -> (∀ i j,i < L.length -> j < L.length -> L.getD i 0 = L.getD j 0 -> g i = g j) -> (∀ p ∈ ps,g p.1 = g p.2) ->
    ∀ i j,i < L.length -> j < L.length -> (mgs L ps).getD i 0 = (mgs L ps).getD j 0 -> g i = g j
  | [],_,_,_,hg,_ => hg
  | q :: ps,L,g,h,hg,hp => fun i j hi hj e => by
    have hq := h q List.mem_cons_self
    exact mgs_least ps (L := mg L q) (g := g) (fun r hr => by rw [mg_length]; exact h r (List.mem_cons_of_mem _ hr))
      (fun i j hi hj => by rw [mg_length] at hi hj; exact mg_least hq.1 hq.2 hg (hp q List.mem_cons_self) i j hi hj)
      (fun r hr => hp r (List.mem_cons_of_mem _ hr)) i j (by rw [mg_length]; exact hi) (by rw [mg_length]; exact hj) e
def lotN (ws : List Int) (k : Int) (i : Nat) : List Nat := (List.range i).filter fun j => decide (ws.getD j 0 = k)
def lotL (ws : List Int) (k : Int) (i : Nat) : List Int := (lotN ws k i).map fun (j : Nat) => (j : Int)
theorem lotN_succ (ws : List Int) (k : Int) (i : Nat) : lotN ws k (i + 1) = if ws.getD i 0 = k then lotN ws k i ++ [i] else lotN ws k i := by
  unfold lotN
  rw [List.range_succ,List.filter_append]
  by_cases h : ws.getD i 0 = k
  · rw [if_pos h]; rw [List.getD_eq_getElem?_getD] at h; simp [h]
  · rw [if_neg h]; rw [List.getD_eq_getElem?_getD] at h; simp [h]
theorem lotL_succ (ws : List Int) (k : Int) (i : Nat) : lotL ws k (i + 1) = if ws.getD i 0 = k then lotL ws k i ++ [(i : Int)] else lotL ws k i := by
  unfold lotL
  rw [lotN_succ]
  split <;> simp
theorem mem_lotN {ws : List Int} {k : Int} {i j : Nat} : j ∈ lotN ws k i ↔ j < i /\ ws.getD j 0 = k := by
  unfold lotN; simp
theorem lotN_length_le (ws : List Int) (k : Int) (i : Nat) : (lotN ws k i).length <= i := by
  unfold lotN
  have := List.length_filter_le (fun j => decide (ws.getD j 0 = k)) (List.range i)
  simpa using this
theorem lotL_length (ws : List Int) (k : Int) (i : Nat) : (lotL ws k i).length = (lotN ws k i).length := by unfold lotL; simp
theorem lotN_ne {ws : List Int} (hw : isWay ws = true) {k : Nat} (hk : k < (fresh 0 ws).toNat) : lotN ws (k : Int) ws.length ≠ [] := fun e => by
  obtain ⟨w1,w9,w0⟩ := isWay_iff.mp hw
  have : (k : Int) ∈ ws := (way_memJ ws w0 k).mpr ⟨by omega,by omega⟩
  obtain ⟨i,hi,ei⟩ := mem_getD.mp this
  have hm : i ∈ lotN ws (k : Int) ws.length := mem_lotN.mpr ⟨hi,ei⟩
  rw [e] at hm
  simp at hm
end L2
namespace L2
open PySem
theorem mgs_snoc (L : List Int) (ps : List (Nat × Nat)) (q : Nat × Nat) : mgs L (ps ++ [q]) = mg (mgs L ps) q := by unfold mgs; rw [List.foldl_append]; rfl
theorem getRef {qs : List Addr} {j : Nat} {y : V} (h : (qs.map V.ref)[j]? = some y) : ∃ q,y = V.ref q /\ qs[j]? = some q /\ j < qs.length := by
  rw [List.getElem?_map] at h
  cases e : qs[j]? with
  | none => rw [e] at h; cases h
  | some q => rw [e] at h; exact ⟨q,(Option.some.inj h).symm,rfl,(List.getElem?_eq_some_iff.mp e).1⟩
theorem atI_ref {qs : List Addr} {j : Nat} {q : Addr} (h : qs[j]? = some q) : atI (qs.map V.ref) (j : Int) = some (V.ref q) := atI_nat (by rw [List.getElem?_map,h]; rfl)
theorem nodup_get : ∀ {qs : List Addr},qs.Nodup -> ∀ {i j : Nat} {q : Addr},qs[i]? = some q -> qs[j]? = some q -> i = j
  | [],_,i,j,q,a,b => by simp at a
  | x :: qs,h,0,0,q,a,b => rfl
  | x :: qs,h,0,j + 1,q,a,b => by
    have a : x = q := by simpa using a
    have b : qs[j]? = some q := by simpa using b
    exact absurd (List.mem_of_getElem? b) (a ▸ (List.nodup_cons.mp h).1)
  | x :: qs,h,i + 1,0,q,a,b => by
    have b : x = q := by simpa using b
    have a : qs[i]? = some q := by simpa using a
    exact absurd (List.mem_of_getElem? a) (b ▸ (List.nodup_cons.mp h).1)
  | x :: qs,h,i + 1,j + 1,q,a,b => by
    rw [nodup_get (List.nodup_cons.mp h).2 (i := i) (j := j) (by simpa using a) (by simpa using b)]
end L2
namespace L2
open PySem
end L2
namespace L2
open PySem PySem.Spec PyProof.Rows
section
variable {X : Cx} {K : PySem.W.Frag} {pos : Pos}
theorem kpg_tup {es : List Expr} {k : Nat} {t : TGs} {n : Nat} (hc : X.calm = true) (h : PGs X es t)
    (hn : (assignEach es X.env).length = n := by rfl) (hst : (assignEach es X.env).findIdx? (·.1) = none := by rfl) (hK : X.K = K := by rfl) : PG X (.Tuple es k pos) (gTup K n t) := by
  subst hK; exact pg_tup hc h hn hst
theorem frm_two {M : List (Option Nat)} {n : Nat} (h0 : M[0]? = some none := by rfl) (h1 : M[1]? = some none := by rfl) : Frm M (gTup K n (gCons (gName 0) (gCons (gName 1) gNil))) := fun v σ H Q q => by
  obtain ⟨a,xs,e,hq,hl,v1,r,e1,v2,r2,e2,e3,q⟩ := q
  refine ⟨a,xs,e,hq,hl,v1,r,e1,v2,r2,e2,e3,q,by rw [List.length_set,List.length_set],fun k j ek => ?_⟩
  have n0 : 0 ≠ k := by rintro rfl; rw [h0] at ek; cases ek
  have n1 : 1 ≠ k := by rintro rfl; rw [h1] at ek; cases ek
  rw [List.getElem?_set_ne n1,List.getElem?_set_ne n0]
end
end L2
namespace L2
open PySem
theorem lcY {te : TE} {σ : St} {H : Hp} {N : V -> Hp -> Prop} {N' : Hp -> Prop} (h : te σ H N) : tYes σ H (fun b H3 => if b = true then te σ H3 N else N' H3) := by
  unfold tYes
  exact iteT h
end L2
namespace L2
open PySem PySem.Spec PyProof.Rows
end L2
namespace L2
open PySem
theorem rg_getD {n i : Nat} (h : i < n) : (rg n).getD i 0 = (i : Int) := by rw [List.getD_eq_getElem?_getD,rg_get h]; rfl
end L2
namespace L2
open PySem
theorem sub_len : ∀ (l m : List Int),l.Nodup -> (∀ x ∈ l,x ∈ m) -> l.length <= m.length
  | [],m,_,_ => Nat.zero_le _
  | x :: l,m,hn,h => by
    have hx := h x List.mem_cons_self
    have ⟨n1,n2⟩ := List.nodup_cons.mp hn
    have := sub_len l (m.erase x) n2 (fun y hy => (List.mem_erase_of_ne (show y ≠ x from fun e => n1 (by rw [<- e]; exact hy))).mpr (h y (List.mem_cons_of_mem _ hy)))
    rw [List.length_erase_of_mem hx] at this
    have hp : 0 < m.length := List.length_pos_of_mem hx
    rw [List.length_cons]; omega
end L2
namespace L2
open PySem
end L2
namespace L2
open PySem
def hdL (ws : List Int) (k : Nat) : Int := (((lotN ws (k : Int) ws.length).headD 0 : Nat) : Int)
def tlL (ws : List Int) (k : Nat) : Int := (((lotN ws (k : Int) ws.length).getLastD 0 : Nat) : Int)
theorem hdL_ok {ws : List Int} (hw : isWay ws = true) {k : Nat} (hk : k < (fresh 0 ws).toNat) : 0 <= hdL ws k /\ hdL ws k < ws.length /\ ws.getD (hdL ws k).toNat 0 = (k : Int) := by
  have hne := lotN_ne hw hk
  unfold hdL
  cases e : lotN ws (k : Int) ws.length with
  | nil => exact absurd e hne
  | cons h t =>
    have := mem_lotN.mp (show h ∈ lotN ws (k : Int) ws.length by rw [e]; exact List.mem_cons_self)
    exact ⟨by show (0 : Int) <= (h : Int); omega,by show (h : Int) < _; omega,by show ws.getD ((h : Int)).toNat 0 = _; rw [Int.toNat_natCast]; exact this.2⟩
theorem gl {l : List Nat} (h : l ≠ []) : l.getLastD 0 = l.getLast h := by
  cases l with
  | nil => exact absurd rfl h
  | cons a t => rfl
theorem tlL_ok {ws : List Int} (hw : isWay ws = true) {k : Nat} (hk : k < (fresh 0 ws).toNat) : 0 <= tlL ws k /\ tlL ws k < ws.length /\ ws.getD (tlL ws k).toNat 0 = (k : Int) := by
  have hne := lotN_ne hw hk
  have hm : (lotN ws (k : Int) ws.length).getLastD 0 ∈ lotN ws (k : Int) ws.length := by
    rw [gl hne]; exact List.getLast_mem hne
  have := mem_lotN.mp hm
  unfold tlL
  exact ⟨by omega,by omega,by rw [Int.toNat_natCast]; exact this.2⟩
theorem at_hd {ws : List Int} {k : Nat} (hne : lotN ws (k : Int) ws.length ≠ []) : atI ((lotL ws (k : Int) ws.length).map V.int) 0 = some (V.int (hdL ws k)) := by
  unfold lotL hdL
  cases e : lotN ws (k : Int) ws.length with
  | nil => exact absurd e hne
  | cons h t => exact atI_nat (j := 0) rfl
theorem at_tl {ws : List Int} {k : Nat} (hne : lotN ws (k : Int) ws.length ≠ []) : atI ((lotL ws (k : Int) ws.length).map V.int) (-1) = some (V.int (tlL ws k)) := by
  unfold lotL tlL
  have e := (List.dropLast_concat_getLast hne).symm
  have e2 : (lotN ws (k : Int) ws.length).getLastD 0 = (lotN ws (k : Int) ws.length).getLast hne := gl hne
  rw [e2]
  generalize (lotN ws (k : Int) ws.length).getLast hne = z at e
  rw [e,List.map_append,List.map_append]
  exact atI_last _ _
def lieS (a0 a1 b0 b1 : Int) : Str := if a0 = b0 /\ a1 = b1 then "same" else if a1 < b0 \/ b1 < a0 then "apart" else if b0 < a0 /\ a1 < b1 then "inside" else if a0 < b0 /\ b1 < a1 then "around" else "crossing"
def lieL (a0 a1 b0 b1 : Int) : Str := if a0 = b0 /\ a1 = b1 then "same" else if a1 < b0 \/ b1 < a0 then "apart" else if b0 <= a0 /\ a1 <= b1 then "inside" else if a0 <= b0 /\ b1 <= a1 then "around" else "crossing"
theorem lie_same {ws : List Int} (hw : isWay ws = true) {k m : Nat} (hk : k < (fresh 0 ws).toNat) (hm : m < (fresh 0 ws).toNat) : lieS (hdL ws k) (tlL ws k) (hdL ws m) (tlL ws m) = lieL (hdL ws k) (tlL ws k) (hdL ws m) (tlL ws m) := by
  by_cases e : k = m
  · subst e; unfold lieS lieL; rw [if_pos ⟨rfl,rfl⟩,if_pos ⟨rfl,rfl⟩]
  · have a := hdL_ok hw hk
    have b := tlL_ok hw hk
    have c := hdL_ok hw hm
    have d := tlL_ok hw hm
    have n1 : hdL ws k ≠ hdL ws m := fun z => by have := a.2.2; rw [z,c.2.2] at this; omega
    have n2 : tlL ws k ≠ tlL ws m := fun z => by have := b.2.2; rw [z,d.2.2] at this; omega
    unfold lieS lieL
    have e1 : (hdL ws m < hdL ws k /\ tlL ws k < tlL ws m) ↔ (hdL ws m <= hdL ws k /\ tlL ws k <= tlL ws m) := by omega
    have e2 : (hdL ws k < hdL ws m /\ tlL ws m < tlL ws k) ↔ (hdL ws k <= hdL ws m /\ tlL ws m <= tlL ws k) := by omega
    simp only [e1,e2]
end L2
namespace L2
open PySem PySem.Spec PyProof.Rows
section
variable {X : Cx} {K : PySem.W.Frag}
end
end L2
namespace L2
open PySem
end L2
namespace L2
theorem ixN_pos {n : Nat} {i : Int} (h0 : 0 <= i) (h1 : i < n) : ixN n i = some i.toNat := by unfold ixN; rw [if_pos h0,if_pos h1]
end L2
namespace L2
open PySem PySem.Spec PyProof.Rows
section
variable {X : Cx} {K : PySem.W.Frag}
end
end L2
namespace L2
open PySem
end L2
namespace L2
open PySem PySem.Spec PyProof.Rows
section
variable {X : Cx} {K : PySem.W.Frag}
theorem cut_last (xs : List V) : cutV xs none (some (-1)) = xs.take (xs.length - 1) := by
  have e : HT.sIx xs.length xs.length (some (-1)) = xs.length - 1 := by
    have := HT.clip_eq (-1) xs.length xs.length
    rw [if_pos (by decide)] at this
    omega
  unfold cutV
  rw [HT.sIx_none,e,List.drop_zero,Nat.sub_zero]
end
end L2
namespace L2
open PySem
end L2
namespace L2
open PySem PySem.Spec PyProof.Rows
section
variable {X : Cx}
def PlT (H : Hp) (a : Addr) (xs : List V) : Prop := ∃ ob : Obj,ob.dict = none /\ H a = some (.frz ob (.tup xs))
theorem PlT.sq {K : PySem.W.Frag} {H : Hp} {a : Addr} {xs : List V} (h : PlT H a xs) : SqT K H a xs := by
  obtain ⟨ob,_,h⟩ := h
  exact .inl (.inr ⟨ob,h⟩)
theorem PlT.same {H H' : Hp} {a : Addr} {xs : List V} (h : PlT H a xs) (s : Same H H') : PlT H' a xs := by
  obtain ⟨ob,h1,h⟩ := h
  exact ⟨ob,h1,s a _ h⟩
theorem kc_tupleO {K : PySem.W.Frag} (h : X.K = K := by rfl) : CallR X (.type "tuple") (fun xs H Q => ∃ p ys,xs = [.ref p] /\ SqL K H p ys /\ ((∀ l,H l = none -> Q (.ref l) (upd H l (.tup ys))) \/ (∀ l ob,H l = none -> ob.dict = none -> Q (.ref l) (upd H l (.frz ob (.tup ys)))))) := by
  subst h
  intro pins s σ H xs us Q I r h
  obtain ⟨p,ys,rfl,hq,h⟩ := h
  obtain ⟨u,rfl,rx⟩ := vals1 r
  cases rx
  obtain ⟨its,r',pl,hz⟩ := I.list hq
  have hlen := r'.length
  refine call_tuple_list pl.isList (fun h' kp => ?_) (by simp only [List.size_toArray] <;> omega)
  have I1 : Inv X pins σ H { s with heap := h' } := I.kept (t' := s.toks) kp
  rcases h with q | q
  · have I2 : Inv X pins σ (upd H h'.objs.size (.tup ys)) { s with heap := h'.push { cls := .type "tuple",data := .seq its.toArray } } :=
      I1.laid (t' := s.toks) (fun b o e => Heap.get?_push_of_some _ e) (Nat.le_refl _) (show ObjOk X.prog X.w _ _ _ (.tup ys) from ⟨hz,its,r',IsTup.new _ _⟩)
    exact ⟨.ref h'.objs.size,_,I2,rfl,q _ (I1.hok.fresh (Nat.le_refl _))⟩
  · have I2 : Inv X pins σ (upd H h'.objs.size (.frz { cls := .type "tuple",data := .seq its.toArray } (.tup ys))) { s with heap := h'.push { cls := .type "tuple",data := .seq its.toArray } } :=
      I1.laid (t' := s.toks) (fun b o e => Heap.get?_push_of_some _ e) (Nat.le_refl _) ⟨Heap.get?_push_size _ rfl,show ObjOk X.prog X.w _ _ _ (.tup ys) from ⟨hz,its,r',IsTup.new _ _⟩⟩
    exact ⟨.ref h'.objs.size,_,I2,rfl,q _ _ (I1.hok.fresh (Nat.le_refl _)) rfl⟩
def tBMT (r : V -> List V -> Hp -> VK -> Prop) (to : TE) (t : TA) : TE := fun σ H Q => to σ H fun x H1 => (∃ a xs,x = .ref a /\ PlT H1 a xs) /\ t σ H1 fun xs H2 => r x xs H2 Q
theorem pe_bmT {name : Str} {id : String} {r : V -> List V -> Hp -> VK -> Prop} {o e : Expr} {es : List Expr} {to : TE} {t : TA} {apos cpos : Pos} (slot : Slot "tuple" name id) (hty : typeOf (.builtin id) = pure (.type "method_descriptor")) (hm : MtR X id r) (ho : PE X o to) (ha : PA X (e :: es) t)
    (hbase : attributeBase o name X.env (eval o X.env) = eval o X.env := by rfl)
    (hfew : ((backTo cpos (starEach (e :: es) X.env)).all (fun x => !x.1) && (backToKw cpos (keywordEach [] X.env)).all (fun x => x.1.isSome)
      && decide ((e :: es).length + ([] : List Keyword).length + (if ([] : List Keyword).isEmpty then 0 else 1) < 30)) = true := by rfl)
    (hline : (apos.endLine == cpos.line) = true := by rfl) (hs : starEach (e :: es) X.env = (false,eval e X.env) :: starEach es X.env := by rfl) (hplain : (backTo cpos (starEach es X.env)).any (·.1) = false := by rfl) :
    PE X (.Call (.Attribute o name apos) (e :: es) [] cpos) (tBMT r to t) := by
  intro pins s σ H Q I h
  refine wpAny_Call_method_late hbase hfew hline rfl (thn (ho pins s σ H _ I h) fun v s1 ⟨x,H1,I1,r1,ty,q1⟩ => ?_)
  obtain ⟨a,xs,rfl,hH⟩ := ty
  have r1' := r1
  cases r1'
  obtain ⟨ob,e4,hH⟩ := hH
  obtain ⟨e1,_,its,rv,ob',e1',e2,_⟩ := I1.hok a _ hH
  rw [e1] at e1'
  cases e1'
  refine ⟨"tuple",id,F.plainAttrs_tuple,slot,hty,⟨ob,e1,e2⟩,fun b eb => ?_,?_⟩
  · cases eb; exact ⟨ob,e1,e4⟩
  have hA := ha cpos pins s1 σ H1 _ I1 q1
  rw [hs] at hA ⊢
  refine Calls.callWith_builtin (by show (false || (backTo cpos (starEach es X.env)).any (·.1)) = false; rw [hplain] <;> rfl) (Calls.evalArgs_plain ?_)
  exact thn hA fun us s2 ⟨vs,H2,I2,r2,q2⟩ => hm pins s2 σ H2 _ vs _ us Q I2 r1 r2 q2
end
end L2
namespace L2
open PySem
def suitsB (ar cr : Nat -> Nat -> Bool) (C : List Int) (h : Int) : Bool :=
  (List.range C.length).all fun k => !(ar k C.length && decide (C.getD k 0 <= h)) && !(cr k C.length && decide (C.getD k 0 = h))
def comp (ar cr : Nat -> Nat -> Bool) (n g : Nat) : Nat -> List Int -> Option (List Int)
  | 0,_ => none
  | d + 1,C => if C.length = n then some C else
      (List.range g).findSome? fun (h : Nat) => if suitsB ar cr C ((h : Int) + 1) then comp ar cr n g d (C ++ [(h : Int) + 1]) else none
def GoodH (ar cr : Nat -> Nat -> Bool) (g : Nat) (F : List Int) : Prop := ∀ i,i < F.length -> suitsB ar cr (F.take i) (F.getD i 0) = true /\ 1 <= F.getD i 0 /\ F.getD i 0 <= (g : Int)
variable {ar cr : Nat -> Nat -> Bool} {n g : Nat}
theorem good_snoc {C : List Int} {h : Int} (c : GoodH ar cr g C) (s : suitsB ar cr C h = true) (h1 : 1 <= h) (h2 : h <= g) : GoodH ar cr g (C ++ [h]) := fun i hi => by
  rw [List.length_append] at hi
  simp only [List.length_cons,List.length_nil] at hi
  by_cases e : i = C.length
  · rw [e,getD_app2,List.take_left]; exact ⟨s,h1,h2⟩
  · rw [getD_app1 (by omega),List.take_append_of_le_length (by omega)]; exact c i (by omega)
theorem comp_good : ∀ (d : Nat) (C F : List Int),C.length <= n -> GoodH ar cr g C -> comp ar cr n g d C = some F -> GoodH ar cr g F /\ F.length = n
  | 0,C,F,_,_,h => by unfold comp at h; cases h
  | d + 1,C,F,hl,hc,h => by
    unfold comp at h
    by_cases e : C.length = n
    · rw [if_pos e] at h
      cases h
      exact ⟨hc,e⟩
    · rw [if_neg e] at h
      obtain ⟨x,hx,h⟩ := List.exists_of_findSome?_eq_some h
      have hx := List.mem_range.mp hx
      by_cases s : suitsB ar cr C ((x : Int) + 1) = true
      · rw [if_pos s] at h
        exact comp_good d _ F (by rw [List.length_append]; simp only [List.length_cons,List.length_nil]; omega) (good_snoc hc s (by omega) (by omega)) h
      · rw [if_neg s] at h; cases h
theorem comp_none : ∀ (d : Nat) (C F : List Int),n < C.length + d -> C.length <= n -> comp ar cr n g d C = none -> GoodH ar cr g F -> F.length = n -> F.take C.length = C -> False
  | 0,C,F,hd,hl,_,_,_,_ => by omega
  | d + 1,C,F,hd,hl,h,hF,lF,hp => by
    unfold comp at h
    by_cases e : C.length = n
    · rw [if_pos e] at h; cases h
    · rw [if_neg e] at h
      rw [List.findSome?_eq_none_iff] at h
      obtain ⟨s,h1,h2⟩ := hF C.length (by omega)
      rw [hp] at s
      have ex : ((F.getD C.length 0).toNat - 1 : Nat) < g := by omega
      have hh := h _ (List.mem_range.mpr ex)
      have ev : (((F.getD C.length 0).toNat - 1 : Nat) : Int) + 1 = F.getD C.length 0 := by omega
      rw [ev,if_pos s] at hh
      refine comp_none d _ F (by rw [List.length_append]; simp only [List.length_cons,List.length_nil]; omega) (by rw [List.length_append]; simp only [List.length_cons,List.length_nil]; omega) hh hF lF ?_
      rw [List.length_append]
      simp only [List.length_cons,List.length_nil]
      have hlt : C.length < F.length := by omega
      rw [List.take_succ,hp,List.getElem?_eq_getElem hlt,getD_lt hlt]; rfl
def descL (n : Nat) : List Int := (List.range n).map fun i => ((n - i : Nat) : Int)
theorem descL_length : (descL n).length = n := by unfold descL; simp
theorem descL_at {i : Nat} (h : i < n) : (descL n).getD i 0 = ((n - i : Nat) : Int) := by
  unfold descL
  rw [List.getD_eq_getElem?_getD,List.getElem?_map,List.getElem?_range h]; rfl
theorem desc_good (hn : n <= g) : GoodH ar cr g (descL n) := fun i hi => by
  rw [descL_length] at hi
  rw [descL_at hi]
  refine ⟨?_,by omega,by omega⟩
  unfold suitsB
  rw [List.all_eq_true]
  intro k hk
  rw [List.mem_range,List.length_take,descL_length] at hk
  have e : ((descL n).take i).getD k 0 = ((n - k : Nat) : Int) := by
    rw [List.getD_eq_getElem?_getD,List.getElem?_take_of_lt (by omega),<- List.getD_eq_getElem?_getD,descL_at (by omega)]
  rw [e]
  have a : decide (((n - k : Nat) : Int) <= ((n - i : Nat) : Int)) = false := decide_eq_false (by omega)
  have b : decide (((n - k : Nat) : Int) = ((n - i : Nat) : Int)) = false := decide_eq_false (by omega)
  rw [a,b]; simp
theorem comp_some {d : Nat} (hn : n <= g) (hd : n < d) : ∃ F,comp ar cr n g d [] = some F := by
  cases e : comp ar cr n g d [] with
  | some F => exact ⟨F,rfl⟩
  | none => exact (comp_none d [] (descL n) (by simp; omega) (by simp) e (desc_good hn) descL_length rfl).elim
theorem comp_fuel : ∀ (d : Nat) (C : List Int),n < C.length + d -> C.length <= n -> comp ar cr n g (d + 1) C = comp ar cr n g d C
  | 0,C,hd,hl => by omega
  | d + 1,C,hd,hl => by
    unfold comp
    by_cases e : C.length = n
    · rw [if_pos e,if_pos e]
    · rw [if_neg e,if_neg e]
      congr 1
      funext x
      split
      · exact comp_fuel d _ (by rw [List.length_append]; simp only [List.length_cons,List.length_nil]; omega) (by rw [List.length_append]; simp only [List.length_cons,List.length_nil]; omega)
      · rfl
theorem find_first {α : Type} {f : Nat -> Option α} {i g : Nat} {x : α} (h0 : (List.range i).findSome? f = none) (hi : i < g) (hx : f i = some x) : (List.range g).findSome? f = some x := by
  have e : List.range g = List.range (i + 1) ++ (List.range (g - (i + 1))).map (i + 1 + ·) := by
    rw [<- List.range_add]; congr 1; omega
  rw [e,List.findSome?_append,List.range_succ,List.findSome?_append,h0]
  simp [hx]
theorem find_next {α : Type} {f : Nat -> Option α} {i : Nat} (h0 : (List.range i).findSome? f = none) (hx : f i = none) : (List.range (i + 1)).findSome? f = none := by
  rw [List.range_succ,List.findSome?_append,h0]
  simp [hx]
def IsH (ar cr : Nat -> Nat -> Bool) (n : Nat) (F : List Int) : Prop := ∃ g,1 <= g /\ comp ar cr n g (n + 1) [] = some F /\ ∀ g',1 <= g' -> g' < g -> comp ar cr n g' (n + 1) [] = none
theorem IsH.uniq {F G : List Int} (a : IsH ar cr n F) (b : IsH ar cr n G) : F = G := by
  obtain ⟨g,g1,e1,l1⟩ := a
  obtain ⟨h,h1,e2,l2⟩ := b
  rcases Nat.lt_trichotomy g h with z | z | z
  · rw [l2 g g1 z] at e1; cases e1
  · subst z; rw [e1] at e2; exact Option.some.inj e2
  · rw [l1 h h1 z] at e2; cases e2
theorem IsH.good {F : List Int} (a : IsH ar cr n F) : ∃ g,GoodH ar cr g F /\ F.length = n := by
  obtain ⟨g,g1,e1,l1⟩ := a
  exact ⟨g,comp_good (n + 1) [] F (by simp) (fun i hi => by simp at hi) e1⟩
theorem hd_min {ws : List Int} {k : Int} {j : Nat} (hj : j < ws.length) (e : ws.getD j 0 = k) : (lotN ws k ws.length).headD 0 <= j := by
  have hm : j ∈ lotN ws k ws.length := mem_lotN.mpr ⟨hj,e⟩
  have hp : (lotN ws k ws.length).Pairwise (· < ·) := List.pairwise_lt_range.filter _
  cases e : lotN ws k ws.length with
  | nil => rw [e] at hm; simp at hm
  | cons h t =>
    rw [e] at hm hp
    rcases List.mem_cons.mp hm with z | z
    · rw [z]; exact Nat.le_refl _
    · exact Nat.le_of_lt ((List.pairwise_cons.mp hp).1 j z)
theorem hd_mono {ws : List Int} (hw : isWay ws = true) {k m : Nat} (hkm : k < m) (hm : m < (fresh 0 ws).toNat) : hdL ws k < hdL ws m := by
  obtain ⟨h0,h1,h2⟩ := hdL_ok hw hm
  obtain ⟨_,_,w0⟩ := isWay_iff.mp hw
  generalize hi : (hdL ws m).toNat = i at h2
  have hil : i < ws.length := by omega
  have e : ws = ws.take i ++ ws.drop i := (List.take_append_drop i ws).symm
  rw [e,way_app,Bool.and_eq_true] at w0
  rw [List.drop_eq_getElem_cons hil] at w0
  have hg : ws[i] = (m : Int) := by rw [<- getD_lt hil 0]; exact h2
  obtain ⟨_,x2,_⟩ := way_cons w0.2
  rw [hg] at x2
  have hk : (k : Int) ∈ ws.take i := (way_memJ _ w0.1 _).mpr ⟨by omega,by omega⟩
  obtain ⟨j,hj,ej⟩ := mem_getD.mp hk
  rw [List.length_take] at hj
  have ej' : ws.getD j 0 = (k : Int) := by rw [<- ej,List.getD_eq_getElem?_getD,List.getD_eq_getElem?_getD,List.getElem?_take_of_lt (by omega)]
  have := hd_min (ws := ws) (by omega) ej'
  unfold hdL at *
  omega
theorem lie_rev {a0 a1 b0 b1 : Int} (h : a0 < b0) : (lieS b0 b1 a0 a1 = "inside" -> lieS a0 a1 b0 b1 = "around") /\ lieS b0 b1 a0 a1 ≠ "around" /\ (lieS b0 b1 a0 a1 = "crossing" -> lieS a0 a1 b0 b1 = "crossing") := by
  have n1 : ¬ (b0 = a0 /\ b1 = a1) := fun z => by omega
  have n2 : ¬ (a0 = b0 /\ a1 = b1) := fun z => by omega
  have n3 : ¬ (b0 < a0 /\ a1 < b1) := fun z => by omega
  unfold lieS
  rw [if_neg n1,if_neg n2]
  by_cases c : b1 < a0 \/ a1 < b0
  · rw [if_pos c,if_pos (show a1 < b0 \/ b1 < a0 from c.symm)]
    exact ⟨fun z => absurd z (by decide),by decide,fun z => absurd z (by decide)⟩
  · rw [if_neg c,if_neg (show ¬ (a1 < b0 \/ b1 < a0) from fun z => c z.symm)]
    by_cases d : a0 < b0 /\ b1 < a1
    · rw [if_pos d,if_neg n3,if_pos d]
      exact ⟨fun _ => rfl,by decide,fun z => absurd z (by decide)⟩
    · rw [if_neg d,if_neg n3,if_neg n3,if_neg d]
      exact ⟨fun z => absurd z (by decide),by decide,fun _ => rfl⟩
def arW (ws : List Int) (k j : Nat) : Bool := decide (lieS (hdL ws k) (tlL ws k) (hdL ws j) (tlL ws j) = "around")
def crW (ws : List Int) (k j : Nat) : Bool := decide (lieS (hdL ws k) (tlL ws k) (hdL ws j) (tlL ws j) = "crossing")
def SpanAt (H : Hp) (p : Addr) (ps : List Addr) (ws : List Int) : Prop := H p = some (.lst (ps.map V.ref)) /\ ps.length = (fresh 0 ws).toNat /\ ∀ (k : Nat) q,ps[k]? = some q -> H q = some (.tup [.int (hdL ws k),.int (tlL ws k)])
theorem SpanAt.same {H H' : Hp} {p : Addr} {ps : List Addr} {ws : List Int} (h : SpanAt H p ps ws) (s : Same H H') : SpanAt H' p ps ws := ⟨s p _ h.1,h.2.1,fun k q e => s q _ (h.2.2 k q e)⟩
theorem SpanAt.at {H : Hp} {p : Addr} {ps : List Addr} {ws : List Int} (h : SpanAt H p ps ws) {k : Nat} (hk : k < (fresh 0 ws).toNat) : ∃ q,ps[k]? = some q /\ H q = some (.tup [.int (hdL ws k),.int (tlL ws k)]) := by
  have hl := h.2.1
  have e := List.getElem?_eq_getElem (show k < ps.length by omega)
  exact ⟨_,e,h.2.2 k _ e⟩
theorem comp_fuels : ∀ (e : Nat),comp ar cr n g (n + 1 + e) [] = comp ar cr n g (n + 1) []
  | 0 => rfl
  | e + 1 => by
    have := comp_fuel (ar := ar) (cr := cr) (n := n) (g := g) (n + 1 + e) [] (by simp; omega) (by simp)
    rw [show n + 1 + (e + 1) = n + 1 + e + 1 by omega,this,comp_fuels e]
theorem comp_11 (hn : n <= 10) : comp ar cr n g 11 [] = comp ar cr n g (n + 1) [] := by
  have := comp_fuels (ar := ar) (cr := cr) (n := n) (g := g) (10 - n)
  rw [<- this,show n + 1 + (10 - n) = 11 by omega]
end L2
namespace L2
open PySem PySem.Spec PyProof.Rows
section
variable {X : Cx} {K : PySem.W.Frag}
end
end L2
namespace L2
open PySem
variable {ar cr : Nat -> Nat -> Bool} {n g : Nat}
def stepH (ar cr : Nat -> Nat -> Bool) (g : Nat) (R : List Int) : List (List Int) := (List.range g).filterMap fun (h : Nat) => if suitsB ar cr R ((h : Int) + 1) then some (R ++ [(h : Int) + 1]) else none
def extH (ar cr : Nat -> Nat -> Bool) (g : Nat) : Nat -> List (List Int) -> List (List Int)
  | 0,L => L
  | k + 1,L => extH ar cr g k (L.flatMap (stepH ar cr g))
theorem extH_snoc : ∀ (k : Nat) (L : List (List Int)),extH ar cr g (k + 1) L = (extH ar cr g k L).flatMap (stepH ar cr g)
  | 0,L => rfl
  | k + 1,L => extH_snoc k (L.flatMap (stepH ar cr g))
theorem extH_app : ∀ (k : Nat) (L M : List (List Int)),extH ar cr g k (L ++ M) = extH ar cr g k L ++ extH ar cr g k M
  | 0,L,M => rfl
  | k + 1,L,M => by
    show extH ar cr g k ((L ++ M).flatMap _) = _
    rw [List.flatMap_append]; exact extH_app k _ _
theorem extH_nil : ∀ (k : Nat),extH ar cr g k [] = []
  | 0 => rfl
  | k + 1 => extH_nil k
theorem extH_flat (k : Nat) : ∀ (L : List (List Int)),extH ar cr g k L = L.flatMap fun R => extH ar cr g k [R]
  | [] => extH_nil k
  | R :: L => by
    rw [List.flatMap_cons,<- extH_flat k L,<- extH_app]; rfl
theorem find_filterMap {α β γ : Type} {f : α -> Option β} {p : β -> Option γ} : ∀ (l : List α),(l.filterMap f).findSome? p = l.findSome? fun a => (f a).bind p
  | [] => rfl
  | a :: l => by
    rw [List.filterMap_cons,List.findSome?_cons]
    cases e : f a with
    | none => simp only [Option.bind_none]; exact find_filterMap l
    | some b =>
      simp only [Option.bind_some]
      rw [List.findSome?_cons,find_filterMap l]
theorem comp_ext : ∀ (d : Nat) (C : List Int),n < C.length + d -> C.length <= n -> comp ar cr n g d C = (extH ar cr g (n - C.length) [C]).head?
  | 0,C,hd,hl => by omega
  | d + 1,C,hd,hl => by
    unfold comp
    by_cases e : C.length = n
    · rw [if_pos e,e,Nat.sub_self]; rfl
    · rw [if_neg e]
      obtain ⟨k,hk⟩ : ∃ k,n - C.length = k + 1 := ⟨n - C.length - 1,by omega⟩
      rw [hk]
      show _ = (extH ar cr g k ([C].flatMap (stepH ar cr g))).head?
      rw [List.flatMap_singleton,extH_flat,List.head?_flatMap]
      unfold stepH
      rw [find_filterMap]
      congr 1
      funext h
      by_cases s : suitsB ar cr C ((h : Int) + 1) = true
      · rw [if_pos s,if_pos s]
        rw [comp_ext d _ (by rw [List.length_append]; simp only [List.length_cons,List.length_nil]; omega) (by rw [List.length_append]; simp only [List.length_cons,List.length_nil]; omega)]
        show _ = (extH ar cr g k [C ++ [(h : Int) + 1]]).head?
        rw [List.length_append]
        simp only [List.length_cons,List.length_nil]
        rw [show n - (C.length + (0 + 1)) = k by omega]
      · rw [if_neg s,if_neg s]; rfl
theorem flat_len {α β : Type} {f : α -> List β} {b : Nat} : ∀ (l : List α),(∀ x,(f x).length <= b) -> (l.flatMap f).length <= l.length * b
  | [],_ => by simp
  | x :: l,h => by
    rw [List.flatMap_cons,List.length_append,List.length_cons,Nat.succ_mul]
    have := flat_len l h
    have := h x
    omega
theorem stepH_len (R : List Int) : (stepH ar cr g R).length <= g := by
  unfold stepH
  exact Nat.le_trans (List.length_filterMap_le _ _) (by simp)
theorem extH_len : ∀ (k : Nat),(extH ar cr g k [[]]).length <= g ^ k
  | 0 => by show 1 <= g ^ 0; simp
  | k + 1 => by
    rw [extH_snoc,Nat.pow_succ]
    exact Nat.le_trans (flat_len _ fun R => stepH_len R) (Nat.mul_le_mul_right _ (extH_len k))
theorem extH_row : ∀ (k : Nat) (R : List Int),R ∈ extH ar cr g k [[]] -> R.length = k
  | 0,R,h => by
    have : R = [] := by simpa [extH] using h
    rw [this]; rfl
  | k + 1,R,h => by
    rw [extH_snoc] at h
    obtain ⟨C,hC,hR⟩ := List.mem_flatMap.mp h
    unfold stepH at hR
    obtain ⟨x,_,e⟩ := List.mem_filterMap.mp hR
    split at e
    · cases e
      rw [List.length_append,extH_row k C hC]; rfl
    · cases e
def nons (ws : List Int) : List Nat := (List.range (fresh 0 ws).toNat).filter fun j => decide (hdL ws j ≠ tlL ws j)
theorem nons_len {ws : List Int} (hw : isWay ws = true) : (nons ws).length <= 4 := by
  obtain ⟨w1,w9,w0⟩ := isWay_iff.mp hw
  have hm : ∀ j ∈ nons ws,j < (fresh 0 ws).toNat /\ hdL ws j ≠ tlL ws j := fun j hj => by
    unfold nons at hj
    rw [List.mem_filter,List.mem_range] at hj
    exact ⟨hj.1,of_decide_eq_true hj.2⟩
  have hnd : (nons ws).Nodup := List.nodup_range.filter _
  have key : ∀ (l : List Nat),l.Nodup -> (∀ j ∈ l,j ∈ nons ws) -> ((l.map (hdL ws)) ++ (l.map (tlL ws))).Nodup := by
    intro l hl hs
    refine List.nodup_append.mpr ⟨?_,?_,?_⟩
    · refine List.Pairwise.map _ (S := (· ≠ ·)) ?_ (List.Pairwise.imp_of_mem (S := fun a b => hdL ws a ≠ hdL ws b) ?_ hl)
      · intro a b h; exact h
      · intro a b ha hb hne e
        have h1 := (hdL_ok hw (hm a (hs a ha)).1).2.2
        have h2 := (hdL_ok hw (hm b (hs b hb)).1).2.2
        rw [e,h2] at h1
        exact hne (by omega)
    · refine List.Pairwise.map _ (S := (· ≠ ·)) ?_ (List.Pairwise.imp_of_mem (S := fun a b => tlL ws a ≠ tlL ws b) ?_ hl)
      · intro a b h; exact h
      · intro a b ha hb hne e
        have h1 := (tlL_ok hw (hm a (hs a ha)).1).2.2
        have h2 := (tlL_ok hw (hm b (hs b hb)).1).2.2
        rw [e,h2] at h1
        exact hne (by omega)
    · intro x hx y hy e
      obtain ⟨a,ha,rfl⟩ := List.mem_map.mp hx
      obtain ⟨b,hb,rfl⟩ := List.mem_map.mp hy
      have h1 := (hdL_ok hw (hm a (hs a ha)).1).2.2
      have h2 := (tlL_ok hw (hm b (hs b hb)).1).2.2
      rw [e,h2] at h1
      have : a = b := by omega
      subst this
      exact (hm a (hs a ha)).2 e
  have := sub_len _ (rg ws.length) (key _ hnd fun j h => h) fun x hx => by
    rw [mem_rg]
    rcases List.mem_append.mp hx with hx | hx
    · obtain ⟨a,ha,rfl⟩ := List.mem_map.mp hx
      have := hdL_ok hw (hm a ha).1
      exact ⟨this.1,this.2.1⟩
    · obtain ⟨a,ha,rfl⟩ := List.mem_map.mp hx
      have := tlL_ok hw (hm a ha).1
      exact ⟨this.1,this.2.1⟩
  rw [List.length_append,List.length_map,List.length_map,rg_length] at this
  omega
def fiveAt (ws : List Int) (k : Nat) : Int := if hdL ws k = tlL ws k then 1 else 1 + (((nons ws).filter fun j => decide (k <= j)).length : Int)
def fiveL (ws : List Int) : List Int := (List.range (fresh 0 ws).toNat).map (fiveAt ws)
theorem hd_le_tl {ws : List Int} (hw : isWay ws = true) {k : Nat} (hk : k < (fresh 0 ws).toNat) : hdL ws k <= tlL ws k := by
  obtain ⟨t0,t1,t2⟩ := tlL_ok hw hk
  have := hd_min (ws := ws) (k := (k : Int)) (j := (tlL ws k).toNat) (by omega) t2
  unfold hdL at *
  omega
theorem filt_lt {p q : Nat -> Bool} : ∀ (l : List Nat),(∀ x ∈ l,q x = true -> p x = true) -> ∀ k ∈ l,p k = true -> q k = false -> (l.filter q).length + 1 <= (l.filter p).length
  | [],_,k,hk,_,_ => by simp at hk
  | a :: l,h,k,hk,hp,hq => by
    have le : ∀ (l : List Nat),(∀ x ∈ l,q x = true -> p x = true) -> (l.filter q).length <= (l.filter p).length := by
      intro l
      induction l with
      | nil => intro _; simp
      | cons b l ih =>
        intro h
        have := ih fun x hx => h x (List.mem_cons_of_mem _ hx)
        rw [List.filter_cons,List.filter_cons]
        by_cases hb : q b = true
        · rw [if_pos hb,if_pos (h b List.mem_cons_self hb)]; simpa using this
        · rw [if_neg hb]; split
          · rw [List.length_cons]; omega
          · exact this
    rw [List.filter_cons,List.filter_cons]
    rcases List.mem_cons.mp hk with e | hk
    · subst e
      rw [if_pos hp,hq,if_neg (by simp),List.length_cons]
      have := le l fun x hx => h x (List.mem_cons_of_mem _ hx)
      omega
    · have := filt_lt l (fun x hx => h x (List.mem_cons_of_mem _ hx)) k hk hp hq
      by_cases hb : q a = true
      · rw [if_pos hb,if_pos (h a List.mem_cons_self hb),List.length_cons,List.length_cons]; omega
      · rw [if_neg hb]; split
        · rw [List.length_cons]; omega
        · exact this
theorem five_lt {ws : List Int} (hw : isWay ws = true) {k j : Nat} (hkj : k < j) (hj : j < (fresh 0 ws).toNat) (h : hdL ws k ≠ tlL ws k) : fiveAt ws j < fiveAt ws k := by
  have hk : k ∈ nons ws := by unfold nons; rw [List.mem_filter,List.mem_range]; exact ⟨by omega,decide_eq_true h⟩
  have pos : 1 <= ((nons ws).filter fun i => decide (k <= i)).length := List.length_pos_iff.mpr (List.ne_nil_of_mem (List.mem_filter.mpr ⟨hk,by simp⟩))
  unfold fiveAt
  rw [if_neg h]
  split
  · omega
  · have := filt_lt (p := fun i => decide (k <= i)) (q := fun i => decide (j <= i)) (nons ws) (fun x _ e => decide_eq_true (by have := of_decide_eq_true e; omega)) k hk (by simp) (by simp; omega)
    omega
theorem lie_non {a0 a1 b0 b1 : Int} (h : a0 < b0) (hb : b0 <= b1) (h1 : lieS a0 a1 b0 b1 = "around" \/ lieS a0 a1 b0 b1 = "crossing") : a0 ≠ a1 := by
  intro e
  subst e
  unfold lieS at h1
  rw [if_neg (fun z => by omega),if_pos (Or.inl h)] at h1
  rcases h1 with h1 | h1 <;> exact absurd h1 (by decide)
theorem five_good {ws : List Int} (hw : isWay ws = true) : GoodH (arW ws) (crW ws) 5 (fiveL ws) /\ (fiveL ws).length = (fresh 0 ws).toNat := by
  have hlen : (fiveL ws).length = (fresh 0 ws).toNat := by unfold fiveL; simp
  have at_ : ∀ i,i < (fresh 0 ws).toNat -> (fiveL ws).getD i 0 = fiveAt ws i := fun i hi => by
    unfold fiveL
    rw [List.getD_eq_getElem?_getD,List.getElem?_map,List.getElem?_range hi]; rfl
  refine ⟨fun i hi => ?_,hlen⟩
  rw [hlen] at hi
  rw [at_ i hi]
  have n4 := nons_len hw
  refine ⟨?_,?_,?_⟩
  · unfold suitsB
    rw [List.all_eq_true]
    intro k hk
    have hl2 : ((fiveL ws).take i).length = i := by rw [List.length_take]; omega
    rw [hl2] at hk ⊢
    have hk := List.mem_range.mp hk
    have e : ((fiveL ws).take i).getD k 0 = fiveAt ws k := by
      rw [List.getD_eq_getElem?_getD,List.getElem?_take_of_lt hk,<- List.getD_eq_getElem?_getD,at_ k (by omega)]
    rw [e]
    have hm := hd_mono hw hk hi
    have ht := hd_le_tl hw hi
    by_cases hn : hdL ws k = tlL ws k
    · have a : arW ws k i = false := by
        unfold arW; exact decide_eq_false fun z => lie_non hm ht (.inl z) hn
      have b : crW ws k i = false := by
        unfold crW; exact decide_eq_false fun z => lie_non hm ht (.inr z) hn
      rw [a,b]; rfl
    · have := five_lt hw hk hi hn
      rw [decide_eq_false (show ¬ fiveAt ws k <= fiveAt ws i by omega),decide_eq_false (show ¬ fiveAt ws k = fiveAt ws i by omega)]
      simp
  · unfold fiveAt; split <;> omega
  · unfold fiveAt
    have : ((nons ws).filter fun j => decide (i <= j)).length <= (nons ws).length := List.length_filter_le _ _
    split <;> omega
theorem isH_full {ws F : List Int} (hw : isWay ws = true) (h : IsH (arW ws) (crW ws) (fresh 0 ws).toNat F) : ∃ g : Nat,1 <= g /\ g <= 5 /\ g <= F.length /\ IsMax F (g : Int) /\ F.length = (fresh 0 ws).toNat /\
    (extH (arW ws) (crW ws) g (fresh 0 ws).toNat [[]]).head? = some F /\ (1 < g -> extH (arW ws) (crW ws) (g - 1) (fresh 0 ws).toNat [[]] = []) := by
  obtain ⟨w1,w9,w0⟩ := isWay_iff.mp hw
  have f0 := (fresh_pos w0 (fun e => by rw [e] at w1; simp at w1)).1
  obtain ⟨g,g1,e1,l1⟩ := h
  obtain ⟨hG,hl⟩ := comp_good _ [] F (by simp) (fun i hi => by simp at hi) e1
  have none_of : ∀ g' F',1 <= g' -> g' < g -> GoodH (arW ws) (crW ws) g' F' -> F'.length = (fresh 0 ws).toNat -> False := fun g' F' a b c d =>
    comp_none _ [] F' (by simp) (by simp) (l1 g' a b) c d rfl
  have g5 : g <= 5 := Nat.le_of_not_lt fun z => none_of 5 _ (by decide) z (five_good hw).1 (five_good hw).2
  have gn : g <= F.length := Nat.le_of_not_lt fun z => none_of F.length (descL (fresh 0 ws).toNat) (by omega) z (desc_good (by omega)) descL_length
  have hne : F ≠ [] := fun e => by rw [e] at hl; simp at hl; omega
  have hmax := maxL_is hne
  have hle : ∀ x ∈ F,x <= (g : Int) := fun x hx => by
    obtain ⟨j,hj,ej⟩ := mem_getD.mp hx
    have := (hG j hj).2.2
    omega
  have hmg : maxL F = (g : Int) := by
    have h1 := hle _ hmax.1
    obtain ⟨j,hj,ej⟩ := mem_getD.mp hmax.1
    have h2 := (hG j hj).2.1
    rw [ej] at h2
    by_cases e : maxL F = (g : Int)
    · exact e
    · refine (none_of (maxL F).toNat F (by omega) (by omega) (fun i hi => ?_) hl).elim
      obtain ⟨a,b,c⟩ := hG i hi
      refine ⟨a,b,?_⟩
      have := hmax.2 (F.getD i 0) (mem_getD.mpr ⟨i,hi,rfl⟩)
      omega
  refine ⟨g,g1,g5,gn,hmg ▸ hmax,hl,?_,fun z => ?_⟩
  · rw [<- e1,comp_ext _ [] (by simp) (by simp)]; rfl
  · have := l1 (g - 1) (by omega) (by omega)
    rw [comp_ext _ [] (by simp) (by simp)] at this
    exact List.head?_eq_none_iff.mp this
abbrev LhAt (H : Hp) (ps : List Addr) (xss : List (List Int)) : Prop := Paired (fun a (xs : List Int) => H a = some (.lst (xs.map V.int))) ps xss
theorem LhAt.same {H H' : Hp} {ps : List Addr} {xss : List (List Int)} (h : LhAt H ps xss) (s : Same H H') : LhAt H' ps xss := L2.Paired.mapP h fun a xs z => s a _ z
theorem lh_get {H : Hp} : ∀ {ps : List Addr} {xss : List (List Int)} {j : Nat} {a : Addr},LhAt H ps xss -> ps[j]? = some a -> ∃ xs,H a = some (.lst (xs.map V.int)) /\ xss[j]? = some xs := by
  intro l1 l2 j a h e
  induction h generalizing j with
  | nil => simp at e
  | cons r t ih =>
    cases j with
    | zero => simp at e; subst e; exact ⟨_,r,rfl⟩
    | succ j => obtain ⟨b,q,e2⟩ := ih (by simpa using e); exact ⟨b,q,by simpa using e2⟩
theorem lie_rev2 {a0 a1 b0 b1 : Int} (h : a0 < b0) : (lieS a0 a1 b0 b1 = "around" -> lieS b0 b1 a0 a1 = "inside") /\ (lieS a0 a1 b0 b1 = "crossing" -> lieS b0 b1 a0 a1 = "crossing") := by
  have n1 : ¬ (b0 = a0 /\ b1 = a1) := fun z => by omega
  have n2 : ¬ (a0 = b0 /\ a1 = b1) := fun z => by omega
  have n3 : ¬ (b0 < a0 /\ a1 < b1) := fun z => by omega
  unfold lieS
  rw [if_neg n1,if_neg n2]
  by_cases c : b1 < a0 \/ a1 < b0
  · rw [if_pos c,if_pos (show a1 < b0 \/ b1 < a0 from c.symm)]
    exact ⟨fun z => absurd z (by decide),fun z => absurd z (by decide)⟩
  · rw [if_neg c,if_neg (show ¬ (a1 < b0 \/ b1 < a0) from fun z => c z.symm)]
    by_cases d : a0 < b0 /\ b1 < a1
    · rw [if_pos d,if_neg n3,if_pos d]
      exact ⟨fun _ => rfl,fun z => absurd z (by decide)⟩
    · rw [if_neg d,if_neg n3,if_neg n3,if_neg d]
      exact ⟨fun z => absurd z (by decide),fun _ => rfl⟩
end L2
namespace L2
open PySem PySem.Spec PyProof.Rows
section
variable {X : Cx} {K : PySem.W.Frag}
theorem vals_strs : ∀ {zs : List Str} {us : List Value},Vals (zs.map V.str) us -> ∃ l : List (Str × Tok),us = strValues l /\ l.map (·.1) = zs
  | [],us,h => by cases h; exact ⟨[],rfl,rfl⟩
  | z :: zs,us,h => by
    cases h with
    | cons r t =>
      obtain ⟨k,rfl⟩ := r
      obtain ⟨l,rfl,rfl⟩ := vals_strs t
      exact ⟨(z,k) :: l,rfl,rfl⟩
def rJoin (K : PySem.W.Frag) : V -> List V -> Hp -> VK -> Prop := fun x vs H Q => ∃ (u : Str) (p : Addr) (zs : List Str),x = .str u /\ vs = [.ref p] /\ SqL K H p (zs.map V.str) /\ JoinOk u zs = true /\ Q (.str (Txt.join u zs)) H
theorem mt_join (h : X.K = K := by rfl) : MtR X "str.join" (rJoin K) := by
  subst h
  intro pins s σ H x vs v us Q I rx rv h
  obtain ⟨u,p,zs,rfl,rfl,hH,hok,q⟩ := h
  obtain ⟨t,rfl⟩ := rx
  obtain ⟨w,rfl,rw_⟩ := rv.one
  cases rw_
  obtain ⟨its,r,pl,hz⟩ := I.list hH
  obtain ⟨l,rfl,hl⟩ := vals_strs r
  exact SC.join pl.isList hl hok fun t' k => ⟨.str _,H,I.tok _,⟨_,rfl⟩,q⟩
theorem joinOk_small {u : Str} {zs : List Str} {B : Nat} (hB : ∀ y ∈ zs,y.length <= B) (h : zs.length * B + zs.length * u.length <= 16777216) : JoinOk u zs = true := by
  unfold JoinOk
  rw [PySem.StrLaws.joinFits hB h]; rfl
theorem glue_snoc (l : List Str) (z : Str) : Txt.join (Str.ofString "") (l ++ [z]) = Txt.join (Str.ofString "") l ++ z := by
  have e0 : (Str.ofString "").cps = #[] := by decide
  show Builtin.Str.glued _ _ = Builtin.Str.glued _ _ ++ z
  unfold Builtin.Str.glued
  cases l with
  | nil =>
    show (⟨z.cps⟩ : Str) = ⟨(Str.empty).cps ++ z.cps⟩
    rw [show (Str.empty).cps = #[] from rfl,Array.empty_append]
  | cons a l =>
    show (⟨(l ++ [z]).foldl _ a.cps⟩ : Str) = ⟨l.foldl _ a.cps ++ z.cps⟩
    rw [List.foldl_append]
    show (⟨l.foldl _ a.cps ++ (Str.ofString "").cps ++ z.cps⟩ : Str) = _
    rw [e0,Array.append_empty]
theorem vals_count {z : Int} : ∀ {ns : List Int} {us : List Value},Vals (ns.map V.int) us -> us.countP (fun y => match y with | .int i _ => i == z | _ => false) = ns.count z
  | [],us,h => by cases h; rfl
  | n :: ns,us,h => by
    cases h with
    | cons r t =>
      obtain ⟨k,rfl⟩ := r
      rw [List.countP_cons,List.count_cons,vals_count t]
def rCountTu (K : PySem.W.Frag) : V -> List V -> Hp -> VK -> Prop := fun x vs H Q => ∃ (l : Addr) (ns : List Int) (z : Int),x = .ref l /\ vs = [.int z] /\ SqT K H l (ns.map V.int) /\ Q (.int (ns.count z : Nat)) H
theorem mt_countTu (h : X.K = K := by rfl) : MtR X "tuple.count" (rCountTu K) := by
  subst h
  intro pins s σ H x vs v us Q I rx rv h
  obtain ⟨l,ns,z,rfl,rfl,hH,q⟩ := h
  cases rx
  obtain ⟨u,rfl,ru⟩ := rv.one
  obtain ⟨its,r,ht,_⟩ := I.tuple hH
  have at_ : ∀ m (hm : m < its.toArray.size),∃ t,its.toArray[m] = .int (ns.getD m 0) t := fun m hm => (vals_int_at r (i := m) (v := its.toArray[m]) (by simp)).imp fun t e => e.1
  have hty := ht.typeIs
  obtain ⟨o,ho,hc,n,hd⟩ := ht
  obtain ⟨c,d,da,sl⟩ := o
  simp only at hc hd
  subst hc hd
  refine call_meets F.slot_tuple_count hty F.entry_tuple_count (F.args_tuple_count_2 _ _) (SeqAt.tuple_countAt l its.toArray n d sl u (fun y => match y with | .int i _ => i == z | _ => false)) ⟨ho,?_,?_⟩
  · intro y hy
    obtain ⟨m,hm,rfl⟩ := Array.mem_iff_getElem.mp hy
    obtain ⟨t,q1⟩ := at_ m hm
    rw [q1]
    obtain ⟨t2,rfl⟩ := ru
    exact eqAt_V (y := .int _) (x := .int _) ⟨_,rfl⟩ ⟨_,rfl⟩ rfl rfl
  · have e : its.toArray.toList.countP (fun y => match y with | .int i _ => i == z | _ => false) = ns.count z := vals_count r
    rw [e]
    exact ⟨.int _,H,I.tok _,⟨_,rfl⟩,q⟩
def iRngD (ta : TA) : TI := fun σ H R => ta σ H fun vs H1 => ∃ i j : Int,vs = [.int i,.int j,.int (-1)] /\ (-(2 ^ 40) <= i /\ i < 2 ^ 40 /\ -(2 ^ 40) <= j /\ j < 2 ^ 40) /\ R (Itv i (i - j).toNat) H1
theorem pi_rangeD {tg : Expr} {a b c : Expr} {ta : TA} {p pos : Pos} (hg : Gl X "range") (hm : X.mg "range" = none) (ha : PA X [a,b,c] ta) (hs : starEach [a,b,c] X.env = (false,eval a X.env) :: starEach [b,c] X.env := by rfl) (hs2 : (backTo pos (starEach [b,c] X.env)).any (·.1) = false := by rfl) :
    PI X tg (.Call (.Name "range" p) [a,b,c] [] pos) (iRngD ta) := by
  intro pins s σ H R I h
  refine Call_ (ld_blt I hg hm boot_range (PyProof.Rows.callWith_type1 (thn (ha pos pins s σ H _ I h) fun us s1 ⟨vs,H1,I1,r1,q1⟩ => ?_) hs hs2))
  obtain ⟨i,j,e,⟨g1,g2,g3,g4⟩,q⟩ := q1
  subst e
  cases r1 with
  | cons r rr =>
    cases rr with
    | cons r' rr =>
      cases rr with
      | cons r'' rr =>
        cases rr
        obtain ⟨t,rfl⟩ := r
        obtain ⟨t',rfl⟩ := r'
        obtain ⟨t'',rfl⟩ := r''
        refine call_range_3 (by decide) ?_ (Or.inl (PyProof.noPylong_small (by omega)))
        have hsz : Builtin.Range.rangeSize i j (-1) = ((i - j).toNat : Int) := by
          unfold Builtin.Range.rangeSize
          rw [if_neg (by decide),show (-(-1 : Int)) = 1 by decide,Int.ediv_one]
          split <;> omega
        have hsm : Builtin.Range.small i j (-1) = true := by
          unfold Builtin.Range.small
          rw [hsz]
          simp only [Builtin.Range.rangeFitsLong,Bool.and_eq_true,Bool.or_eq_true,decide_eq_true_eq,beq_iff_eq,show ¬ ((-1 : Int) > 0) by decide,if_false]
          omega
        refine wpAny_pyIter_range (IsRange.new ..) hsm ?_
        rw [hsz]
        have I2 : Inv X pins σ H1 { s1 with heap := s1.heap.push { cls := .type "range",data := .fields #[.int i t,.int j t',.int (-1) t''] },toks := s1.toks } := I1.kept fun b o e => Heap.get?_push_of_some _ e
        refine ⟨(s1.heap.push { cls := .type "range",data := .fields #[.int i t,.int j t',.int (-1) t''] }).objs.size,[(s1.heap.push { cls := .type "range",data := .fields #[.int i t,.int j t',.int (-1) t''] }).objs.size],_,_,H1,rfl,
          I2.kept (t' := s1.toks) fun b o e => Heap.get?_push_of_some _ e,turn_rev _ i (i - j).toNat,?_,fun b hb => ?_,q⟩
        · have e1 : i + ((0 : Nat) : Int) * (-1) = i := by simp
          have e2 : (((i - j).toNat : Nat) : Int) - ((0 : Nat) : Int) = ((i - j).toNat : Int) := by simp
          show IsRangeIter _ _ (i + ((0 : Nat) : Int) * (-1)) ((((i - j).toNat : Nat) : Int) - ((0 : Nat) : Int)) (-1)
          rw [e1,e2]
          exact Heap.get?_push_size _ rfl
        · have e : b = (s1.heap.push { cls := .type "range",data := .fields #[.int i t,.int j t',.int (-1) t''] }).objs.size := by simpa using hb
          subst e
          exact I2.fpOk (Nat.le_refl _) (I2.hok.fresh (Nat.le_refl _))
end
end L2
namespace L2
open PySem
theorem count_lot (ws : List Int) (k : Int) : ws.count k = (lotN ws k ws.length).length := by
  have e : ws = (List.range ws.length).map (fun j => ws.getD j 0) := by
    refine List.ext_getElem (by simp) fun i h1 h2 => ?_
    rw [List.getElem_map,List.getElem_range,List.getD_eq_getElem?_getD,List.getElem?_eq_getElem h1]; rfl
  unfold lotN
  rw [List.count_eq_countP]
  conv => lhs; rw [e]
  rw [List.countP_map,List.countP_eq_length_filter]
  congr 1
theorem lone_iff {ws : List Int} (hw : isWay ws = true) {k : Nat} (hk : k < (fresh 0 ws).toNat) : ws.count (k : Int) = 1 ↔ ¬ hdL ws k < tlL ws k := by
  have hne := lotN_ne hw hk
  have hp : (lotN ws (k : Int) ws.length).Pairwise (· < ·) := List.pairwise_lt_range.filter _
  rw [count_lot]
  unfold hdL tlL
  generalize lotN ws (k : Int) ws.length = L at hne hp
  match L,hne,hp with
  | [a],_,_ => simp
  | a :: b :: t,_,hp =>
    have hl : (a :: b :: t).getLastD 0 ∈ b :: t := by
      rw [List.getLastD_cons,List.getLastD_cons,<- List.getLast_eq_getLastD (a := b) (l := t) (List.cons_ne_nil _ _)]
      exact List.getLast_mem _
    have := (List.pairwise_cons.mp hp).1 _ hl
    simp only [List.length_cons,List.headD_cons]
    constructor
    · intro z; omega
    · intro z; exfalso; apply z; exact_mod_cast this
def covB (ws F : List Int) (h a b : Int) : Bool := (List.range (fresh 0 ws).toNat).any fun k => decide (F.getD k 0 = h) && (decide (hdL ws k <= a) && decide (b <= tlL ws k))
def spansOf (ws F : List Int) (h : Int) (m : Nat) : List (Int × Int) := ((List.range m).filter fun k => decide (F.getD k 0 = h)).map fun k => (hdL ws k,tlL ws k)
theorem spans_cov (ws F : List Int) (h a b : Int) : ((spansOf ws F h (fresh 0 ws).toNat).any fun x => decide (x.1 <= a) && decide (b <= x.2)) = covB ws F h a b := by
  unfold spansOf covB
  rw [List.any_map,List.any_filter]
  rfl
theorem spans_succ (ws F : List Int) (h : Int) (m : Nat) : spansOf ws F h (m + 1) = if F.getD m 0 = h then spansOf ws F h m ++ [(hdL ws m,tlL ws m)] else spansOf ws F h m := by
  unfold spansOf
  rw [List.range_succ,List.filter_append,List.map_append]
  by_cases e : F.getD m 0 = h
  · rw [if_pos e,List.filter_cons,if_pos (by simpa using e)]; rfl
  · rw [if_neg e,List.filter_cons,if_neg (by simpa using e)]; simp
theorem spans_len (ws F : List Int) (h : Int) (m : Nat) : (spansOf ws F h m).length <= m := by
  unfold spansOf
  rw [List.length_map]
  exact Nat.le_trans (List.length_filter_le _ _) (by simp)
def sgn (o h : Int) (x y : Bool) : Str := if o = h then (if x then "|" else "+") else if h < o then (if y then "#" else "|") else if y then "-" else " "
def sgS (ws F : List Int) (h : Int) (c : Nat) : Str := if F.getD (ws.getD c 0).toNat 0 = h then (if hdL ws (ws.getD c 0).toNat < tlL ws (ws.getD c 0).toNat then "+" else "|") else if h < F.getD (ws.getD c 0).toNat 0 then (if covB ws F h c c then "#" else "|") else if covB ws F h c c then "-" else " "
def gpS (ws F : List Int) (h : Int) (c : Nat) : Str := if covB ws F h ((c : Int) - 1) c then "-" else " "
theorem sgn_sgS {ws F : List Int} (hw : isWay ws = true) {h : Int} {c : Nat} {k : Nat} (e : ws.getD c 0 = (k : Int)) (hk : k < (fresh 0 ws).toNat) : sgn (F.getD k 0) h (decide (((ws.count (k : Int) : Nat) : Int) = 1)) (covB ws F h c c) = sgS ws F h c := by
  have l := lone_iff hw hk
  unfold sgn sgS
  rw [e,Int.toNat_natCast]
  by_cases z : hdL ws k < tlL ws k
  · rw [if_pos z,decide_eq_false (fun q => absurd z (l.mp (by omega)))]; rfl
  · rw [if_neg z,decide_eq_true (show ((ws.count (k : Int) : Nat) : Int) = 1 by have := l.mpr z; omega)]; rfl
theorem sgS_len (ws F : List Int) (h : Int) (c : Nat) : (sgS ws F h c).length = 1 := by
  unfold sgS
  split
  · split <;> rfl
  · split
    · split <;> rfl
    · split <;> rfl
theorem gpS_len (ws F : List Int) (h : Int) (c : Nat) : (gpS ws F h c).length = 1 := by
  unfold gpS
  split <;> rfl
def sigL (ws F : List Int) (h : Int) : Nat -> List Str
  | 0 => []
  | m + 1 => (if m = 0 then sigL ws F h m else sigL ws F h m ++ [gpS ws F h m]) ++ [sgS ws F h m]
def rowT (ws F : List Int) (h : Int) (m : Nat) : Str := Txt.join (Str.ofString "") (sigL ws F h m)
theorem sigL_len (ws F : List Int) (h : Int) : ∀ m,(sigL ws F h m).length <= 2 * m
  | 0 => Nat.zero_le _
  | m + 1 => by
    have := sigL_len ws F h m
    unfold sigL
    split <;> simp only [List.length_append,List.length_cons,List.length_nil] <;> omega
theorem sigL_one (ws F : List Int) (h : Int) : ∀ m,∀ y ∈ sigL ws F h m,y.length <= 1
  | 0,y,hy => by simp [sigL] at hy
  | m + 1,y,hy => by
    unfold sigL at hy
    rcases List.mem_append.mp hy with hy | hy
    · split at hy
      · exact sigL_one ws F h m y hy
      · rcases List.mem_append.mp hy with hy | hy
        · exact sigL_one ws F h m y hy
        · rw [List.mem_singleton.mp hy,gpS_len]; exact Nat.le_refl _
    · rw [List.mem_singleton.mp hy,sgS_len]; exact Nat.le_refl _
theorem rowT_one (ws F : List Int) (h : Int) : rowT ws F h 1 = sgS ws F h 0 := by
  show Txt.join _ ([] ++ [_]) = _
  rw [glue_snoc]
  show (⟨(Str.empty).cps ++ (sgS ws F h 0).cps⟩ : Str) = _
  rw [show (Str.empty).cps = #[] from rfl,Array.empty_append]
theorem rowT_succ (ws F : List Int) (h : Int) {m : Nat} (hm : 0 < m) : rowT ws F h (m + 1) = rowT ws F h m ++ gpS ws F h m ++ sgS ws F h m := by
  unfold rowT
  conv => lhs; unfold sigL
  rw [if_neg (by omega),glue_snoc,glue_snoc]
theorem str_app_len (a b : Str) : (a ++ b).length = a.length + b.length := by
  show (a.cps ++ b.cps).size = _
  rw [Array.size_append]; rfl
theorem rowT_len (ws F : List Int) (h : Int) : ∀ m,(rowT ws F h (m + 1)).length = 2 * m + 1
  | 0 => by rw [rowT_one,sgS_len]
  | m + 1 => by
    rw [rowT_succ ws F h (by omega),str_app_len,str_app_len,rowT_len ws F h m,sgS_len,gpS_len]; omega
def rowsT (ws F : List Int) (g : Int) (i : Nat) : List Str := (List.range i).map fun (j : Nat) => rowT ws F (g - j) ws.length
def footT (n : Nat) : Str := Txt.join " " (List.replicate n ("|" : Str))
def markT (ws F : List Int) : Str := Txt.join "\n" (rowsT ws F (maxL F) (maxL F).toNat ++ [footT ws.length])
theorem rowsT_succ (ws F : List Int) (g : Int) (i : Nat) : rowsT ws F g (i + 1) = rowsT ws F g i ++ [rowT ws F (g - i) ws.length] := by
  unfold rowsT
  rw [List.range_succ,List.map_append]; rfl
theorem rowsT_length (ws F : List Int) (g : Int) (i : Nat) : (rowsT ws F g i).length = i := by unfold rowsT; simp
theorem foot_ok {n : Nat} (h : n <= 9) : JoinOk " " (List.replicate n ("|" : Str)) = true := by
  refine joinOk_small (B := 1) (fun y hy => by rw [(List.mem_replicate.mp hy).2]; decide) ?_
  rw [List.length_replicate]
  show n * 1 + n * 1 <= 16777216
  omega
theorem foot_len {n : Nat} (h : n <= 9) : (footT n).length <= 18 := by
  unfold footT
  match n,h with
  | 0,_ => decide
  | 1,_ => decide
  | 2,_ => decide
  | 3,_ => decide
  | 4,_ => decide
  | 5,_ => decide
  | 6,_ => decide
  | 7,_ => decide
  | 8,_ => decide
  | 9,_ => decide
  | n + 10,h => omega
theorem mark_ok {ws F : List Int} (hw : isWay ws = true) (hg : (maxL F).toNat <= 9) : JoinOk "\n" (rowsT ws F (maxL F) (maxL F).toNat ++ [footT ws.length]) = true := by
  obtain ⟨w1,w9,w0⟩ := isWay_iff.mp hw
  refine joinOk_small (B := 18) (fun y hy => ?_) ?_
  · rcases List.mem_append.mp hy with hy | hy
    · obtain ⟨j,_,rfl⟩ := List.mem_map.mp hy
      obtain ⟨m,hm⟩ : ∃ m,ws.length = m + 1 := ⟨ws.length - 1,by omega⟩
      rw [hm,rowT_len]; omega
    · rw [List.mem_singleton.mp hy]; exact foot_len (by omega)
  · rw [List.length_append,rowsT_length]
    show (_ + 1) * 18 + (_ + 1) * 1 <= 16777216
    omega
theorem paired_getM {α β : Type} {F : α -> β -> Prop} : ∀ {l1 : List α} {l2 : List β} {j : Nat} {a : α},Paired F l1 l2 -> l1[j]? = some a -> ∃ b,F a b /\ l2[j]? = some b := by
  intro l1 l2 j a h e
  induction h generalizing j with
  | nil => simp at e
  | cons r t ih =>
    cases j with
    | zero => simp at e; subst e; exact ⟨_,r,rfl⟩
    | succ j => obtain ⟨b,q,e2⟩ := ih (by simpa using e); exact ⟨b,q,by simpa using e2⟩
theorem ext_ne {ws F : List Int} {g : Nat} (hG : GoodH (arW ws) (crW ws) g F) (hl : F.length = (fresh 0 ws).toNat) : extH (arW ws) (crW ws) g (fresh 0 ws).toNat [[]] ≠ [] := fun e =>
  comp_none ((fresh 0 ws).toNat + 1) [] F (by simp) (by simp) (by
    rw [comp_ext _ [] (by simp) (by simp)]
    show (extH (arW ws) (crW ws) g (fresh 0 ws).toNat [[]]).head? = none
    rw [e]; rfl) hG hl rfl
theorem isH_of {ws F : List Int} {L : List (List Int)} {g : Nat} (g1 : 1 <= g) (e : extH (arW ws) (crW ws) g (fresh 0 ws).toNat [[]] = F :: L) (h : ∀ g',1 <= g' -> g' < g -> extH (arW ws) (crW ws) g' (fresh 0 ws).toNat [[]] = []) : IsH (arW ws) (crW ws) (fresh 0 ws).toNat F := by
  refine ⟨g,g1,?_,fun g' a b => ?_⟩
  · rw [comp_ext _ [] (by simp) (by simp)]
    show (extH (arW ws) (crW ws) g (fresh 0 ws).toNat [[]]).head? = some F
    rw [e]; rfl
  · rw [comp_ext _ [] (by simp) (by simp)]
    show (extH (arW ws) (crW ws) g' (fresh 0 ws).toNat [[]]).head? = none
    rw [h g' a b]; rfl
theorem seq_by {A B : TS} {D : Ends} {σ : St} {H : Hp} (P : St -> Hp -> Prop) (hB : ∀ σ H,P σ H -> B D σ H) (hA : ∀ N : St -> Hp -> Prop,(∀ σ H,P σ H -> N σ H) -> A { D with nx := N } σ H) : tSeq A B D σ H := hA _ hB
theorem isH_uniq {ar cr : Nat -> Nat -> Bool} {n : Nat} {F G : List Int} (h1 : IsH ar cr n F) (h2 : IsH ar cr n G) : F = G := by
  obtain ⟨g,g1,e,l⟩ := h1
  obtain ⟨g',g1',e',l'⟩ := h2
  have : g = g' := by
    rcases Nat.lt_trichotomy g g' with z | z | z
    · rw [l' g g1 z] at e; cases e
    · exact z
    · rw [l g' g1' z] at e'; cases e'
  subst this
  rw [e] at e'
  exact Option.some.inj e'
end L2
namespace L2
open PySem PySem.Spec PyProof.Rows
open PySem.StrLaws (occBody occ_eq subAt_one partsFrom partsBetween_eq strSub_toList)
def posL (c : Nat) : List Nat -> Nat -> List Nat
  | [],_ => []
  | x :: L,a => if x = c then a :: posL c L (a + 1) else posL c L (a + 1)
theorem posL_free {c : Nat} : ∀ (r L : List Nat) (a : Nat),c ∉ r -> posL c (r ++ L) a = posL c L (a + r.length)
  | [],L,a,_ => rfl
  | x :: r,L,a,h => by
    rw [List.cons_append]
    show (if x = c then _ else _) = _
    rw [if_neg (fun e => h (by rw [e]; exact List.mem_cons_self)),posL_free r L (a + 1) (fun e => h (List.mem_cons_of_mem _ e)),List.length_cons]
    congr 1; omega
theorem posL_none {c : Nat} (r : List Nat) (a : Nat) (h : c ∉ r) : posL c r a = [] := by
  have := posL_free r [] a h
  rw [List.append_nil] at this
  rw [this]; rfl
theorem occ_pos (x : Str) (c lim : Nat) (hlim : x.length < lim) : ∀ (k a : Nat) (found : Array Nat) (free : Nat),a + k = x.length + 1 -> free <= a -> found.size <= a ->
    (forIn (List.range' a k) (found,free) (occBody x ⟨#[c]⟩ x.length lim)).run.fst.toList = found.toList ++ posL c (x.cps.toList.drop a) a
  | 0,a,found,free,h,_,_ => by
    have e : x.cps.toList.drop a = [] := List.drop_eq_nil_of_le (by simp [Str.length] at h; simp; omega)
    rw [e]
    show found.toList = found.toList ++ []
    rw [List.append_nil]
  | k + 1,a,found,free,h,hf,hs => by
    rw [List.range'_succ,List.forIn_cons]
    unfold occBody
    have s1 := subAt_one x c a
    by_cases e : x.cps.toList[a]? = some c
    · obtain ⟨q1,q2⟩ := s1.mpr e
      rw [if_pos ⟨⟨⟨by show found.size < lim; omega,hf⟩,q1⟩,q2⟩]
      show (forIn (List.range' (a + 1) k) (found.push a,a + (⟨#[c]⟩ : Str).length) (occBody x ⟨#[c]⟩ x.length lim)).run.fst.toList = _
      rw [occ_pos x c lim hlim k (a + 1) _ _ (by omega) (by show a + 1 <= a + 1; omega) (by rw [Array.size_push]; omega)]
      obtain ⟨hlt,e2⟩ := List.getElem?_eq_some_iff.mp e
      have e3 : x.cps.toList.drop a = c :: x.cps.toList.drop (a + 1) := by rw [List.drop_eq_getElem_cons hlt,e2]
      rw [e3,Array.toList_push]
      show _ = found.toList ++ (if c = c then _ else _)
      rw [if_pos rfl,List.append_assoc]; rfl
    · rw [if_neg (fun z => e (s1.mp ⟨z.1.2,z.2⟩))]
      show (forIn (List.range' (a + 1) k) (found,free) (occBody x ⟨#[c]⟩ x.length lim)).run.fst.toList = _
      rw [occ_pos x c lim hlim k (a + 1) _ _ (by omega) (by omega) (by omega)]
      by_cases hl : a < x.cps.toList.length
      · have e3 : x.cps.toList.drop a = x.cps.toList[a] :: x.cps.toList.drop (a + 1) := List.drop_eq_getElem_cons hl
        rw [e3]
        show _ = found.toList ++ (if _ = c then _ else _)
        rw [if_neg (fun z => e (by rw [List.getElem?_eq_getElem hl,z]))]
      · rw [List.drop_eq_nil_of_le (by omega),List.drop_eq_nil_of_le (by omega)]; rfl
theorem occ_one (x : Str) (c : Nat) : Builtin.Str.occurrences x ⟨#[c]⟩ 0 x.length (x.length + 1) = posL c x.cps.toList 0 := by
  rw [occ_eq,occ_pos x c _ (by omega) _ 0 _ _ (by omega) (Nat.le_refl _) (by simp)]
  rfl
def joinC (c : Nat) : List (List Nat) -> List Nat
  | [] => []
  | [r] => r
  | r :: s :: t => r ++ c :: joinC c (s :: t)
theorem str_ext {a b : Str} (h : a.cps.toList = b.cps.toList) : a = b := by
  cases a; cases b
  congr 1
  exact Array.toList_inj.mp h
theorem parts_join (x : Str) (c : Nat) : ∀ (rs : List (List Nat)) (r : List Nat) (a : Nat),(∀ s ∈ r :: rs,c ∉ s) -> x.cps.toList.drop a = joinC c (r :: rs) -> partsFrom x 1 a (posL c (joinC c (r :: rs)) a) = (r :: rs).map fun l => (⟨l.toArray⟩ : Str)
  | [],r,a,h,e => by
    show partsFrom x 1 a (posL c r a) = _
    rw [posL_none r a (h r List.mem_cons_self)]
    show [Builtin.Str.strSub x a x.length] = [_]
    congr 1
    apply str_ext
    rw [strSub_toList,e]
    show List.take _ r = r
    have : (x.cps.toList.drop a).length = r.length := by rw [e]; rfl
    rw [List.length_drop] at this
    refine List.take_of_length_le ?_
    show r.length <= x.cps.size - a
    rw [<- this]; simp
  | s :: t,r,a,h,e => by
    have e0 : joinC c (r :: s :: t) = r ++ c :: joinC c (s :: t) := rfl
    rw [e0] at e ⊢
    rw [posL_free r _ a (h r List.mem_cons_self)]
    have ep : posL c (c :: joinC c (s :: t)) (a + r.length) = (a + r.length) :: posL c (joinC c (s :: t)) (a + r.length + 1) := by
      show (if c = c then _ else _) = _
      rw [if_pos rfl]
    rw [ep]
    have ed : x.cps.toList.drop (a + r.length + 1) = joinC c (s :: t) := by
      rw [Nat.add_assoc,<- List.drop_drop,e,List.drop_append,List.drop_of_length_le (by omega),List.nil_append,Nat.add_sub_cancel_left]; rfl
    show Builtin.Str.strSub x a (a + r.length) :: partsFrom x 1 (a + r.length + 1) _ = _
    rw [parts_join x c t s (a + r.length + 1) (fun q hq => h q (List.mem_cons_of_mem _ hq)) ed,List.map_cons]
    congr 1
    apply str_ext
    rw [strSub_toList,e,Nat.add_sub_cancel_left,List.take_append_of_le_length (Nat.le_refl _),List.take_length]
theorem join_cps (c : Nat) : ∀ (rows : List Str),(Str.join ⟨#[c]⟩ rows).cps.toList = joinC c (rows.map fun z => z.cps.toList)
  | [] => rfl
  | [r] => rfl
  | r :: s :: t => by
    show (r.cps ++ #[c] ++ (Str.join ⟨#[c]⟩ (s :: t)).cps).toList = _
    rw [Array.toList_append,Array.toList_append,join_cps c (s :: t)]
    show r.cps.toList ++ [c] ++ _ = r.cps.toList ++ c :: _
    rw [List.append_assoc]; rfl
theorem split_join {rows : List Str} (hne : rows ≠ []) (h : ∀ z ∈ rows,10 ∉ z.cps.toList) : Txt.split (Txt.join "\n" rows) "\n" = rows := by
  have ec : (Str.ofString "\n" : Str) = ⟨#[10]⟩ := by decide
  have ej : Txt.join "\n" rows = Str.join "\n" rows := StrLaws.glued_eq_join _ _
  have hk1 : ∀ z : Str,1 <= Builtin.Str.strKind z := fun z => by
    unfold Builtin.Str.strKind
    split
    · exact Nat.le_refl _
    · split <;> decide
  rw [ej,ec]
  obtain ⟨r,rs,rfl⟩ : ∃ r rs,rows = r :: rs := by
    cases rows with
    | nil => exact absurd rfl hne
    | cons r rs => exact ⟨r,rs,rfl⟩
  have hc := join_cps 10 (r :: rs)
  have hfree : ∀ s ∈ (r :: rs).map (fun z => z.cps.toList),10 ∉ s := fun s hs => by
    obtain ⟨z,hz,rfl⟩ := List.mem_map.mp hs
    exact h z hz
  have ho := occ_one (Str.join ⟨#[10]⟩ (r :: rs)) 10
  unfold Txt.split
  cases rs with
  | nil =>
    have e : Builtin.Str.occurrences (Str.join ⟨#[10]⟩ [r]) ⟨#[10]⟩ 0 (Str.join ⟨#[10]⟩ [r]).length ((Str.join ⟨#[10]⟩ [r]).length + 1) = [] := by
      rw [ho,hc]; exact posL_none _ _ (h r List.mem_cons_self)
    rw [e]
    split <;> rfl
  | cons s t =>
    have hl : 1 <= (Str.join ⟨#[10]⟩ (r :: s :: t)).length := by
      have e : (Str.join ⟨#[10]⟩ (r :: s :: t)).cps.toList.length = _ := congrArg List.length hc
      show 1 <= (Str.join ⟨#[10]⟩ (r :: s :: t)).cps.size
      rw [<- Array.length_toList,e]
      show 1 <= (r.cps.toList ++ 10 :: joinC 10 _).length
      rw [List.length_append,List.length_cons]; omega
    have hk : Builtin.Str.strKind (⟨#[10]⟩ : Str) = 1 := by unfold Builtin.Str.strKind; simp
    have hl1 : (⟨#[10]⟩ : Str).length = 1 := rfl
    have hkx := hk1 (Str.join ⟨#[10]⟩ (r :: s :: t))
    have h1 : ¬ (decide ((Str.join ⟨#[10]⟩ (r :: s :: t)).length < (⟨#[10]⟩ : Str).length) || decide (Builtin.Str.strKind (Str.join ⟨#[10]⟩ (r :: s :: t)) < Builtin.Str.strKind ⟨#[10]⟩)) = true := by
      rw [hk,hl1,decide_eq_false (show ¬ (Str.join ⟨#[10]⟩ (r :: s :: t)).length < 1 by omega),decide_eq_false (show ¬ Builtin.Str.strKind (Str.join ⟨#[10]⟩ (r :: s :: t)) < 1 by omega)]
      decide
    rw [if_neg h1]
    have ep : posL 10 (joinC 10 ((r :: s :: t).map fun z => z.cps.toList)) 0 = (0 + r.cps.toList.length) :: posL 10 (joinC 10 ((s :: t).map fun z => z.cps.toList)) (0 + r.cps.toList.length + 1) := by
      show posL 10 (r.cps.toList ++ 10 :: joinC 10 ((s :: t).map fun z => z.cps.toList)) 0 = _
      rw [posL_free _ _ _ (h r List.mem_cons_self)]
      show (if 10 = 10 then _ else _) = _
      rw [if_pos rfl]
    rw [ho,hc,if_neg (by rw [ep]; exact Bool.false_ne_true),partsBetween_eq]
    have := parts_join (Str.join ⟨#[10]⟩ (r :: s :: t)) 10 ((s :: t).map fun z : Str => z.cps.toList) r.cps.toList 0 hfree (by rw [List.drop_zero,hc]; rfl)
    refine this.trans ?_
    rw [<- List.map_cons (f := fun z : Str => z.cps.toList),List.map_map]
    exact List.map_id _
section
variable {X : Cx} {K : PySem.W.Frag}
theorem split_at {prog : Program} {w : World} {A : Around} {E : Value -> Shared -> Prop} {s : Shared} {x y : Str} {t u : Tok} {Q : Value -> Shared -> Prop} (hy : (y.length == 0) = false)
    (hq : ∀ l k,l.map (·.1) = Txt.split x y -> Q (.ref s.heap.objs.size) { s with toks := k,heap := s.heap.push { cls := .type "list",data := .seq (strValues l).toArray } })
    (hsz : x.length <= sizeLine) (hsz2 : (Builtin.Str.partsBetween x (Builtin.Str.occurrences x y 0 x.length (x.length + 1)) y.length).length <= sizeLine) :
    wpAny (model prog w) A (call (.builtin "str.split") [.str x t,.str y u]) Q E s := by
  cases h1 : (decide (x.length < y.length) || decide (Builtin.Str.strKind x < Builtin.Str.strKind y))
  · cases hf : (Builtin.Str.occurrences x y 0 x.length (x.length + 1)).isEmpty
    · refine call_meets F.slot_str_split (typeIs_str _ _ _) F.entry_str_split (F.args_str_split_2 _ _) (meets_str_split_sep x y t u h1 hy hf hsz hsz2) ?_
      show wants Q E _ { s with toks := _,heap := s.heap.push { cls := .type "list",data := .seq (strsFrom s.toks (Builtin.Str.partsBetween x (Builtin.Str.occurrences x y 0 x.length (x.length + 1)) y.length)).toArray } }
      rw [strsFrom_eq]
      exact hq (numbered s.toks _) _ ((numbered_texts _ _).trans ((if_neg (ne_true_of_eq_false h1)).trans (if_neg (ne_true_of_eq_false hf))).symm)
    · exact call_meets F.slot_str_split (typeIs_str _ _ _) F.entry_str_split (F.args_str_split_2 _ _) (meets_str_split_not_found x y t u h1 hy hf)
        (hq [(x,t)] _ ((if_neg (ne_true_of_eq_false h1)).trans (if_pos hf)).symm)
  · exact call_meets F.slot_str_split (typeIs_str _ _ _) F.entry_str_split (F.args_str_split_2 _ _) (meets_str_split_cannot_occur x y t u h1)
      (hq [(x,t)] _ (if_pos h1).symm)
theorem vals_of_strs : ∀ (l : List (Str × Tok)),Vals ((l.map (·.1)).map V.str) (strValues l)
  | [] => .nil
  | p :: l => .cons ⟨_,rfl⟩ (vals_of_strs l)
def rSplit : V -> List V -> Hp -> VK -> Prop := fun x vs H Q => ∃ (u y : Str),x = .str u /\ vs = [.str y] /\ y.length ≠ 0 /\ u.length <= 100000 /\ (Txt.split u y).length <= 100000 /\ ∀ p,H p = none -> Q (.ref p) (upd H p (.lst ((Txt.split u y).map V.str)))
theorem mt_split : MtR X "str.split" rSplit := by
  intro pins s σ H x vs v us Q I rx rv h
  obtain ⟨u,y,rfl,rfl,hy,hu,hl,q⟩ := h
  obtain ⟨t,rfl⟩ := rx
  obtain ⟨w,rfl,rw_⟩ := rv.one
  obtain ⟨t2,rfl⟩ := rw_
  refine split_at (by simpa using hy) (fun l k e => ?_) (Nat.le_trans hu (by decide)) ?_
  · have hv := vals_of_strs l
    rw [e] at hv
    exact ⟨.ref _,_,I.lnew (t' := k) hv (by rw [List.length_map]; exact Nat.le_trans hl (by decide)),rfl,q _ I.fresh⟩
  · have h2 := StrLaws.occ_length_le u y 0 u.length (u.length + 1)
    have h3 : (Builtin.Str.partsBetween u (Builtin.Str.occurrences u y 0 u.length (u.length + 1)) y.length).length <= (Builtin.Str.occurrences u y 0 u.length (u.length + 1)).length + 1 := by
      unfold Builtin.Str.partsBetween
      simp
    exact Nat.le_trans h3 (Nat.le_trans (show _ <= 200000 by omega) (by decide))
end
end L2
namespace L2
open PySem
def sgC (ws F : List Int) (h : Int) (c : Nat) : Nat := if F.getD (ws.getD c 0).toNat 0 = h then (if hdL ws (ws.getD c 0).toNat < tlL ws (ws.getD c 0).toNat then 43 else 124) else if h < F.getD (ws.getD c 0).toNat 0 then (if covB ws F h c c then 35 else 124) else if covB ws F h c c then 45 else 32
def gpC (ws F : List Int) (h : Int) (c : Nat) : Nat := if covB ws F h ((c : Int) - 1) c then 45 else 32
theorem sgS_cps (ws F : List Int) (h : Int) (c : Nat) : (sgS ws F h c).cps.toList = [sgC ws F h c] := by
  unfold sgS sgC
  split
  · split <;> decide
  · split
    · split <;> decide
    · split <;> decide
theorem gpS_cps (ws F : List Int) (h : Int) (c : Nat) : (gpS ws F h c).cps.toList = [gpC ws F h c] := by
  unfold gpS gpC
  split <;> decide
def rowC (ws F : List Int) (h : Int) : Nat -> List Nat
  | 0 => []
  | m + 1 => (if m = 0 then rowC ws F h m else rowC ws F h m ++ [gpC ws F h m]) ++ [sgC ws F h m]
theorem app_cps (a b : Str) : (a ++ b).cps.toList = a.cps.toList ++ b.cps.toList := by
  show (a.cps ++ b.cps).toList = _
  rw [Array.toList_append]
theorem rowT_cps (ws F : List Int) (h : Int) : ∀ m,(rowT ws F h m).cps.toList = rowC ws F h m
  | 0 => by unfold rowT sigL rowC; decide
  | m + 1 => by
    have ih := rowT_cps ws F h m
    unfold rowT at ih ⊢
    unfold sigL rowC
    rw [glue_snoc,app_cps,sgS_cps]
    by_cases e : m = 0
    · rw [if_pos e,if_pos e,ih]
    · rw [if_neg e,if_neg e,glue_snoc,app_cps,gpS_cps,ih]
theorem rowC_len (ws F : List Int) (h : Int) : ∀ m,(rowC ws F h (m + 1)).length = 2 * m + 1
  | 0 => rfl
  | m + 1 => by
    have ih := rowC_len ws F h m
    conv => lhs; unfold rowC
    rw [if_neg (by omega),List.length_append,List.length_append,ih]
    simp only [List.length_cons,List.length_nil]; omega
theorem rowC_ok (ws F : List Int) (h : Int) : ∀ m c,c < m -> (rowC ws F h m)[2 * c]? = some (sgC ws F h c) /\ (1 <= c -> (rowC ws F h m)[2 * c - 1]? = some (gpC ws F h c))
  | 0,c,hc => by omega
  | m + 1,c,hc => by
    unfold rowC
    by_cases e0 : m = 0
    · subst e0
      have : c = 0 := by omega
      subst this
      exact ⟨rfl,fun z => by omega⟩
    · rw [if_neg e0]
      obtain ⟨m',hm'⟩ : ∃ m',m = m' + 1 := ⟨m - 1,by omega⟩
      have hl : (rowC ws F h m).length = 2 * m - 1 := by rw [hm',rowC_len]; omega
      have hl2 : (rowC ws F h m ++ [gpC ws F h m]).length = 2 * m := by rw [List.length_append,hl]; simp only [List.length_cons,List.length_nil]; omega
      by_cases e : c = m
      · subst e
        constructor
        · rw [List.getElem?_append_right (by omega),hl2,Nat.sub_self]; rfl
        · intro _
          rw [List.getElem?_append_left (by omega),List.getElem?_append_right (by omega),hl,Nat.sub_self]; rfl
      · obtain ⟨i1,i2⟩ := rowC_ok ws F h m c (by omega)
        constructor
        · rw [List.getElem?_append_left (by omega),List.getElem?_append_left (by omega)]; exact i1
        · intro z
          rw [List.getElem?_append_left (by omega),List.getElem?_append_left (by omega)]; exact i2 z
theorem rowC_no (ws F : List Int) (h : Int) : ∀ m,10 ∉ rowC ws F h m
  | 0 => by unfold rowC; simp
  | m + 1 => by
    have ih := rowC_no ws F h m
    have a : sgC ws F h m ≠ 10 := by
      unfold sgC
      split
      · split <;> decide
      · split
        · split <;> decide
        · split <;> decide
    have b : gpC ws F h m ≠ 10 := by unfold gpC; split <;> decide
    unfold rowC
    intro z
    rcases List.mem_append.mp z with z | z
    · split at z
      · exact ih z
      · rcases List.mem_append.mp z with z | z
        · exact ih z
        · exact b (List.mem_singleton.mp z).symm
    · exact a (List.mem_singleton.mp z).symm
def rowsM (ws F : List Int) : List Str := rowsT ws F (maxL F) (maxL F).toNat ++ [footT ws.length]
theorem foot_ok2 {n : Nat} (h1 : 1 <= n) (h : n <= 9) : (footT n).length = 2 * n - 1 /\ 10 ∉ (footT n).cps.toList := by
  unfold footT
  match n,h1,h with
  | 1,_,_ => decide
  | 2,_,_ => decide
  | 3,_,_ => decide
  | 4,_,_ => decide
  | 5,_,_ => decide
  | 6,_,_ => decide
  | 7,_,_ => decide
  | 8,_,_ => decide
  | 9,_,_ => decide
  | n + 10,_,h => omega
theorem rowsM_len (ws F : List Int) : (rowsM ws F).length = (maxL F).toNat + 1 := by
  unfold rowsM
  rw [List.length_append,rowsT_length]; rfl
theorem rowsM_at (ws F : List Int) {i : Nat} (hi : i < (maxL F).toNat) : (rowsM ws F)[i]? = some (rowT ws F (maxL F - i) ws.length) := by
  unfold rowsM
  rw [List.getElem?_append_left (by rw [rowsT_length]; exact hi)]
  unfold rowsT
  rw [List.getElem?_map,List.getElem?_range hi]; rfl
theorem rowsM_mem {ws F : List Int} (hw : isWay ws = true) : ∀ z ∈ rowsM ws F,z.length = 2 * ws.length - 1 /\ 10 ∉ z.cps.toList := by
  obtain ⟨w1,w9,w0⟩ := isWay_iff.mp hw
  intro z hz
  unfold rowsM at hz
  rcases List.mem_append.mp hz with hz | hz
  · unfold rowsT at hz
    obtain ⟨j,_,rfl⟩ := List.mem_map.mp hz
    obtain ⟨m,hm⟩ : ∃ m,ws.length = m + 1 := ⟨ws.length - 1,by omega⟩
    refine ⟨?_,by rw [rowT_cps]; exact rowC_no _ _ _ _⟩
    rw [hm,rowT_len]; omega
  · rw [List.mem_singleton.mp hz]
    exact foot_ok2 w1 w9
theorem mark_split {ws F : List Int} (hw : isWay ws = true) : Txt.split (markT ws F) "\n" = rowsM ws F := by
  refine split_join ?_ fun z hz => (rowsM_mem (F := F) hw z hz).2
  simp
def chS (R : List Str) (i p : Nat) : Option Nat := (R.getD i "").cps.toList[p]?
structure Place (R : List Str) (c i j : Nat) : Prop where
  lt : i + 1 < R.length
  up : ∀ i',i' < i -> chS R i' (2 * c) = some 45 \/ chS R i' (2 * c) = some 32
  at_ : ∃ x,chS R i (2 * c) = some x /\ x ≠ 45 /\ x ≠ 32
  le : j <= c
  left : ∀ j',j < j' -> j' <= c -> chS R i (2 * j' - 1) = some 45
  stop : j = 0 \/ ∃ x,chS R i (2 * j - 1) = some x /\ x ≠ 45
theorem tl_max {ws : List Int} {k : Nat} {j : Nat} (hj : j < ws.length) (e : ws.getD j 0 = (k : Int)) : (j : Int) <= tlL ws k := by
  have hm : j ∈ lotN ws (k : Int) ws.length := mem_lotN.mpr ⟨hj,e⟩
  have hp : (lotN ws (k : Int) ws.length).Pairwise (· < ·) := List.pairwise_lt_range.filter _
  unfold tlL
  generalize lotN ws (k : Int) ws.length = L at hm hp
  have key : ∀ (L : List Nat) (d : Nat),L.Pairwise (· < ·) -> (∀ x ∈ L,d < x) -> ∀ x ∈ L,x <= L.getLastD d := by
    intro L
    induction L with
    | nil => intro d _ _ x hx; simp at hx
    | cons a t ih =>
      intro d hp hd x hx
      rw [List.getLastD_cons]
      have hp' := List.pairwise_cons.mp hp
      rcases List.mem_cons.mp hx with e | hx
      · subst e
        cases t with
        | nil => exact Nat.le_refl _
        | cons b t =>
          have h1 := ih x hp'.2 hp'.1 b List.mem_cons_self
          have h2 := hp'.1 b List.mem_cons_self
          omega
      · exact ih a hp'.2 hp'.1 x hx
  cases L with
  | nil => simp at hm
  | cons a t =>
    rw [List.getLastD_cons]
    have hp' := List.pairwise_cons.mp hp
    rcases List.mem_cons.mp hm with e | hm
    · subst e
      cases t with
      | nil => exact Int.le_refl _
      | cons b t =>
        have h1 := key (b :: t) j hp'.2 hp'.1 b List.mem_cons_self
        have h2 := hp'.1 b List.mem_cons_self
        omega
    · have := key t a hp'.2 hp'.1 j hm
      omega
theorem isH_good {ar cr : Nat -> Nat -> Bool} {n : Nat} {F : List Int} (h : IsH ar cr n F) : ∃ g,GoodH ar cr g F /\ F.length = n := by
  obtain ⟨g,g1,e,l⟩ := h
  exact ⟨g,comp_good _ [] F (by simp) (fun i hi => by simp at hi) e⟩
theorem no_over {ws F : List Int} (hw : isWay ws = true) (hH : IsH (arW ws) (crW ws) (fresh 0 ws).toNat F) {k m : Nat} (hk : k < (fresh 0 ws).toNat) (hm : m < (fresh 0 ws).toNat) (e : F.getD m 0 = F.getD k 0) (h1 : hdL ws m < hdL ws k) (h2 : hdL ws k <= tlL ws m) : False := by
  obtain ⟨g,hG,hl⟩ := isH_good hH
  have hmk : m < k := by
    rcases Nat.lt_trichotomy m k with z | z | z
    · exact z
    · subst z; omega
    · have := hd_mono hw z hm; omega
  have ht := hd_le_tl hw hk
  have hne : tlL ws m ≠ tlL ws k := fun z => by
    have a := (tlL_ok hw hm).2.2
    have b := (tlL_ok hw hk).2.2
    rw [z,b] at a
    omega
  obtain ⟨hS,_,_⟩ := hG k (by omega)
  unfold suitsB at hS
  rw [List.all_eq_true] at hS
  have hlk : (F.take k).length = k := by rw [List.length_take]; omega
  have hs := hS m (List.mem_range.mpr (by rw [hlk]; exact hmk))
  rw [hlk,show (F.take k).getD m 0 = F.getD m 0 by rw [List.getD_eq_getElem?_getD,List.getD_eq_getElem?_getD,List.getElem?_take_of_lt hmk],e] at hs
  rw [decide_eq_true (Int.le_refl _),decide_eq_true rfl,Bool.and_true,Bool.and_true] at hs
  have hc : lieS (hdL ws m) (tlL ws m) (hdL ws k) (tlL ws k) = "around" \/ lieS (hdL ws m) (tlL ws m) (hdL ws k) (tlL ws k) = "crossing" := by
    unfold lieS
    rw [if_neg (fun z => by omega),if_neg (fun z => by omega),if_neg (fun z => by omega)]
    split
    · exact .inl rfl
    · exact .inr rfl
  have ha : arW ws m k = true \/ crW ws m k = true := by
    unfold arW crW
    rcases hc with z | z
    · exact .inl (decide_eq_true z)
    · exact .inr (decide_eq_true z)
  rcases ha with z | z
  · rw [z] at hs; simp at hs
  · rw [z] at hs; simp at hs
theorem place_mark {ws F : List Int} (hw : isWay ws = true) (hH : IsH (arW ws) (crW ws) (fresh 0 ws).toNat F) {c k : Nat} (hc : c < ws.length) (hk : ws.getD c 0 = (k : Int)) :
    Place (rowsM ws F) c ((maxL F).toNat - (F.getD k 0).toNat) (hdL ws k).toNat /\ 1 <= F.getD k 0 /\ F.getD k 0 <= maxL F /\ k < (fresh 0 ws).toNat := by
  obtain ⟨w1,w9,w0⟩ := isWay_iff.mp hw
  obtain ⟨u0,u9,uf⟩ := way_small hw hc
  have hkn : k < (fresh 0 ws).toNat := by omega
  obtain ⟨g,hG,hl⟩ := isH_good hH
  obtain ⟨_,h1,_⟩ := hG k (by omega)
  have hFne : F ≠ [] := fun e => by rw [e] at hl; simp at hl; omega
  have hmax := (maxL_is hFne).2 (F.getD k 0) (mem_getD.mpr ⟨k,by omega,rfl⟩)
  obtain ⟨d0,d1,d2⟩ := hdL_ok hw hkn
  have hdc : hdL ws k <= c := by
    have := hd_min (ws := ws) (k := (k : Int)) hc hk
    unfold hdL; omega
  have htc := tl_max hc hk
  have ch : ∀ i,i < (maxL F).toNat -> ∀ p,chS (rowsM ws F) i p = (rowC ws F (maxL F - i) ws.length)[p]? := fun i hi p => by
    unfold chS
    rw [List.getD_eq_getElem?_getD,rowsM_at ws F hi]
    show (rowT ws F (maxL F - i) ws.length).cps.toList[p]? = _
    rw [rowT_cps]
  have hik : (maxL F).toNat - (F.getD k 0).toNat < (maxL F).toNat := by omega
  have hh : maxL F - (((maxL F).toNat - (F.getD k 0).toNat : Nat) : Int) = F.getD k 0 := by omega
  refine ⟨⟨?_,?_,?_,?_,?_,?_⟩,h1,hmax,hkn⟩
  · rw [rowsM_len]; omega
  · intro i' hi'
    rw [ch i' (by omega),(rowC_ok ws F _ _ c hc).1]
    unfold sgC
    rw [hk,Int.toNat_natCast,if_neg (show ¬ F.getD k 0 = maxL F - (i' : Int) by omega),if_neg (show ¬ maxL F - (i' : Int) < F.getD k 0 by omega)]
    split
    · exact .inl rfl
    · exact .inr rfl
  · rw [ch _ hik,hh,(rowC_ok ws F _ _ c hc).1]
    unfold sgC
    rw [hk,Int.toNat_natCast,if_pos rfl]
    split
    · exact ⟨43,rfl,by decide,by decide⟩
    · exact ⟨124,rfl,by decide,by decide⟩
  · omega
  · intro j' a b
    rw [ch _ hik,hh,(rowC_ok ws F _ _ j' (by omega)).2 (by omega)]
    unfold gpC
    have : covB ws F (F.getD k 0) ((j' : Int) - 1) j' = true := by
      unfold covB
      rw [List.any_eq_true]
      refine ⟨k,List.mem_range.mpr hkn,?_⟩
      rw [decide_eq_true rfl,decide_eq_true (show hdL ws k <= (j' : Int) - 1 by omega),decide_eq_true (show (j' : Int) <= tlL ws k by omega)]; rfl
    rw [this]; rfl
  · by_cases z : (hdL ws k).toNat = 0
    · exact .inl z
    · refine .inr ⟨32,?_,by decide⟩
      rw [ch _ hik,hh,(rowC_ok ws F _ _ (hdL ws k).toNat (by omega)).2 (by omega)]
      unfold gpC
      have : covB ws F (F.getD k 0) (((hdL ws k).toNat : Int) - 1) (hdL ws k).toNat = false := by
        unfold covB
        rw [List.any_eq_false]
        intro m hm q
        have hm := List.mem_range.mp hm
        rw [Bool.and_eq_true,Bool.and_eq_true] at q
        exact no_over hw hH hkn hm (of_decide_eq_true q.1) (by have := of_decide_eq_true q.2.1; omega) (by have := of_decide_eq_true q.2.2; omega)
      rw [this]; rfl
theorem hd_inj {ws : List Int} (hw : isWay ws = true) {a b : Int} (ha : a ∈ ws) (hb : b ∈ ws) (h : hdL ws a.toNat = hdL ws b.toNat) : a = b := by
  obtain ⟨w1,w9,w0⟩ := isWay_iff.mp hw
  have a1 := (way_memJ ws w0 a).mp ha
  have b1 := (way_memJ ws w0 b).mp hb
  have a2 := (hdL_ok hw (k := a.toNat) (by omega)).2.2
  have b2 := (hdL_ok hw (k := b.toNat) (by omega)).2.2
  rw [h,b2] at a2
  omega
def lpL (ws F : List Int) (k : Nat) : Int := (((maxL F).toNat - (F.getD k 0).toNat : Nat) : Int) * ((2 * ws.length - 1 : Nat) : Int) + 2 * ((hdL ws k).toNat : Int)
def lpR (ws F : List Int) : List Int := ws.map fun z => lpL ws F z.toNat
theorem lp_way {ws F : List Int} (hw : isWay ws = true) : numRow (lpR ws F) = ws := by
  obtain ⟨w1,w9,w0⟩ := isWay_iff.mp hw
  unfold lpR
  rw [numRow_map fun a ha b hb h => ?_]
  · exact (numRow_self ws w0).1
  · refine hd_inj hw ha hb ?_
    have a1 := (way_memJ ws w0 a).mp ha
    have b1 := (way_memJ ws w0 b).mp hb
    obtain ⟨a2,a3,_⟩ := hdL_ok hw (k := a.toNat) (by omega)
    obtain ⟨b2,b3,_⟩ := hdL_ok hw (k := b.toNat) (by omega)
    unfold lpL at h
    generalize hX : (((maxL F).toNat - (F.getD a.toNat 0).toNat : Nat) : Int) = x at h
    generalize hY : (((maxL F).toNat - (F.getD b.toNat 0).toNat : Nat) : Int) = y at h
    generalize hW : ((2 * ws.length - 1 : Nat) : Int) = W at h
    have hWv : W = 2 * (ws.length : Int) - 1 := by omega
    rw [Int.toNat_of_nonneg a2,Int.toNat_of_nonneg b2] at h
    have e : (x * W + 2 * hdL ws a.toNat) % W = (y * W + 2 * hdL ws b.toNat) % W := by rw [h]
    rw [Int.add_comm,Int.add_comm (y * W),Int.add_mul_emod_self_right,Int.add_mul_emod_self_right,Int.emod_eq_of_lt (by omega) (by omega),Int.emod_eq_of_lt (by omega) (by omega)] at e
    omega
end L2
namespace L2
open PySem PySem.Spec PyProof.Rows
section
variable {X : Cx} {K : PySem.W.Frag}
theorem kc_isiP (h : X.K = K := by rfl) : CallR X (.builtin "isinstance") (fun xs H Q => ∃ x n t b,xs = [x,.ty n] /\ (TyOf K H x t \/ ∃ (a : Addr) (ys : List V),x = .ref a /\ PlT H a ys /\ t = .type "tuple") /\ PySem.W.kitOne K t (.type n) = some b /\ Q (.bl b) H) := by
  subst h
  intro pins s σ H xs us Q I r h
  obtain ⟨x,n,t,b,rfl,ty,e,q⟩ := h
  obtain ⟨u,w',rfl,rx,ru⟩ := vals2 r
  cases (show w' = Value.type n from ru)
  rcases ty with ty | ⟨a,ys,rfl,⟨ob,hob,hH⟩,rfl⟩
  · exact isinst_ok I rx ty e fun tk => ⟨.bl b,H,I.tok tk,rfl,q⟩
  · cases (show u = Value.ref a from rx)
    obtain ⟨e1,_,its,rv,ob',e1',e2,_⟩ := I.hok a _ hH
    exact PySem.W.kia_one PySem.W.kitx_tuple I.kIn ⟨ob',e1',e2⟩ e (fun z => nomatch z) fun tk => ⟨.bl b,H,I.tok tk,rfl,q⟩
end
theorem one_str {x : Nat} {s : Str} {c : Nat} (hs : s.cps.toList = [c]) : (V.str ⟨#[x]⟩ = V.str s) ↔ x = c := by
  constructor
  · intro e
    have e : (⟨#[x]⟩ : Str) = s := V.str.inj e
    rw [<- e] at hs
    exact List.singleton_inj.mp hs
  · intro e
    subst e
    congr 1
    exact str_ext hs.symm
theorem in_two (x : Nat) : inV (V.str ⟨#[x]⟩) [V.str "-",V.str " "] = decide (x = 45 \/ x = 32) := by
  have a := one_str (x := x) (s := "-") (c := 45) (by decide)
  have b := one_str (x := x) (s := " ") (c := 32) (by decide)
  unfold inV
  show (eqV (V.str "-") (V.str ⟨#[x]⟩) || (eqV (V.str " ") (V.str ⟨#[x]⟩) || false)) = _
  have ea : eqV (V.str "-") (V.str ⟨#[x]⟩) = decide (x = 45) := by
    show ((Str.ofString "-") == (⟨#[x]⟩ : Str)) = _
    rw [<- dec_str]
    exact decide_eq_decide.mpr ⟨fun e => a.mp e.symm,fun e => (a.mpr e).symm⟩
  have eb : eqV (V.str " ") (V.str ⟨#[x]⟩) = decide (x = 32) := by
    show ((Str.ofString " ") == (⟨#[x]⟩ : Str)) = _
    rw [<- dec_str]
    exact decide_eq_decide.mpr ⟨fun e => b.mp e.symm,fun e => (b.mpr e).symm⟩
  rw [ea,eb,Bool.or_false,<- Bool.decide_or]
theorem seq_c {v : V} {i : Nat} {B : TS} {D : Ends} {σ : St} {H : Hp} (h : B D (σ.set i (some v)) H) : tSeq (tAsg (tC v) (gName i)) B D σ H := h
theorem seq_v {v : V} {i j : Nat} {B : TS} {D : Ends} {σ : St} {H : Hp} (e : σ[j]? = some (some v)) (h : B D (σ.set i (some v)) H) : tSeq (tAsg (tVar j) (gName i)) B D σ H := ⟨v,e,h⟩
theorem mark_len {ws F : List Int} (hw : isWay ws = true) (hg : (maxL F).toNat <= 9) : (markT ws F).length <= 100000 := by
  obtain ⟨w1,w9,w0⟩ := isWay_iff.mp hw
  have e : markT ws F = Str.join "\n" (rowsM ws F) := StrLaws.glued_eq_join _ _
  rw [e]
  have h1 := StrLaws.join_length_le "\n" (rowsM ws F)
  have h2 := PySem.StrLaws.sumLen_le (B := 17) (rowsM ws F) (fun y hy => by have := (rowsM_mem (F := F) hw y hy).1; omega)
  have h3 := rowsM_len ws F
  have h4 : (Str.ofString "\n").length = 1 := by decide
  rw [h4] at h1
  omega
end L2
namespace L2
open PySem
def stJ (s : Nat × List (List Int) × List Int) (x : Nat) : Nat × List (List Int) × List Int :=
  if x = 43 /\ s.1 % 2 = 0 then (s.1 + 1,s.2.1,s.2.2 ++ [((s.1 / 2 : Nat) : Int)])
  else if x = 45 \/ x = 35 then (s.1 + 1,s.2.1,s.2.2) else (s.1 + 1,s.2.1 ++ [s.2.2],[])
def runJ (L : List Nat) : Nat × List (List Int) × List Int := L.foldl stJ (0,[],[])
def neL (L : List (List Int)) : List (List Int) := L.filter fun l => decide (0 < l.length)
def jointC (L : List Nat) : List (List Int) := neL ((runJ L).2.1 ++ [(runJ L).2.2])
theorem runJ_snoc (L : List Nat) (x : Nat) : runJ (L ++ [x]) = stJ (runJ L) x := by unfold runJ; rw [List.foldl_append]; rfl
theorem neL_app (a b : List (List Int)) : neL (a ++ b) = neL a ++ neL b := List.filter_append ..
theorem neL_nil : neL [[]] = [] := rfl
theorem neL_one {l : List Int} (h : l ≠ []) : neL [l] = [l] := by
  unfold neL
  rw [List.filter_cons,if_pos (decide_eq_true (List.length_pos_iff.mpr h))]; rfl
theorem covB_iff {ws F : List Int} {h a b : Int} : covB ws F h a b = true ↔ ∃ k,k < (fresh 0 ws).toNat /\ F.getD k 0 = h /\ hdL ws k <= a /\ b <= tlL ws k := by
  unfold covB
  rw [List.any_eq_true]
  constructor
  · rintro ⟨k,hk,e⟩
    rw [Bool.and_eq_true,Bool.and_eq_true] at e
    exact ⟨k,List.mem_range.mp hk,of_decide_eq_true e.1,of_decide_eq_true e.2.1,of_decide_eq_true e.2.2⟩
  · rintro ⟨k,hk,e1,e2,e3⟩
    exact ⟨k,List.mem_range.mpr hk,by rw [decide_eq_true e1,decide_eq_true e2,decide_eq_true e3]; rfl⟩
section
variable {ws F : List Int} (hw : isWay ws = true) (hH : IsH (arW ws) (crW ws) (fresh 0 ws).toNat F)
include hw hH in
theorem one_lot {k m : Nat} {x : Int} (hk : k < (fresh 0 ws).toNat) (hm : m < (fresh 0 ws).toNat) (e : F.getD k 0 = F.getD m 0) (a : hdL ws k <= x) (b : x <= tlL ws k) (c : hdL ws m <= x) (d : x <= tlL ws m) : k = m := by
  rcases Int.lt_trichotomy (hdL ws k) (hdL ws m) with z | z | z
  · exact (no_over hw hH hm hk e z (by omega)).elim
  · rcases Nat.lt_trichotomy k m with y | y | y
    · have := hd_mono hw y hm; omega
    · exact y
    · have := hd_mono hw y hk; omega
  · exact (no_over hw hH hk hm e.symm z (by omega)).elim
theorem lot_none {k : Nat} : ∀ (m : Nat),(∀ j,j < m -> ws.getD j 0 ≠ (k : Int)) -> lotL ws (k : Int) m = []
  | 0,_ => rfl
  | m + 1,h => by
    rw [lotL_succ,if_neg (h m (by omega))]
    exact lot_none m fun j hj => h j (by omega)
theorem lot_stay {k : Nat} (m : Nat) : ∀ (d : Nat),(∀ j,m <= j -> j < m + d -> ws.getD j 0 ≠ (k : Int)) -> lotL ws (k : Int) (m + d) = lotL ws (k : Int) m
  | 0,_ => rfl
  | d + 1,h => by
    rw [show m + (d + 1) = (m + d) + 1 by omega,lotL_succ,if_neg (h (m + d) (by omega) (by omega))]
    exact lot_stay m d fun j a b => h j a (by omega)
def SJ (ws F : List Int) (h : Int) (m : Nat) (f : List (List Int)) (g : List Int) : Prop :=
  ∃ ks : List Nat,neL f = ks.map (fun k : Nat => lotL ws (k : Int) ws.length) /\ ks.Nodup /\ (∀ k,k ∈ ks ↔ k < (fresh 0 ws).toNat /\ F.getD k 0 = h /\ hdL ws k < tlL ws k /\ tlL ws k + 1 < (m : Int)) /\
    ((∃ k,k < (fresh 0 ws).toNat /\ F.getD k 0 = h /\ hdL ws k < tlL ws k /\ hdL ws k + 1 <= (m : Int) /\ (m : Int) <= tlL ws k + 1 /\ g = lotL ws (k : Int) m) \/ ((∀ k,k < (fresh 0 ws).toNat -> F.getD k 0 = h -> hdL ws k < tlL ws k -> ¬ (hdL ws k + 1 <= (m : Int) /\ (m : Int) <= tlL ws k + 1)) /\ g = []))
def GJ (ws F : List Int) (h : Int) (m : Nat) (f : List (List Int)) (g : List Int) : Prop :=
  ∃ ks : List Nat,neL f = ks.map (fun k : Nat => lotL ws (k : Int) ws.length) /\ ks.Nodup /\ (∀ k,k ∈ ks ↔ k < (fresh 0 ws).toNat /\ F.getD k 0 = h /\ hdL ws k < tlL ws k /\ tlL ws k < (m : Int)) /\
    ((∃ k,k < (fresh 0 ws).toNat /\ F.getD k 0 = h /\ hdL ws k < (m : Int) /\ (m : Int) <= tlL ws k /\ g = lotL ws (k : Int) m) \/ ((∀ k,k < (fresh 0 ws).toNat -> F.getD k 0 = h -> ¬ (hdL ws k < (m : Int) /\ (m : Int) <= tlL ws k)) /\ g = []))
include hw hH in
theorem gap_step {h : Int} {m : Nat} {f : List (List Int)} {g : List Int} (hS : SJ ws F h m f g) (h1 : 1 <= m) (hm : m < ws.length) : ∃ f' g',stJ (2 * m - 1,f,g) (gpC ws F h m) = (2 * m,f',g') /\ GJ ws F h m f' g' := by
  obtain ⟨ks,hf,hnd,hks,hg⟩ := hS
  have ep : 2 * m - 1 + 1 = 2 * m := by omega
  by_cases c : covB ws F h ((m : Int) - 1) m = true
  · have e : gpC ws F h m = 45 := by unfold gpC; rw [if_pos c]
    obtain ⟨k,hk,ek,a,b⟩ := covB_iff.mp c
    refine ⟨f,g,?_,ks,hf,hnd,fun k' => ?_,.inl ⟨k,hk,ek,by omega,by omega,?_⟩⟩
    · rw [e]; unfold stJ; rw [if_neg (by simp),if_pos (.inl rfl)]; simp only [ep]
    · rw [hks]
      refine ⟨fun z => ⟨z.1,z.2.1,z.2.2.1,by omega⟩,fun z => ⟨z.1,z.2.1,z.2.2.1,?_⟩⟩
      by_cases y : tlL ws k' + 1 = (m : Int)
      · have := one_lot hw hH (x := (m : Int) - 1) hk z.1 (by rw [ek,z.2.1]) a (by omega) (by have := z.2.2.1; omega) (by omega)
        subst this
        omega
      · have := z.2.2.2; omega
    · rcases hg with ⟨k',q1,q2,q3,q4,q5,q6⟩ | ⟨q1,_⟩
      · have := one_lot hw hH (x := (m : Int) - 1) hk q1 (by rw [ek,q2]) a (by omega) (by omega) (by omega)
        subst this
        exact q6
      · exact (q1 k hk ek (by omega) ⟨by omega,by omega⟩).elim
  · have e : gpC ws F h m = 32 := by unfold gpC; rw [if_neg c]
    have nc : ∀ k,k < (fresh 0 ws).toNat -> F.getD k 0 = h -> ¬ (hdL ws k < (m : Int) /\ (m : Int) <= tlL ws k) := fun k hk ek z => c (covB_iff.mpr ⟨k,hk,ek,by omega,by omega⟩)
    have est : stJ (2 * m - 1,f,g) 32 = (2 * m,f ++ [g],[]) := by
      unfold stJ; rw [if_neg (by simp),if_neg (by simp)]; simp only [ep]
    rcases hg with ⟨k,q1,q2,q3,q4,q5,q6⟩ | ⟨q1,q2⟩
    · have ht : tlL ws k + 1 = (m : Int) := by
        refine Classical.byContradiction fun z => nc k q1 q2 ⟨by omega,by omega⟩
      have hst : g = lotL ws (k : Int) ws.length := by
        rw [q6]
        have := lot_stay (ws := ws) (k := k) m (ws.length - m) fun j a b z => by have := tl_max (ws := ws) (k := k) (j := j) (by omega) z; omega
        rw [show m + (ws.length - m) = ws.length by omega] at this
        exact this.symm
      have hne : g ≠ [] := by
        rw [hst]
        unfold lotL
        intro z
        exact lotN_ne hw q1 (List.map_eq_nil_iff.mp z)
      refine ⟨f ++ [g],[],by rw [e]; exact est,ks ++ [k],by rw [neL_app,neL_one hne,hf,List.map_append,hst]; rfl,?_,fun k' => ?_,.inr ⟨nc,rfl⟩⟩
      · rw [List.nodup_append]
        refine ⟨hnd,by simp,fun x hx y hy z => ?_⟩
        rw [List.mem_singleton.mp hy] at z
        subst z
        have := ((hks x).mp hx).2.2.2
        omega
      · rw [List.mem_append,List.mem_singleton,hks]
        constructor
        · rintro (z | rfl)
          · exact ⟨z.1,z.2.1,z.2.2.1,by omega⟩
          · exact ⟨q1,q2,q3,by omega⟩
        · intro z
          by_cases y : tlL ws k' + 1 = (m : Int)
          · right
            exact one_lot hw hH (x := (m : Int) - 1) z.1 q1 (by rw [q2,z.2.1]) (by have := z.2.2.1; omega) (by omega) (by omega) (by omega)
          · left
            exact ⟨z.1,z.2.1,z.2.2.1,by have := z.2.2.2; omega⟩
    · refine ⟨f ++ [g],[],by rw [e]; exact est,ks,by rw [neL_app,q2,neL_nil,List.append_nil,hf],hnd,fun k' => ?_,.inr ⟨nc,rfl⟩⟩
      rw [hks]
      refine ⟨fun z => ⟨z.1,z.2.1,z.2.2.1,by omega⟩,fun z => ⟨z.1,z.2.1,z.2.2.1,?_⟩⟩
      have := q1 k' z.1 z.2.1 z.2.2.1
      have := z.2.2.1
      have := z.2.2.2
      omega
include hw hH in
theorem sign_step {h : Int} {m : Nat} {f : List (List Int)} {g : List Int} (hG : GJ ws F h m f g) (hm : m < ws.length) : ∃ f' g',stJ (2 * m,f,g) (sgC ws F h m) = (2 * m + 1,f',g') /\ SJ ws F h (m + 1) f' g' := by
  obtain ⟨ks,hf,hnd,hks,hg⟩ := hG
  obtain ⟨u0,u9,uf⟩ := way_small hw hm
  obtain ⟨o,ho⟩ : ∃ o : Nat,ws.getD m 0 = (o : Int) := ⟨(ws.getD m 0).toNat,by omega⟩
  have hon : o < (fresh 0 ws).toNat := by omega
  have ohd : hdL ws o <= (m : Int) := by
    have := hd_min (ws := ws) (k := (o : Int)) hm ho
    unfold hdL; omega
  have otl := tl_max hm ho
  have hks' : ∀ k,k ∈ ks ↔ k < (fresh 0 ws).toNat /\ F.getD k 0 = h /\ hdL ws k < tlL ws k /\ tlL ws k + 1 < ((m + 1 : Nat) : Int) := fun k => by
    rw [hks]
    exact ⟨fun z => ⟨z.1,z.2.1,z.2.2.1,by omega⟩,fun z => ⟨z.1,z.2.1,z.2.2.1,by omega⟩⟩
  have keep : ∀ x,(x = 45 \/ x = 35) -> stJ (2 * m,f,g) x = (2 * m + 1,f,g) := fun x hx => by
    unfold stJ; rw [if_neg (fun z => by omega),if_pos hx]
  have cut : ∀ x,x = 124 \/ x = 32 -> stJ (2 * m,f,g) x = (2 * m + 1,f ++ [g],[]) := fun x hx => by
    unfold stJ; rw [if_neg (fun z => by omega),if_neg (fun z => by omega)]
  have over : F.getD o 0 ≠ h -> covB ws F h m m = true -> SJ ws F h (m + 1) f g := fun ne c => by
    obtain ⟨k,hk,ek,a,b⟩ := covB_iff.mp c
    have hko : k ≠ o := fun z => ne (by rw [<- z]; exact ek)
    have a' : hdL ws k ≠ (m : Int) := fun z => by
      have := (hdL_ok hw hk).2.2
      rw [z,Int.toNat_natCast,ho] at this
      omega
    have b' : tlL ws k ≠ (m : Int) := fun z => by
      have := (tlL_ok hw hk).2.2
      rw [z,Int.toNat_natCast,ho] at this
      omega
    refine ⟨ks,hf,hnd,hks',.inl ⟨k,hk,ek,by omega,by omega,by omega,?_⟩⟩
    rcases hg with ⟨k',q1,q2,q3,q4,q5⟩ | ⟨q1,_⟩
    · have := one_lot hw hH (x := (m : Int)) hk q1 (by rw [ek,q2]) a b (by omega) (by omega)
      subst this
      rw [q5,lotL_succ,if_neg (by rw [ho]; omega)]
    · exact (q1 k hk ek ⟨by omega,by omega⟩).elim
  have bare : F.getD o 0 ≠ h -> ¬ covB ws F h m m = true -> SJ ws F h (m + 1) (f ++ [g]) [] := fun ne c => by
    have hgn : g = [] := by
      rcases hg with ⟨k',q1,q2,q3,q4,q5⟩ | ⟨_,q2⟩
      · exact (c (covB_iff.mpr ⟨k',q1,q2,by omega,by omega⟩)).elim
      · exact q2
    refine ⟨ks,by rw [neL_app,hgn,neL_nil,List.append_nil,hf],hnd,hks',.inr ⟨fun k hk ek _ z => c (covB_iff.mpr ⟨k,hk,ek,by omega,by omega⟩),rfl⟩⟩
  unfold sgC
  rw [ho,Int.toNat_natCast]
  by_cases e1 : F.getD o 0 = h
  · rw [if_pos e1]
    by_cases e2 : hdL ws o < tlL ws o
    · rw [if_pos e2]
      refine ⟨f,g ++ [(m : Int)],?_,ks,hf,hnd,hks',.inl ⟨o,hon,e1,e2,by omega,by omega,?_⟩⟩
      · unfold stJ
        rw [if_pos ⟨rfl,by omega⟩]
        show (2 * m + 1,f,g ++ [((2 * m / 2 : Nat) : Int)]) = _
        rw [show 2 * m / 2 = m by omega]
      · rw [lotL_succ,if_pos ho]
        congr 1
        rcases hg with ⟨k',q1,q2,q3,q4,q5⟩ | ⟨q1,q2⟩
        · have := one_lot hw hH (x := (m : Int)) hon q1 (by rw [e1,q2]) ohd otl (by omega) (by omega)
          subst this
          exact q5
        · have hd : hdL ws o = (m : Int) := by
            refine Classical.byContradiction fun z => q1 o hon e1 ⟨by omega,otl⟩
          rw [q2,lot_none m fun j hj z => by
            have := hd_min (ws := ws) (k := (o : Int)) (j := j) (by omega) z
            unfold hdL at hd; omega]
    · rw [if_neg e2]
      have lone : ∀ k,k < (fresh 0 ws).toNat -> F.getD k 0 = h -> hdL ws k <= (m : Int) -> (m : Int) <= tlL ws k -> k = o := fun k hk ek a b => one_lot hw hH (x := (m : Int)) hk hon (by rw [ek,e1]) a b ohd otl
      have hgn : g = [] := by
        rcases hg with ⟨k',q1,q2,q3,q4,q5⟩ | ⟨_,q2⟩
        · have := lone k' q1 q2 (by omega) q4
          subst this
          omega
        · exact q2
      refine ⟨f ++ [g],[],cut 124 (.inl rfl),ks,by rw [neL_app,hgn,neL_nil,List.append_nil,hf],hnd,hks',.inr ⟨fun k hk ek z1 z => ?_,rfl⟩⟩
      have := lone k hk ek (by omega) (by omega)
      subst this
      omega
  · rw [if_neg e1]
    by_cases e3 : h < F.getD o 0
    · rw [if_pos e3]
      by_cases c : covB ws F h m m = true
      · rw [if_pos c]
        exact ⟨f,g,keep 35 (.inr rfl),over e1 c⟩
      · rw [if_neg c]
        exact ⟨f ++ [g],[],cut 124 (.inl rfl),bare e1 c⟩
    · rw [if_neg e3]
      by_cases c : covB ws F h m m = true
      · rw [if_pos c]
        exact ⟨f,g,keep 45 (.inl rfl),over e1 c⟩
      · rw [if_neg c]
        exact ⟨f ++ [g],[],cut 32 (.inr rfl),bare e1 c⟩
include hw hH in
theorem run_row {h : Int} : ∀ (m : Nat),m < ws.length -> ∃ f g,runJ (rowC ws F h (m + 1)) = (2 * m + 1,f,g) /\ SJ ws F h (m + 1) f g
  | 0,hm => by
    have hG : GJ ws F h 0 [] [] := ⟨[],rfl,List.nodup_nil,fun k => ⟨fun z => by simp at z,fun z => by
      have := (tlL_ok hw z.1).1
      have := z.2.2.2
      omega⟩,.inr ⟨fun k hk ek z => by
      have := (hdL_ok hw hk).1
      have := z.1
      omega,rfl⟩⟩
    obtain ⟨f,g,e,hS⟩ := sign_step hw hH hG hm
    exact ⟨f,g,e,hS⟩
  | m + 1,hm => by
    obtain ⟨f,g,e,hS⟩ := run_row m (by omega)
    obtain ⟨f1,g1,e1,hG⟩ := gap_step hw hH hS (by omega) hm
    obtain ⟨f2,g2,e2,hS2⟩ := sign_step hw hH hG hm
    refine ⟨f2,g2,?_,hS2⟩
    have er : rowC ws F h (m + 1 + 1) = rowC ws F h (m + 1) ++ [gpC ws F h (m + 1)] ++ [sgC ws F h (m + 1)] := by
      conv => lhs; unfold rowC
      rw [if_neg (by omega)]
    rw [er,runJ_snoc,runJ_snoc,e,show 2 * m + 1 = 2 * (m + 1) - 1 by omega,e1,e2]
include hw hH in
theorem joint_row {h : Int} : ∃ ks : List Nat,jointC (rowC ws F h ws.length) = ks.map (fun k : Nat => lotL ws (k : Int) ws.length) /\ ks.Nodup /\ ∀ k,k ∈ ks ↔ k < (fresh 0 ws).toNat /\ F.getD k 0 = h /\ hdL ws k < tlL ws k := by
  obtain ⟨w1,w9,w0⟩ := isWay_iff.mp hw
  obtain ⟨m,hm⟩ : ∃ m,ws.length = m + 1 := ⟨ws.length - 1,by omega⟩
  obtain ⟨f,g,e,ks,hf,hnd,hks,hg⟩ := run_row hw hH (h := h) m (by omega)
  unfold jointC
  rw [hm,e]
  show ∃ ks,neL (f ++ [g]) = _ /\ _
  rw [<- hm] at hg ⊢
  rcases hg with ⟨k,q1,q2,q3,q4,q5,q6⟩ | ⟨q1,q2⟩
  · have hne : g ≠ [] := by
      rw [q6]
      unfold lotL
      intro z
      exact lotN_ne hw q1 (List.map_eq_nil_iff.mp z)
    refine ⟨ks ++ [k],by rw [neL_app,neL_one hne,hf,List.map_append,q6]; rfl,?_,fun k' => ?_⟩
    · rw [List.nodup_append]
      refine ⟨hnd,by simp,fun x hx y hy z => ?_⟩
      rw [List.mem_singleton.mp hy] at z
      subst z
      have := ((hks x).mp hx).2.2.2
      omega
    · rw [List.mem_append,List.mem_singleton,hks]
      constructor
      · rintro (z | rfl)
        · exact ⟨z.1,z.2.1,z.2.2.1⟩
        · exact ⟨q1,q2,q3⟩
      · intro z
        have ht := (tlL_ok hw z.1).2.1
        by_cases y : tlL ws k' + 1 < ((m + 1 : Nat) : Int)
        · exact .inl ⟨z.1,z.2.1,z.2.2,y⟩
        · right
          have ht2 := (tlL_ok hw q1).2.1
          exact one_lot hw hH (x := (m : Int)) z.1 q1 (by rw [q2,z.2.1]) (by have := z.2.2; omega) (by omega) (by omega) (by omega)
  · refine ⟨ks,by rw [neL_app,q2,neL_nil,List.append_nil,hf],hnd,fun k' => ?_⟩
    rw [hks]
    refine ⟨fun z => ⟨z.1,z.2.1,z.2.2.1⟩,fun z => ⟨z.1,z.2.1,z.2.2,?_⟩⟩
    have ht := (tlL_ok hw z.1).2.1
    have := q1 k' z.1 z.2.1 z.2.2
    have := z.2.2
    omega
end
end L2
namespace L2
open PySem PySem.Spec PyProof.Rows
section
variable {prog : Program} {w : World} {A : Around} {E : Value -> Shared -> Prop} {s : Shared}
end
section
variable {X : Cx} {K : PySem.W.Frag}
end
end L2
namespace L2
open PySem PySem.Spec PyProof.Rows
section
variable {X : Cx}
theorem kc_lenS : CallR X (.builtin "len") (fun xs H Q => ∃ (a : Addr) (S : Int -> Bool) (n : Nat),xs = [.ref a] /\ H a = some (.set S n) /\ Q (.int n) H) := by
  intro pins s σ H xs us Q I r h
  obtain ⟨a,S,n,rfl,ha,q⟩ := h
  obtain ⟨u,rfl,ru⟩ := vals1 r
  cases ru
  obtain ⟨o,es,ep,t,ho,hex,hd,_,_,hb,hf,hn⟩ := (show s.heap.SetOf (intKind X.prog X.w) a S n from I.hok a _ ha)
  have hb4 : es.size < 4096 := by unfold scanBound at hb; omega
  refine call_len_set ho hex hd hf (by omega) ?_
  rw [hn]
  exact ⟨.int n,H,I.tok _,⟨_,rfl⟩,q⟩
end
theorem firstMet_seen (ns : List Int) : ∀ n,n <= ns.length -> firstMet (fun i => ns.getD i 0) n = seen (ns.take n)
  | 0,_ => rfl
  | n + 1,h => by
    have hn : n < ns.length := h
    rw [firstMet_succ,firstMet_seen ns n (by omega),take_snoc (List.getElem?_eq_getElem hn),seen_snoc,List.getD_eq_getElem?_getD,List.getElem?_eq_getElem hn]
    unfold step_dedup seenP
    show (if (seen (ns.take n)).any (· == ns[n]) = true then _ else _) = _
    by_cases e : ns[n] ∈ seen (ns.take n)
    · rw [if_pos e,if_pos (List.any_eq_true.mpr ⟨_,e,by simp⟩)]
    · rw [if_neg e,if_neg (fun z => by obtain ⟨y,hy,q⟩ := List.any_eq_true.mp z; exact e (by rw [<- (show y = ns[n] by simpa using q)]; exact hy))]; rfl
end L2
namespace L2
open PySem PySem.Spec PyProof.Rows
section
variable {X : Cx} {K : PySem.W.Frag}
theorem sl_strA : SlR X (fun x lo hi H Q => ∃ u : Str,x = .str u /\ u.length <= 100000 /\ ∀ z : Str,z.length <= u.length -> Q (.str z) H) := by
  intro pins s σ H x v vl vu lo hi sl Q I rx hs pl pu h
  obtain ⟨u,rfl,hu,q⟩ := h
  obtain ⟨t,rfl⟩ := rx
  refine ⟨"str",_,F.slot_str_getitem.lookup,typeIs_str _ _ _,?_⟩
  have hz : u.length <= sizeLine := Nat.le_trans hu (by decide)
  cases pl with
  | none =>
    cases pu with
    | none => exact wpAny_getItem_str_slice (l := none) (u := none) (st := none) hs rfl (post_val_or_str ⟨Nat.le_trans (Txt.slice_le u _ _) hz,fun t' k => ⟨.str _,H,I.tok k,⟨_,rfl⟩,q _ (Txt.slice_le u _ _)⟩⟩)
    | int j tj => exact wpAny_getItem_str_slice (l := none) (u := some (j,tj)) (st := none) hs rfl (post_val_or_str ⟨Nat.le_trans (Txt.slice_le u _ _) hz,fun t' k => ⟨.str _,H,I.tok k,⟨_,rfl⟩,q _ (Txt.slice_le u _ _)⟩⟩)
  | int i ti =>
    cases pu with
    | none => exact wpAny_getItem_str_slice (l := some (i,ti)) (u := none) (st := none) hs rfl (post_val_or_str ⟨Nat.le_trans (Txt.slice_le u _ _) hz,fun t' k => ⟨.str _,H,I.tok k,⟨_,rfl⟩,q _ (Txt.slice_le u _ _)⟩⟩)
    | int j tj => exact wpAny_getItem_str_slice (l := some (i,ti)) (u := some (j,tj)) (st := none) hs rfl (post_val_or_str ⟨Nat.le_trans (Txt.slice_le u _ _) hz,fun t' k => ⟨.str _,H,I.tok k,⟨_,rfl⟩,q _ (Txt.slice_le u _ _)⟩⟩)
theorem op_mulS : OpR X (binaryOp .Mult) (fun x y H Q => ∃ (u : Str) (n : Int),x = .str u /\ y = .int n /\ 0 <= n /\ n <= 1000 /\ u.length = 1 /\ ∀ z : Str,(z.length : Int) <= n -> Q (.str z) H) := by
  intro pins s σ H x y v w Q I rx ry h
  obtain ⟨u,n,rfl,rfl,h0,h1,hu,q⟩ := h
  obtain ⟨t,rfl⟩ := rx
  obtain ⟨t2,rfl⟩ := ry
  have hlen : ∀ (k : Nat) (acc : Array Nat),((List.replicate k u.cps).foldl (· ++ ·) acc).size = acc.size + k := by
    intro k
    induction k with
    | zero => intro acc; rfl
    | succ k ih =>
      intro acc
      rw [List.replicate_succ,List.foldl_cons,ih,Array.size_append]
      have : u.cps.size = 1 := hu
      omega
  have hz : ∀ m : Nat,m <= 1000 -> m <= sizeLine := fun m hm => Nat.le_trans hm (by decide)
  refine PySem.P.mul_str ?_ (fun a b => ?_) (fun a b => ?_) ?_
  · rw [decide_eq_false (show ¬ n < -(2 ^ 63 : Int) by omega),decide_eq_false (show ¬ n >= 2 ^ 63 by omega)]; rfl
  · rw [hu]
    have : 1 <= (2 ^ 63 - 1) / n := Int.le_ediv_of_mul_le (by omega) (by omega)
    show ¬ ((1 : Nat) : Int) > _
    omega
  · rw [hu]
    rw [Nat.one_mul]
    unfold Builtin.Str.tooLong
    exact decide_eq_false (by
      have h9 : n.toNat <= 1000 := by omega
      have h8 : sizeLine = 16777216 := rfl
      omega)
  · split
    · exact ⟨by decide,.str _,H,I.tok _,⟨_,rfl⟩,q _ (by show ((0 : Nat) : Int) <= n; omega)⟩
    · split
      · rename_i h5 h6
        exact ⟨.str _,H,I,⟨_,rfl⟩,q _ (by rw [hu]; omega)⟩
      · have hl : (⟨(List.replicate n.toNat u.cps).foldl (· ++ ·) #[]⟩ : Str).length <= 1000 := by
          show ((List.replicate n.toNat u.cps).foldl (· ++ ·) #[]).size <= 1000
          rw [hlen]
          show 0 + _ <= _
          omega
        exact ⟨hz _ hl,.str _,H,I.tok _,⟨_,rfl⟩,q _ (by
          show (((List.replicate n.toNat u.cps).foldl (· ++ ·) #[]).size : Int) <= n
          rw [hlen]
          show ((0 + n.toNat : Nat) : Int) <= n
          omega)⟩
theorem kc_setL (hc : X.calm = true := by rfl) (h : X.K = K := by rfl) : CallR X (.type "set") (fun xs H Q => ∃ (a : Addr) (ns : List Int),xs = [.ref a] /\ SqL K H a (ns.map V.int) /\ ns.length <= 1000 /\
    ∀ (p : Addr) (S : Int -> Bool),H p = none -> Q (.ref p) (upd H p (.set S (seen ns).length))) := by
  subst h
  intro pins s σ H xs us Q I r h
  obtain ⟨a,ns,rfl,ha,hl,q⟩ := h
  obtain ⟨u,rfl,ru⟩ := vals1 r
  cases ru
  obtain ⟨its,r1,p1,_⟩ := I.list ha
  have l1 : its.toArray.size = ns.length := by rw [List.size_toArray,<- r1.length,ltm]
  refine call_set_list (items := its.toArray) (ns := ns) (I.ok.hd hc) p1.isList (intsAre_of r1) (by rw [l1]; unfold scanBound; omega) fun h' tk hS hk => ?_
  rw [l1,firstMet_seen ns ns.length (Nat.le_refl _),List.take_length] at hS
  refine ⟨.ref s.heap.objs.size,_,I.laid (t' := tk) (o := .set _ _) (fun b o e => hk b o (Heap.lt_size e) e) (Nat.le_refl _) hS,rfl,q _ _ (I.hok.fresh (Nat.le_refl _))⟩
end
def toldL (ws F : List Int) (g : Int) (i : Nat) : List (List Int) := (List.range i).flatMap fun (j : Nat) => jointC (rowC ws F (g - j) ws.length)
theorem toldL_succ (ws F : List Int) (g : Int) (i : Nat) : toldL ws F g (i + 1) = toldL ws F g i ++ jointC (rowC ws F (g - i) ws.length) := by
  unfold toldL
  rw [List.range_succ,List.flatMap_append,List.flatMap_singleton]
theorem told_lots {ws F : List Int} (hw : isWay ws = true) (hH : IsH (arW ws) (crW ws) (fresh 0 ws).toNat F) {g : Int} : ∀ (i : Nat),∃ ks : List Nat,toldL ws F g i = ks.map (fun k : Nat => lotL ws (k : Int) ws.length) /\ ks.Nodup /\ ∀ k,k ∈ ks ↔ k < (fresh 0 ws).toNat /\ hdL ws k < tlL ws k /\ g - i < F.getD k 0 /\ F.getD k 0 <= g
  | 0 => ⟨[],rfl,List.nodup_nil,fun k => ⟨fun z => by simp at z,fun z => by have := z.2.2; omega⟩⟩
  | i + 1 => by
    obtain ⟨ks,e,hnd,hk⟩ := told_lots hw hH (g := g) i
    obtain ⟨js,e2,hnd2,hk2⟩ := joint_row hw hH (h := g - i)
    refine ⟨ks ++ js,by rw [toldL_succ,e,e2,List.map_append],?_,fun k => ?_⟩
    · rw [List.nodup_append]
      refine ⟨hnd,hnd2,fun x hx y hy z => ?_⟩
      subst z
      have := ((hk x).mp hx).2.2.1
      have := ((hk2 x).mp hy).2.1
      omega
    · rw [List.mem_append,hk,hk2]
      constructor
      · rintro (⟨a,b,c,d⟩ | ⟨a,b,c⟩)
        · exact ⟨a,b,by omega,d⟩
        · exact ⟨a,c,by omega,by omega⟩
      · rintro ⟨a,b,c,d⟩
        by_cases z : F.getD k 0 = g - i
        · exact .inr ⟨a,z,b⟩
        · exact .inl ⟨a,b,by omega,d⟩
theorem mem_lotL {ws : List Int} {k : Int} {i : Nat} {x : Int} : x ∈ lotL ws k i ↔ ∃ j : Nat,x = (j : Int) /\ j < i /\ ws.getD j 0 = k := by
  unfold lotL
  rw [List.mem_map]
  constructor
  · rintro ⟨j,hj,rfl⟩
    exact ⟨j,rfl,mem_lotN.mp hj⟩
  · rintro ⟨j,rfl,hj⟩
    exact ⟨j,mem_lotN.mpr hj,rfl⟩
theorem lotL_nodup {ws : List Int} {k : Int} {i : Nat} : (lotL ws k i).Nodup := by
  unfold lotL
  refine List.Pairwise.map (R := (· ≠ ·)) (S := (· ≠ ·)) _ (fun a b h z => h (by omega)) ?_
  unfold lotN
  exact List.nodup_range.filter _
theorem lots_nodup {ws : List Int} {n : Nat} : ∀ (ks : List Nat),ks.Nodup -> (ks.map fun k : Nat => lotL ws (k : Int) n).flatten.Nodup
  | [],_ => List.nodup_nil
  | k :: ks,h => by
    rw [List.map_cons,List.flatten_cons,List.nodup_append]
    have hc := List.nodup_cons.mp h
    refine ⟨lotL_nodup,lots_nodup ks hc.2,fun x hx y hy z => ?_⟩
    subst z
    obtain ⟨l,hl,hxl⟩ := List.mem_flatten.mp hy
    obtain ⟨m,hm,rfl⟩ := List.mem_map.mp hl
    obtain ⟨j,e,_,q⟩ := mem_lotL.mp hx
    obtain ⟨j2,e2,_,q2⟩ := mem_lotL.mp hxl
    have : j = j2 := by omega
    subst this
    rw [q] at q2
    exact hc.1 (by rw [show k = m by omega]; exact hm)
theorem seen_self (ns : List Int) : ns.Nodup -> seen ns = ns := by
  refine snoc_ind (P := fun ns => ns.Nodup -> seen ns = ns) (fun _ => rfl) (fun ns z ih h => ?_) ns
  rw [List.nodup_append] at h
  rw [seen_snoc,ih h.1]
  unfold seenP
  rw [if_neg (fun m => h.2.2 z m z (by simp) rfl)]
def prsOf (l : List Int) : List (Nat × Nat) := (l.drop 1).map fun x => ((l.headD 0).toNat,x.toNat)
theorem link_ways {ws : List Int} (hw : isWay ws = true) {ks : List Nat} (hk : ∀ k,k ∈ ks ↔ k < (fresh 0 ws).toNat /\ hdL ws k < tlL ws k) :
    (∀ q ∈ (ks.map fun k : Nat => lotL ws (k : Int) ws.length).flatMap prsOf,q.1 < ws.length /\ q.2 < ws.length) /\ numRow (mgs (rg ws.length) ((ks.map fun k : Nat => lotL ws (k : Int) ws.length).flatMap prsOf)) = ws := by
  obtain ⟨w1,w9,w0⟩ := isWay_iff.mp hw
  have hq : ∀ q ∈ (ks.map fun k : Nat => lotL ws (k : Int) ws.length).flatMap prsOf,q.1 < ws.length /\ q.2 < ws.length /\ ws.getD q.1 0 = ws.getD q.2 0 := by
    intro q h
    obtain ⟨l,hl,hq⟩ := List.mem_flatMap.mp h
    obtain ⟨k,hkk,rfl⟩ := List.mem_map.mp hl
    unfold prsOf at hq
    obtain ⟨x,hx,rfl⟩ := List.mem_map.mp hq
    have hkn := ((hk k).mp hkk).1
    obtain ⟨j,rfl,hj,ej⟩ := mem_lotL.mp (List.mem_of_mem_drop hx)
    obtain ⟨d0,d1,d2⟩ := hdL_ok hw hkn
    have eh : (lotL ws (k : Int) ws.length).headD 0 = hdL ws k := by
      unfold lotL hdL
      have hne := lotN_ne hw hkn
      cases e : lotN ws (k : Int) ws.length with
      | nil => exact absurd e hne
      | cons a t => rfl
    simp only [eh]
    exact ⟨by omega,by omega,by rw [d2,Int.toNat_natCast,ej]⟩
  have hl : (mgs (rg ws.length) ((ks.map fun k : Nat => lotL ws (k : Int) ws.length).flatMap prsOf)).length = ws.length := by rw [mgs_length,rg_length]
  have hr : ∀ q ∈ (ks.map fun k : Nat => lotL ws (k : Int) ws.length).flatMap prsOf,q.1 < (rg ws.length).length /\ q.2 < (rg ws.length).length := fun q h => by
    rw [rg_length]; exact ⟨(hq q h).1,(hq q h).2.1⟩
  refine ⟨fun q h => ⟨(hq q h).1,(hq q h).2.1⟩,?_⟩
  have tohd : ∀ i k,i < ws.length -> ws.getD i 0 = ((k : Nat) : Int) -> k ∈ ks -> (mgs (rg ws.length) ((ks.map fun k : Nat => lotL ws (k : Int) ws.length).flatMap prsOf)).getD (hdL ws k).toNat 0 = (mgs (rg ws.length) ((ks.map fun k : Nat => lotL ws (k : Int) ws.length).flatMap prsOf)).getD i 0 := fun i k hi ei hkk => by
    have hkn := ((hk k).mp hkk).1
    have hmem : (i : Int) ∈ lotL ws (k : Int) ws.length := mem_lotL.mpr ⟨i,rfl,hi,ei⟩
    cases e : lotN ws (k : Int) ws.length with
    | nil => exact absurd e (lotN_ne hw hkn)
    | cons a t =>
      have eh : hdL ws k = (a : Int) := by unfold hdL; rw [e]; rfl
      have el : lotL ws (k : Int) ws.length = (a : Int) :: t.map fun (j : Nat) => (j : Int) := by unfold lotL; rw [e]; rfl
      rw [eh,Int.toNat_natCast]
      rw [el] at hmem
      rcases List.mem_cons.mp hmem with z | z
      · rw [show i = a by omega]
      · have hp : (a,i) ∈ (ks.map fun k : Nat => lotL ws (k : Int) ws.length).flatMap prsOf := by
          refine List.mem_flatMap.mpr ⟨_,List.mem_map.mpr ⟨k,hkk,rfl⟩,?_⟩
          unfold prsOf
          rw [el]
          exact List.mem_map.mpr ⟨(i : Int),z,rfl⟩
        exact mgs_pairs _ hr _ hp
  refine within_anti (n := ws.length) (numRow_isWay (by rw [hl]; exact w1) (by rw [hl]; exact w9)) hw (by rw [numRow_length,hl]) rfl (fun i j hi hj h => ?_) (fun i j hi hj h => ?_)
  · rw [numRow_pat (by rw [hl]; exact hi) (by rw [hl]; exact hj)] at h
    exact mgs_least _ (g := fun i => ws.getD i 0) hr (fun a b ha hb z => by
      rw [rg_length] at ha hb
      rw [rg_getD ha,rg_getD hb] at z
      rw [show a = b by omega]) (fun q h => (hq q h).2.2) i j (by rw [rg_length]; exact hi) (by rw [rg_length]; exact hj) h
  · rw [numRow_pat (by rw [hl]; exact hi) (by rw [hl]; exact hj)]
    by_cases e : i = j
    · rw [e]
    · have s := way_small hw hi
      obtain ⟨k,hki⟩ : ∃ k : Nat,ws.getD i 0 = (k : Int) := ⟨(ws.getD i 0).toNat,by omega⟩
      have hkj : ws.getD j 0 = (k : Int) := by rw [<- h]; exact hki
      have a1 := hd_min (ws := ws) (k := (k : Int)) hi hki
      have a2 := hd_min (ws := ws) (k := (k : Int)) hj hkj
      have b1 := tl_max hi hki
      have b2 := tl_max hj hkj
      have hkk : k ∈ ks := (hk k).mpr ⟨by omega,by
        have : hdL ws k = (((lotN ws (k : Int) ws.length).headD 0 : Nat) : Int) := rfl
        omega⟩
      rw [<- tohd i k hi hki hkk,<- tohd j k hj hkj hkk]
end L2
namespace L2
open PySem PySem.Spec PyProof.Rows
theorem join_len1 {sep : Str} (hs : sep.length = 1) : ∀ (rows : List Str),rows ≠ [] -> (Str.join sep rows).length + 1 = (rows.map (·.length)).sum + rows.length
  | [],h => absurd rfl h
  | [r],_ => by simp [Str.join]
  | r :: s :: t,_ => by
    have ih := join_len1 hs (s :: t) (List.cons_ne_nil _ _)
    show (r ++ sep ++ Str.join sep (s :: t)).length + 1 = _
    rw [str_app_len,str_app_len,hs]
    simp only [List.map_cons,List.sum_cons,List.length_cons] at ih ⊢
    omega
theorem mem_sum_le : ∀ (l : List Nat) (x : Nat),x ∈ l -> x <= l.sum
  | [],x,h => by simp at h
  | y :: l,x,h => by
    rw [List.sum_cons]
    rcases List.mem_cons.mp h with e | h
    · omega
    · have := mem_sum_le l x h; omega
theorem split_small (t : Str) : Txt.split t "\n" ≠ [] /\ (Txt.split t "\n").length <= t.length + 1 /\ (∀ z ∈ Txt.split t "\n",z.length <= t.length) /\ ((Txt.split t "\n").map (·.length)).sum <= t.length := by
  have hp : 1 <= (Txt.split t "\n").length := split_pos t "\n"
  have hne : Txt.split t "\n" ≠ [] := fun e => by rw [e] at hp; simp at hp
  have hj := join_len1 (sep := "\n") (by decide) _ hne
  rw [StrLaws.join_split] at hj
  refine ⟨hne,by omega,fun z hz => ?_,by omega⟩
  have := mem_sum_le ((Txt.split t "\n").map (·.length)) z.length (List.mem_map.mpr ⟨z,hz,rfl⟩)
  omega
theorem atI_lastS {R : List Str} (h : R ≠ []) : atI (R.map V.str) (-1) = some (V.str (R.getLast h)) := by
  conv => lhs; rw [<- List.dropLast_concat_getLast h,List.map_append]
  exact atI_last _ _
theorem atI_strs {R : List Str} {i : Nat} (h : i < R.length) : atI (R.map V.str) (i : Int) = some (V.str (R.getD i "")) := atI_nat (by rw [List.getElem?_map,List.getElem?_eq_getElem h,List.getD_eq_getElem?_getD,List.getElem?_eq_getElem h]; rfl)
theorem getStr {R : List Str} {j : Nat} {y : V} (h : (R.map V.str)[j]? = some y) : ∃ z,y = V.str z /\ R[j]? = some z /\ j < R.length := by
  rw [List.getElem?_map] at h
  cases e : R[j]? with
  | none => rw [e] at h; cases h
  | some z => rw [e] at h; cases h; exact ⟨z,rfl,rfl,(List.getElem?_eq_some_iff.mp e).1⟩
theorem notin_two (x : Nat) : (!!(Builtin.Str.occurrences (Str.ofString "-#") ⟨#[x]⟩ 0 (Str.ofString "-#").length 1).isEmpty) = !decide (x = 45 \/ x = 35) := by
  have h := StrLaws.found_one (Str.ofString "-#") x
  rw [h]
  congr 1
  have e : (Str.ofString "-#").cps.toList = [45,35] := by decide
  rw [e]
  exact decide_eq_decide.mpr (by simp)
theorem runJ_small (L : List Nat) : (runJ L).1 = L.length /\ ((runJ L).2.1.flatten.length + (runJ L).2.2.length <= L.length) /\ (∀ l ∈ (runJ L).2.1,∀ x ∈ l,0 <= x) /\ (∀ x ∈ (runJ L).2.2,0 <= x) /\ (runJ L).2.1.length <= L.length := by
  refine snoc_ind (P := fun L => (runJ L).1 = L.length /\ ((runJ L).2.1.flatten.length + (runJ L).2.2.length <= L.length) /\ (∀ l ∈ (runJ L).2.1,∀ x ∈ l,0 <= x) /\ (∀ x ∈ (runJ L).2.2,0 <= x) /\ (runJ L).2.1.length <= L.length) ⟨rfl,Nat.le_refl _,fun l h => by simp [runJ] at h,fun x h => by simp [runJ] at h,Nat.le_refl _⟩ (fun L x ih => ?_) L
  rw [runJ_snoc,List.length_append]
  generalize runJ L = s at ih ⊢
  obtain ⟨p,f,g⟩ := s
  obtain ⟨h1,h2,h3,h4,h5⟩ := ih
  dsimp only at h1 h2 h3 h4 h5
  unfold stJ
  show _ = L.length + 1 /\ _ + _ <= L.length + 1 /\ _ /\ _ /\ _ <= L.length + 1
  split
  · refine ⟨by simp only; omega,?_,h3,fun y hy => ?_,by simp only; omega⟩
    · simp only [List.length_append,List.length_cons,List.length_nil]; omega
    · rcases List.mem_append.mp hy with hy | hy
      · exact h4 y hy
      · rw [List.mem_singleton.mp hy]; omega
  · split
    · exact ⟨by simp only; omega,by simp only; omega,h3,h4,by simp only; omega⟩
    · refine ⟨by simp only; omega,?_,fun l hl => ?_,fun y hy => by simp at hy,?_⟩
      · simp only [List.flatten_append,List.length_append,List.flatten_cons,List.flatten_nil,List.length_nil,List.append_nil]; omega
      · rcases List.mem_append.mp hl with hl | hl
        · exact h3 l hl
        · rw [List.mem_singleton.mp hl]; exact h4
      · simp only [List.length_append,List.length_cons,List.length_nil]; omega
theorem filter_flat_le (p : List Int -> Bool) : ∀ (L : List (List Int)),(L.filter p).flatten.length <= L.flatten.length
  | [] => Nat.le_refl _
  | l :: L => by
    have := filter_flat_le p L
    rw [List.filter_cons]
    split
    · rw [List.flatten_cons,List.flatten_cons,List.length_append,List.length_append]; omega
    · rw [List.flatten_cons,List.length_append]; omega
theorem joint_small (L : List Nat) : (jointC L).flatten.length <= L.length /\ (jointC L).length <= L.length + 1 /\ ∀ l ∈ jointC L,l ≠ [] /\ ∀ x ∈ l,0 <= x := by
  obtain ⟨h1,h2,h3,h4,h5⟩ := runJ_small L
  unfold jointC neL
  refine ⟨?_,?_,fun l hl => ?_⟩
  · refine Nat.le_trans (filter_flat_le _ _) ?_
    rw [List.flatten_append,List.length_append]
    simp only [List.flatten_cons,List.flatten_nil,List.append_nil]
    exact h2
  · refine Nat.le_trans (List.length_filter_le _ _) ?_
    rw [List.length_append]
    simp only [List.length_cons,List.length_nil]; omega
  · obtain ⟨hm,hp⟩ := List.mem_filter.mp hl
    refine ⟨fun e => by rw [e] at hp; simp at hp,?_⟩
    rcases List.mem_append.mp hm with hm | hm
    · exact h3 l hm
    · rw [List.mem_singleton.mp hm]; exact h4
theorem if_dec {c : TT} {t u : TS} {D : Ends} {σ : St} {H : Hp} (b : Bool) (hc : ∀ N : Bool -> Hp -> Prop,N b H -> c σ H N) (ht : b = true -> t D σ H) (hu : b = false -> u D σ H) : tIfS c t u D σ H := by
  refine hc _ ?_
  cases b
  · exact iteF (hu rfl)
  · exact iteT (ht rfl)
theorem lh_upd {H : Hp} {g : Addr} {o : HO} {qs : List Addr} {xss : List (List Int)} (h : LhAt H qs xss) (hg : g ∉ qs) : LhAt (upd H g o) qs xss := by
  induction h with
  | nil => exact .nil
  | cons r t ih =>
    refine .cons ?_ (ih fun z => hg (List.mem_cons_of_mem _ z))
    rw [upd_ne (fun z => hg (by rw [<- z]; exact List.mem_cons_self))]; exact r
theorem neL_take {L : List (List Int)} {j : Nat} {l : List Int} (h : L[j]? = some l) : neL (L.take (j + 1)) = if 0 < l.length then neL (L.take j) ++ [l] else neL (L.take j) := by
  rw [take_snoc h,neL_app]
  split
  · rename_i g
    rw [neL_one (List.length_pos_iff.mp g)]
  · rename_i g
    have : l = [] := List.eq_nil_iff_length_eq_zero.mpr (by omega)
    rw [this,neL_nil,List.append_nil]
theorem seq_a {te : TE} {i : Nat} {B : TS} {D : Ends} {σ : St} {H : Hp} (h : te σ H fun x H1 => B D (σ.set i (some x)) H1) : tSeq (tAsg te (gName i)) B D σ H := h
theorem seq_by2 {A B : TS} {D : Ends} {σ : St} {H : Hp} (P : St -> Hp -> Prop) (hA : ∀ N : St -> Hp -> Prop,(∀ σ H,P σ H -> N σ H) -> A { D with nx := N } σ H) (hB : ∀ σ H,P σ H -> B D σ H) : tSeq A B D σ H := hA _ hB
theorem strs_of : ∀ (l : List V),(∀ v ∈ l,∃ z : Str,v = .str z /\ z.length <= 20) -> ∃ S : List Str,l = S.map V.str /\ S.length = l.length /\ ∀ z ∈ S,z.length <= 20
  | [],_ => ⟨[],rfl,rfl,fun z h => by simp at h⟩
  | v :: l,h => by
    obtain ⟨z,rfl,hz⟩ := h v List.mem_cons_self
    obtain ⟨S,rfl,e,hS⟩ := strs_of l fun v hv => h v (List.mem_cons_of_mem _ hv)
    refine ⟨z :: S,rfl,by simp,fun y hy => ?_⟩
    rcases List.mem_cons.mp hy with q | hy
    · rw [q]; exact hz
    · exact hS y hy
theorem of_strs {S : List Str} (h : ∀ z ∈ S,z.length <= 20) : ∀ v ∈ S.map V.str,∃ z : Str,v = .str z /\ z.length <= 20 := fun v hv => by
  obtain ⟨z,hz,rfl⟩ := List.mem_map.mp hv
  exact ⟨z,rfl,h z hz⟩
theorem joinN_len {S : List Str} (h : ∀ z ∈ S,z.length <= 20) (hl : S.length <= 11) : JoinOk "\n" S = true /\ (Txt.join "\n" S).length <= 900 := by
  have h4 : (Str.ofString "\n").length = 1 := by decide
  refine ⟨joinOk_small (B := 20) h (by rw [h4]; omega),?_⟩
  have e : Txt.join "\n" S = Str.join "\n" S := StrLaws.glued_eq_join _ _
  rw [e]
  have h1 := StrLaws.join_length_le "\n" S
  have h2 := PySem.StrLaws.sumLen_le (B := 20) S h
  rw [h4] at h1
  omega
theorem mark_len2 {ws F : List Int} (hw : isWay ws = true) (hg : (maxL F).toNat <= 9) : 1 <= (markT ws F).length /\ (markT ws F).length <= 180 := by
  obtain ⟨w1,w9,w0⟩ := isWay_iff.mp hw
  have e : markT ws F = Str.join "\n" (rowsM ws F) := StrLaws.glued_eq_join _ _
  rw [e]
  have hm := rowsM_mem (F := F) hw
  have hf : footT ws.length ∈ rowsM ws F := by unfold rowsM; simp
  have h1 := join_len1 (sep := "\n") (by decide) (rowsM ws F) (List.ne_nil_of_mem hf)
  have h2 := PySem.StrLaws.sumLen_le (B := 17) (rowsM ws F) (fun y hy => by have := (hm y hy).1; omega)
  have h3 := rowsM_len ws F
  have h4 := mem_sum_le ((rowsM ws F).map (·.length)) (footT ws.length).length (List.mem_map.mpr ⟨_,hf,rfl⟩)
  have h5 := (hm _ hf).1
  omega
theorem bars_ok {n : Nat} (h : n <= 12) : JoinOk " " (List.replicate n ("|" : Str)) = true /\ (Txt.join " " (List.replicate n ("|" : Str))).length <= 24 := by
  have h4 : (Str.ofString " ").length = 1 := by decide
  have hb : ∀ y ∈ List.replicate n ("|" : Str),y.length <= 1 := fun y hy => by rw [(List.mem_replicate.mp hy).2]; decide
  refine ⟨joinOk_small (B := 1) hb (by rw [List.length_replicate,h4]; omega),?_⟩
  have e : Txt.join " " (List.replicate n ("|" : Str)) = Str.join " " (List.replicate n ("|" : Str)) := StrLaws.glued_eq_join _ _
  rw [e]
  have h1 := StrLaws.join_length_le " " (List.replicate n ("|" : Str))
  have h2 := PySem.StrLaws.sumLen_le (B := 1) (List.replicate n ("|" : Str)) hb
  rw [h4] at h1
  rw [List.length_replicate] at h1 h2
  omega
theorem told_small : ∀ (L : List Str),(L.flatMap fun z => jointC z.cps.toList).flatten.length <= (L.map (·.length)).sum /\ ∀ l ∈ L.flatMap fun z => jointC z.cps.toList,l ≠ [] /\ ∀ x ∈ l,0 <= x
  | [] => ⟨Nat.le_refl _,fun l h => by simp at h⟩
  | z :: L => by
    obtain ⟨h1,h2⟩ := told_small L
    obtain ⟨j1,j2,j3⟩ := joint_small z.cps.toList
    have e : z.cps.toList.length = z.length := by simp [Str.length]
    rw [List.flatMap_cons,List.map_cons,List.sum_cons]
    refine ⟨?_,fun l hl => ?_⟩
    · rw [List.flatten_append,List.length_append]; omega
    · rcases List.mem_append.mp hl with hl | hl
      · exact j3 l hl
      · exact h2 l hl
theorem len_le_flat : ∀ (M : List (List Int)),(∀ l ∈ M,l ≠ []) -> M.length <= M.flatten.length
  | [],_ => Nat.le_refl _
  | l :: M,h => by
    have h1 := len_le_flat M fun l hl => h l (List.mem_cons_of_mem _ hl)
    have h2 := List.length_pos_iff.mpr (h l List.mem_cons_self)
    rw [List.length_cons,List.flatten_cons,List.length_append]; omega
theorem dropLast_sum : ∀ (L : List Str),(L.dropLast.map (·.length)).sum <= (L.map (·.length)).sum
  | [] => Nat.le_refl _
  | [a] => by simp
  | a :: b :: t => by
    have := dropLast_sum (b :: t)
    rw [List.dropLast_cons_of_ne_nil (List.cons_ne_nil _ _),List.map_cons,List.map_cons (l := b :: t),List.sum_cons,List.sum_cons]
    omega
theorem mark_told (ws F : List Int) : ((rowsM ws F).dropLast.flatMap fun z => jointC z.cps.toList) = toldL ws F (maxL F) (maxL F).toNat := by
  unfold rowsM toldL
  rw [List.dropLast_concat]
  unfold rowsT
  rw [List.flatMap_map]
  congr 1
  funext j
  rw [rowT_cps]
theorem flatten_take {M : List (List Int)} {j : Nat} {l : List Int} (h : M[j]? = some l) : (M.take (j + 1)).flatten = (M.take j).flatten ++ l := by
  rw [take_snoc h,List.flatten_append]; simp
theorem flatMap_take {M : List (List Int)} {j : Nat} {l : List Int} (h : M[j]? = some l) : (M.take (j + 1)).flatMap prsOf = (M.take j).flatMap prsOf ++ prsOf l := by
  rw [take_snoc h,List.flatMap_append,List.flatMap_singleton]
theorem prs_len (l : List Int) : (prsOf l).length <= l.length := by unfold prsOf; simp
theorem prs_flat : ∀ (M : List (List Int)),(M.flatMap prsOf).length <= M.flatten.length
  | [] => Nat.le_refl _
  | l :: M => by
    have := prs_flat M
    have := prs_len l
    rw [List.flatMap_cons,List.flatten_cons,List.length_append,List.length_append]; omega
theorem flat_take_le (M : List (List Int)) (j : Nat) : (M.take j).flatten.length <= M.flatten.length := by
  have e : M.flatten = (M.take j).flatten ++ (M.drop j).flatten := by rw [<- List.flatten_append,List.take_append_drop]
  rw [e,List.length_append]; omega
end L2
set_option maxHeartbeats 4000000
local macro_rules | `(tactic| trivial) => `(tactic| exact ⟨rfl,rfl,rfl,by decide +kernel,rfl,by decide +kernel,by decide +kernel⟩)
namespace Lw
open PySem L2
def top (i : Nat) : Stmt := PySem.Challenge.pw_censers_k17_whole_texts_spoilt.main.body.getD i (.Pass ⟨0,0,0,0⟩)
abbrev s_law_draw : Stmt := top 24
abbrev s_law_cell : Stmt := top 25
abbrev s_law_many : Stmt := top 26
abbrev sis_way : Stmt := top 6
abbrev scheck_way : Stmt := top 7
abbrev swoods : Stmt := top 8
abbrev slots : Stmt := top 9
abbrev sway_of : Stmt := top 10
abbrev sstretches : Stmt := top 12
abbrev slying : Stmt := top 13
abbrev ssuits : Stmt := top 14
abbrev scompleted : Stmt := top 15
abbrev sheights : Stmt := top 16
abbrev sis_covered : Stmt := top 17
abbrev scenser_sign : Stmt := top 18
abbrev srow_of : Stmt := top 19
abbrev smark : Stmt := top 20
abbrev slot_place : Stmt := top 21
abbrev sread_mark : Stmt := top 22
abbrev s_law_num : Stmt := top 27
abbrev s_law_row_ok : Stmt := top 28
abbrev s_law_way_ok : Stmt := top 29
abbrev s_law_way : Stmt := top 30
abbrev s_law_size : Stmt := top 31
abbrev s_law_number_row : Stmt := top 32
abbrev s_law_lots : Stmt := top 33
abbrev s_law_split : Stmt := top 34
abbrev s_law_refused : Stmt := top 35
abbrev s_law_linked : Stmt := top 36
abbrev s_law_stretches : Stmt := top 37
abbrev s_law_lie : Stmt := top 38
abbrev s_law_stands : Stmt := top 39
abbrev s_law_height_rows : Stmt := top 40
abbrev s_law_heights : Stmt := top 41
abbrev s_law_over : Stmt := top 42
abbrev s_law_sign : Stmt := top 43
abbrev s_law_mark_row : Stmt := top 44
abbrev s_law_mark : Stmt := top 45
abbrev s_law_joint_lots : Stmt := top 46
abbrev s_law_read_mark : Stmt := top 47
abbrev s_law_any_sign : Stmt := top 48
abbrev s_law_rows_bent : Stmt := top 49
abbrev s_law_bent : Stmt := top 50
abbrev s_law_tried : Stmt := top 51
abbrev slaw : Stmt := top 52
structure Bs (mg : Str -> Option Value) : Prop where
  all : mg "all" = none
  any : mg "any" = none
  bool : mg "bool" = none
  enumerate : mg "enumerate" = none
  int : mg "int" = none
  isinstance : mg "isinstance" = none
  len : mg "len" = none
  list : mg "list" = none
  max : mg "max" = none
  min : mg "min" = none
  range : mg "range" = none
  set : mg "set" = none
  sum : mg "sum" = none
  tuple : mg "tuple" = none
  zip : mg "zip" = none
structure Gs (mg : Str -> Option Value) : Prop where
  yes : True
  MOST_CENSERS : ∃ t,mg "MOST_CENSERS" = some (.int 9 t)
def spRowOk (K : PySem.W.Frag) : Sp := fun vs H Q _ => ∃ (a : Addr) (ns : List Int),vs = [.ref a] /\ SqT K H a (ns.map V.int) /\ ns.length <= 1000 /\ ∀ H',Same H H' -> Q (.bl (rowOk ns)) H'
def spLaw (K : PySem.W.Frag) : Sp := fun vs H Q _ => ∃ (a : Addr) (ns : List Int),vs = [.ref a] /\ SqL K H a (ns.map V.int) /\ ns.length <= 63 /\ ∀ H',Q (.bl true) H'
def spNum : Sp := fun vs H Q _ => ∃ z : Int,vs = [.int z] /\ Q (.bl true) H
def spRefused (K : PySem.W.Frag) : Sp := fun vs H Q _ => ∃ a : Addr,vs = [.ref a] /\ H a = some (.lst [.str "refused"]) /\ Q (.bl true) H
def spIsWay (K : PySem.W.Frag) : Sp := fun vs H Q _ => ∃ (a : Addr) (ns : List Int),vs = [.ref a] /\ SqT K H a (ns.map V.int) /\ Q (.bl (isWay ns)) H
def spCheckWay (K : PySem.W.Frag) : Sp := fun vs H Q _ => ∃ (a : Addr) (ns : List Int),vs = [.ref a] /\ SqT K H a (ns.map V.int) /\ isWay ns = true /\ Q .non H
def spSize : Sp := fun vs H Q _ => ∃ (c t : Int),vs = [.int c,.int t] /\ 1 <= t /\ t <= 1000 /\ ∀ (z : Int) (H' : Hp),Same H H' -> 1 <= z -> z <= t -> Q (.int z) H'
def spWoods (K : PySem.W.Frag) : Sp := fun vs H Q _ => ∃ (a : Addr) (ns : List Int),vs = [.ref a] /\ SqT K H a (ns.map V.int) /\ isWay ns = true /\ Q (.int (fresh 0 ns)) H
def spLots (K : PySem.W.Frag) : Sp := fun vs H Q _ => ∃ (a : Addr) (ws : List Int),vs = [.ref a] /\ SqT K H a (ws.map V.int) /\ isWay ws = true /\ ∀ (p : Addr) (qs : List Addr) (H' : Hp),H p = none -> Same H H' -> H' p = some (.lst (qs.map V.ref)) -> qs.length = (fresh 0 ws).toNat -> (∀ (k : Nat) q,qs[k]? = some q -> H q = none /\ H' q = some (.lst ((lotL ws (k : Int) ws.length).map V.int))) -> qs.Nodup -> p ∉ qs -> Q (.ref p) H'
def spStretch (K : PySem.W.Frag) : Sp := fun vs H Q _ => ∃ (a : Addr) (ws : List Int),vs = [.ref a] /\ SqT K H a (ws.map V.int) /\ isWay ws = true /\ ∀ (p : Addr) (ps : List Addr) (H' : Hp),Same H H' -> H' p = some (.lst (ps.map V.ref)) -> ps.length = (fresh 0 ws).toNat -> (∀ (k : Nat) q,ps[k]? = some q -> H' q = some (.tup [.int (hdL ws k),.int (tlL ws k)])) -> Q (.ref p) H'
def spLLots (K : PySem.W.Frag) : Sp := fun vs H Q _ => ∃ (a : Addr) (ws : List Int),vs = [.ref a] /\ SqT K H a (ws.map V.int) /\ isWay ws = true /\ ∀ (p : Addr) (qs : List Addr) (H' : Hp),Same H H' -> H' p = some (.lst (qs.map V.ref)) -> qs.length = (fresh 0 ws).toNat -> (∀ (k : Nat) q,qs[k]? = some q -> H' q = some (.lst ((lotL ws (k : Int) ws.length).map V.int))) -> Q (.ref p) H'
def spLying (K : PySem.W.Frag) : Sp := fun vs H Q _ => ∃ (a b : Addr) (a0 a1 b0 b1 : Int),vs = [.ref a,.ref b] /\ H a = some (.tup [.int a0,.int a1]) /\ H b = some (.tup [.int b0,.int b1]) /\ Q (.str (lieS a0 a1 b0 b1)) H
def spLLie (K : PySem.W.Frag) : Sp := fun vs H Q _ => ∃ (a b : Addr) (a0 a1 b0 b1 : Int),vs = [.ref a,.ref b] /\ H a = some (.tup [.int a0,.int a1]) /\ H b = some (.tup [.int b0,.int b1]) /\ Q (.str (lieL a0 a1 b0 b1)) H
def spSuits (K : PySem.W.Frag) : Sp := fun vs H Q _ => ∃ (p c : Addr) (ps : List Addr) (ws C : List Int) (h : Int),vs = [.ref p,.ref c,.int h] /\ SpanAt H p ps ws /\ H c = some (.lst (C.map V.int)) /\ isWay ws = true /\ C.length < (fresh 0 ws).toNat /\ ∀ H',Same H H' -> Q (.bl (suitsB (arW ws) (crW ws) C h)) H'
def spCompl (K : PySem.W.Frag) (d : Nat) : Sp := fun vs H Q _ => 0 < d /\ ∃ (p c : Addr) (ps : List Addr) (ws C : List Int) (g : Nat),vs = [.ref p,.ref c,.int (g : Int)] /\ SpanAt H p ps ws /\ H c = some (.lst (C.map V.int)) /\ isWay ws = true /\ C.length <= (fresh 0 ws).toNat /\ (fresh 0 ws).toNat < C.length + d /\ g <= 20 /\
  (comp (arW ws) (crW ws) (fresh 0 ws).toNat g d C = none -> ∀ H',Same H H' -> Q .non H') /\ (∀ F,comp (arW ws) (crW ws) (fresh 0 ws).toNat g d C = some F -> ∀ (r : Addr) (H' : Hp),r = c \/ H r = none -> Same H H' -> H' r = some (.lst (F.map V.int)) -> Q (.ref r) H')
def spHeights (K : PySem.W.Frag) : Sp := fun vs H Q _ => ∃ (a : Addr) (ws : List Int),vs = [.ref a] /\ SqT K H a (ws.map V.int) /\ isWay ws = true /\ ∀ (r : Addr) (F : List Int) (H' : Hp),H r = none -> Same H H' -> H' r = some (.lst (F.map V.int)) -> IsH (arW ws) (crW ws) (fresh 0 ws).toNat F -> Q (.ref r) H'
def spStandsG (K : PySem.W.Frag) : Sp := fun vs H Q _ => ∃ (p c : Addr) (ps : List Addr) (ws R : List Int) (m : Nat),vs = [.ref p,.ref c] /\ SpanAt H p ps ws /\ H c = some (.lst (R.map V.int)) /\ isWay ws = true /\ R.length = m + 1 /\ m < (fresh 0 ws).toNat /\ Q (.bl (suitsB (arW ws) (crW ws) (R.take m) (R.getD m 0))) H
def spHRows (K : PySem.W.Frag) : Sp := fun vs H Q _ => ∃ (p : Addr) (ps : List Addr) (ws : List Int) (g : Nat),vs = [.ref p,.int (g : Int)] /\ SpanAt H p ps ws /\ isWay ws = true /\ g <= 5 /\ ∀ (r : Addr) (qs : List Addr) (H' : Hp),Same H H' -> H' r = some (.lst (qs.map V.ref)) -> LhAt H' qs (extH (arW ws) (crW ws) g (fresh 0 ws).toNat [[]]) -> Q (.ref r) H'
def spNumRow (K : PySem.W.Frag) : Sp := fun vs H Q _ => ∃ (a : Addr) (ns : List Int),vs = [.ref a] /\ SqL K H a (ns.map V.int) /\ ns.length <= 900 /\ ∀ (p : Addr) (H' : Hp),H p = none -> Same H H' -> H' p = some (.tup ((numRow ns).map V.int)) -> Q (.ref p) H'
def spLinked (K : PySem.W.Frag) : Sp := fun vs H Q _ => ∃ (n : Int) (b : Addr) (ps : List Addr) (qs : List (Nat × Nat)),vs = [.int n,.ref b] /\ 0 <= n /\ n <= 9 /\ SqL K H b (ps.map V.ref) /\ Paired (fun a (q : Nat × Nat) => SqT K H a [.int ((q.1 : Nat) : Int),.int ((q.2 : Nat) : Int)]) ps qs /\ (∀ q ∈ qs,q.1 < n.toNat /\ q.2 < n.toNat) /\ ∀ (p : Addr) (H' : Hp),Same H H' -> H' p = some (.tup ((numRow (mgs (rg n.toNat) qs)).map V.int)) -> Q (.ref p) H'
abbrev PrAt (H : Hp) (ps : List Addr) (L : List (Int × Int)) : Prop := Paired (fun a (x : Int × Int) => H a = some (.tup [.int x.1,.int x.2])) ps L
def spWayF (K : PySem.W.Frag) : Sp := fun vs H Q _ => ∃ (c n : Int),vs = [.int c,.int n] /\ 1 <= n /\ n <= 9 /\ ∀ (p : Addr) (ws : List Int) (H' : Hp),H p = none -> Same H H' -> PlT H' p (ws.map V.int) -> ws.length = n.toNat -> isWay ws = true -> Q (.ref p) H'
def spCovered (K : PySem.W.Frag) : Sp := fun vs H Q _ => ∃ (p : Addr) (ps : List Addr) (L : List (Int × Int)) (a b : Int),vs = [.ref p,.int a,.int b] /\ H p = some (.lst (ps.map V.ref)) /\ PrAt H ps L /\ L.length <= 9 /\ ∀ H',Same H H' -> Q (.bl (L.any fun x => decide (x.1 <= a) && decide (b <= x.2))) H'
def spSign (K : PySem.W.Frag) : Sp := fun vs H Q _ => ∃ (o h : Int) (x y : Bool),vs = [.int o,.int h,.bl x,.bl y] /\ Q (.str (sgn o h x y)) H
def spRowOf (K : PySem.W.Frag) : Sp := fun vs H Q _ => ∃ (a l : Addr) (ws F : List Int) (h : Int),vs = [.ref a,.ref l,.int h] /\ PlT H a (ws.map V.int) /\ isWay ws = true /\ H l = some (.lst (F.map V.int)) /\ F.length = (fresh 0 ws).toNat /\ ∀ H',Same H H' -> Q (.str (rowT ws F h ws.length)) H'
def spMark (K : PySem.W.Frag) : Sp := fun vs H Q _ => ∃ (a : Addr) (ws : List Int),vs = [.ref a] /\ PlT H a (ws.map V.int) /\ isWay ws = true /\ ∀ (F : List Int) (H' : Hp),IsH (arW ws) (crW ws) (fresh 0 ws).toNat F -> Same H H' -> Q (.str (markT ws F)) H'
def spLHei (K : PySem.W.Frag) : Sp := fun vs H Q _ => ∃ (a : Addr) (ws : List Int),vs = [.ref a] /\ SqT K H a (ws.map V.int) /\ isWay ws = true /\ ∀ (r : Addr) (F : List Int) (H' : Hp),Same H H' -> H' r = some (.lst (F.map V.int)) -> IsH (arW ws) (crW ws) (fresh 0 ws).toNat F -> Q (.ref r) H'
def spOver (K : PySem.W.Frag) : Sp := fun vs H Q _ => ∃ (p t : Addr) (ps : List Addr) (ws F : List Int) (h a b : Int),vs = [.ref p,.ref t,.int h,.int a,.int b] /\ SpanAt H p ps ws /\ H t = some (.lst (F.map V.int)) /\ F.length = (fresh 0 ws).toNat /\ isWay ws = true /\ Q (.bl (covB ws F h a b)) H
def spLSign (K : PySem.W.Frag) : Sp := fun vs H Q _ => ∃ (wa p t : Addr) (ps : List Addr) (ws F : List Int) (h : Int) (c : Nat),vs = [.ref wa,.ref p,.ref t,.int h,.int (c : Int)] /\ SpanAt H p ps ws /\ H t = some (.lst (F.map V.int)) /\ F.length = (fresh 0 ws).toNat /\ SqT K H wa (ws.map V.int) /\ isWay ws = true /\ c < ws.length /\ Q (.str (sgS ws F h c)) H
def spLRow (K : PySem.W.Frag) : Sp := fun vs H Q _ => ∃ (wa p t : Addr) (ps : List Addr) (ws F : List Int) (h : Int),vs = [.ref wa,.ref p,.ref t,.int h] /\ SpanAt H p ps ws /\ H t = some (.lst (F.map V.int)) /\ F.length = (fresh 0 ws).toNat /\ SqT K H wa (ws.map V.int) /\ isWay ws = true /\ Q (.str (rowT ws F h ws.length)) H
def spWayOfO (K : PySem.W.Frag) : Sp := fun vs H Q _ => ∃ (a : Addr) (ns : List Int),vs = [.ref a] /\ SqL K H a (ns.map V.int) /\ 1 <= ns.length /\ ns.length <= 9 /\ ((∀ (p : Addr) (H' : Hp),H p = none -> Same H H' -> H' p = some (.tup ((numRow ns).map V.int)) -> Q (.ref p) H') \/ (∀ (p : Addr) (H' : Hp),H p = none -> Same H H' -> PlT H' p ((numRow ns).map V.int) -> Q (.ref p) H'))
def spPlace2 (K : PySem.W.Frag) : Sp := fun vs H Q _ => ∃ (p : Addr) (R : List Str) (c : Nat),vs = [.ref p,.int (c : Int)] /\ H p = some (.lst (R.map V.str)) /\ c <= 9 /\ R.length <= 1000 /\ (∀ z ∈ R,z.length <= 1000) /\ ((∃ i j : Nat,Place R c i j /\ ∀ H',Same H H' -> Q (.int ((i : Int) * ((R.getD i "").length : Int) + 2 * (j : Int))) H') \/ (R ≠ [] /\ (∀ z ∈ R,2 * c < z.length) /\ ∀ (v : Int) (H' : Hp),Same H H' -> Q (.int v) H'))
def spRead2 (K : PySem.W.Frag) (C : Addr) : Sp := fun vs H Q E => ∃ t : Str,vs = [.str t] /\ t.length <= 900 /\ ((∃ ws F : List Int,t = markT ws F /\ isWay ws = true /\ IsH (arW ws) (crW ws) (fresh 0 ws).toNat F /\ ∀ (p : Addr) (H' : Hp),Same H H' -> PlT H' p (ws.map V.int) -> Q (.ref p) H') \/ ((∀ ws F : List Int,isWay ws = true -> IsH (arW ws) (crW ws) (fresh 0 ws).toNat F -> t ≠ markT ws F) /\ ∀ H',Same H H' -> E (.ref C) none H'))
def spMarkL (K : PySem.W.Frag) : Sp := fun vs H Q _ => ∃ (a : Addr) (ws : List Int),vs = [.ref a] /\ SqT K H a (ws.map V.int) /\ isWay ws = true /\ ∀ (F : List Int) (H' : Hp),IsH (arW ws) (crW ws) (fresh 0 ws).toNat F -> Same H H' -> Q (.str (markT ws F)) H'
def spJoint (K : PySem.W.Frag) : Sp := fun vs H Q _ => ∃ z : Str,vs = [.str z] /\ z.length <= 1000 /\ ∀ (p : Addr) (qs : List Addr) (H' : Hp),Same H H' -> H' p = some (.lst (qs.map V.ref)) -> LhAt H' qs (jointC z.cps.toList) -> Q (.ref p) H'
def spLRead (K : PySem.W.Frag) : Sp := fun vs H Q _ => ∃ t : Str,vs = [.str t] /\ t.length <= 900 /\ ((∃ ws F : List Int,t = markT ws F /\ isWay ws = true /\ IsH (arW ws) (crW ws) (fresh 0 ws).toNat F /\ ∀ (p : Addr) (H' : Hp),Same H H' -> H' p = some (.tup (ws.map V.int)) -> Q (.ref p) H') \/ ((∀ ws F : List Int,isWay ws = true -> IsH (arW ws) (crW ws) (fresh 0 ws).toNat F -> t ≠ markT ws F) /\ ∀ H',Same H H' -> Q .non H'))
def spAnyS (K : PySem.W.Frag) : Sp := fun vs H Q _ => ∃ c : Int,vs = [.int c] /\ ∀ z : Str,z.length <= 1 -> Q (.str z) H
def spRBent (K : PySem.W.Frag) : Sp := fun vs H Q _ => ∃ (p : Addr) (R : List Str) (kd at_ : Int),vs = [.ref p,.int kd,.int at_] /\ H p = some (.lst (R.map V.str)) /\ 1 <= R.length /\ R.length <= 10 /\ (∀ z ∈ R,z.length <= 17) /\ 0 <= at_ /\ at_ < R.length /\ ∀ (z : Str) (H' : Hp),z.length <= 900 -> Same H H' -> Q (.str z) H'
def spBent (K : PySem.W.Frag) : Sp := fun vs H Q _ => ∃ (c : Int) (ws F : List Int),vs = [.int c,.str (markT ws F)] /\ isWay ws = true /\ IsH (arW ws) (crW ws) (fresh 0 ws).toNat F /\ ∀ (z : Str) (H' : Hp),z.length <= 900 -> Same H H' -> Q (.str z) H'
def spTried17 (K : PySem.W.Frag) : Sp := fun vs H Q _ => ∃ t : Str,vs = [.str t] /\ t.length <= 900 /\ ((∃ ws F : List Int,t = markT ws F /\ isWay ws = true /\ IsH (arW ws) (crW ws) (fresh 0 ws).toNat F /\ ∀ (p : Addr) (H' : Hp),Same H H' -> PlT H' p (ws.map V.int) -> Q (.ref p) H') \/ ((∀ ws F : List Int,isWay ws = true -> IsH (arW ws) (crW ws) (fresh 0 ws).toNat F -> t ≠ markT ws F) /\ ∀ (p : Addr) (H' : Hp),Same H H' -> H' p = some (.lst [.str "refused"]) -> Q (.ref p) H'))
def spWayOkF (K : PySem.W.Frag) : Sp := fun vs H Q _ => ∃ (a : Addr) (ns : List Int) (n : Int),vs = [.ref a,.int n] /\ PlT H a (ns.map V.int) /\ ns.length <= 1000 /\ ∀ H',Same H H' -> Q (.bl (decide ((ns.length : Int) = n) && rowOk ns)) H'
section
variable {P : Program} {w : World} {K : PySem.W.Frag} {mg : Str -> Option Value} {base : Heap} {CBadMark : Addr}
theorem sc_law_draw : FnScope (["_law_cell_here","_law_limits","_law_rest","_law_seed","_law_row","_law_limit"]) (["_law_cell_here","_law_limits"]) (defScope s_law_draw) := by trivial
theorem ok_law_draw {f : Addr} {fd : FuncData} (F : Fun K "_law_draw" "_law_draw" s_law_draw f fd) (B : Bs mg) (T : Gs mg)   : FnOk P w K mg base CX0 1 f fd ["_law_cell_here","_law_limits"] (spDraw K) := by
  have sc := sc_law_draw
  refine F.ok sc (fun vs H Q E h => ?_) (fun cdv A outer s H vs Q E hr h => ?_)
  · obtain ⟨c,a,ls,rfl,_⟩ := h; rfl
  · obtain ⟨c,a,ls,rfl,hS,hL,hlen,k⟩ := h
    refine ⟨_,(pss_cons (ps_set (i := 2) sc.nd rfl (Or.inl rfl) (pe_ifExp (pt_cmpR op_ge (pv 0) (pe_op op_pow pe_int pe_int) (nomark _)) (pv 0) pe_int))
      (pss_cons (ps_set (i := 3) sc.nd rfl (Or.inl rfl) (pe_op op_mod (pe_op op_add (pe_op op_mulW (pe_op op_mod (pv 0) pe_int) pe_int) pe_int) pe_int))
      (pss_cons (ps_set (i := 4) sc.nd rfl (Or.inl rfl) (pe_lst pa_nil))
      (pss_cons (ps_for PassesOwn.never rfl (kpi_list (K := K) (pv 1)) (pg_name (i := 5) sc.nd rfl (Or.inl rfl))
      (pss_cons (ps_set (i := 3) sc.nd rfl (Or.inl rfl) (pe_op op_mod (pe_op op_add (pe_op op_mulW (pe_op op_mod (pe_op op_mulW (pv 3) (pv 3)) pe_int) (pe_op op_add (pv 3) pe_int)) pe_int) pe_int))
      (pss_cons (ps_expr (pe_bm PySem.F.plainAttrs_list PySem.F.slot_list_append PySem.F.type_list_append mt_append (pv 4) (pa_cons (pe_ifExp (pt_cmpR op_gt (pv 2) pe_int (nomark _)) (pe_op op_mod (pv 2) (pv 5)) (pe_op op_mod (pe_op op_add (pe_op op_fdivW (pv 3) pe_int) (pe_op op_mulW (pe_op op_mod (pv 3) pe_int) pe_int)) (pv 5))) pa_nil)))
      (pss_one (ps_set (i := 2) sc.nd rfl (Or.inl rfl) (pe_op op_fdivW (pv 2) (pv 5)))))))
      (pss_one (ps_ret (pv 4))))))),?_⟩
    refine ⟨_,rfl,_,_,rfl,rfl,⟨by decide,by decide,by decide⟩,_,_,rfl,rfl,_,rfl,?_⟩
    refine ite_P (fun _ => True) (fun r _ => ?_) (fun Q' h => ⟨_,rfl,h _ trivial⟩) (fun Q' h => h _ trivial)
    refine ⟨_,rfl,_,_,rfl,rfl,p0,_,_,rfl,rfl,mulOk_r ⟨by decide,by decide⟩,_,_,rfl,rfl,_,_,rfl,rfl,p0,?_⟩
    refine ⟨Nat.zero_le _,fun p hp => ?_⟩
    have hS1 : SqL K (upd H p (.lst [])) a (ls.map V.int) := (Same.new hp).seq hS
    refine ⟨_,rfl,a,rfl,⟨_,hS1⟩,for_list (K := K) (a := a) (xs := ls.map V.int) (fun i σ H2 => ∃ (r seed : Int) (rs : List Int) (v : Option V),σ = [some (.int c),some (.ref a),some (.int r),some (.int seed),some (.ref p),v] /\ 0 <= seed /\ seed < 2147483647 /\ Same H H2 /\ H2 p = some (.lst (rs.map V.int)) /\ Drawn' (ls.take i) rs)
      ⟨r,_,[],none,rfl,(modB _ (by decide)).1,(modB _ (by decide)).2,Same.new hp,upd_same,.nil⟩ (fun i σ H2 _ ⟨_,_,_,_,_,_,_,s2,_,_⟩ => s2.seq hS) ?_ ?_⟩
    · rintro i y σ H2 hi ⟨r,seed,rs,v,rfl,hs0,hs1,s2,hp2,hD⟩
      obtain ⟨l,rfl,hl,hil⟩ := getI hi
      have hlim := hL l (List.mem_of_getElem? hl)
      have hrl : rs.length = i := by have := hD.length; rw [List.length_take] at this; omega
      refine ⟨_,rfl,_,rfl,_,_,rfl,rfl,mulOk_r ⟨by omega,by omega⟩,_,_,rfl,rfl,p0,_,rfl,_,_,rfl,rfl,_,_,rfl,rfl,mulOk_r ⟨by omega,by omega⟩,_,_,rfl,rfl,_,_,rfl,rfl,p0,?_⟩
      refine ⟨_,rfl,.inl ⟨rfl,_,SqL.of hp2⟩,_,rfl,_,_,rfl,rfl,_,rfl,?_⟩
      refine ite_P (fun q => 0 <= q /\ q < l) (fun q hq => ?_) (fun Q' h => ⟨_,rfl,_,rfl,_,_,rfl,rfl,hlim.1,h _ (modB _ hlim.1)⟩)
        (fun Q' h => ⟨_,rfl,_,_,rfl,rfl,⟨by decide,by decide⟩,_,rfl,_,_,rfl,rfl,p0,_,_,rfl,rfl,mulOk_r ⟨by decide,by decide⟩,_,_,rfl,rfl,_,rfl,_,_,rfl,rfl,hlim.1,h _ (modB _ hlim.1)⟩)
      obtain ⟨q0,q1⟩ := hq
      refine ⟨p,_,_,rfl,rfl,hp2,lt_line (by rw [ltm]; omega),?_⟩
      refine ⟨_,rfl,_,rfl,_,_,rfl,rfl,hlim,?_⟩
      refine ⟨_,_,rs ++ [q],_,rfl,(modB _ (by decide)).1,(modB _ (by decide)).2,s2.put hp,by rw [upd_same,mapV],?_⟩
      rw [take_snoc hl]
      exact drawn_snoc hD q0 q1
    · rintro σ H2 ⟨r,seed,rs,v,rfl,hs0,hs1,s2,hp2,hD⟩
      rw [ltm,List.take_length] at hD
      exact ⟨_,rfl,k p rs H2 hp s2 hp2 hD⟩
theorem sc_law_cell : FnScope (["_law_script","_law_k"]) (["_law_script","_law_k"]) (defScope s_law_cell) := by trivial
theorem ok_law_cell {f : Addr} {fd : FuncData} (F : Fun K "_law_cell" "_law_cell" s_law_cell f fd) (B : Bs mg) (T : Gs mg)   : FnOk P w K mg base CX0 1 f fd ["_law_script","_law_k"] (spCell K) := by
  have sc := sc_law_cell
  refine F.ok sc (fun vs H Q E h => ?_) (fun cdv A outer s H vs Q E hr h => ?_)
  · obtain ⟨a,ns,kk,rfl,_⟩ := h; rfl
  · obtain ⟨a,ns,kk,rfl,hS,h0,h1,hl,k⟩ := h
    refine ⟨_,(pss_cons (ps_if (pt_cmpR op_lt (pv 1) (pe_callB (kc_len (K := K)) (by rfl) B.len PyProof.Rows.Boot.«len» (pa_cons (pv 0) pa_nil)) (nomark _)) (pss_one (ps_ret (pe_ix (kix_list (K := K)) (pv 0) (pv 1) (fun _ _ => rfl)))) pss_nil)
      (pss_one (ps_ret (pe_op op_add (pe_op op_add (pe_op op_mulW (pe_op op_mod (pe_callB (kc_sum (K := K)) (by rfl) B.sum PyProof.Rows.Boot.«sum» (pa_cons (pv 0) pa_nil)) pe_int) pe_int) (pe_op op_mulW (pe_callB (kc_len (K := K)) (by rfl) B.len PyProof.Rows.Boot.«len» (pa_cons (pv 0) pa_nil)) pe_int)) (pe_op op_mulW (pv 1) pe_int))))),?_⟩
    refine ⟨_,rfl,_,rfl,a,_,rfl,.inl hS,_,_,rfl,rfl,_,rfl,?_⟩
    rw [ltm]
    refine ite2 (fun hk => ?_) (fun _ => ?_)
    · have hk : kk < (ns.length : Int) := of_decide_eq_true hk
      obtain ⟨j,rfl⟩ := Int.eq_ofNat_of_zero_le h0
      have hj : j < ns.length := by omega
      refine ⟨_,rfl,_,rfl,a,_,_,_,rfl,rfl,hS,atI_nat (v := V.int (ns[j])) (by rw [List.getElem?_map,List.getElem?_eq_getElem hj]; rfl),k _⟩
    · refine ⟨_,rfl,a,ns,rfl,.inl hS,_,_,rfl,rfl,p0,_,_,rfl,rfl,mulOk_r ⟨by decide,by decide⟩,_,rfl,a,_,rfl,.inl hS,_,_,rfl,rfl,mulOk_r ⟨by decide,by decide⟩,_,_,rfl,rfl,_,rfl,_,_,rfl,rfl,mulOk_r ⟨by decide,by decide⟩,_,_,rfl,rfl,k _⟩
theorem sc_law_many : FnScope (["_law_script","_law_few"]) (["_law_script","_law_few"]) (defScope s_law_many) := by trivial
theorem ok_law_many {f : Addr} {fd : FuncData} (F : Fun K "_law_many" "_law_many" s_law_many f fd) (B : Bs mg) (T : Gs mg)   : FnOk P w K mg base CX0 1 f fd ["_law_script","_law_few"] (spMany K) := by
  have sc := sc_law_many
  refine F.ok sc (fun vs H Q E h => ?_) (fun cdv A outer s H vs Q E hr h => ?_)
  · obtain ⟨a,ns,f,rfl,_⟩ := h; rfl
  · obtain ⟨a,ns,f,rfl,hS,k⟩ := h
    refine ⟨_,(pss_one (ps_ret (pe_callB kc_max2 (by rfl) B.max PyProof.Rows.Boot.«max» (pa_cons (pv 1) (pa_cons (pe_callB kc_min2 (by rfl) B.min PyProof.Rows.Boot.«min» (pa_cons (pe_callB (kc_len (K := K)) (by rfl) B.len PyProof.Rows.Boot.«len» (pa_cons (pv 0) pa_nil)) (pa_cons pe_int pa_nil))) pa_nil))))),?_⟩
    refine ⟨_,rfl,_,rfl,a,_,rfl,.inl hS,_,_,rfl,_,_,rfl,k _ ?_ ?_⟩
    · split <;> omega
    · split <;> split <;> omega
theorem scis_way : FnScope (["row","fresh","wood"]) (["row"]) (defScope sis_way) := by trivial
theorem okis_way {f : Addr} {fd : FuncData} (F : Fun K "is_way" "is_way" sis_way f fd) (B : Bs mg) (T : Gs mg)   : FnOk P w K mg base CX0 1 f fd ["row"] (spIsWay K) := by
  have sc := scis_way
  refine F.ok sc (fun vs H Q E h => ?_) (fun cdv A outer s H vs Q E hr h => ?_)
  · obtain ⟨a,ns,rfl,_⟩ := h; rfl
  · obtain ⟨a,ns,rfl,hS,k⟩ := h
    obtain ⟨tM,gMOST_CENSERS⟩ := T.MOST_CENSERS
    refine ⟨_,(pss_cons (ps_if (pt_not (pt_chain op_le op_le pe_int (pe_callB (kc_len (K := K)) (by rfl) B.len PyProof.Rows.Boot.«len» (pa_cons (pv 0) pa_nil)) (pe_glob (v := .int 9) rfl gMOST_CENSERS ⟨_,rfl⟩))) (pss_one (ps_ret pe_bl)) pss_nil)
      (pss_cons (ps_set (i := 1) sc.nd rfl (Or.inl rfl) pe_int)
      (pss_cons (ps_for PassesOwn.never rfl (kpi_tup (K := K) (pv 0)) (pg_name (i := 2) sc.nd rfl (Or.inl rfl))
      (pss_cons (ps_if (pt_not (pt_chain op_le op_le pe_int (pv 2) (pv 1))) (pss_one (ps_ret pe_bl)) pss_nil)
      (pss_one (ps_if (pt_cmpR op_eq (pv 2) (pv 1) (nomark _)) (pss_one (ps_aug (i := 1) sc.nd rfl (Or.inl rfl) pe_int ip_add)) pss_nil))))
      (pss_one (ps_ret pe_bl))))),?_⟩
    refine ⟨_,rfl,a,_,rfl,.inr hS,_,_,rfl,rfl,_,rfl,?_⟩
    rw [ltm]
    have no : ¬ (1 <= ns.length /\ ns.length <= 9) -> isWay ns = false := fun z => by
      unfold isWay
      rw [<- Bool.decide_and,decide_eq_false z]; rfl
    refine ite2 (fun h1 => ⟨_,_,rfl,rfl,_,rfl,ite2 (fun h2 => ?_) (fun h2 => ?_)⟩) (fun h1 => ⟨_,rfl,iteT ?_⟩)
    · rw [no (by simp at h2; omega)] at k
      exact k
    · have h1 : (1 : Int) <= (ns.length : Int) := of_decide_eq_true h1
      have h2 : (ns.length : Int) <= 9 := by simp at h2; omega
      have e0 : isWay ns = wayGo 0 ns := by
        unfold isWay
        rw [decide_eq_true (show 1 <= ns.length by omega),decide_eq_true (show ns.length <= 9 by omega)]; rfl
      rw [e0] at k
      refine ⟨_,rfl,a,rfl,⟨_,hS⟩,for_tup (K := K) (a := a) (xs := ns.map V.int) (fun i σ H2 => ∃ (f : Int) (v : Option V),σ = [some (.ref a),some (.int f),v] /\ H2 = H /\ wayGo 0 ns = wayGo f (ns.drop i))
        ⟨0,none,rfl,rfl,by rw [List.drop_zero]⟩ (fun i σ H2 _ ⟨_,_,_,e,_⟩ => by rw [e]; exact hS) ?_ ?_⟩
      · rintro i y σ H2 hi ⟨f,v,rfl,e,hw⟩
        subst e
        obtain ⟨z,rfl,hz,hil⟩ := getI hi
        have hd : ns.drop i = z :: ns.drop (i + 1) := by
          rw [List.drop_eq_getElem_cons hil]
          rw [List.getElem?_eq_getElem hil] at hz
          rw [Option.some.inj hz]
        rw [hd] at hw
        have hw' : wayGo 0 ns = (decide (0 <= z) && decide (z <= f) && wayGo (if z = f then f + 1 else f) (ns.drop (i + 1))) := hw
        refine ⟨_,rfl,_,_,rfl,rfl,_,rfl,?_⟩
        refine ite2 (fun g1 => ⟨_,rfl,_,_,rfl,rfl,_,rfl,ite2 (fun g2 => ?_) (fun g2 => ?_)⟩) (fun g1 => ⟨_,rfl,iteT ?_⟩)
        · have g2 : ¬ z <= f := by simp at g2; omega
          rw [hw',decide_eq_false g2,Bool.and_false,Bool.false_and] at k
          exact k
        · have g1 : 0 <= z := of_decide_eq_true g1
          have g2 : z <= f := by simp at g2; omega
          rw [decide_eq_true g1,decide_eq_true g2,Bool.and_true,Bool.true_and] at hw'
          refine ⟨_,rfl,_,rfl,rfl,_,rfl,ite2 (fun g => ?_) (fun g => ?_)⟩
          · have g : z = f := by have := of_decide_eq_true g; cases this; rfl
            rw [if_pos g] at hw'
            exact ⟨_,rfl,_,_,rfl,rfl,f + 1,_,rfl,rfl,hw'⟩
          · have g : ¬ z = f := fun e => g (decide_eq_true (by rw [e]))
            rw [if_neg g] at hw'
            exact ⟨f,_,rfl,rfl,hw'⟩
        · have g1 : ¬ 0 <= z := fun e => g1 (decide_eq_true e)
          rw [hw',decide_eq_false g1,Bool.false_and,Bool.false_and] at k
          exact k
      · rintro σ H2 ⟨f,v,rfl,e,hw⟩
        subst e
        rw [ltm,List.drop_length] at hw
        rw [show wayGo 0 ns = true from hw] at k
        exact k
    · have h1 : ¬ (1 : Int) <= (ns.length : Int) := fun e => h1 (decide_eq_true e)
      rw [no (by omega)] at k
      exact k
theorem sccheck_way : FnScope (["way"]) (["way"]) (defScope scheck_way) := by trivial
theorem okcheck_way {f : Addr} {fd : FuncData} (F : Fun K "check_way" "check_way" scheck_way f fd) (B : Bs mg) (T : Gs mg)  (cis_way : Cal P w K mg base 1 "is_way" [] (spIsWay K)) : FnOk P w K mg base CX0 2 f fd ["way"] (spCheckWay K) := by
  have sc := sccheck_way
  refine F.ok sc (fun vs H Q E h => ?_) (fun cdv A outer s H vs Q E hr h => ?_)
  · obtain ⟨a,ns,rfl,_⟩ := h; rfl
  · obtain ⟨a,ns,rfl,hS,hw,k⟩ := h
    refine ⟨_,(pss_one (ps_if (pt_not (pt_val (pe_cal cis_way (hr.mono (by decide)) rfl (pa_cons (pv 0) pa_nil)))) (pss_one ps_never) pss_nil)),?_⟩
    refine ⟨_,rfl,a,ns,rfl,hS,_,rfl,?_⟩
    rw [hw]
    exact iteF k
theorem scwoods : FnScope (["way"]) (["way"]) (defScope swoods) := by trivial
theorem okwoods {f : Addr} {fd : FuncData} (F : Fun K "woods" "woods" swoods f fd) (B : Bs mg) (T : Gs mg)  (ccheck_way : Cal P w K mg base 2 "check_way" [] (spCheckWay K)) : FnOk P w K mg base CX0 3 f fd ["way"] (spWoods K) := by
  have sc := scwoods
  refine F.ok sc (fun vs H Q E h => ?_) (fun cdv A outer s H vs Q E hr h => ?_)
  · obtain ⟨a,ns,rfl,_⟩ := h; rfl
  · obtain ⟨a,ns,rfl,hS,hw,k⟩ := h
    refine ⟨_,(pss_cons (ps_expr (pe_cal ccheck_way (hr.mono (by decide)) rfl (pa_cons (pv 0) pa_nil)))
      (pss_one (ps_ret (pe_op op_add (pe_callB (kc_max (K := K)) (by rfl) B.max PyProof.Rows.Boot.«max» (pa_cons (pv 0) pa_nil)) pe_int)))),?_⟩
    refine ⟨_,rfl,a,ns,rfl,hS,hw,?_⟩
    have hw0 : wayGo 0 ns = true := by unfold isWay at hw; rw [Bool.and_eq_true] at hw; exact hw.2
    have hne : ns ≠ [] := fun e => by rw [e] at hw; exact absurd hw (by decide)
    refine ⟨_,rfl,a,ns,rfl,.inr hS,hne,fun m hm => ⟨_,_,rfl,rfl,?_⟩⟩
    have := hm.uniq (fresh_pos hw0 hne).2
    have e : m + 1 = fresh 0 ns := by omega
    show Q (V.int (m + 1)) H
    rw [e]
    exact k
theorem sclots : FnScope (["way","gathered","censer","wood"]) (["way"]) (defScope slots) := by trivial
theorem oklots {f : Addr} {fd : FuncData} (F : Fun K "lots" "lots" slots f fd) (B : Bs mg) (T : Gs mg)  (cwoods : Cal P w K mg base 3 "woods" [] (spWoods K)) : FnOk P w K mg base CX0 4 f fd ["way"] (spLots K) := by
  have sc := sclots
  refine F.ok sc (fun vs H Q E h => ?_) (fun cdv A outer s H vs Q E hr h => ?_)
  · obtain ⟨a,ws,rfl,_⟩ := h; rfl
  · obtain ⟨a,ws,rfl,hS,hw,k⟩ := h
    refine ⟨_,(pss_cons (ps_lc (i := 1) sc.nd rfl rfl (N' := ["wood"]) (M := [none]) (lcSc_of (by rfl)) rfl (pi_range1 rfl B.range (pa_cons (pe_cal cwoods (hr.mono (by decide)) rfl (pa_cons (pv 0) pa_nil)) pa_nil)) (fun _ _ _ _ _ => pg_name (i := 0) (show (["wood"] : List Str).Nodup by decide +kernel) rfl (Or.inl rfl) (.inr rfl)) (frm_name rfl) (fun _ _ _ _ _ => pts_nil) (fun _ _ _ _ _ => (pe_lst pa_nil)))
      (pss_cons (ps_for PassesOwn.never rfl (pi_enumT (K := K) rfl B.enumerate (pa_cons (pv 0) pa_nil)) (pg_tup rfl (pgs_cons (pg_name (i := 2) sc.nd rfl (Or.inl rfl)) (pgs_cons (pg_name (i := 3) sc.nd rfl (Or.inl rfl)) pgs_nil)))
      (pss_one (ps_expr (pe_bm PySem.F.plainAttrs_list PySem.F.slot_list_append PySem.F.type_list_append mt_append (pe_ix (kix_list (K := K)) (pv 1) (pv 3) (fun _ _ => rfl)) (pa_cons (pv 2) pa_nil)))))
      (pss_one (ps_ret (pv 1))))),?_⟩
    obtain ⟨w1,w9,w0⟩ := isWay_iff.mp hw
    have f0 := (fresh_pos w0 (fun e => by rw [e] at w1; simp at w1)).1
    have fl := fresh_le ws
    refine ⟨_,rfl,a,ws,rfl,hS,hw,_,rfl,by omega,by omega,?_⟩
    refine lc_range (fun j ys H2 => Same H H2 /\ ∃ qs : List Addr,ys = qs.map V.ref /\ qs.length = j /\ (∀ q ∈ qs,H q = none /\ H2 q = some (.lst [])) /\ qs.Nodup) (le_line (by omega)) ⟨Same.refl H,[],rfl,rfl,fun q hq => by simp at hq,List.nodup_nil⟩
      (fun j ys H2 _ h => by obtain ⟨_,qs,e,e2,_⟩ := h; rw [e,List.length_map,e2]; exact Nat.le_refl _) ?_ ?_
    · rintro j ys H2 hj ⟨s2,qs,rfl,hql,hq,hnd⟩
      refine lcN ?_
      refine ⟨Nat.zero_le _,fun l hl => ⟨s2.new2 hl,qs ++ [l],by rw [List.map_append]; rfl,by rw [List.length_append,hql]; rfl,fun q hm => ?_,?_⟩⟩
      · rcases List.mem_append.mp hm with hm | hm
        · exact ⟨(hq q hm).1,Same.new hl q _ (hq q hm).2⟩
        · rw [List.mem_singleton.mp hm]; exact ⟨s2.free hl,upd_same⟩
      · refine List.nodup_append.mpr ⟨hnd,by simp,fun x hx y hy e => ?_⟩
        rw [List.mem_singleton.mp hy] at e
        have := (hq x hx).2
        rw [e,hl] at this; cases this
    · rintro ys H2 ⟨s2,qs,rfl,hql,hq,hnd⟩ p hp
      have hpH : H p = none := s2.free hp
      have hpq : p ∉ qs := fun z => by have := (hq p z).2; rw [hp] at this; cases this
      have s3 := s2.new2 (o := HO.lst (qs.map V.ref)) hp
      refine ⟨_,rfl,a,rfl,⟨_,s3.seqT hS⟩,for_it (n := ws.length) (fun i σ H4 => ∃ (o1 o2 : Option V),σ = [some (.ref a),some (.ref p),o1,o2] /\ Same H H4 /\ H4 p = some (.lst (qs.map V.ref)) /\ ∀ (k : Nat) q,qs[k]? = some q -> H4 q = some (.lst ((lotL ws (k : Int) i).map V.int)))
        ⟨none,none,rfl,s3,upd_same,fun k q hk => by have hm := List.mem_of_getElem? hk; rw [upd_ne (show q ≠ p from fun e => hpq (by rw [<- e]; exact hm))]; exact (hq q hm).2⟩ ?_ ?_ ?_ ?_⟩
      · rintro i σ H4 hi ⟨o1,o2,rfl,s4,_⟩
        exact ⟨_,_,s4.seqT hS,by rw [List.getElem?_map,List.getElem?_eq_getElem hi]; rfl⟩
      · rintro σ H4 ⟨o1,o2,rfl,s4,_⟩
        exact ⟨_,s4.seqT hS,by rw [ltm]; exact Nat.le_refl _⟩
      · rintro i x σ H4 H5 hi ⟨o1,o2,rfl,s4,hp4,hk4⟩ ⟨Tt,y,hT,rfl,rfl,hy⟩
        obtain ⟨w,rfl,hw',_⟩ := getI (hy _ (s4.seqT hS))
        have ewd : ws.getD i 0 = w := by rw [List.getD_eq_getElem?_getD,hw']; rfl
        have hsm := way_small hw hi
        rw [ewd] at hsm
        have s5 := Same.new (o := HO.tup [V.int (i : Int),V.int w]) hT
        refine ⟨Tt,_,rfl,SqT.of upd_same,rfl,_,_,rfl,_,_,rfl,rfl,?_⟩
        generalize upd H4 Tt (HO.tup [V.int (i : Int),V.int w]) = H5 at s5
        have hwn : w.toNat < qs.length := by omega
        have hqw := List.getElem?_eq_getElem hwn
        generalize qs[w.toNat] = q at hqw
        have eat := atI_ref hqw
        rw [Int.toNat_of_nonneg hsm.1] at eat
        have hp5 := s5 p _ hp4
        have hq5 := s5 q _ (hk4 w.toNat q hqw)
        have hqm := List.mem_of_getElem? hqw
        rw [Int.toNat_of_nonneg hsm.1] at hq5
        have ll := lotN_length_le ws w i
        have ll2 := lotL_length ws w i
        refine ⟨_,rfl,_,rfl,p,_,_,_,rfl,rfl,SqL.of hp5,eat,.inl ⟨rfl,_,SqL.of hq5⟩,_,rfl,q,_,_,rfl,rfl,hq5,lt_line (by rw [ltm]; omega),?_⟩
        refine ⟨_,_,rfl,(s4.trans s5).put (hq q hqm).1,?_,fun k q' hk => ?_⟩
        · rw [upd_ne (show p ≠ q from fun e => hpq (by rw [e]; exact hqm))]; exact hp5
        · rw [lotL_succ,ewd]
          by_cases e : q' = q
          · subst e
            have ek := nodup_get hnd hk hqw
            subst ek
            rw [upd_same,if_pos (by omega),Int.toNat_of_nonneg hsm.1,mapV]
          · rw [upd_ne e,if_neg (fun z => e (by
              have : k = w.toNat := by omega
              rw [this,hqw] at hk; exact (Option.some.inj hk).symm))]
            exact s5 q' _ (hk4 k q' hk)
      · rintro σ H4 ⟨o1,o2,rfl,s4,hp4,hk4⟩
        exact ⟨_,rfl,k p qs H4 hpH s4 hp4 hql (fun k q hk => ⟨(hq q (List.mem_of_getElem? hk)).1,hk4 k q hk⟩) hnd hpq⟩
theorem scway_of : FnScope (["numbers","renamed","given"]) (["numbers"]) (defScope sway_of) := by trivial
theorem okway_of {f : Addr} {fd : FuncData} (F : Fun K "way_of" "way_of" sway_of f fd) (B : Bs mg) (T : Gs mg)   : FnOk P w K mg base CX0 1 f fd ["numbers"] (spWayOfO K) := by
  have sc := scway_of
  refine F.ok sc (fun vs H Q E h => ?_) (fun cdv A outer s H vs Q E hr h => ?_)
  · obtain ⟨a,ns,rfl,_⟩ := h; rfl
  · obtain ⟨a,ns,rfl,hS,m1,m9,k0⟩ := h
    obtain ⟨tM,gMOST_CENSERS⟩ := T.MOST_CENSERS
    refine ⟨_,(pss_cons (ps_if (pt_not (pt_chain op_le op_le pe_int (pe_callB (kc_len (K := K)) (by rfl) B.len PyProof.Rows.Boot.«len» (pa_cons (pv 0) pa_nil)) (pe_glob (v := .int 9) rfl gMOST_CENSERS ⟨_,rfl⟩))) (pss_one ps_never) pss_nil)
      (pss_cons (ps_set (i := 1) sc.nd rfl (Or.inr rfl) pe_dnewK)
      (pss_cons (ps_for PassesOwn.never rfl (kpi_list (K := K) (pv 0)) (pg_name (i := 2) sc.nd rfl (Or.inl rfl))
      (pss_one (ps_if (pt_cmp (pc_dnotin (hu_of hr) (pv 2) (pv 1))) (pss_one (ps_dput (hu_of hr) (pv 1) (pv 2) (pe_callB call_lenD (by rfl) B.len PyProof.Rows.Boot.«len» (pa_cons (pv 1) pa_nil)) rfl)) pss_nil)))
      (pss_one (ps_ret (pe_callTy (kc_tupleO (K := K)) (by rfl) B.tuple PyProof.Rows.Boot.«tuple» (pa_cons (pe_lc (N' := ["given","renamed"]) (M := [none,some 1]) (lcSc_of (by rfl)) rfl (kpi_list (K := K) (pv 0)) (fun _ _ _ _ _ => pg_name (i := 0) (show (["given","renamed"] : List Str).Nodup by decide +kernel) rfl (Or.inl rfl) (.inr rfl)) (frm_name rfl) (fun _ _ _ _ _ => pts_nil) (fun _ _ _ _ _ => (pe_dget (hu_of hr) (pv 1) (pv 0) (fun _ _ => rfl)))) pa_nil))))))),?_⟩
    refine ⟨_,rfl,a,_,rfl,.inl hS,_,_,rfl,rfl,_,rfl,?_⟩
    rw [ltm]
    refine ite2 (fun h1 => ⟨_,_,rfl,rfl,_,rfl,ite2 (fun h2 => ?_) (fun h2 => ?_)⟩) (fun h1 => ⟨_,rfl,iteT ?_⟩)
    · exact absurd h2 (by simp; omega)
    · have h1 : (1 : Int) <= (ns.length : Int) := of_decide_eq_true h1
      have h2 : (ns.length : Int) <= 9 := by simp at h2; omega
      intro d hd
      refine ⟨_,rfl,a,rfl,⟨_,(Same.new hd).seq hS⟩,for_list (K := K) (a := a) (xs := ns.map V.int) (fun i σ H2 => ∃ (v : Option V),σ = [some (.ref a),some (.ref d),v] /\ H2 = upd H d (.dK (kvOf (seen (ns.take i)) 0)))
        ⟨none,rfl,by rw [List.take_zero]; rfl⟩ (fun i σ H2 _ ⟨_,_,e⟩ => by rw [e]; exact (Same.new hd).seq hS) ?_ ?_⟩
      · rintro i y σ H2 hi ⟨v,rfl,rfl⟩
        obtain ⟨z,rfl,hz,hil⟩ := getI hi
        refine ⟨_,rfl,_,rfl,d,_,rfl,DGet.k (k := Sum.inl z) upd_same,_,rfl,?_⟩
        rw [valV_kvOf]
        have hts := take_snoc hz
        by_cases hm : z ∈ seen (ns.take i)
        · rw [if_pos hm]
          refine iteF ?_
          refine ⟨_,rfl,?_⟩
          rw [hts,seen_snoc]; unfold seenP; rw [if_pos hm]
        · rw [if_neg hm]
          refine iteT ?_
          have hsl : (seen (ns.take i)).length <= 9 := by have := seen_length (ns.take i); rw [List.length_take] at this; omega
          refine ⟨_,rfl,d,_,rfl,upd_same,_,rfl,_,rfl,d,_,rfl,DPut.k (k := Sum.inl z) upd_same (lt_line (by rw [kvOf_length]; omega)),?_⟩
          refine ⟨_,rfl,?_⟩
          rw [upd_upd,kvOf_length,putK_new _ (by rw [valV_kvOf,if_neg hm]),hts,seen_snoc]
          have e2 : seenP (seen (ns.take i)) z = seen (ns.take i) ++ [z] := by unfold seenP; rw [if_neg hm]
          rw [e2,kvOf_snoc,Nat.zero_add]
      · rintro σ H2 ⟨v,rfl,rfl⟩
        rw [ltm,List.take_length]
        have hS2 : SqL K (upd H d (.dK (kvOf (seen ns) 0))) a (ns.map V.int) := (Same.new hd).seq hS
        refine ⟨_,rfl,a,rfl,⟨_,hS2⟩,lc_list (xs := ns.map V.int) (fun i ys H4 => H4 = upd H d (.dK (kvOf (seen ns) 0)) /\ ys = (numRow ns |>.take i).map V.int) (le_line (by rw [ltm]; omega)) ⟨rfl,rfl⟩
          (fun i ys H4 _ ⟨e,e2⟩ => ⟨by rw [e]; exact hS2,by rw [e2,ltm,List.length_take]; omega⟩) ?_ ?_⟩
        · rintro i y ys H4 hi ⟨rfl,rfl⟩
          obtain ⟨z,rfl,hz,hil⟩ := getI hi
          refine lcN ?_
          have hzs : z ∈ seen ns := (mem_seen ns z).mpr (List.mem_of_getElem? hz)
          refine ⟨_,rfl,_,rfl,d,V.int ((seen ns).idxOf z : Int),rfl,?_,rfl,?_⟩
          · have := DGet.k (k := Sum.inl z) (kvs := kvOf (seen ns) 0) (H := upd H d (.dK (kvOf (seen ns) 0))) (a := d) upd_same
            rw [valV_kvOf,if_pos hzs,Nat.zero_add] at this
            exact this
          · have : (numRow ns)[i]? = some ((seen ns).idxOf z : Int) := by unfold numRow; rw [List.getElem?_map,hz]; rfl
            rw [take_snoc this,mapV]
        · rintro ys H4 ⟨rfl,rfl⟩ p hp
          rw [ltm,<- numRow_length,List.take_length]
          have S1 : Same H (upd (upd H d (.dK (kvOf (seen ns) 0))) p (.lst ((numRow ns).map V.int))) := (Same.new hd).new2 hp
          refine ⟨p,_,rfl,SqL.of upd_same,?_⟩
          rcases k0 with k | k
          · exact .inl fun t ht => k t _ (S1.free ht) (S1.new2 ht) upd_same
          · exact .inr fun t ob ht hob => k t _ (S1.free ht) (S1.new2 ht) ⟨ob,hob,upd_same⟩
    · have h1 : ¬ (1 : Int) <= (ns.length : Int) := fun e => h1 (decide_eq_true e)
      exact absurd m1 (by omega)
theorem scstretches : FnScope (["way"]) (["way"]) (defScope sstretches) := by trivial
theorem okstretches {f : Addr} {fd : FuncData} (F : Fun K "stretches" "stretches" sstretches f fd) (B : Bs mg) (T : Gs mg)  (clots : Cal P w K mg base 4 "lots" [] (spLots K)) : FnOk P w K mg base CX0 5 f fd ["way"] (spStretch K) := by
  have sc := scstretches
  refine F.ok sc (fun vs H Q E h => ?_) (fun cdv A outer s H vs Q E hr h => ?_)
  · obtain ⟨a,ws,rfl,_⟩ := h; rfl
  · obtain ⟨a,ws,rfl,hS,hw,k⟩ := h
    refine ⟨_,(pss_one (ps_ret (pe_lc (N' := ["lot"]) (M := [none]) (lcSc_of (by rfl)) rfl (kpi_list (K := K) (pe_cal clots (hr.mono (by decide)) rfl (pa_cons (pv 0) pa_nil))) (fun _ _ _ _ _ => pg_name (i := 0) (show (["lot"] : List Str).Nodup by decide +kernel) rfl (Or.inl rfl) (.inr rfl)) (frm_name rfl) (fun _ _ _ _ _ => pts_nil) (fun _ _ _ _ _ => (pe_tup (pa_cons (pe_ix (kix_list (K := K)) (pv 0) pe_int (fun _ _ => rfl)) (pa_cons (pe_ix (kix_list (K := K)) (pv 0) (pe_un un_neg pe_int) (fun _ _ => rfl)) pa_nil))))))),?_⟩
    obtain ⟨w1,w9,w0⟩ := isWay_iff.mp hw
    have fl := fresh_le ws
    refine ⟨_,rfl,a,ws,rfl,hS,hw,fun p qs H1 hpn s1 hp1 hql hq1 hnd hpq => ?_⟩
    refine ⟨p,rfl,⟨_,SqL.of hp1⟩,lc_list (xs := qs.map V.ref) (fun j ys H4 => Same H1 H4 /\ ∃ ps : List Addr,ys = ps.map V.ref /\ ps.length = j /\ ∀ (k : Nat) q,ps[k]? = some q -> H4 q = some (.tup [.int (hdL ws k),.int (tlL ws k)])) (le_line (by rw [List.length_map]; omega)) ⟨Same.refl _,[],rfl,rfl,fun k q h => by simp at h⟩
      (fun j ys H4 _ ⟨s4,ps,e,e2,_⟩ => ⟨SqL.of (s4 p _ hp1),by rw [e,List.length_map,e2]; exact Nat.le_refl _⟩) ?_ ?_⟩
    · rintro j y ys H4 hj ⟨s4,ps,rfl,hpl,hps⟩
      obtain ⟨q,rfl,hqj,hjl⟩ := getRef hj
      have hne := lotN_ne hw (k := j) (by omega)
      have hq4 := s4 q _ (hq1 j q hqj).2
      refine lcN ?_
      refine ⟨_,rfl,q,_,_,_,rfl,rfl,SqL.of hq4,at_hd hne,_,rfl,_,rfl,q,_,_,_,rfl,rfl,SqL.of hq4,at_tl hne,le_line (by simp),fun t ht => ?_⟩
      refine ⟨s4.new2 ht,ps ++ [t],by rw [List.map_append]; rfl,by rw [List.length_append,hpl]; rfl,fun k q' hk => ?_⟩
      by_cases e : k < ps.length
      · rw [List.getElem?_append_left e] at hk
        exact Same.new ht q' _ (hps k q' hk)
      · have hkl : k < (ps ++ [t]).length := (List.getElem?_eq_some_iff.mp hk).1
        rw [List.length_append] at hkl
        have ek : k = ps.length := by simp at hkl; omega
        subst ek
        rw [List.getElem?_append_right (Nat.le_refl _),Nat.sub_self] at hk
        have : t = q' := by simpa using hk
        subst this
        rw [upd_same,hpl]
    · rintro ys H4 ⟨s4,ps,rfl,hpl,hps⟩ r hr'
      rw [List.length_map] at hpl
      exact k r ps _ ((s1.trans s4).new2 hr') upd_same (by omega) (fun k q hk => Same.new hr' q _ (hps k q hk))
theorem sclying : FnScope (["one","other"]) (["one","other"]) (defScope slying) := by trivial
theorem oklying {f : Addr} {fd : FuncData} (F : Fun K "lying" "lying" slying f fd) (B : Bs mg) (T : Gs mg)   : FnOk P w K mg base CX0 1 f fd ["one","other"] (spLying K) := by
  have sc := sclying
  refine F.ok sc (fun vs H Q E h => ?_) (fun cdv A outer s H vs Q E hr h => ?_)
  · obtain ⟨a,b,a0,a1,b0,b1,rfl,_⟩ := h; rfl
  · obtain ⟨a,b,a0,a1,b0,b1,rfl,hA,hB,k⟩ := h
    refine ⟨_,(pss_cons (ps_if (pt_cmpR (op_eqS (K := K) hr.units0) (pv 0) (pv 1) (nomark _)) (pss_one (ps_ret pe_str)) pss_nil)
      (pss_cons (ps_if (PW.pt (pw_or (pt_cmpR op_lt (pe_ix (kix_tup (K := K)) (pv 0) pe_int (fun _ _ => rfl)) (pe_ix (kix_tup (K := K)) (pv 1) pe_int (fun _ _ => rfl)) (nomark _)) (pw_or1 (pt_cmpR op_lt (pe_ix (kix_tup (K := K)) (pv 1) pe_int (fun _ _ => rfl)) (pe_ix (kix_tup (K := K)) (pv 0) pe_int (fun _ _ => rfl)) (nomark _))))) (pss_one (ps_ret pe_str)) pss_nil)
      (pss_cons (ps_if (PW.pt (pw_and (pt_cmpR op_lt (pe_ix (kix_tup (K := K)) (pv 1) pe_int (fun _ _ => rfl)) (pe_ix (kix_tup (K := K)) (pv 0) pe_int (fun _ _ => rfl)) (nomark _)) (pw_and1 (pt_cmpR op_lt (pe_ix (kix_tup (K := K)) (pv 0) pe_int (fun _ _ => rfl)) (pe_ix (kix_tup (K := K)) (pv 1) pe_int (fun _ _ => rfl)) (nomark _))))) (pss_one (ps_ret pe_str)) pss_nil)
      (pss_cons (ps_if (PW.pt (pw_and (pt_cmpR op_lt (pe_ix (kix_tup (K := K)) (pv 0) pe_int (fun _ _ => rfl)) (pe_ix (kix_tup (K := K)) (pv 1) pe_int (fun _ _ => rfl)) (nomark _)) (pw_and1 (pt_cmpR op_lt (pe_ix (kix_tup (K := K)) (pv 1) pe_int (fun _ _ => rfl)) (pe_ix (kix_tup (K := K)) (pv 0) pe_int (fun _ _ => rfl)) (nomark _))))) (pss_one (ps_ret pe_str)) pss_nil)
      (pss_one (ps_ret pe_str)))))),?_⟩
    have hA' : SqT K H a ([a0,a1].map V.int) := SqT.of hA
    have hB' : SqT K H b ([b0,b1].map V.int) := SqT.of hB
    have x0 : atI ([a0,a1].map V.int) 0 = some (V.int a0) := rfl
    have x1 : atI ([a0,a1].map V.int) 1 = some (V.int a1) := rfl
    have y0 : atI ([b0,b1].map V.int) 0 = some (V.int b0) := rfl
    have y1 : atI ([b0,b1].map V.int) 1 = some (V.int b1) := rfl
    unfold lieS at k
    refine ⟨_,rfl,_,rfl,a,b,_,_,rfl,rfl,.inl ⟨hA',hB'⟩,_,rfl,ite2 (fun g => ?_) (fun g => ?_)⟩
    · have g : [a0,a1] = [b0,b1] := of_decide_eq_true g
      rw [if_pos (by simpa using g)] at k
      exact k
    have g : ¬ (a0 = b0 /\ a1 = b1) := fun e => g (decide_eq_true (by rw [e.1,e.2]))
    rw [if_neg g] at k
    refine ⟨_,rfl,a,_,_,_,rfl,rfl,hA',x1,_,rfl,b,_,_,_,rfl,rfl,hB',y0,_,_,rfl,rfl,_,rfl,?_⟩
    refine ite2 (fun g1 => iteT ?_) (fun g1 => ?_)
    · rw [if_pos (.inl (of_decide_eq_true g1))] at k; exact k
    have g1 : ¬ a1 < b0 := fun e => g1 (decide_eq_true e)
    refine ⟨_,rfl,b,_,_,_,rfl,rfl,hB',y1,_,rfl,a,_,_,_,rfl,rfl,hA',x0,_,_,rfl,rfl,_,rfl,?_⟩
    refine ite2 (fun g2 => ?_) (fun g2 => ?_)
    · rw [if_pos (.inr (of_decide_eq_true g2))] at k; exact k
    have g2 : ¬ b1 < a0 := fun e => g2 (decide_eq_true e)
    rw [if_neg (by omega)] at k
    by_cases c3 : (b0 < a0 /\ a1 < b1)
    · rw [if_pos c3] at k
      refine ⟨_,rfl,b,_,_,_,rfl,rfl,hB',y0,_,rfl,a,_,_,_,rfl,rfl,hA',x0,_,_,rfl,rfl,_,rfl,?_⟩
      rw [decide_eq_true c3.1]
      refine iteT ⟨_,rfl,a,_,_,_,rfl,rfl,hA',x1,_,rfl,b,_,_,_,rfl,rfl,hB',y1,_,_,rfl,rfl,_,rfl,?_⟩
      rw [decide_eq_true c3.2]
      exact iteT k
    rw [if_neg c3] at k
    refine ⟨_,rfl,b,_,_,_,rfl,rfl,hB',y0,_,rfl,a,_,_,_,rfl,rfl,hA',x0,_,_,rfl,rfl,_,rfl,ite2 (fun g3 => ⟨_,rfl,a,_,_,_,rfl,rfl,hA',x1,_,rfl,b,_,_,_,rfl,rfl,hB',y1,_,_,rfl,rfl,_,rfl,ite2 (fun g4 => absurd ⟨of_decide_eq_true g3,of_decide_eq_true g4⟩ c3) (fun _ => ?_)⟩) (fun _ => iteF ?_)⟩
    all_goals
      by_cases c5 : (a0 < b0 /\ b1 < a1)
      · rw [if_pos c5] at k
        refine ⟨_,rfl,a,_,_,_,rfl,rfl,hA',x0,_,rfl,b,_,_,_,rfl,rfl,hB',y0,_,_,rfl,rfl,_,rfl,?_⟩
        rw [decide_eq_true c5.1]
        refine iteT ⟨_,rfl,b,_,_,_,rfl,rfl,hB',y1,_,rfl,a,_,_,_,rfl,rfl,hA',x1,_,_,rfl,rfl,_,rfl,?_⟩
        rw [decide_eq_true c5.2]
        exact iteT k
      · rw [if_neg c5] at k
        exact ⟨_,rfl,a,_,_,_,rfl,rfl,hA',x0,_,rfl,b,_,_,_,rfl,rfl,hB',y0,_,_,rfl,rfl,_,rfl,ite2 (fun g5 => ⟨_,rfl,b,_,_,_,rfl,rfl,hB',y1,_,rfl,a,_,_,_,rfl,rfl,hA',x1,_,_,rfl,rfl,_,rfl,ite2 (fun g6 => absurd ⟨of_decide_eq_true g5,of_decide_eq_true g6⟩ c5) (fun _ => k)⟩) (fun _ => iteF k)⟩
theorem scsuits : FnScope (["spans","chosen","height","place","taken","lies"]) (["spans","chosen","height"]) (defScope ssuits) := by trivial
theorem oksuits {f : Addr} {fd : FuncData} (F : Fun K "suits" "suits" ssuits f fd) (B : Bs mg) (T : Gs mg)  (clying : Cal P w K mg base 1 "lying" [] (spLying K)) : FnOk P w K mg base CX0 6 f fd ["spans","chosen","height"] (spSuits K) := by
  have sc := scsuits
  refine F.ok sc (fun vs H Q E h => ?_) (fun cdv A outer s H vs Q E hr h => ?_)
  · obtain ⟨p,c,ps,ws,C,h,rfl,_⟩ := h; rfl
  · obtain ⟨p,c,ps,ws,C,ht,rfl,hsp,hc,hw,hl,k⟩ := h
    refine ⟨_,(pss_cons (ps_for PassesOwn.never rfl (pi_enumL (K := K) rfl B.enumerate (pa_cons (pv 1) pa_nil)) (pg_tup rfl (pgs_cons (pg_name (i := 3) sc.nd rfl (Or.inl rfl)) (pgs_cons (pg_name (i := 4) sc.nd rfl (Or.inl rfl)) pgs_nil)))
      (pss_cons (ps_set (i := 5) sc.nd rfl (Or.inl rfl) (pe_cal clying (hr.mono (by decide)) rfl (pa_cons (pe_ix (kix_list (K := K)) (pv 0) (pv 3) (fun _ _ => rfl)) (pa_cons (pe_ix (kix_list (K := K)) (pv 0) (pe_callB (kc_len (K := K)) (by rfl) B.len PyProof.Rows.Boot.«len» (pa_cons (pv 1) pa_nil)) (fun _ _ => rfl)) pa_nil))))
      (pss_cons (ps_if (PW.pt (pw_and (pt_cmpR op_eq (pv 5) pe_str (nomark _)) (pw_and1 (pt_cmpR op_le (pv 4) (pv 2) (nomark _))))) (pss_one (ps_ret pe_bl)) pss_nil)
      (pss_one (ps_if (PW.pt (pw_and (pt_cmpR op_eq (pv 5) pe_str (nomark _)) (pw_and1 (pt_cmpR op_eq (pv 4) (pv 2) (nomark _))))) (pss_one (ps_ret pe_bl)) pss_nil)))))
      (pss_one (ps_ret pe_bl))),?_⟩
    have hlen := hsp.2.1
    obtain ⟨w1,w9,w0⟩ := isWay_iff.mp hw
    have fl := fresh_le ws
    refine ⟨_,rfl,c,rfl,⟨_,SqL.of hc⟩,for_it (n := C.length) (fun i σ H4 => ∃ (o1 o2 o3 : Option V),σ = [some (.ref p),some (.ref c),some (.int ht),o1,o2,o3] /\ Same H H4 /\ (List.range i).all (fun k => !(arW ws k C.length && decide (C.getD k 0 <= ht)) && !(crW ws k C.length && decide (C.getD k 0 = ht))) = true)
      ⟨none,none,none,rfl,Same.refl H,rfl⟩ ?_ ?_ ?_ ?_⟩
    · rintro i σ H4 hi ⟨o1,o2,o3,rfl,s4,_⟩
      exact ⟨_,_,SqL.of (s4 c _ hc),by rw [List.getElem?_map,List.getElem?_eq_getElem hi]; rfl⟩
    · rintro σ H4 ⟨o1,o2,o3,rfl,s4,_⟩
      exact ⟨_,SqL.of (s4 c _ hc),by rw [ltm]; exact Nat.le_refl _⟩
    · rintro i x σ H4 H5 hi ⟨o1,o2,o3,rfl,s4,hall⟩ ⟨Tt,y,hTt,rfl,rfl,hy⟩
      obtain ⟨tk,rfl,htk,_⟩ := getI (hy _ (SqL.of (s4 c _ hc)))
      have etk : C.getD i 0 = tk := by rw [List.getD_eq_getElem?_getD,htk]; rfl
      have s5 := Same.new (o := HO.tup [V.int (i : Int),V.int tk]) hTt
      refine ⟨Tt,_,rfl,SqT.of upd_same,rfl,_,_,rfl,_,_,rfl,rfl,?_⟩
      generalize upd H4 Tt (HO.tup [V.int (i : Int),V.int tk]) = H5 at s5
      have s45 := s4.trans s5
      have hsp5 := hsp.same s45
      obtain ⟨q1,e1,t1⟩ := hsp5.at (k := i) (by omega)
      obtain ⟨q2,e2,t2⟩ := hsp5.at (k := C.length) hl
      have a1 := atI_ref e1
      have a2 := atI_ref e2
      refine ⟨_,rfl,_,rfl,p,_,_,_,rfl,rfl,SqL.of hsp5.1,a1,_,rfl,_,rfl,c,_,rfl,.inl (SqL.of (s45 c _ hc)),p,_,_,_,rfl,rfl,SqL.of hsp5.1,by rw [ltm]; exact a2,q1,q2,_,_,_,_,rfl,t1,t2,?_⟩
      have eA : arW ws i C.length = decide (lieS (hdL ws i) (tlL ws i) (hdL ws C.length) (tlL ws C.length) = "around") := rfl
      have eC : crW ws i C.length = decide (lieS (hdL ws i) (tlL ws i) (hdL ws C.length) (tlL ws C.length) = "crossing") := rfl
      generalize lieS (hdL ws i) (tlL ws i) (hdL ws C.length) (tlL ws C.length) = W at eA eC
      have bad : (!(arW ws i C.length && decide (C.getD i 0 <= ht)) && !(crW ws i C.length && decide (C.getD i 0 = ht))) = false -> Q (.bl false) H5 := fun z => by
        have : suitsB (arW ws) (crW ws) C ht = false := by
          unfold suitsB
          rw [List.all_eq_false]
          exact ⟨i,List.mem_range.mpr hi,by rw [z]; decide⟩
        have k := k H5 s45
        rw [this] at k
        exact k
      have good : (!(arW ws i C.length && decide (C.getD i 0 <= ht)) && !(crW ws i C.length && decide (C.getD i 0 = ht))) = true -> ((List.range (i + 1)).all (fun k => !(arW ws k C.length && decide (C.getD k 0 <= ht)) && !(crW ws k C.length && decide (C.getD k 0 = ht)))) = true := fun z => by
        rw [List.range_succ,List.all_append,hall]
        simpa using z
      rw [etk] at bad good
      have sV : ∀ x y : Str,decide (V.str x = V.str y) = decide (x = y) := fun x y => decide_eq_decide.mpr ⟨fun e => V.str.inj e,fun e => congrArg V.str e⟩
      have iV : ∀ x y : Int,decide (V.int x = V.int y) = decide (x = y) := fun x y => decide_eq_decide.mpr ⟨fun e => V.int.inj e,fun e => congrArg V.int e⟩
      refine ⟨_,rfl,rfl,_,rfl,ite2 (fun g => ⟨_,rfl,_,rfl,_,_,rfl,rfl,_,rfl,ite2 (fun g2 => ?_) (fun g2 => ?_)⟩) (fun g => ite2 (fun z => by cases z) (fun _ => ?_))⟩
      · rw [sV] at g
        exact bad (by rw [eA,g,g2]; rfl)
      · rw [sV] at g
        have gA : (arW ws i C.length && decide (tk <= ht)) = false := by rw [eA,g]; simpa using g2
        rw [gA] at bad good
        refine ⟨_,rfl,rfl,_,rfl,ite2 (fun g => ⟨_,rfl,_,rfl,rfl,_,rfl,ite2 (fun g2 => ?_) (fun g2 => ?_)⟩) (fun g => ite2 (fun z => by cases z) (fun _ => ?_))⟩
        · rw [sV] at g
          rw [iV] at g2
          exact bad (by rw [eC,g,g2]; rfl)
        · rw [iV] at g2
          exact ⟨_,_,_,rfl,s45,good (by simp at g2; simp [g2])⟩
        · rw [sV] at g
          exact ⟨_,_,_,rfl,s45,good (by rw [eC]; simp at g; simp [g])⟩
      · rw [sV] at g
        have gA : (arW ws i C.length && decide (tk <= ht)) = false := by rw [eA]; simp at g; simp [g]
        rw [gA] at bad good
        refine ⟨_,rfl,rfl,_,rfl,ite2 (fun g => ⟨_,rfl,_,rfl,rfl,_,rfl,ite2 (fun g2 => ?_) (fun g2 => ?_)⟩) (fun g => ite2 (fun z => by cases z) (fun _ => ?_))⟩
        · rw [sV] at g
          rw [iV] at g2
          exact bad (by rw [eC,g,g2]; rfl)
        · rw [iV] at g2
          exact ⟨_,_,_,rfl,s45,good (by simp at g2; simp [g2])⟩
        · rw [sV] at g
          exact ⟨_,_,_,rfl,s45,good (by rw [eC]; simp at g; simp [g])⟩
    · rintro σ H4 ⟨o1,o2,o3,rfl,s4,hall⟩
      have : suitsB (arW ws) (crW ws) C ht = true := hall
      have k := k H4 s4
      rw [this] at k
      exact k
theorem sccompleted : FnScope (["spans","chosen","greatest","height","found"]) (["spans","chosen","greatest"]) (defScope scompleted) := by trivial
theorem okcompleted {dd : Nat} {f : Addr} {fd : FuncData} (F : Fun K "completed" "completed" scompleted f fd) (B : Bs mg) (T : Gs mg)  (ccompleted : Cal P w K mg base (7 + dd) "completed" [] (spCompl K dd)) (csuits : Cal P w K mg base 6 "suits" [] (spSuits K)) : FnOk P w K mg base CX0 (7 + dd + 1) f fd ["spans","chosen","greatest"] (spCompl K (dd + 1)) := by
  have sc := sccompleted
  refine F.ok sc (fun vs H Q E h => ?_) (fun cdv A outer s H vs Q E hr h => ?_)
  · obtain ⟨_,p,c,ps,ws,C,g,rfl,_⟩ := h; rfl
  · obtain ⟨hd0,p,c,ps,ws,C,g,rfl,hsp,hc,hw,hl,hfu,hg,kN,kS⟩ := h
    refine ⟨_,(pss_cons (ps_if (pt_cmpR op_eq (pe_callB (kc_len (K := K)) (by rfl) B.len PyProof.Rows.Boot.«len» (pa_cons (pv 1) pa_nil)) (pe_callB (kc_len (K := K)) (by rfl) B.len PyProof.Rows.Boot.«len» (pa_cons (pv 0) pa_nil)) (nomark _)) (pss_one (ps_ret (pv 1))) pss_nil)
      (pss_cons (ps_for PassesOwn.never rfl (pi_range2 rfl B.range (pa_cons pe_int (pa_cons (pe_op op_add (pv 2) pe_int) pa_nil))) (pg_name (i := 3) sc.nd rfl (Or.inl rfl))
      (pss_one (ps_if (pt_val (pe_cal csuits (hr.mono (by omega)) rfl (pa_cons (pv 0) (pa_cons (pv 1) (pa_cons (pv 3) pa_nil))))) (pss_cons (ps_set (i := 4) sc.nd rfl (Or.inl rfl) (pe_cal ccompleted (hr.mono (by omega)) rfl (pa_cons (pv 0) (pa_cons (pe_op op_cat (pv 1) (pe_lst (pa_cons (pv 3) pa_nil))) (pa_cons (pv 2) pa_nil)))))
      (pss_one (ps_if (pt_cmpR op_notN (pv 4) pe_non (nomark _)) (pss_one (ps_ret (pv 4))) pss_nil))) pss_nil)))
      (pss_one (ps_ret pe_non)))),?_⟩
    have hlen := hsp.2.1
    obtain ⟨w1,w9,w0⟩ := isWay_iff.mp hw
    have fl := fresh_le ws
    refine ⟨_,rfl,c,_,rfl,.inl (SqL.of hc),_,rfl,p,_,rfl,.inl (SqL.of hsp.1),rfl,_,rfl,?_⟩
    rw [ltm,List.length_map,hlen]
    have iV : ∀ x y : Int,decide (V.int x = V.int y) = decide (x = y) := fun x y => decide_eq_decide.mpr ⟨fun e => V.int.inj e,fun e => congrArg V.int e⟩
    refine ite2 (fun e0 => ?_) (fun e0 => ?_)
    · rw [iV] at e0
      have e0 : C.length = (fresh 0 ws).toNat := by have := of_decide_eq_true e0; omega
      refine ⟨_,rfl,kS C ?_ c H (.inl rfl) (Same.refl H) hc⟩
      unfold comp
      rw [if_pos e0]
    rw [iV] at e0
    have e0 : ¬ C.length = (fresh 0 ws).toNat := fun e => e0 (decide_eq_true (by rw [e]))
    have ec : comp (arW ws) (crW ws) (fresh 0 ws).toNat g (dd + 1) C = (List.range g).findSome? fun (h : Nat) => if suitsB (arW ws) (crW ws) C ((h : Int) + 1) then comp (arW ws) (crW ws) (fresh 0 ws).toNat g dd (C ++ [(h : Int) + 1]) else none := by
      rw [comp,if_neg e0]
    refine ⟨_,rfl,_,_,rfl,rfl,?_⟩
    refine ⟨_,_,rfl,⟨by omega,by omega,by omega,by omega⟩,?_⟩
    rw [show ((g : Int) + 1 - 1).toNat = g by omega]
    rw [ec] at kN kS
    refine for_range (lo := 1) (n := g) (fun i σ H4 => ∃ (o3 o4 : Option V),σ = [some (.ref p),some (.ref c),some (.int (g : Int)),o3,o4] /\ Same H H4 /\ ((List.range i).findSome? fun (h : Nat) => if suitsB (arW ws) (crW ws) C ((h : Int) + 1) then comp (arW ws) (crW ws) (fresh 0 ws).toNat g dd (C ++ [(h : Int) + 1]) else none) = none)
      ⟨none,none,rfl,Same.refl H,rfl⟩ ?_ ?_
    · rintro i σ H4 hi ⟨o3,o4,rfl,s4,hn⟩
      refine ⟨_,rfl,_,rfl,_,rfl,p,c,ps,ws,C,_,rfl,hsp.same s4,s4 c _ hc,hw,by omega,fun H5 s5 => ⟨_,rfl,?_⟩⟩
      rw [show (1 : Int) + (i : Int) = (i : Int) + 1 by omega]
      refine ite2 (fun gS => ?_) (fun gS => ?_)
      · have s45 := s4.trans s5
        refine ⟨_,rfl,_,rfl,_,rfl,le_line (by simp),fun l1 hl1 => ?_⟩
        have s6 := s45.new2 (o := HO.lst [V.int ((i : Int) + 1)]) hl1
        have h16 : upd H5 l1 (HO.lst [V.int ((i : Int) + 1)]) l1 = some (.lst [V.int ((i : Int) + 1)]) := upd_same
        generalize upd H5 l1 (HO.lst [V.int ((i : Int) + 1)]) = H6 at s6 h16
        refine ⟨c,l1,_,_,rfl,rfl,s6 c _ hc,h16,le_line (by rw [ltm]; simp; omega),fun c2 hc2 => ?_⟩
        have e2 : C.map V.int ++ [V.int ((i : Int) + 1)] = (C ++ [(i : Int) + 1]).map V.int := by rw [mapV]
        rw [e2]
        have s7 := s6.new2 (o := HO.lst ((C ++ [(i : Int) + 1]).map V.int)) hc2
        have h27 : upd H6 c2 (HO.lst ((C ++ [(i : Int) + 1]).map V.int)) c2 = some (.lst ((C ++ [(i : Int) + 1]).map V.int)) := upd_same
        have hc2H := s6.free hc2
        generalize upd H6 c2 (HO.lst ((C ++ [(i : Int) + 1]).map V.int)) = H7 at s7 h27
        refine ⟨_,rfl,by omega,p,c2,ps,ws,C ++ [(i : Int) + 1],g,rfl,hsp.same s7,h27,hw,by rw [List.length_append]; simp only [List.length_cons,List.length_nil]; omega,by rw [List.length_append]; simp only [List.length_cons,List.length_nil]; omega,hg,fun hN H8 s8 => ?_,fun F hF r H8 hr8 s8 h8 => ?_⟩
        · exact ⟨_,rfl,rfl,_,rfl,iteNS rfl ⟨_,_,rfl,s7.trans s8,find_next hn (by rw [if_pos gS]; exact hN)⟩⟩
        · have hrH : H r = none := by
            rcases hr8 with z | z
            · rw [z]; exact hc2H
            · exact s7.free z
          exact ⟨_,rfl,rfl,_,rfl,ite2 (fun _ => ⟨_,rfl,kS F (find_first hn hi (by rw [if_pos gS]; exact hF)) r H8 (.inr hrH) (s7.trans s8) h8⟩) (fun z => absurd (by simp) z)⟩
      · exact ⟨_,_,rfl,s4.trans s5,find_next hn (if_neg gS)⟩
    · rintro σ H4 ⟨o3,o4,rfl,s4,hn⟩
      exact kN hn H4 s4
theorem scheights : FnScope (["way","spans","greatest","found"]) (["way"]) (defScope sheights) := by trivial
theorem okheights {f : Addr} {fd : FuncData} (F : Fun K "heights" "heights" sheights f fd) (B : Bs mg) (T : Gs mg)  (ccompleted : Cal P w K mg base 18 "completed" [] (spCompl K 11)) (cstretches : Cal P w K mg base 5 "stretches" [] (spStretch K)) : FnOk P w K mg base CX0 19 f fd ["way"] (spHeights K) := by
  have sc := scheights
  refine F.ok sc (fun vs H Q E h => ?_) (fun cdv A outer s H vs Q E hr h => ?_)
  · obtain ⟨a,ws,rfl,_⟩ := h; rfl
  · obtain ⟨a,ws,rfl,hS,hw,k⟩ := h
    refine ⟨_,(pss_cons (ps_set (i := 1) sc.nd rfl (Or.inl rfl) (pe_cal cstretches (hr.mono (by decide)) rfl (pa_cons (pv 0) pa_nil)))
      (pss_cons (ps_set (i := 2) sc.nd rfl (Or.inl rfl) pe_int)
      (pss_cons (ps_set (i := 3) sc.nd rfl (Or.inl rfl) (pe_cal ccompleted (hr.mono (by decide)) rfl (pa_cons (pv 1) (pa_cons (pe_lst pa_nil) (pa_cons (pv 2) pa_nil)))))
      (pss_cons (ps_while PassesOwn.never (pt_cmpR op_isN (pv 3) pe_non (nomark _))
      (pss_cons (ps_aug (i := 2) sc.nd rfl (Or.inl rfl) pe_int ip_add)
      (pss_one (ps_set (i := 3) sc.nd rfl (Or.inl rfl) (pe_cal ccompleted (hr.mono (by decide)) rfl (pa_cons (pv 1) (pa_cons (pe_lst pa_nil) (pa_cons (pv 2) pa_nil))))))))
      (pss_one (ps_ret (pv 3))))))),?_⟩
    obtain ⟨w1,w9,w0⟩ := isWay_iff.mp hw
    have fl := fresh_le ws
    refine ⟨_,rfl,a,ws,rfl,hS,hw,fun p ps H1 s1 hp1 hpl hps => ?_⟩
    have hsp : SpanAt H1 p ps ws := ⟨hp1,hpl,hps⟩
    refine ⟨_,rfl,Nat.zero_le _,fun c0 hc0 => ?_⟩
    have s2' := Same.new (o := HO.lst []) hc0
    have hc0H := s1.free hc0
    have h02 : upd H1 c0 (HO.lst []) c0 = some (.lst []) := upd_same
    generalize upd H1 c0 (HO.lst []) = H2 at s2' h02
    have s2 := s1.trans s2'
    refine ⟨_,rfl,by decide,p,c0,ps,ws,[],1,rfl,hsp.same s2',h02,hw,Nat.zero_le _,by show _ < 0 + 11; omega,by decide,fun hN H3 s3 => ?_,fun F hF r H3 hr s3 h3 => ?_⟩
    · rw [comp_11 (by omega)] at hN
      have S3 := s2.trans s3
      have hsp3 := (hsp.same s2').same s3
      have hv : ((V.non = .non /\ comp (arW ws) (crW ws) (fresh 0 ws).toNat 1 ((fresh 0 ws).toNat + 1) [] = none) \/ (∃ r F,V.non = .ref r /\ H r = none /\ H3 r = some (.lst (F.map V.int)) /\ comp (arW ws) (crW ws) (fresh 0 ws).toNat 1 ((fresh 0 ws).toNat + 1) [] = some F)) := .inl ⟨rfl,hN⟩
      refine ⟨fun m σ H4 => ∃ (g : Nat) (v : V),σ = [some (.ref a),some (.ref p),some (.int (g : Int)),some v] /\ Same H H4 /\ SpanAt H4 p ps ws /\ 1 <= g /\ g <= 9 /\ (∀ g',1 <= g' -> g' < g -> comp (arW ws) (crW ws) (fresh 0 ws).toNat g' ((fresh 0 ws).toNat + 1) [] = none) /\ ((v = .non /\ comp (arW ws) (crW ws) (fresh 0 ws).toNat g ((fresh 0 ws).toNat + 1) [] = none) \/ (∃ r F,v = .ref r /\ H r = none /\ H4 r = some (.lst (F.map V.int)) /\ comp (arW ws) (crW ws) (fresh 0 ws).toNat g ((fresh 0 ws).toNat + 1) [] = some F)) /\ m = 10 - g,
        ⟨9,1,_,rfl,S3,hsp3,by decide,by decide,fun g' h1 h2 => absurd h1 (by omega),hv,rfl⟩,?_⟩
      rintro m σ H4 ⟨g,v,rfl,s4,sp4,g1,g9,hl,hv,rfl⟩
      refine ⟨_,rfl,rfl,_,rfl,ite2 (fun gt => ?_) (fun gf => ?_)⟩
      · have ev : v = .non := of_decide_eq_true gt
        have hN : comp (arW ws) (crW ws) (fresh 0 ws).toNat g ((fresh 0 ws).toNat + 1) [] = none := by
          rcases hv with ⟨_,h⟩ | ⟨r,F,er,_⟩
          · exact h
          · rw [ev] at er; cases er
        have gn : g < (fresh 0 ws).toNat := by
          refine Classical.byContradiction fun z => ?_
          obtain ⟨F,hF⟩ := comp_some (ar := arW ws) (cr := crW ws) (n := (fresh 0 ws).toNat) (g := g) (d := (fresh 0 ws).toNat + 1) (by omega) (by omega)
          rw [hN] at hF; cases hF
        refine ⟨_,fun σ' H' h => h,?_⟩
        refine ⟨_,rfl,_,_,rfl,rfl,?_⟩
        refine ⟨_,rfl,Nat.zero_le _,fun c1 hc1 => ?_⟩
        have s5 := Same.new (o := HO.lst []) hc1
        have hc1H := s4.free hc1
        have h15 : upd H4 c1 (HO.lst []) c1 = some (.lst []) := upd_same
        generalize upd H4 c1 (HO.lst []) = H5 at s5 h15
        have s45 := s4.trans s5
        have sp5 := sp4.same s5
        have hl2 : ∀ g',1 <= g' -> g' < g + 1 -> comp (arW ws) (crW ws) (fresh 0 ws).toNat g' ((fresh 0 ws).toNat + 1) [] = none := fun g' a1 a2 => by
          by_cases z : g' = g
          · rw [z]; exact hN
          · exact hl g' a1 (by omega)
        refine ⟨_,rfl,by decide,p,c1,ps,ws,[],g + 1,rfl,sp5,h15,hw,Nat.zero_le _,by show _ < 0 + 11; omega,by omega,fun hN2 H6 s6 => ?_,fun F2 hF2 r2 H6 hr2 s6 h6 => ?_⟩
        · rw [comp_11 (by omega)] at hN2
          exact ⟨10 - (g + 1),by omega,g + 1,_,rfl,s45.trans s6,sp5.same s6,by omega,by omega,hl2,.inl ⟨rfl,hN2⟩,rfl⟩
        · rw [comp_11 (by omega)] at hF2
          have hrH2 : H r2 = none := by
            rcases hr2 with z | z
            · rw [z]; exact hc1H
            · exact s45.free z
          exact ⟨10 - (g + 1),by omega,g + 1,_,rfl,s45.trans s6,sp5.same s6,by omega,by omega,hl2,.inr ⟨r2,F2,rfl,hrH2,h6,hF2⟩,rfl⟩
      · obtain ⟨ev,_⟩ | ⟨r,F,er,hr,h4,hF⟩ := hv
        · rw [ev] at gf; exact absurd (by simp) gf
        · rw [er]
          exact ⟨_,rfl,k r F H4 hr s4 h4 ⟨g,g1,hF,hl⟩⟩
    · rw [comp_11 (by omega)] at hF
      have S3 := s2.trans s3
      have hsp3 := (hsp.same s2').same s3
      have hrH : H r = none := by
        rcases hr with z | z
        · rw [z]; exact hc0H
        · exact s2.free z
      have hv : ((V.ref r = .non /\ comp (arW ws) (crW ws) (fresh 0 ws).toNat 1 ((fresh 0 ws).toNat + 1) [] = none) \/ (∃ r' F,V.ref r = .ref r' /\ H r' = none /\ H3 r' = some (.lst (F.map V.int)) /\ comp (arW ws) (crW ws) (fresh 0 ws).toNat 1 ((fresh 0 ws).toNat + 1) [] = some F)) := .inr ⟨r,F,rfl,hrH,h3,hF⟩
      refine ⟨fun m σ H4 => ∃ (g : Nat) (v : V),σ = [some (.ref a),some (.ref p),some (.int (g : Int)),some v] /\ Same H H4 /\ SpanAt H4 p ps ws /\ 1 <= g /\ g <= 9 /\ (∀ g',1 <= g' -> g' < g -> comp (arW ws) (crW ws) (fresh 0 ws).toNat g' ((fresh 0 ws).toNat + 1) [] = none) /\ ((v = .non /\ comp (arW ws) (crW ws) (fresh 0 ws).toNat g ((fresh 0 ws).toNat + 1) [] = none) \/ (∃ r F,v = .ref r /\ H r = none /\ H4 r = some (.lst (F.map V.int)) /\ comp (arW ws) (crW ws) (fresh 0 ws).toNat g ((fresh 0 ws).toNat + 1) [] = some F)) /\ m = 10 - g,
        ⟨9,1,_,rfl,S3,hsp3,by decide,by decide,fun g' h1 h2 => absurd h1 (by omega),hv,rfl⟩,?_⟩
      rintro m σ H4 ⟨g,v,rfl,s4,sp4,g1,g9,hl,hv,rfl⟩
      refine ⟨_,rfl,rfl,_,rfl,ite2 (fun gt => ?_) (fun gf => ?_)⟩
      · have ev : v = .non := of_decide_eq_true gt
        have hN : comp (arW ws) (crW ws) (fresh 0 ws).toNat g ((fresh 0 ws).toNat + 1) [] = none := by
          rcases hv with ⟨_,h⟩ | ⟨r,F,er,_⟩
          · exact h
          · rw [ev] at er; cases er
        have gn : g < (fresh 0 ws).toNat := by
          refine Classical.byContradiction fun z => ?_
          obtain ⟨F,hF⟩ := comp_some (ar := arW ws) (cr := crW ws) (n := (fresh 0 ws).toNat) (g := g) (d := (fresh 0 ws).toNat + 1) (by omega) (by omega)
          rw [hN] at hF; cases hF
        refine ⟨_,fun σ' H' h => h,?_⟩
        refine ⟨_,rfl,_,_,rfl,rfl,?_⟩
        refine ⟨_,rfl,Nat.zero_le _,fun c1 hc1 => ?_⟩
        have s5 := Same.new (o := HO.lst []) hc1
        have hc1H := s4.free hc1
        have h15 : upd H4 c1 (HO.lst []) c1 = some (.lst []) := upd_same
        generalize upd H4 c1 (HO.lst []) = H5 at s5 h15
        have s45 := s4.trans s5
        have sp5 := sp4.same s5
        have hl2 : ∀ g',1 <= g' -> g' < g + 1 -> comp (arW ws) (crW ws) (fresh 0 ws).toNat g' ((fresh 0 ws).toNat + 1) [] = none := fun g' a1 a2 => by
          by_cases z : g' = g
          · rw [z]; exact hN
          · exact hl g' a1 (by omega)
        refine ⟨_,rfl,by decide,p,c1,ps,ws,[],g + 1,rfl,sp5,h15,hw,Nat.zero_le _,by show _ < 0 + 11; omega,by omega,fun hN2 H6 s6 => ?_,fun F2 hF2 r2 H6 hr2 s6 h6 => ?_⟩
        · rw [comp_11 (by omega)] at hN2
          exact ⟨10 - (g + 1),by omega,g + 1,_,rfl,s45.trans s6,sp5.same s6,by omega,by omega,hl2,.inl ⟨rfl,hN2⟩,rfl⟩
        · rw [comp_11 (by omega)] at hF2
          have hrH2 : H r2 = none := by
            rcases hr2 with z | z
            · rw [z]; exact hc1H
            · exact s45.free z
          exact ⟨10 - (g + 1),by omega,g + 1,_,rfl,s45.trans s6,sp5.same s6,by omega,by omega,hl2,.inr ⟨r2,F2,rfl,hrH2,h6,hF2⟩,rfl⟩
      · obtain ⟨ev,_⟩ | ⟨r,F,er,hr,h4,hF⟩ := hv
        · rw [ev] at gf; exact absurd (by simp) gf
        · rw [er]
          exact ⟨_,rfl,k r F H4 hr s4 h4 ⟨g,g1,hF,hl⟩⟩
theorem scis_covered : FnScope (["spans","first","last"]) (["spans","first","last"]) (defScope sis_covered) := by trivial
theorem okis_covered {f : Addr} {fd : FuncData} (F : Fun K "is_covered" "is_covered" sis_covered f fd) (B : Bs mg) (T : Gs mg)   : FnOk P w K mg base CX0 1 f fd ["spans","first","last"] (spCovered K) := by
  have sc := scis_covered
  refine F.ok sc (fun vs H Q E h => ?_) (fun cdv A outer s H vs Q E hr h => ?_)
  · obtain ⟨p,ps,L,a,b,rfl,_⟩ := h; rfl
  · obtain ⟨p,ps,L,a,b,rfl,hp,hP,hl,k⟩ := h
    refine ⟨_,(pss_one (ps_ret (pe_callB (kc_any (K := K)) (by rfl) B.any PyProof.Rows.Boot.«any» (pa_cons (pe_lc (N' := ["low","high","first","last"]) (M := [none,none,some 1,some 2]) (lcSc_of (by rfl)) rfl (kpi_list (K := K) (pv 0)) (fun _ _ _ _ _ => kpg_tup (K := K) (n := 2) rfl (pgs_cons (pg_name (i := 0) (show (["low","high","first","last"] : List Str).Nodup by decide +kernel) rfl (Or.inl rfl) (.inr rfl)) (pgs_cons (pg_name (i := 1) (show (["low","high","first","last"] : List Str).Nodup by decide +kernel) rfl (Or.inl rfl) (.inr rfl)) pgs_nil))) frm_two (fun _ _ _ _ _ => pts_nil) (fun _ _ _ _ _ => (pe_and (pe_cmpR op_le (pv 0) (pv 2) (nomark _)) (pe_one (pe_cmpR op_le (pv 3) (pv 1) (nomark _)))))) pa_nil)))),?_⟩
    have hl2 := hP.length
    refine ⟨_,rfl,p,rfl,⟨_,SqL.of hp⟩,lc_list (xs := ps.map V.ref) (fun j ys H2 => H2 = H /\ ys = ((L.take j).map fun x => decide (x.1 <= a) && decide (b <= x.2)).map V.bl) (le_line (by rw [List.length_map]; omega)) ⟨rfl,rfl⟩
      (fun j ys H2 _ ⟨e,e2⟩ => ⟨by rw [e]; exact SqL.of hp,by rw [e2,List.length_map,List.length_map,List.length_take]; omega⟩) ?_ ?_⟩
    · rintro j y ys H2 hj ⟨rfl,rfl⟩
      obtain ⟨q,rfl,hq,hjl⟩ := getRef hj
      obtain ⟨x,hx,hxj⟩ := paired_getM hP hq
      refine ⟨q,_,rfl,SqT.of hx,rfl,_,_,rfl,_,_,rfl,rfl,lcY ?_⟩
      have fin : ∀ v : Bool,v = (decide (x.1 <= a) && decide (b <= x.2)) -> H2 = H2 /\ List.map V.bl (List.map (fun x => decide (x.fst <= a) && decide (b <= x.snd)) (L.take j)) ++ [V.bl v] = List.map V.bl (List.map (fun x => decide (x.fst <= a) && decide (b <= x.snd)) (L.take (j + 1))) := fun v hv => by
        rw [take_snoc hxj,List.map_append,List.map_append,hv]; exact ⟨rfl,rfl⟩
      refine ⟨_,rfl,_,rfl,_,_,rfl,rfl,_,rfl,ite2 (fun e => ?_) (fun e => ?_)⟩
      · refine ⟨_,rfl,_,rfl,_,_,rfl,rfl,fin _ ?_⟩
        rw [e]; rfl
      · refine fin _ ?_
        rw [Bool.eq_false_iff.mpr e]; rfl
    rintro ys H2 ⟨rfl,rfl⟩ r hr
    refine ⟨r,_,rfl,.inl (SqL.of upd_same),?_⟩
    rw [List.length_map,hl2,List.take_length,List.any_map]
    exact k _ (Same.new hr)
theorem sccenser_sign : FnScope (["own","height","is_lone","is_crossed"]) (["own","height","is_lone","is_crossed"]) (defScope scenser_sign) := by trivial
theorem okcenser_sign {f : Addr} {fd : FuncData} (F : Fun K "censer_sign" "censer_sign" scenser_sign f fd) (B : Bs mg) (T : Gs mg)   : FnOk P w K mg base CX0 1 f fd ["own","height","is_lone","is_crossed"] (spSign K) := by
  have sc := sccenser_sign
  refine F.ok sc (fun vs H Q E h => ?_) (fun cdv A outer s H vs Q E hr h => ?_)
  · obtain ⟨o,h,x,y,rfl,_⟩ := h; rfl
  · obtain ⟨o,ht,x,y,rfl,k⟩ := h
    refine ⟨_,(pss_cons (ps_if (pt_cmpR op_eq (pv 0) (pv 1) (nomark _)) (pss_one (ps_ret (pe_ifExp (pt_val (pv 2)) pe_str pe_str))) pss_nil)
      (pss_cons (ps_if (pt_cmpR op_gt (pv 0) (pv 1) (nomark _)) (pss_one (ps_ret (pe_ifExp (pt_val (pv 3)) pe_str pe_str))) pss_nil)
      (pss_one (ps_ret (pe_ifExp (pt_val (pv 3)) pe_str pe_str))))),?_⟩
    refine ⟨_,rfl,_,rfl,rfl,_,rfl,ite2 (fun e => ?_) (fun e => ?_)⟩
    · have e : o = ht := V.int.inj (of_decide_eq_true e)
      have k1 : Q (V.str (if x = true then "|" else "+")) H := by
        unfold sgn at k; rw [if_pos e] at k; exact k
      refine ⟨_,rfl,_,rfl,?_⟩
      cases x
      · exact iteF k1
      · exact iteT k1
    · have e : ¬ o = ht := fun z => e (decide_eq_true (congrArg V.int z))
      unfold sgn at k
      rw [if_neg e] at k
      refine ⟨_,rfl,_,rfl,_,_,rfl,rfl,_,rfl,ite2 (fun e => ?_) (fun e => ?_)⟩
      · rw [if_pos (of_decide_eq_true e)] at k
        refine ⟨_,rfl,_,rfl,?_⟩
        cases y
        · exact iteF k
        · exact iteT k
      · rw [if_neg (fun z => e (decide_eq_true z))] at k
        refine ⟨_,rfl,_,rfl,?_⟩
        cases y
        · exact iteF k
        · exact iteT k
theorem scrow_of : FnScope (["way","levels","height","spans","signs","censer","lot","is_lone"]) (["way","levels","height"]) (defScope srow_of) := by trivial
theorem okrow_of {f : Addr} {fd : FuncData} (F : Fun K "row_of" "row_of" srow_of f fd) (B : Bs mg) (T : Gs mg)  (ccenser_sign : Cal P w K mg base 1 "censer_sign" [] (spSign K)) (cis_covered : Cal P w K mg base 1 "is_covered" [] (spCovered K)) (cstretches : Cal P w K mg base 5 "stretches" [] (spStretch K)) : FnOk P w K mg base CX0 9 f fd ["way","levels","height"] (spRowOf K) := by
  have sc := scrow_of
  refine F.ok sc (fun vs H Q E h => ?_) (fun cdv A outer s H vs Q E hr h => ?_)
  · obtain ⟨a,l,ws,F,ht,rfl,_⟩ := h; rfl
  · obtain ⟨a,l,ws,F,ht,rfl,hT,hw,hF,hFl,k⟩ := h
    refine ⟨_,(pss_cons (ps_lc (i := 3) sc.nd rfl rfl (N' := ["span","level","height"]) (M := [none,none,some 2]) (lcSc_of (by rfl)) rfl (pi_zipL (K := K) rfl B.zip (pa_cons (pe_cal cstretches (hr.mono (by decide)) rfl (pa_cons (pv 0) pa_nil)) (pa_cons (pv 1) pa_nil))) (fun _ _ _ _ _ => kpg_tup (K := K) (n := 2) rfl (pgs_cons (pg_name (i := 0) (show (["span","level","height"] : List Str).Nodup by decide +kernel) rfl (Or.inl rfl) (.inr rfl)) (pgs_cons (pg_name (i := 1) (show (["span","level","height"] : List Str).Nodup by decide +kernel) rfl (Or.inl rfl) (.inr rfl)) pgs_nil))) frm_two (fun _ _ _ _ _ => pts_one (pt_cmpR op_eq (pv 1) (pv 2) (nomark _))) (fun _ _ _ _ _ => (pv 0)))
      (pss_cons (ps_set (i := 4) sc.nd rfl (Or.inl rfl) (pe_lst pa_nil))
      (pss_cons (ps_for PassesOwn.never rfl (pi_enumT (K := K) rfl B.enumerate (pa_cons (pv 0) pa_nil)) (pg_tup rfl (pgs_cons (pg_name (i := 5) sc.nd rfl (Or.inl rfl)) (pgs_cons (pg_name (i := 6) sc.nd rfl (Or.inl rfl)) pgs_nil)))
      (pss_cons (ps_if (pt_cmpR op_gt (pv 5) pe_int (nomark _)) (pss_one (ps_expr (pe_bm PySem.F.plainAttrs_list PySem.F.slot_list_append PySem.F.type_list_append mt_append (pv 4) (pa_cons (pe_ifExp (pt_val (pe_cal cis_covered (hr.mono (by decide)) rfl (pa_cons (pv 3) (pa_cons (pe_op op_sub (pv 5) pe_int) (pa_cons (pv 5) pa_nil))))) pe_str pe_str) pa_nil)))) pss_nil)
      (pss_cons (ps_set (i := 7) sc.nd rfl (Or.inl rfl) (pe_cmpR op_eq (pe_bmT PySem.F.slot_tuple_count PySem.F.type_tuple_count (mt_countTu (K := K)) (pv 0) (pa_cons (pv 6) pa_nil)) pe_int (nomark _)))
      (pss_one (ps_expr (pe_bm PySem.F.plainAttrs_list PySem.F.slot_list_append PySem.F.type_list_append mt_append (pv 4) (pa_cons (pe_cal ccenser_sign (hr.mono (by decide)) rfl (pa_cons (pe_ix (kix_list (K := K)) (pv 1) (pv 6) (fun _ _ => rfl)) (pa_cons (pv 2) (pa_cons (pv 7) (pa_cons (pe_cal cis_covered (hr.mono (by decide)) rfl (pa_cons (pv 3) (pa_cons (pv 5) (pa_cons (pv 5) pa_nil)))) pa_nil))))) pa_nil)))))))
      (pss_one (ps_ret (pe_bm PySem.F.plainAttrs_str PySem.F.slot_str_join PySem.F.type_str_join (mt_join (K := K)) pe_str (pa_cons (pv 4) pa_nil))))))),?_⟩
    obtain ⟨w1,w9,w0⟩ := isWay_iff.mp hw
    have f0 := (fresh_pos w0 (fun e => by rw [e] at w1; simp at w1)).1
    have fl := fresh_le ws
    refine ⟨_,rfl,a,ws,rfl,hT.sq,hw,fun p ps H1 s1 hp1 hpl hps => ?_⟩
    have hF1 := s1 l _ hF
    refine ⟨_,rfl,p,l,rfl,⟨_,SqL.of hp1⟩,⟨_,SqL.of hF1⟩,lc_it (n := (fresh 0 ws).toNat) (fun i ys H2 => ∃ qs : List Addr,ys = qs.map V.ref /\ Same H1 H2 /\ PrAt H2 qs (spansOf ws F ht i)) (le_line (by omega)) ⟨[],rfl,Same.refl _,.nil⟩ ?_ ?_ ?_ ?_ ?_⟩
    · rintro i ys H2 hi ⟨qs,rfl,s2,hP⟩
      exact ⟨_,_,_,_,SqL.of (s2 p _ hp1),SqL.of (s2 l _ hF1),List.getElem?_eq_getElem (by rw [List.length_map]; omega),List.getElem?_eq_getElem (by rw [List.length_map]; omega)⟩
    · rintro ys H2 ⟨qs,rfl,s2,hP⟩
      exact ⟨_,_,SqL.of (s2 p _ hp1),SqL.of (s2 l _ hF1),by rw [List.length_map,List.length_map]; omega⟩
    · rintro i ys H2 hi ⟨qs,rfl,s2,hP⟩
      have := hP.length
      have := spans_len ws F ht i
      rw [List.length_map]; omega
    · rintro i x ys H2 H3 hi ⟨qs,rfl,s2,hP⟩ ⟨T0,x0,y0,hT0,rfl,rfl,hx,hy⟩
      obtain ⟨q,rfl,hq,_⟩ := getRef (hx _ (SqL.of (s2 p _ hp1)))
      obtain ⟨z,rfl,hz,_⟩ := getI (hy _ (SqL.of (s2 l _ hF1)))
      have hFz : F.getD i 0 = z := by rw [List.getD_eq_getElem?_getD,hz]; rfl
      have s3 := s2.new2 (o := HO.tup [V.ref q,V.int z]) hT0
      have hP3 : PrAt (upd H2 T0 (HO.tup [V.ref q,V.int z])) qs (spansOf ws F ht i) := L2.Paired.mapP hP fun a' x h => Same.new hT0 a' _ h
      refine ⟨T0,_,rfl,SqT.of upd_same,rfl,_,_,rfl,_,_,rfl,rfl,?_⟩
      rw [spans_succ,hFz]
      refine ⟨_,rfl,_,rfl,rfl,_,rfl,ite2 (fun e => ?_) (fun e => ?_)⟩
      · rw [if_pos (V.int.inj (of_decide_eq_true e))]
        exact ⟨_,rfl,qs ++ [q],by rw [List.map_append]; rfl,s3,Paired.snoc hP3 (s3 q _ (hps i q hq))⟩
      · rw [if_neg (fun z => e (decide_eq_true (congrArg V.int z)))]
        exact ⟨qs,rfl,s3,hP3⟩
    rintro ys H2 ⟨qs,rfl,s2,hP⟩ sp hsp
    have s3 := (s1.trans s2).new2 (o := HO.lst (qs.map V.ref)) hsp
    have hsp3 : upd H2 sp (HO.lst (qs.map V.ref)) sp = some (.lst (qs.map V.ref)) := upd_same
    have hP3 : PrAt (upd H2 sp (HO.lst (qs.map V.ref))) qs (spansOf ws F ht (fresh 0 ws).toNat) := L2.Paired.mapP hP fun a' x h => Same.new hsp a' _ h
    generalize upd H2 sp (HO.lst (qs.map V.ref)) = H3 at s3 hsp3 hP3
    have hsl := spans_len ws F ht (fresh 0 ws).toNat
    have hcv := spans_cov ws F ht
    refine ⟨Nat.zero_le _,fun sg hsg => ?_⟩
    have s4 := Same.new (o := HO.lst []) hsg
    have hsg4 : upd H3 sg (HO.lst []) sg = some (.lst (([] : List Str).map V.str)) := upd_same
    generalize upd H3 sg (HO.lst []) = H4 at s4 hsg4
    have hT3 := hT.same s3
    have hF3 := s3 l _ hF
    refine ⟨_,rfl,a,rfl,⟨_,(hT3.same s4).sq⟩,for_it (n := ws.length) (fun i σ H5 => ∃ (o5 o6 o7 : Option V),σ = [some (.ref a),some (.ref l),some (.int ht),some (.ref sp),some (.ref sg),o5,o6,o7] /\ Same H3 H5 /\ H5 sg = some (.lst ((sigL ws F ht i).map V.str))) ⟨none,none,none,rfl,s4,hsg4⟩ ?_ ?_ ?_ ?_⟩
    · rintro i σ H5 hi ⟨_,_,_,_,s5,_⟩
      exact ⟨_,_,(hT3.same s5).sq,List.getElem?_eq_getElem (by rw [List.length_map]; omega)⟩
    · rintro σ H5 ⟨_,_,_,_,s5,_⟩
      exact ⟨_,(hT3.same s5).sq,by rw [List.length_map]; exact Nat.le_refl _⟩
    · rintro i x σ H5 H6 hi ⟨o5,o6,o7,rfl,s5,hsg5⟩ ⟨T0,y0,hT0,rfl,rfl,hy⟩
      obtain ⟨z,rfl,hz,_⟩ := getI (hy _ (hT3.same s5).sq)
      have hwz : ws.getD i 0 = z := by rw [List.getD_eq_getElem?_getD,hz]; rfl
      obtain ⟨u0,u9,uf⟩ := way_small hw hi
      obtain ⟨m,hm⟩ : ∃ m : Nat,z = (m : Int) := ⟨z.toNat,by omega⟩
      subst hm
      have hmn : m < (fresh 0 ws).toNat := by omega
      have s6 := s5.new2 (o := HO.tup [V.int (i : Int),V.int (m : Int)]) hT0
      have hsg6 := Same.new (o := HO.tup [V.int (i : Int),V.int (m : Int)]) hT0 sg _ hsg5
      have hT6 : upd H5 T0 (HO.tup [V.int (i : Int),V.int (m : Int)]) T0 = some (.tup [V.int (i : Int),V.int (m : Int)]) := upd_same
      generalize upd H5 T0 (HO.tup [V.int (i : Int),V.int (m : Int)]) = H6 at s6 hsg6 hT6
      have hsgl := sigL_len ws F ht i
      refine ⟨T0,_,rfl,SqT.of hT6,rfl,_,_,rfl,_,_,rfl,rfl,?_⟩
      refine seq_by (fun σ H7 => σ = [some (.ref a),some (.ref l),some (.int ht),some (.ref sp),some (.ref sg),some (.int (i : Int)),some (.int (m : Int)),o7] /\ Same H3 H7 /\ ∃ X : List Str,X = (if i = 0 then sigL ws F ht i else sigL ws F ht i ++ [gpS ws F ht i]) /\ H7 sg = some (.lst (X.map V.str))) ?_ ?_
      · rintro σ H7 ⟨rfl,s7,X,hX,hsg7⟩
        have hXl : X.length <= 20 := by rw [hX]; split <;> first | omega | (simp only [List.length_append,List.length_cons,List.length_nil]; omega)
        refine ⟨_,rfl,⟨a,_,rfl,hT3.same s7⟩,_,rfl,a,ws,(m : Int),rfl,rfl,(hT3.same s7).sq,rfl,?_⟩
        refine ⟨_,rfl,.inl ⟨rfl,_,SqL.of hsg7⟩,?_⟩
        refine ⟨_,rfl,_,rfl,l,_,_,_,rfl,rfl,SqL.of (s7 l _ hF3),atI_lt (ns := F) (i := (m : Int)) (by omega) (by omega),?_⟩
        refine ⟨_,rfl,_,rfl,?_⟩
        refine ⟨_,rfl,_,rfl,_,rfl,sp,qs,_,(i : Int),(i : Int),rfl,s7 sp _ hsp3,L2.Paired.mapP hP3 fun a' x h => s7 a' _ h,by omega,fun H8 s8 => ?_⟩
        rw [hcv]
        refine ⟨_,_,_,_,rfl,?_⟩
        have e8 : sgn (F.getD m 0) ht (decide (((ws.count (m : Int) : Nat) : Int) = 1)) (covB ws F ht i i) = sgS ws F ht i := sgn_sgS hw hwz hmn
        have e9 : decide (V.int ((ws.count (m : Int) : Nat) : Int) = V.int 1) = decide (((ws.count (m : Int) : Nat) : Int) = 1) := decide_eq_decide.mpr ⟨fun e => V.int.inj e,fun e => congrArg V.int e⟩
        rw [e9,Int.toNat_natCast,e8]
        refine ⟨sg,_,_,rfl,rfl,s8 sg _ hsg7,lt_line (by rw [List.length_map]; omega),?_⟩
        refine ⟨_,_,_,rfl,(s7.trans s8).put hsg,?_⟩
        rw [upd_same]
        show some (HO.lst (List.map V.str X ++ [V.str (sgS ws F ht i)])) = some (HO.lst (List.map V.str (sigL ws F ht (i + 1))))
        unfold sigL
        rw [<- hX,List.map_append]; rfl
      · intro N hN
        refine ⟨_,rfl,_,_,rfl,rfl,_,rfl,ite2 (fun e => ?_) (fun e => ?_)⟩
        · have e : (0 : Int) < (i : Int) := of_decide_eq_true e
          refine ⟨_,rfl,.inl ⟨rfl,_,SqL.of hsg6⟩,?_⟩
          refine ⟨_,rfl,_,rfl,_,_,rfl,rfl,_,rfl,sp,qs,_,(i : Int) - 1,(i : Int),rfl,s6 sp _ hsp3,L2.Paired.mapP hP3 fun a' x h => s6 a' _ h,by omega,fun H8 s8 => ?_⟩
          rw [hcv]
          have fin : ∀ g : Str,g = gpS ws F ht i -> N [some (.ref a),some (.ref l),some (.int ht),some (.ref sp),some (.ref sg),some (.int (i : Int)),some (.int (m : Int)),o7] (upd H8 sg (HO.lst ((sigL ws F ht i).map V.str ++ [V.str g]))) := fun g hg =>
            hN _ _ ⟨rfl,(s6.trans s8).put hsg,_,rfl,by rw [if_neg (show ¬ i = 0 by omega),upd_same,List.map_append,hg]; rfl⟩
          refine ⟨_,rfl,?_⟩
          cases hb : covB ws F ht ((i : Int) - 1) (i : Int)
          · refine iteF ⟨sg,_,_,rfl,rfl,s8 sg _ hsg6,lt_line (by rw [List.length_map]; omega),fin _ ?_⟩
            unfold gpS; rw [hb]; rfl
          · refine iteT ⟨sg,_,_,rfl,rfl,s8 sg _ hsg6,lt_line (by rw [List.length_map]; omega),fin _ ?_⟩
            unfold gpS; rw [hb]; rfl
        · have e : ¬ (0 : Int) < (i : Int) := fun z => e (decide_eq_true z)
          exact hN _ _ ⟨rfl,s6,_,rfl,by rw [if_pos (show i = 0 by omega)]; exact hsg6⟩
    · rintro σ H5 ⟨o5,o6,o7,rfl,s5,hsg5⟩
      refine ⟨rfl,_,rfl,_,sg,_,rfl,rfl,SqL.of hsg5,joinOk_small (B := 1) (sigL_one ws F ht _) ?_,k _ (s3.trans s5)⟩
      have := sigL_len ws F ht ws.length
      show _ * 1 + _ * 0 <= 16777216
      omega
theorem scmark : FnScope (["way","levels","rows"]) (["way"]) (defScope smark) := by trivial
theorem okmark {f : Addr} {fd : FuncData} (F : Fun K "mark" "mark" smark f fd) (B : Bs mg) (T : Gs mg)  (cheights : Cal P w K mg base 19 "heights" [] (spHeights K)) (crow_of : Cal P w K mg base 9 "row_of" [] (spRowOf K)) : FnOk P w K mg base CX0 20 f fd ["way"] (spMark K) := by
  have sc := scmark
  refine F.ok sc (fun vs H Q E h => ?_) (fun cdv A outer s H vs Q E hr h => ?_)
  · obtain ⟨a,ws,rfl,_⟩ := h; rfl
  · obtain ⟨a,ws,rfl,hT,hw,k⟩ := h
    refine ⟨_,(pss_cons (ps_set (i := 1) sc.nd rfl (Or.inr rfl) (pe_cal cheights (hr.mono (by decide)) rfl (pa_cons (pv 0) pa_nil)))
      (pss_cons (ps_lc (i := 2) sc.nd rfl rfl (N' := ["height","way","levels"]) (M := [none,some 0,some 1]) (lcSc_of (by rfl)) rfl (pi_rangeD rfl B.range (pa_cons (pe_callB (kc_max (K := K)) (by rfl) B.max PyProof.Rows.Boot.«max» (pa_cons (pv 1) pa_nil)) (pa_cons pe_int (pa_cons (pe_un un_neg pe_int) pa_nil)))) (fun _ _ _ _ _ => pg_name (i := 0) (show (["height","way","levels"] : List Str).Nodup by decide +kernel) rfl (Or.inl rfl) (.inr rfl)) (frm_name rfl) (fun _ _ _ _ _ => pts_nil) (fun _ _ _ _ _ => (pe_cal crow_of (hr.mono (by decide)) rfl (pa_cons (pv 1) (pa_cons (pv 2) (pa_cons (pv 0) pa_nil))))))
      (pss_cons (ps_expr (pe_bm PySem.F.plainAttrs_list PySem.F.slot_list_append PySem.F.type_list_append mt_append (pv 2) (pa_cons (pe_bm PySem.F.plainAttrs_str PySem.F.slot_str_join PySem.F.type_str_join (mt_join (K := K)) pe_str (pa_cons (pe_op op_rep (pe_lst (pa_cons pe_str pa_nil)) (pe_callB (kc_len (K := K)) (by rfl) B.len PyProof.Rows.Boot.«len» (pa_cons (pv 0) pa_nil))) pa_nil)) pa_nil)))
      (pss_one (ps_ret (pe_bm PySem.F.plainAttrs_str PySem.F.slot_str_join PySem.F.type_str_join (mt_join (K := K)) pe_str (pa_cons (pv 2) pa_nil))))))),?_⟩
    obtain ⟨w1,w9,w0⟩ := isWay_iff.mp hw
    have f0 := (fresh_pos w0 (fun e => by rw [e] at w1; simp at w1)).1
    have fl := fresh_le ws
    refine ⟨_,rfl,a,ws,rfl,hT.sq,hw,fun r F H2 hr0 s2 hr2 hH => ?_⟩
    obtain ⟨g,g1,g5,gn,hmax,hFl,hhead,hnone⟩ := isH_full hw hH
    have hFne : F ≠ [] := fun e => by rw [e] at hFl; simp at hFl; omega
    have hmg : maxL F = (g : Int) := (maxL_is hFne).uniq hmax
    refine ⟨_,rfl,r,F,rfl,.inl (SqL.of hr2),hFne,fun mx hmx => ?_⟩
    have emx : mx = (g : Int) := hmx.uniq hmax
    subst emx
    refine ⟨_,rfl,_,_,rfl,⟨by omega,by omega,by decide,by decide⟩,lc_it (n := ((g : Int) - 0).toNat) (fun i ys H4 => Same H2 H4 /\ ys = (rowsT ws F (g : Int) i).map V.str) (le_line (by omega)) ⟨Same.refl _,rfl⟩ (fun i ys H4 h _ => h) (fun ys H4 _ => Nat.le_refl _) (fun i ys H4 _ ⟨_,e⟩ => by rw [e,List.length_map,rowsT_length]; exact Nat.le_refl _) ?_ ?_⟩
    · rintro i x ys H4 H5 hi ⟨s4,rfl⟩ ⟨rfl,rfl⟩
      refine lcN ?_
      refine ⟨_,rfl,_,rfl,_,rfl,a,r,ws,F,(g : Int) - i,rfl,(hT.same s2).same s4,hw,s4 r _ hr2,hFl,fun H6 s6 => ?_⟩
      exact ⟨s4.trans s6,by rw [rowsT_succ,List.map_append]; rfl⟩
    rintro ys H4 ⟨s4,rfl⟩ q hq
    rw [show ((g : Int) - 0).toNat = g by omega]
    have s5 := s4.new2 (o := HO.lst ((rowsT ws F (g : Int) g).map V.str)) hq
    have hq5 : upd H4 q (HO.lst ((rowsT ws F (g : Int) g).map V.str)) q = some (.lst ((rowsT ws F (g : Int) g).map V.str)) := upd_same
    generalize upd H4 q (HO.lst ((rowsT ws F (g : Int) g).map V.str)) = H5 at s5 hq5
    have hT5 := (hT.same s2).same s5
    refine ⟨_,rfl,.inl ⟨rfl,_,SqL.of hq5⟩,rfl,?_⟩
    refine ⟨le_line (by decide),fun b hb => ⟨_,rfl,a,_,rfl,.inr (Same.new hb |> fun z => (hT5.same z).sq),?_⟩⟩
    rw [ltm]
    have s6 := Same.new (o := HO.lst [V.str "|"]) hb
    have hb6 : upd H5 b (HO.lst [V.str "|"]) b = some (.lst [V.str "|"]) := upd_same
    have hq6 := s6 q _ hq5
    generalize upd H5 b (HO.lst [V.str "|"]) = H6 at s6 hb6 hq6
    refine ⟨b,_,_,rfl,rfl,hb6,by omega,by omega,le_line (by simp; omega),fun c hc => ?_⟩
    have erep : (List.replicate ((ws.length : Int)).toNat [V.str "|"]).flatten = (List.replicate ws.length ("|" : Str)).map V.str := by
      rw [Int.toNat_natCast]
      generalize ws.length = n
      induction n with
      | zero => rfl
      | succ n ih => rw [List.replicate_succ,List.flatten_cons,ih,List.replicate_succ,List.map_cons]; rfl
    rw [erep]
    have s7 := Same.new (o := HO.lst ((List.replicate ws.length ("|" : Str)).map V.str)) hc
    have hc7 : upd H6 c (HO.lst ((List.replicate ws.length ("|" : Str)).map V.str)) c = some (.lst ((List.replicate ws.length ("|" : Str)).map V.str)) := upd_same
    have hq7 := s7 q _ hq6
    generalize upd H6 c (HO.lst ((List.replicate ws.length ("|" : Str)).map V.str)) = H7 at s7 hc7 hq7
    refine ⟨_,c,_,rfl,rfl,SqL.of hc7,foot_ok (by omega),?_⟩
    refine ⟨q,_,_,rfl,rfl,hq7,lt_line (by rw [List.length_map,rowsT_length]; omega),?_⟩
    have hq8 : upd H7 q (HO.lst ((rowsT ws F (g : Int) g).map V.str ++ [V.str (footT ws.length)])) q = some (.lst ((rowsT ws F (maxL F) (maxL F).toNat ++ [footT ws.length]).map V.str)) := by
      rw [upd_same,hmg,Int.toNat_natCast,List.map_append]; rfl
    refine ⟨rfl,_,rfl,_,q,_,rfl,rfl,SqL.of hq8,mark_ok hw (by rw [hmg]; omega),?_⟩
    exact k F _ hH (((s2.trans s5).trans (s6.trans s7)).put ((s2.trans s4).free hq))
theorem sclot_place : FnScope (["rows","censer","column","level","left"]) (["rows","censer"]) (defScope slot_place) := by trivial
theorem oklot_place {f : Addr} {fd : FuncData} (F : Fun K "lot_place" "lot_place" slot_place f fd) (B : Bs mg) (T : Gs mg)   : FnOk P w K mg base CX0 1 f fd ["rows","censer"] (spPlace2 K) := by
  have sc := sclot_place
  refine F.ok sc (fun vs H Q E h => ?_) (fun cdv A outer s H vs Q E hr h => ?_)
  · obtain ⟨p,R,c,rfl,_⟩ := h; rfl
  · obtain ⟨p,R,c,rfl,hp,hc,hR,hz,hd⟩ := h
    refine ⟨_,(pss_cons (ps_set (i := 2) sc.nd rfl (Or.inl rfl) (pe_op op_mulW pe_int (pv 1)))
      (pss_cons (ps_set (i := 3) sc.nd rfl (Or.inl rfl) pe_int)
      (pss_cons (ps_while PassesOwn.never (PW.pt (pw_and (pt_cmpR op_lt (pv 3) (pe_op op_sub (pe_callB (kc_len (K := K)) (by rfl) B.len PyProof.Rows.Boot.«len» (pa_cons (pv 0) pa_nil)) pe_int) (nomark _)) (pw_and1 (pt_cmpR (kop_in (K := K)) (pe_ix ix_str (pe_ix (kix_list (K := K)) (pv 0) (pv 3) (fun _ _ => rfl)) (pv 2) (fun _ _ => rfl)) (pe_tup (pa_cons pe_str (pa_cons pe_str pa_nil))) rfl))))
      (pss_one (ps_aug (i := 3) sc.nd rfl (Or.inl rfl) pe_int ip_add)))
      (pss_cons (ps_set (i := 4) sc.nd rfl (Or.inl rfl) (pv 2))
      (pss_cons (ps_while PassesOwn.never (PW.pt (pw_and (pt_cmpR op_gt (pv 4) pe_int (nomark _)) (pw_and1 (pt_cmpR op_eq (pe_ix ix_str (pe_ix (kix_list (K := K)) (pv 0) (pv 3) (fun _ _ => rfl)) (pe_op op_sub (pv 4) pe_int) (fun _ _ => rfl)) pe_str (nomark _)))))
      (pss_one (ps_aug (i := 4) sc.nd rfl (Or.inl rfl) pe_int ip_sub)))
      (pss_one (ps_ret (pe_op op_add (pe_op op_mulW (pv 3) (pe_callB call_len_str (by rfl) B.len PyProof.Rows.Boot.«len» (pa_cons (pe_ix (kix_list (K := K)) (pv 0) (pv 3) (fun _ _ => rfl)) pa_nil))) (pv 4))))))))),?_⟩
    rcases hd with ⟨i,j,hP,k⟩ | ⟨hne,hw2,k⟩
    · obtain ⟨hlt,hup,⟨x0,hx0,x45,x32⟩,hjc,hlf,hst⟩ := hP
      have hat : ∀ {i' : Nat},i' < R.length -> atI (R.map V.str) (i' : Int) = some (V.str (R.getD i' "")) := fun {i'} h => atI_nat (by rw [List.getElem?_map,List.getElem?_eq_getElem h,List.getD_eq_getElem?_getD,List.getElem?_eq_getElem h]; rfl)
      have hzl : ∀ i',i' < R.length -> (R.getD i' "").length <= 1000 := fun i' h => by
        rw [List.getD_eq_getElem?_getD,List.getElem?_eq_getElem h]
        exact hz _ (List.getElem_mem h)
      refine ⟨_,rfl,_,_,rfl,rfl,mulOk_l ⟨by decide,by decide⟩,?_⟩
      refine seq_c ?_
      refine seq_c ?_
      refine seq_by (fun σ H2 => σ = [some (.ref p),some (.int (c : Int)),some (.int (2 * (c : Int))),some (.int (i : Int)),none] /\ Same H H2) ?_ ?_
      · rintro σ H2 ⟨rfl,s2⟩
        refine seq_v rfl ?_
        refine seq_by (fun σ H3 => σ = [some (.ref p),some (.int (c : Int)),some (.int (2 * (c : Int))),some (.int (i : Int)),some (.int (2 * (j : Int)))] /\ Same H H3) ?_ ?_
        · rintro σ H3 ⟨rfl,s3⟩
          refine ⟨_,rfl,_,rfl,_,rfl,p,_,_,_,rfl,rfl,SqL.of (s3 p _ hp),hat (by omega),_,rfl,le_line (by have := hzl i (by omega); omega),_,_,rfl,rfl,mulOk_l ⟨by omega,by omega⟩,_,rfl,_,_,rfl,rfl,k _ s3⟩
        · intro N hN
          refine ⟨fun m σ H3 => ∃ (l : Nat),σ = [some (.ref p),some (.int (c : Int)),some (.int (2 * (c : Int))),some (.int (i : Int)),some (.int (2 * (l : Int)))] /\ Same H H3 /\ j <= l /\ l <= c /\ m = l - j,⟨c - j,c,rfl,s2,hjc,Nat.le_refl _,rfl⟩,?_⟩
          rintro m σ H3 ⟨l,rfl,s3,hl1,hl2,rfl⟩
          have hp3 := s3 p _ hp
          refine ⟨_,rfl,_,_,rfl,rfl,_,rfl,ite2 (fun g => ?_) (fun g => ?_)⟩
          · have g : (0 : Int) < 2 * (l : Int) := of_decide_eq_true g
            obtain ⟨x,hx,hb⟩ : ∃ x,chS R i (2 * l - 1) = some x /\ (x = 45 ↔ j < l) := by
              by_cases e : j < l
              · exact ⟨45,hlf l e hl2,by simp [e]⟩
              · have e2 : l = j := by omega
                subst e2
                rcases hst with z | ⟨x,h1,h2⟩
                · omega
                · exact ⟨x,h1,by simp [h2]⟩
            have hxa : atI (R.getD i "").cps.toList (2 * (l : Int) - 1) = some x := by
              have e : 2 * (l : Int) - 1 = ((2 * l - 1 : Nat) : Int) := by omega
              rw [e]; exact atI_nat hx
            refine ⟨_,rfl,_,rfl,p,_,_,_,rfl,rfl,SqL.of hp3,hat (by omega),_,rfl,_,_,rfl,rfl,_,_,_,rfl,rfl,le_line (by have := hzl i (by omega); omega),hxa,rfl,_,rfl,ite2 (fun g2 => ?_) (fun g2 => ?_)⟩
            · have hjl := hb.mp ((one_str (by decide)).mp (of_decide_eq_true g2))
              refine ⟨_,fun σ' H' h => h,?_⟩
              refine ⟨_,rfl,_,_,rfl,rfl,?_⟩
              refine ⟨l - 1 - j,by omega,l - 1,?_,s3,by omega,by omega,rfl⟩
              have e : 2 * (l : Int) - 2 = 2 * ((l - 1 : Nat) : Int) := by omega
              rw [<- e]; rfl
            · have e : l = j := by
                refine Classical.byContradiction fun z => g2 (decide_eq_true ((one_str (by decide)).mpr (hb.mpr (by omega))))
              subst e
              exact hN _ _ ⟨rfl,s3⟩
          · have g : ¬ (0 : Int) < 2 * (l : Int) := fun z => g (decide_eq_true z)
            have e : l = j := by omega
            subst e
            exact iteF (hN _ _ ⟨rfl,s3⟩)
      · intro N hN
        refine ⟨fun m σ H2 => ∃ (l : Nat),σ = [some (.ref p),some (.int (c : Int)),some (.int (2 * (c : Int))),some (.int (l : Int)),none] /\ Same H H2 /\ l <= i /\ m = i - l,⟨i,0,rfl,Same.refl _,Nat.zero_le _,rfl⟩,?_⟩
        rintro m σ H2 ⟨l,rfl,s2,hl,rfl⟩
        have hp2 := s2 p _ hp
        refine ⟨_,rfl,_,rfl,p,_,rfl,.inl (SqL.of hp2),_,_,rfl,rfl,_,_,rfl,rfl,_,rfl,?_⟩
        rw [List.length_map]
        refine ite2 (fun _ => ?_) (fun z => absurd (decide_eq_true (by omega)) z)
        obtain ⟨x,hx,hb⟩ : ∃ x,chS R l (2 * c) = some x /\ ((x = 45 \/ x = 32) ↔ l < i) := by
          by_cases e : l < i
          · rcases hup l e with h | h
            · exact ⟨45,h,by simp [e]⟩
            · exact ⟨32,h,by simp [e]⟩
          · have e2 : l = i := by omega
            subst e2
            exact ⟨x0,hx0,by simp [x45,x32]⟩
        have hxa : atI (R.getD l "").cps.toList (2 * (c : Int)) = some x := by
          have e : 2 * (c : Int) = ((2 * c : Nat) : Int) := by omega
          rw [e]; exact atI_nat hx
        refine ⟨_,rfl,_,rfl,p,_,_,_,rfl,rfl,SqL.of hp2,hat (by omega),_,rfl,_,_,_,rfl,rfl,le_line (by have := hzl l (by omega); omega),hxa,le_line (by simp),fun q hq => ⟨q,_,rfl,.inr (SqT.of upd_same),rfl,rfl,_,rfl,?_⟩⟩
        have s3 := s2.new2 (o := HO.tup [V.str "-",V.str " "]) hq
        have hin := in_two x
        refine ite2 (fun g2 => ?_) (fun g2 => ?_)
        · have g2 : inV (V.str ⟨#[x]⟩) [V.str "-",V.str " "] = true := g2
          rw [hin] at g2
          have hli := hb.mp (of_decide_eq_true g2)
          refine ⟨_,fun σ' H' h => h,?_⟩
          refine ⟨_,rfl,_,_,rfl,rfl,?_⟩
          exact ⟨i - (l + 1),by omega,l + 1,rfl,s3,by omega,rfl⟩
        · have g2 : ¬ inV (V.str ⟨#[x]⟩) [V.str "-",V.str " "] = true := g2
          rw [hin] at g2
          have e : l = i := Classical.byContradiction fun z => g2 (decide_eq_true (hb.mpr (by omega)))
          subst e
          exact hN _ _ ⟨rfl,s3⟩
    · have hr0 : 0 < R.length := List.length_pos_iff.mpr hne
      have hzl : ∀ i',i' < R.length -> 2 * c < (R.getD i' "").length /\ (R.getD i' "").length <= 1000 := fun i' h => by
        rw [List.getD_eq_getElem?_getD,List.getElem?_eq_getElem h]
        exact ⟨hw2 _ (List.getElem_mem h),hz _ (List.getElem_mem h)⟩
      have hch : ∀ i' j',i' < R.length -> j' <= 2 * c -> ∃ x,atI (R.getD i' "").cps.toList ((j' : Nat) : Int) = some x := fun i' j' h h2 => by
        have hlt : j' < (R.getD i' "").cps.toList.length := by
          have := (hzl i' h).1
          have e : (R.getD i' "").cps.toList.length = (R.getD i' "").length := by simp [Str.length]
          omega
        exact ⟨_,atI_nat (List.getElem?_eq_getElem hlt)⟩
      refine ⟨_,rfl,_,_,rfl,rfl,mulOk_l ⟨by decide,by decide⟩,?_⟩
      refine seq_c ?_
      refine seq_c ?_
      refine seq_by (fun σ H2 => ∃ l : Nat,l < R.length /\ σ = [some (.ref p),some (.int (c : Int)),some (.int (2 * (c : Int))),some (.int (l : Int)),none] /\ Same H H2) ?_ ?_
      · rintro σ H2 ⟨l,hl,rfl,s2⟩
        refine seq_v rfl ?_
        refine seq_by (fun σ H3 => ∃ m : Nat,m <= c /\ σ = [some (.ref p),some (.int (c : Int)),some (.int (2 * (c : Int))),some (.int (l : Int)),some (.int (2 * (m : Int)))] /\ Same H H3) ?_ ?_
        · rintro σ H3 ⟨m,hm,rfl,s3⟩
          refine ⟨_,rfl,_,rfl,_,rfl,p,_,_,_,rfl,rfl,SqL.of (s3 p _ hp),atI_strs hl,_,rfl,le_line (by have := (hzl l hl).2; omega),_,_,rfl,rfl,mulOk_l ⟨by omega,by omega⟩,_,rfl,_,_,rfl,rfl,k _ _ s3⟩
        · intro N hN
          refine ⟨fun m σ H3 => m <= c /\ σ = [some (.ref p),some (.int (c : Int)),some (.int (2 * (c : Int))),some (.int (l : Int)),some (.int (2 * (m : Int)))] /\ Same H H3,⟨c,Nat.le_refl _,rfl,s2⟩,?_⟩
          rintro m σ H3 ⟨hm,rfl,s3⟩
          have hp3 := s3 p _ hp
          refine ⟨_,rfl,_,_,rfl,rfl,_,rfl,ite2 (fun g => ?_) (fun g => iteF (hN _ _ ⟨m,hm,rfl,s3⟩))⟩
          have g : (0 : Int) < 2 * (m : Int) := of_decide_eq_true g
          obtain ⟨x,hx⟩ := hch l (2 * m - 1) hl (by omega)
          have hxa : atI (R.getD l "").cps.toList (2 * (m : Int) - 1) = some x := by
            have e : 2 * (m : Int) - 1 = ((2 * m - 1 : Nat) : Int) := by omega
            rw [e]; exact hx
          refine ⟨_,rfl,_,rfl,p,_,_,_,rfl,rfl,SqL.of hp3,atI_strs hl,_,rfl,_,_,rfl,rfl,_,_,_,rfl,rfl,le_line (by have := (hzl l hl).2; omega),hxa,rfl,_,rfl,ite2 (fun g2 => ?_) (fun g2 => hN _ _ ⟨m,hm,rfl,s3⟩)⟩
          refine ⟨_,fun σ' H' h => h,?_⟩
          refine ⟨_,rfl,_,_,rfl,rfl,?_⟩
          refine ⟨m - 1,by omega,by omega,?_,s3⟩
          have e : 2 * (m : Int) - 2 = 2 * ((m - 1 : Nat) : Int) := by omega
          rw [<- e]; rfl
      · intro N hN
        refine ⟨fun m σ H2 => ∃ (l : Nat),l < R.length /\ σ = [some (.ref p),some (.int (c : Int)),some (.int (2 * (c : Int))),some (.int (l : Int)),none] /\ Same H H2 /\ m = R.length - l,⟨_,0,hr0,rfl,Same.refl _,rfl⟩,?_⟩
        rintro m σ H2 ⟨l,hl,rfl,s2,rfl⟩
        have hp2 := s2 p _ hp
        refine ⟨_,rfl,_,rfl,p,_,rfl,.inl (SqL.of hp2),_,_,rfl,rfl,_,_,rfl,rfl,_,rfl,?_⟩
        rw [List.length_map]
        refine ite2 (fun g => ?_) (fun g => iteF (hN _ _ ⟨l,hl,rfl,s2⟩))
        have g : (l : Int) < (R.length : Int) - 1 := of_decide_eq_true g
        obtain ⟨x,hx⟩ := hch l (2 * c) hl (Nat.le_refl _)
        have hxa : atI (R.getD l "").cps.toList (2 * (c : Int)) = some x := by
          have e : 2 * (c : Int) = ((2 * c : Nat) : Int) := by omega
          rw [e]; exact hx
        refine ⟨_,rfl,_,rfl,p,_,_,_,rfl,rfl,SqL.of hp2,atI_strs hl,_,rfl,_,_,_,rfl,rfl,le_line (by have := (hzl l hl).2; omega),hxa,le_line (by simp),fun q hq => ⟨q,_,rfl,.inr (SqT.of upd_same),rfl,rfl,_,rfl,?_⟩⟩
        have s3 := s2.new2 (o := HO.tup [V.str "-",V.str " "]) hq
        refine ite2 (fun g2 => ?_) (fun g2 => hN _ _ ⟨l,hl,rfl,s3⟩)
        refine ⟨_,fun σ' H' h => h,?_⟩
        refine ⟨_,rfl,_,_,rfl,rfl,?_⟩
        exact ⟨R.length - (l + 1),by omega,l + 1,by omega,rfl,s3,rfl⟩
theorem scread_mark : FnScope (["text","rows","width","censers","way"]) (["text"]) (defScope sread_mark) := by trivial
theorem okread_mark {f : Addr} {fd : FuncData} (F : Fun K "read_mark" "read_mark" sread_mark f fd) (B : Bs mg) (T : Gs mg) (mBadMark : mg "BadMark" = some (.ref CBadMark)) (qBadMark : PySem.W.excIn K CBadMark bmV "ValueError.__new__" = true)  (clot_place : Cal P w K mg base 1 "lot_place" [] (spPlace2 K)) (cmark : Cal P w K mg base 20 "mark" [] (spMark K)) (cway_of : Cal P w K mg base 1 "way_of" [] (spWayOfO K)) : FnOk P w K mg base (CXE P w) 21 f fd ["text"] (spRead2 K CBadMark) := by
  have sc := scread_mark
  refine F.okE sc (fun vs H Q E h => ?_) (fun cdv A outer s H vs Q E hr F0 h => ?_)
  · obtain ⟨t,rfl,_⟩ := h; rfl
  · obtain ⟨tM,gMOST_CENSERS⟩ := T.MOST_CENSERS
    obtain ⟨t,rfl,ht,hd⟩ := h
    refine ⟨_,(pss_cons (ps_set (i := 1) sc.nd rfl (Or.inr rfl) (pe_bm PySem.F.plainAttrs_str PySem.F.slot_str_split PySem.F.type_str_split mt_split (pv 0) (pa_cons pe_str pa_nil)))
      (pss_cons (ps_set (i := 2) sc.nd rfl (Or.inr rfl) (pe_callB call_len_str (by rfl) B.len PyProof.Rows.Boot.«len» (pa_cons (pe_ix (kix_list (K := K)) (pv 1) (pe_un un_neg pe_int) (fun _ _ => rfl)) pa_nil)))
      (pss_cons (ps_set (i := 3) sc.nd rfl (Or.inl rfl) (pe_op op_fdivW (pe_op op_add (pv 2) pe_int) pe_int))
      (pss_cons (ps_if (PW.pt (pw_or (pt_not (pt_chain op_le op_le pe_int (pv 3) (pe_glob (v := .int 9) rfl gMOST_CENSERS ⟨_,rfl⟩))) (pw_or1 (pt_val (pe_callB (kc_any (K := K)) (by rfl) B.any PyProof.Rows.Boot.«any» (pa_cons (pe_lc (N' := ["row","width"]) (M := [none,some 2]) (lcSc_of (by rfl)) rfl (kpi_list (K := K) (pv 1)) (fun _ _ _ _ _ => pg_name (i := 0) (show (["row","width"] : List Str).Nodup by decide +kernel) rfl (Or.inl rfl) (.inr rfl)) (frm_name rfl) (fun _ _ _ _ _ => pts_nil) (fun _ _ _ _ _ => (pe_cmpR op_ne (pe_callB call_len_str (by rfl) B.len PyProof.Rows.Boot.«len» (pa_cons (pv 0) pa_nil)) (pv 1) (nomark _)))) pa_nil)))))) (pss_one (ps_raise F0 rfl rfl mBadMark qBadMark (pa_cons pe_str pa_nil))) pss_nil)
      (pss_cons (ps_set (i := 4) sc.nd rfl (Or.inl rfl) (pe_cal cway_of (hr.mono (by decide)) rfl (pa_cons (pe_lc (N' := ["censer","rows"]) (M := [none,some 1]) (lcSc_of (by rfl)) rfl (pi_range1 rfl B.range (pa_cons (pv 3) pa_nil)) (fun _ _ _ _ _ => pg_name (i := 0) (show (["censer","rows"] : List Str).Nodup by decide +kernel) rfl (Or.inl rfl) (.inr rfl)) (frm_name rfl) (fun _ _ _ _ _ => pts_nil) (fun _ _ _ _ _ => (pe_cal clot_place (hr.mono (by decide)) rfl (pa_cons (pv 1) (pa_cons (pv 0) pa_nil))))) pa_nil)))
      (pss_cons (ps_if (pt_cmpR op_ne (pe_cal cmark (hr.mono (by decide)) rfl (pa_cons (pv 4) pa_nil)) (pv 0) (nomark _)) (pss_one (ps_raise F0 rfl rfl mBadMark qBadMark (pa_cons pe_str pa_nil))) pss_nil)
      (pss_one (ps_ret (pv 4))))))))),?_⟩
    rcases hd with ⟨ws,F,rfl,hw,hH,k⟩ | ⟨hno,k⟩
    · obtain ⟨w1,w9,w0⟩ := isWay_iff.mp hw
      have f0 := (fresh_pos w0 (fun e => by rw [e] at w1; simp at w1)).1
      obtain ⟨g,g1,g5,gn,hmax,hFl,hhead,hnone⟩ := isH_full hw hH
      have hFne : F ≠ [] := fun e => by rw [e] at hFl; simp at hFl; omega
      have hmg : maxL F = (g : Int) := (maxL_is hFne).uniq hmax
      have hRl := rowsM_len ws F
      have hml : (markT ws F).length <= 100000 := mark_len hw (by rw [hmg]; omega)
      rw [hmg,Int.toNat_natCast] at hRl
      have hRm := rowsM_mem (F := F) hw
      refine ⟨_,rfl,rfl,_,_,rfl,rfl,by decide,hml,by rw [mark_split hw,hRl]; omega,fun p hp => ?_⟩
      rw [mark_split hw]
      have s1 := Same.new (o := HO.lst ((rowsM ws F).map V.str)) hp
      have hp1 : upd H p (HO.lst ((rowsM ws F).map V.str)) p = some (.lst ((rowsM ws F).map V.str)) := upd_same
      generalize upd H p (HO.lst ((rowsM ws F).map V.str)) = H1 at s1 hp1
      have hlast : atI ((rowsM ws F).map V.str) (-1) = some (V.str (footT ws.length)) := by
        unfold rowsM
        rw [List.map_append]
        exact atI_last _ _
      have hfl := (hRm (footT ws.length) (by unfold rowsM; simp)).1
      refine ⟨_,rfl,_,rfl,p,_,_,_,rfl,rfl,SqL.of hp1,hlast,_,rfl,le_line (by omega),?_⟩
      rw [hfl]
      refine ⟨_,rfl,_,_,rfl,rfl,_,_,rfl,rfl,⟨by decide,by decide⟩,?_⟩
      have e2 : (((2 * ws.length - 1 : Nat) : Int) + 1) / 2 = (ws.length : Int) := by omega
      dsimp only
      rw [e2]
      refine ⟨_,rfl,_,_,rfl,rfl,_,rfl,?_⟩
      rw [if_pos (show decide ((1 : Int) <= (ws.length : Int)) = true from decide_eq_true (by omega))]
      refine ⟨_,_,rfl,rfl,_,rfl,?_⟩
      rw [show decide ((ws.length : Int) <= 9) = true from decide_eq_true (by omega)]
      refine iteF ?_
      refine ⟨_,rfl,p,rfl,⟨_,SqL.of hp1⟩,lc_list (xs := (rowsM ws F).map V.str) (fun j ys H2 => H2 = H1 /\ ys = (List.replicate j false).map V.bl) (le_line (by rw [List.length_map]; omega)) ⟨rfl,rfl⟩
        (fun j ys H2 _ ⟨e,e2⟩ => ⟨by rw [e]; exact SqL.of hp1,by rw [e2,List.length_map,List.length_replicate]; omega⟩) ?_ ?_⟩
      · rintro j y ys H2 hj ⟨rfl,rfl⟩
        rw [List.getElem?_map] at hj
        obtain ⟨z,hz,rfl⟩ : ∃ z,(rowsM ws F)[j]? = some z /\ y = V.str z := by
          cases e : (rowsM ws F)[j]? with
          | none => rw [e] at hj; cases hj
          | some z => rw [e] at hj; cases hj; exact ⟨z,rfl,rfl⟩
        have hzl := (hRm z (List.mem_of_getElem? hz)).1
        refine lcN ?_
        refine ⟨_,rfl,_,rfl,le_line (by omega),?_⟩
        rw [hzl]
        refine ⟨_,rfl,rfl,rfl,?_⟩
        rw [List.replicate_succ',List.map_append]
        show _ ++ [V.bl (!decide (V.int _ = V.int _))] = _
        rw [decide_eq_true rfl]; rfl
      rintro ys H2 ⟨rfl,rfl⟩ b hb
      have s2 := Same.new (o := HO.lst ((List.replicate ((rowsM ws F).map V.str).length false).map V.bl)) hb
      have hb2 : upd H2 b (HO.lst ((List.replicate ((rowsM ws F).map V.str).length false).map V.bl)) b = some (.lst ((List.replicate ((rowsM ws F).map V.str).length false).map V.bl)) := upd_same
      generalize upd H2 b (HO.lst ((List.replicate ((rowsM ws F).map V.str).length false).map V.bl)) = H3 at s2 hb2
      refine ⟨b,_,rfl,.inl (SqL.of hb2),_,rfl,?_⟩
      rw [show (List.replicate ((rowsM ws F).map V.str).length false).any id = false by simp]
      refine iteF ?_
      have hp3 := s2 p _ hp1
      refine ⟨_,rfl,_,rfl,by omega,by omega,lc_range (lo := 0) (n := ((ws.length : Int)).toNat) (fun j ys H4 => Same H3 H4 /\ ys = ((lpR ws F).take j).map V.int) (le_line (by omega)) ⟨Same.refl _,rfl⟩
        (fun j ys H4 _ ⟨_,e⟩ => by rw [e,List.length_map,List.length_take]; omega) ?_ ?_⟩
      · rintro j ys H4 hj ⟨s4,rfl⟩
        have hjn : j < ws.length := by omega
        obtain ⟨u0,u9,uf⟩ := way_small hw hjn
        obtain ⟨m,hm⟩ : ∃ m : Nat,ws.getD j 0 = (m : Int) := ⟨(ws.getD j 0).toNat,by omega⟩
        obtain ⟨hP,h1,h2,hmn⟩ := place_mark hw hH hjn hm
        refine lcN ?_
        have ez : (0 : Int) + (j : Int) = (j : Int) := Int.zero_add _
        rw [ez]
        refine ⟨_,rfl,_,rfl,p,rowsM ws F,j,rfl,s4 p _ hp3,by omega,by omega,fun z hz => by have := (hRm z hz).1; omega,.inl ⟨_,_,hP,fun H5 s5 => ?_⟩⟩
        refine ⟨s4.trans s5,?_⟩
        have hlp : (lpR ws F)[j]? = some (lpL ws F m) := by
          unfold lpR
          have e : ws[j]? = some (m : Int) := by
            rw [List.getElem?_eq_getElem hjn]
            rw [List.getD_eq_getElem?_getD,List.getElem?_eq_getElem hjn] at hm
            exact congrArg some hm
          rw [List.getElem?_map,e]; rfl
        rw [take_snoc hlp,List.map_append]
        have hrl : ((rowsM ws F).getD ((maxL F).toNat - (F.getD m 0).toNat) "").length = 2 * ws.length - 1 := by
          have hlt := hP.lt
          rw [List.getD_eq_getElem?_getD,List.getElem?_eq_getElem (by omega)]
          exact (hRm _ (List.getElem_mem _)).1
        rw [hrl]; rfl
      rintro ys H4 ⟨s4,rfl⟩ q hq
      have hll : (lpR ws F).length = ws.length := by unfold lpR; rw [List.length_map]
      rw [show ((ws.length : Int)).toNat = (lpR ws F).length by omega,List.take_length]
      have s5 := s4.new2 (o := HO.lst ((lpR ws F).map V.int)) hq
      have hq5 : upd H4 q (HO.lst ((lpR ws F).map V.int)) q = some (.lst ((lpR ws F).map V.int)) := upd_same
      generalize upd H4 q (HO.lst ((lpR ws F).map V.int)) = H5 at s5 hq5
      refine ⟨q,lpR ws F,rfl,SqL.of hq5,by omega,by omega,.inr fun r H6 _ s6 hr => ?_⟩
      rw [lp_way hw] at hr
      refine ⟨_,rfl,r,ws,rfl,hr,hw,fun G H7 hG s7 => ?_⟩
      rw [isH_uniq hG hH]
      refine ⟨_,rfl,rfl,_,rfl,iteNS rfl ?_⟩
      exact ⟨_,rfl,k r _ ((((s1.trans s2).trans s5).trans s6).trans s7) (hr.same s7)⟩
    · obtain ⟨hne,hRl,hRz,_⟩ := split_small t
      refine ⟨_,rfl,rfl,_,_,rfl,rfl,by decide,by omega,by omega,fun p hp => ?_⟩
      generalize Txt.split t "\n" = R at hne hRl hRz
      have s1 := Same.new (o := HO.lst (R.map V.str)) hp
      have hp1 : upd H p (HO.lst (R.map V.str)) p = some (.lst (R.map V.str)) := upd_same
      generalize upd H p (HO.lst (R.map V.str)) = H1 at s1 hp1
      have hWl := hRz _ (List.getLast_mem hne)
      refine ⟨_,rfl,_,rfl,p,_,_,_,rfl,rfl,SqL.of hp1,atI_lastS hne,_,rfl,le_line (by omega),?_⟩
      generalize hW : (R.getLast hne).length = W at hWl
      refine ⟨_,rfl,_,_,rfl,rfl,_,_,rfl,rfl,⟨by decide,by decide⟩,?_⟩
      dsimp only
      generalize hn : ((W : Int) + 1) / 2 = n
      refine ⟨_,rfl,_,_,rfl,rfl,_,rfl,?_⟩
      by_cases g1 : 1 <= n
      case neg =>
        rw [if_neg (fun z => g1 (of_decide_eq_true z))]
        exact ⟨_,rfl,iteT (iteT ⟨le_line (by simp),k _ s1⟩)⟩
      rw [if_pos (decide_eq_true g1)]
      refine ⟨_,_,rfl,rfl,_,rfl,?_⟩
      by_cases g9 : n <= 9
      case neg =>
        rw [decide_eq_false g9]
        exact iteT (iteT ⟨le_line (by simp),k _ s1⟩)
      rw [decide_eq_true g9]
      refine iteF ?_
      refine ⟨_,rfl,p,rfl,⟨_,SqL.of hp1⟩,lc_list (xs := R.map V.str) (fun j ys H2 => H2 = H1 /\ ys = ((R.take j).map fun z => !decide (V.int (z.length : Int) = V.int (W : Int))).map V.bl) (le_line (by rw [List.length_map]; omega)) ⟨rfl,rfl⟩
        (fun j ys H2 _ ⟨e,e2⟩ => ⟨by rw [e]; exact SqL.of hp1,by rw [e2,List.length_map,List.length_map,List.length_take]; omega⟩) ?_ ?_⟩
      · rintro j y ys H2 hj ⟨rfl,rfl⟩
        obtain ⟨z,rfl,hz,_⟩ := getStr hj
        have hzl := hRz z (List.mem_of_getElem? hz)
        refine lcN ?_
        refine ⟨_,rfl,_,rfl,le_line (by omega),?_⟩
        refine ⟨_,rfl,rfl,rfl,?_⟩
        rw [take_snoc hz,List.map_append,List.map_append]; rfl
      rintro ys H2 ⟨rfl,rfl⟩ b hb
      rw [List.length_map,List.take_length]
      generalize hB : (R.map fun z => !decide (V.int (z.length : Int) = V.int (W : Int))) = bs
      have s2 := Same.new (o := HO.lst (bs.map V.bl)) hb
      have hb2 : upd H2 b (HO.lst (bs.map V.bl)) b = some (.lst (bs.map V.bl)) := upd_same
      generalize upd H2 b (HO.lst (bs.map V.bl)) = H3 at s2 hb2
      refine ⟨b,bs,rfl,.inl (SqL.of hb2),_,rfl,?_⟩
      by_cases hall : bs.any id = true
      · rw [hall]
        exact iteT ⟨le_line (by simp),k _ (s1.trans s2)⟩
      rw [Bool.eq_false_iff.mpr hall]
      refine iteF ?_
      have hlen : ∀ z ∈ R,z.length = W := fun z hz => by
        refine Classical.byContradiction fun q => hall ?_
        rw [<- hB,List.any_map,List.any_eq_true]
        refine ⟨z,hz,?_⟩
        show (!decide (V.int (z.length : Int) = V.int (W : Int))) = true
        rw [decide_eq_false (fun e => q (by have := V.int.inj e; omega))]; rfl
      have hp3 := s2 p _ hp1
      refine ⟨_,rfl,_,rfl,by omega,by omega,lc_range (lo := 0) (n := n.toNat) (fun j ys H4 => Same H3 H4 /\ ∃ vs : List Int,ys = vs.map V.int /\ vs.length = j) (le_line (by omega)) ⟨Same.refl _,[],rfl,rfl⟩
        (fun j ys H4 _ ⟨_,vs,e,e2⟩ => by rw [e,List.length_map,e2]; exact Nat.le_refl _) ?_ ?_⟩
      · rintro j ys H4 hj ⟨s4,vs,rfl,hvl⟩
        refine lcN ?_
        have ez : (0 : Int) + (j : Int) = (j : Int) := Int.zero_add _
        rw [ez]
        refine ⟨_,rfl,_,rfl,p,R,j,rfl,s4 p _ hp3,by omega,by omega,fun z hz => by have := hlen z hz; omega,.inr ⟨hne,fun z hz => by have := hlen z hz; omega,fun v H5 s5 => ?_⟩⟩
        exact ⟨s4.trans s5,vs ++ [v],by rw [List.map_append]; rfl,by rw [List.length_append,hvl]; rfl⟩
      rintro ys H4 ⟨s4,vs,rfl,hvl⟩ q hq
      have s5 := s4.new2 (o := HO.lst (vs.map V.int)) hq
      have hq5 : upd H4 q (HO.lst (vs.map V.int)) q = some (.lst (vs.map V.int)) := upd_same
      generalize upd H4 q (HO.lst (vs.map V.int)) = H5 at s5 hq5
      refine ⟨q,vs,rfl,SqL.of hq5,by omega,by omega,.inr fun r H6 _ s6 hr => ?_⟩
      have hw0 := numRow_isWay (xs := vs) (by omega) (by omega)
      refine ⟨_,rfl,r,numRow vs,rfl,hr,hw0,fun G H7 hG s7 => ?_⟩
      refine ⟨_,rfl,rfl,_,rfl,?_⟩
      rw [show decide (V.str (markT (numRow vs) G) = V.str t) = false from decide_eq_false fun e => hno _ _ hw0 hG (V.str.inj e).symm]
      exact iteT ⟨le_line (by simp),k _ ((((s1.trans s2).trans s5).trans s6).trans s7)⟩
theorem sc_law_num : FnScope (["_law_found"]) (["_law_found"]) (defScope s_law_num) := by trivial
theorem ok_law_num {f : Addr} {fd : FuncData} (F : Fun K "_law_num" "_law_num" s_law_num f fd) (B : Bs mg) (T : Gs mg)   : FnOk P w K mg base CX0 1 f fd ["_law_found"] spNum := by
  have sc := sc_law_num
  refine F.ok sc (fun vs H Q E h => ?_) (fun cdv A outer s H vs Q E hr h => ?_)
  · obtain ⟨z,rfl,_⟩ := h; rfl
  · obtain ⟨z,rfl,k⟩ := h
    refine ⟨_,(pss_one (ps_ret (pe_and (pe_callB (kc_isi (K := K)) (by rfl) B.isinstance PyProof.Rows.Boot.«isinstance» (pa_cons (pv 0) (pa_cons (pe_bltn (v := .ty "int") rfl B.int PyProof.Rows.Boot.«int» rfl) pa_nil))) (pe_one (pe_not (pe_callB (kc_isi (K := K)) (by rfl) B.isinstance PyProof.Rows.Boot.«isinstance» (pa_cons (pv 0) (pa_cons (pe_bltn (v := .ty "bool") rfl B.bool PyProof.Rows.Boot.«bool» rfl) pa_nil)))))))),?_⟩
    refine ⟨_,rfl,.int z,"int",_,true,rfl,TyOf.int z,rfl,_,rfl,iteT ?_⟩
    exact ⟨_,rfl,.int z,"bool",_,false,rfl,TyOf.int z,rfl,_,rfl,k⟩
theorem sc_law_row_ok : FnScope (["_law_row"]) (["_law_row"]) (defScope s_law_row_ok) := by trivial
theorem ok_law_row_ok {f : Addr} {fd : FuncData} (F : Fun K "_law_row_ok" "_law_row_ok" s_law_row_ok f fd) (B : Bs mg) (T : Gs mg)   : FnOk P w K mg base CX0 1 f fd ["_law_row"] (spRowOk K) := by
  have sc := sc_law_row_ok
  refine F.ok sc (fun vs H Q E h => ?_) (fun cdv A outer s H vs Q E hr h => ?_)
  · obtain ⟨a,ns,rfl,_⟩ := h; rfl
  · obtain ⟨a,ns,rfl,hS,hln,k⟩ := h
    refine ⟨_,(pss_cons (ps_if (PW.pt (pw_or (pt_not (pt_chain op_le op_le pe_int (pe_callB (kc_len (K := K)) (by rfl) B.len PyProof.Rows.Boot.«len» (pa_cons (pv 0) pa_nil)) pe_int)) (pw_or1 (pt_cmpR op_ne (pe_ix (kix_tup (K := K)) (pv 0) pe_int (fun _ _ => rfl)) pe_int (nomark _))))) (pss_one (ps_ret pe_bl)) pss_nil)
      (pss_one (ps_ret (pe_callB (kc_all (K := K)) (by rfl) B.all PyProof.Rows.Boot.«all» (pa_cons (pe_lc (N' := ["_law_k","_law_row"]) (M := [none,some 0]) (lcSc_of (by rfl)) rfl (pi_range2 rfl B.range (pa_cons pe_int (pa_cons (pe_callB (kc_len (K := K)) (by rfl) B.len PyProof.Rows.Boot.«len» (pa_cons (pv 0) pa_nil)) pa_nil))) (fun _ _ _ _ _ => pg_name (i := 0) (show (["_law_k","_law_row"] : List Str).Nodup by decide +kernel) rfl (Or.inl rfl) (.inr rfl)) (frm_name rfl) (fun _ _ _ _ _ => pts_nil) (fun _ _ _ _ _ => (pe_chain op_le op_le pe_int (pe_ix (kix_tup (K := K)) (pv 1) (pv 0) (fun _ _ => rfl)) (pe_op op_add (pe_callB (kc_max (K := K)) (by rfl) B.max PyProof.Rows.Boot.«max» (pa_cons (pe_slice (ksl_tup (K := K)) (pv 1) po_none (po_some (pv 0))) pa_nil)) pe_int)))) pa_nil))))),?_⟩
    refine ⟨_,rfl,a,_,rfl,.inr hS,_,_,rfl,rfl,_,rfl,?_⟩
    rw [ltm]
    have no : ¬ (1 <= ns.length /\ ns.length <= 9) -> rowOk ns = false := fun z => by
      unfold rowOk
      rw [<- Bool.decide_and,decide_eq_false z]; rfl
    refine ite2 (fun h1 => ⟨_,_,rfl,rfl,_,rfl,ite2 (fun h2 => iteT ?_) (fun h2 => ?_)⟩) (fun h1 => ⟨_,rfl,iteT (iteT ?_)⟩)
    · have k := k H (Same.refl H)
      rw [no (by simp at h2; omega)] at k
      exact k
    · have h1 : (1 : Int) <= (ns.length : Int) := of_decide_eq_true h1
      have h2 : (ns.length : Int) <= 9 := by simp at h2; omega
      have e0 : rowOk ns = (decide (ns.getD 0 1 = 0) && rowAll ns) := by
        unfold rowOk
        rw [decide_eq_true (show 1 <= ns.length by omega),decide_eq_true (show ns.length <= 9 by omega)]; rfl
      have hp0 : 0 < ns.length := by omega
      have g0 : ns.getD 0 1 = ns.getD 0 0 := by
        rw [List.getD_eq_getElem?_getD,List.getD_eq_getElem?_getD,List.getElem?_eq_getElem hp0]; rfl
      rw [e0,g0] at k
      refine ⟨_,rfl,a,_,_,_,rfl,rfl,hS,atI_lt (i := 0) (by decide) (by omega),rfl,_,rfl,ite2 (fun g => ?_) (fun g => ?_)⟩
      · have g : ¬ ns.getD 0 0 = 0 := fun e => by
          have e' : ns.getD (0 : Int).toNat 0 = 0 := e
          rw [e'] at g
          exact absurd g (by decide)
        have k := k H (Same.refl H)
        rw [decide_eq_false g,Bool.false_and] at k
        exact k
      · have g : ns.getD 0 0 = 0 := by
          have g' : ¬ (!decide (V.int (ns.getD 0 0) = V.int 0)) = true := g
          rw [Bool.not_eq_true,Bool.not_eq_false'] at g'
          exact V.int.inj (of_decide_eq_true g')
        rw [decide_eq_true g,Bool.true_and] at k
        refine ⟨_,rfl,a,_,rfl,.inr hS,_,_,rfl,⟨by decide,by decide,by rw [ltm]; omega,by rw [ltm]; omega⟩,?_⟩
        rw [ltm,show ((ns.length : Int) - 1).toNat = ns.length - 1 by omega]
        refine lc_range (fun i ys H2 => Same H H2 /\ ys = (List.range i).map fun j => V.bl (decide (0 <= ns.getD (j + 1) 0) && decide (ns.getD (j + 1) 0 <= maxL (ns.take (j + 1)) + 1))) (le_line (by omega)) ⟨Same.refl H,rfl⟩
          (fun i ys H2 _ h => by rw [h.2,List.length_map,List.length_range]; exact Nat.le_refl _) ?_ ?_
        · rintro i ys H2 hi ⟨s2,rfl⟩
          have e1 : (1 : Int) + (i : Int) = ((i + 1 : Nat) : Int) := by omega
          have hS2 := s2.seqT hS
          rw [e1]
          refine lcN ?_
          refine ⟨_,rfl,_,rfl,a,_,_,_,rfl,rfl,hS2,atI_lt (by omega) (by omega),_,_,rfl,rfl,_,rfl,?_⟩
          rw [Int.toNat_natCast]
          refine ite2 (fun g1 => ?_) (fun g1 => ?_)
          · refine ⟨_,rfl,_,rfl,_,rfl,a,_,rfl,hS2,fun p H3 s3 hp3 => ?_⟩
            rw [cut_take_int] at hp3
            refine ⟨p,_,rfl,.inr hp3,(fun e => by have := congrArg List.length e; rw [List.length_take,List.length_nil] at this; omega),fun m hm => ?_⟩
            refine ⟨_,_,rfl,rfl,_,_,rfl,rfl,s2.trans s3,?_⟩
            rw [<- map_snoc]
            rw [hm.eq,of_decide_eq_true g1 |> decide_eq_true,Bool.true_and]
          · refine ⟨s2,?_⟩
            rw [<- map_snoc]
            rw [Bool.not_eq_true] at g1
            rw [g1,Bool.false_and]
        · rintro ys H2 ⟨s2,rfl⟩ p hp
          refine ⟨p,_,rfl,.inl (SqL.of (by rw [upd_same,mapB2])),?_⟩
          have e2 : ((List.range (ns.length - 1)).map fun j => decide (0 <= ns.getD (j + 1) 0) && decide (ns.getD (j + 1) 0 <= maxL (ns.take (j + 1)) + 1)).all id = rowAll ns := by
            rw [List.all_map]; rfl
          rw [e2]
          exact k _ (s2.new2 hp)
    · have h1 : ¬ (1 : Int) <= (ns.length : Int) := fun e => h1 (decide_eq_true e)
      have k := k H (Same.refl H)
      rw [no (by omega)] at k
      exact k
theorem sc_law_way_ok : FnScope (["_law_found","_law_size_here"]) (["_law_found","_law_size_here"]) (defScope s_law_way_ok) := by trivial
theorem ok_law_way_ok {f : Addr} {fd : FuncData} (F : Fun K "_law_way_ok" "_law_way_ok" s_law_way_ok f fd) (B : Bs mg) (T : Gs mg)  (c_law_num : Cal P w K mg base 1 "_law_num" [] spNum) (c_law_row_ok : Cal P w K mg base 1 "_law_row_ok" [] (spRowOk K)) : FnOk P w K mg base CX0 2 f fd ["_law_found","_law_size_here"] (spWayOkF K) := by
  have sc := sc_law_way_ok
  refine F.ok sc (fun vs H Q E h => ?_) (fun cdv A outer s H vs Q E hr h => ?_)
  · obtain ⟨a,ns,n,rfl,_⟩ := h; rfl
  · obtain ⟨a,ns,n,rfl,hT,hl,k⟩ := h
    refine ⟨_,(pss_cons (ps_if (PW.pt (pw_or (pt_not (pt_val (pe_callB (kc_isiP (K := K)) (by rfl) B.isinstance PyProof.Rows.Boot.«isinstance» (pa_cons (pv 0) (pa_cons (pe_bltn (v := .ty "tuple") rfl B.tuple PyProof.Rows.Boot.«tuple» rfl) pa_nil))))) (pw_or (pt_cmpR op_ne (pe_callB (kc_len (K := K)) (by rfl) B.len PyProof.Rows.Boot.«len» (pa_cons (pv 0) pa_nil)) (pv 1) (nomark _)) (pw_or1 (pt_not (pt_val (pe_callB (kc_all (K := K)) (by rfl) B.all PyProof.Rows.Boot.«all» (pa_cons (pe_lc (N' := ["_law_one"]) (M := [none]) (lcSc_of (by rfl)) rfl (kpi_tup (K := K) (pv 0)) (fun _ _ _ _ _ => pg_name (i := 0) (show (["_law_one"] : List Str).Nodup by decide +kernel) rfl (Or.inl rfl) (.inr rfl)) (frm_name rfl) (fun _ _ _ _ _ => pts_nil) (fun _ _ _ _ _ => (pe_cal c_law_num (hr.mono (by decide)) rfl (pa_cons (pv 0) pa_nil)))) pa_nil)))))))) (pss_one (ps_ret pe_bl)) pss_nil)
      (pss_one (ps_ret (pe_cal c_law_row_ok (hr.mono (by decide)) rfl (pa_cons (pv 0) pa_nil))))),?_⟩
    refine ⟨_,rfl,.ref a,"tuple",_,true,rfl,.inr ⟨a,_,rfl,hT,rfl⟩,rfl,_,rfl,iteF ?_⟩
    refine ⟨_,rfl,a,_,rfl,.inr (hT.sq),_,rfl,rfl,_,rfl,?_⟩
    rw [ltm]
    refine ite2 (fun g => iteT ?_) (fun g => ?_)
    · have g : ¬ (ns.length : Int) = n := fun e => by rw [e] at g; exact absurd g (by simp)
      have k := k H (Same.refl H)
      rw [decide_eq_false g,Bool.false_and] at k
      exact k
    · have g : (ns.length : Int) = n := by
        have g' : ¬ (!decide (V.int (ns.length : Int) = V.int n)) = true := g
        rw [Bool.not_eq_true,Bool.not_eq_false'] at g'
        exact V.int.inj (of_decide_eq_true g')
      rw [decide_eq_true g,Bool.true_and] at k
      refine ⟨_,rfl,a,rfl,⟨_,hT.sq⟩,lc_tup (xs := ns.map V.int) (fun i ys H4 => H4 = H /\ ys = (List.replicate i true).map V.bl) (le_line (by rw [ltm]; omega)) ⟨rfl,rfl⟩
        (fun i ys H4 _ ⟨e,e2⟩ => ⟨by rw [e]; exact hT.sq,by rw [e2,List.length_map,List.length_replicate]; exact Nat.le_refl _⟩) ?_ ?_⟩
      · rintro i y ys H4 hi ⟨rfl,rfl⟩
        obtain ⟨z,rfl,hz,hil⟩ := getI hi
        refine lcN ?_
        refine ⟨_,rfl,z,rfl,rfl,?_⟩
        rw [List.replicate_succ',List.map_append]; rfl
      · rintro ys H4 ⟨rfl,rfl⟩ p hp
        refine ⟨p,_,rfl,.inl (SqL.of upd_same),_,rfl,?_⟩
        rw [show (List.replicate (List.map V.int ns).length true).all id = true by simp]
        refine iteF ?_
        exact ⟨_,rfl,a,ns,rfl,(Same.new hp).seqT (hT.sq),hl,fun H5 s5 => k H5 ((Same.new hp).trans s5)⟩
theorem sc_law_way : FnScope (["_law_cell_here","_law_size_here","_law_row","_law_cap","_law_way_here","_law_one"]) (["_law_cell_here","_law_size_here"]) (defScope s_law_way) := by trivial
theorem ok_law_way {f : Addr} {fd : FuncData} (F : Fun K "_law_way" "_law_way" s_law_way f fd) (B : Bs mg) (T : Gs mg)  (c_law_draw : Cal P w K mg base 1 "_law_draw" [] (spDraw K)) : FnOk P w K mg base CX0 2 f fd ["_law_cell_here","_law_size_here"] (spWay K) := by
  have sc := sc_law_way
  refine F.ok sc (fun vs H Q E h => ?_) (fun cdv A outer s H vs Q E hr h => ?_)
  · obtain ⟨c,n,rfl,_⟩ := h; rfl
  · obtain ⟨c,n,rfl,hn1,hn9,k⟩ := h
    refine ⟨_,(pss_cons (ps_set (i := 2) sc.nd rfl (Or.inl rfl) (pe_cal c_law_draw (hr.mono (by decide)) rfl (pa_cons (pv 0) (pa_cons (pe_op op_cat (pe_lst (pa_cons pe_int pa_nil)) (pe_lc (N' := ["_law_k"]) (M := [none]) (lcSc_of (by rfl)) rfl (pi_range1 rfl B.range (pa_cons (pv 1) pa_nil)) (fun _ _ _ _ _ => pg_name (i := 0) (show (["_law_k"] : List Str).Nodup by decide +kernel) rfl (Or.inl rfl) (.inr rfl)) (frm_name rfl) (fun _ _ _ _ _ => pts_nil) (fun _ _ _ _ _ => (pe_op op_add (pv 0) pe_int)))) pa_nil))))
      (pss_cons (ps_set (i := 3) sc.nd rfl (Or.inl rfl) (pe_ix (kix_list (K := K)) (pe_lst (pa_cons pe_int (pa_cons pe_int (pa_cons pe_int (pa_cons pe_int pa_nil))))) (pe_ix (kix_list (K := K)) (pv 2) pe_int (fun _ _ => rfl)) (fun _ _ => rfl)))
      (pss_cons (ps_set (i := 4) sc.nd rfl (Or.inl rfl) (pe_lst pa_nil))
      (pss_cons (ps_for PassesOwn.never rfl (kpi_list (K := K) (pe_slice (ksl_list (K := K)) (pv 2) (po_some pe_int) po_none)) (pg_name (i := 5) sc.nd rfl (Or.inl rfl))
      (pss_one (ps_expr (pe_bm PySem.F.plainAttrs_list PySem.F.slot_list_append PySem.F.type_list_append mt_append (pv 4) (pa_cons (pe_callB kc_min2 (by rfl) B.min PyProof.Rows.Boot.«min» (pa_cons (pe_op op_sub (pv 3) pe_int) (pa_cons (pe_op op_mod (pv 5) (pe_op op_add (pe_callB (kc_max (K := K)) (by rfl) B.max PyProof.Rows.Boot.«max» (pa_cons (pe_op op_cat (pe_lst (pa_cons (pe_un un_neg pe_int) pa_nil)) (pv 4)) pa_nil)) pe_int)) pa_nil))) pa_nil)))))
      (pss_one (ps_ret (pe_callTy (kc_tuple (K := K)) (by rfl) B.tuple PyProof.Rows.Boot.«tuple» (pa_cons (pv 4) pa_nil)))))))),?_⟩
    refine ⟨_,rfl,le_line (by decide),fun p hp => ⟨_,rfl,_,rfl,by omega,by omega,?_⟩⟩
    refine lc_range (fun i ys H2 => H2 = upd H p (.lst [.int 4]) /\ ys = (List.range i).map fun (j : Nat) => V.int (0 + (j : Int) + 1)) (le_line (by omega)) ⟨rfl,rfl⟩ (fun i ys H2 _ h => by rw [h.2,List.length_map,List.length_range]; exact Nat.le_refl _) ?_ ?_
    · rintro i ys H2 hi ⟨rfl,rfl⟩
      refine lcN ?_
      exact ⟨_,rfl,_,_,rfl,rfl,rfl,map_snoc (fun (j : Nat) => V.int (0 + (j : Int) + 1)) i⟩
    rintro ys H2 ⟨rfl,rfl⟩ q hq
    have hpq : p ≠ q := ne_of_none upd_same hq
    refine ⟨p,q,_,_,rfl,rfl,by rw [upd_ne hpq,upd_same],upd_same,le_line (by rw [List.length_map,List.length_range]; show 1 + _ <= _; omega),fun l hl => ?_⟩
    have sq : Same H (upd (upd (upd H p (.lst [.int 4])) q (.lst ((List.range n.toNat).map fun (j : Nat) => V.int (0 + (j : Int) + 1)))) l (.lst ([V.int 4] ++ (List.range n.toNat).map fun (j : Nat) => V.int (0 + (j : Int) + 1)))) := ((Same.new hp).new2 hq).new2 hl
    refine ⟨c,l,4 :: (List.range n.toNat).map fun (j : Nat) => 0 + (j : Int) + 1,rfl,SqL.of (by rw [upd_same,mapV2]; rfl),fun z hz => ?_,by rw [List.length_cons,List.length_map,List.length_range]; omega,fun d rs H1 hd s1 hd1 hD => ?_⟩
    · rcases List.mem_cons.mp hz with e | e
      · rw [e]; exact limOk_small (by decide) (by decide)
      · obtain ⟨j,hj,rfl⟩ := List.mem_map.mp e
        have := List.mem_range.mp hj
        exact limOk_small (by omega) (by omega)
    obtain ⟨r0,rs',rfl,hr0,hr1,hD'⟩ := hD.uncons
    have s1' : Same H H1 := sq.trans s1
    have hrl : rs'.length = n.toNat := by have := hD'.length; rw [List.length_map,List.length_range] at this; exact this.symm
    refine ⟨le_line (by decide),fun e he => ⟨_,rfl,d,_,_,_,rfl,rfl,SqL.of ((Same.new he) d _ hd1),atI_int (i := 0) (by decide) rfl,?_⟩⟩
    obtain ⟨cap,hcap,hc2⟩ : ∃ cap : Int,atI [V.int 9,V.int 2,V.int 3,V.int 9] r0 = some (V.int cap) /\ 2 <= cap := by
      have : r0 = 0 \/ r0 = 1 \/ r0 = 2 \/ r0 = 3 := by omega
      rcases this with rfl | rfl | rfl | rfl
      · exact ⟨9,rfl,by decide⟩
      · exact ⟨2,rfl,by decide⟩
      · exact ⟨3,rfl,by decide⟩
      · exact ⟨9,rfl,by decide⟩
    refine ⟨e,_,_,_,rfl,rfl,SqL.of upd_same,hcap,?_⟩
    refine ⟨Nat.zero_le _,fun u hu => ?_⟩
    generalize hH2 : upd H1 e (.lst [V.int 9,V.int 2,V.int 3,V.int 9]) = H2 at hu ⊢
    have s2 : Same H1 H2 := by rw [<- hH2]; exact Same.new he
    refine ⟨_,rfl,_,rfl,d,_,rfl,SqL.of (Same.new hu d _ (s2 d _ hd1)),fun v hv => ?_⟩
    have huv : u ≠ v := ne_of_none upd_same hv
    have e3 : cutV ((r0 :: rs').map V.int) (some 1) none = rs'.map V.int := cut_drop_int (r0 :: rs') 1
    rw [e3]
    refine ⟨v,rfl,⟨_,SqL.of upd_same⟩,for_list (K := K) (a := v) (xs := rs'.map V.int) (fun i σ H4 => ∃ (ws : List Int) (o : Option V),σ = [some (.int c),some (.int n),some (.ref d),some (.int cap),some (.ref u),o] /\ Same H H4 /\ H4 v = some (.lst (rs'.map V.int)) /\ H4 u = some (.lst (ws.map V.int)) /\ ws.length = i /\ wayGo 0 ws = true)
      ⟨[],none,rfl,(((s1'.trans s2).new2 hu).new2 hv),upd_same,by rw [upd_ne huv,upd_same]; rfl,rfl,rfl⟩ (fun i σ H4 _ ⟨_,_,_,_,z,_⟩ => SqL.of z) ?_ ?_⟩
    · rintro i y σ H4 hi ⟨ws,o,rfl,s4,hv4,hu4,hwl,hw⟩
      obtain ⟨one,rfl,hone,hil⟩ := getI hi
      have huH : H u = none := (s1'.trans s2).free hu
      refine ⟨_,rfl,.inl ⟨rfl,_,SqL.of hu4⟩,_,rfl,_,_,rfl,rfl,_,rfl,_,rfl,le_line (by decide),fun t ht => ?_⟩
      have htu : u ≠ t := ne_of_none hu4 ht
      refine ⟨_,rfl,t,u,_,_,rfl,rfl,upd_same,by rw [upd_ne htu]; exact hu4,le_line (by rw [ltm]; show 1 + _ <= _; omega),fun t2 ht2 => ?_⟩
      have ht2u : u ≠ t2 := by
        have : upd H4 t (HO.lst [V.int (-1)]) u = some (.lst (ws.map V.int)) := by rw [upd_ne htu]; exact hu4
        exact ne_of_none this ht2
      refine ⟨t2,-1 :: ws,rfl,.inl (SqL.of upd_same),(by simp),fun m hm => ?_⟩
      have em : m = fresh 0 ws - 1 := hm.uniq (fresh_max ws hw)
      have fp : 0 <= fresh 0 ws := by have := (fresh_max ws hw).2 (-1) List.mem_cons_self; omega
      refine ⟨_,_,rfl,rfl,_,_,rfl,rfl,(by show 0 < m + 2; omega),_,_,rfl,?_⟩
      have hmod := modB one (show 0 < m + 2 by omega)
      have hval : ∃ z : Int,(if one % (m + 2) < cap - 1 then one % (m + 2) else cap - 1) = z /\ 0 <= z /\ z <= fresh 0 ws := by
        refine ⟨_,rfl,?_,?_⟩ <;> split <;> omega
      obtain ⟨z,hz,hz0,hz1⟩ := hval
      rw [hz]
      refine ⟨u,_,_,rfl,rfl,by rw [upd_ne ht2u,upd_ne htu]; exact hu4,lt_line (by rw [ltm]; omega),?_⟩
      refine ⟨ws ++ [z],_,rfl,((s4.new2 ht).new2 ht2).put huH,?_,by rw [upd_same,mapV],by rw [List.length_append,hwl]; rfl,?_⟩
      · have hvt : v ≠ t := ne_of_none hv4 ht
        have hvt2 : v ≠ t2 := ne_of_none (show upd H4 t (HO.lst [V.int (-1)]) v = some _ by rw [upd_ne hvt]; exact hv4) ht2
        rw [upd_ne huv.symm,upd_ne hvt2,upd_ne hvt]; exact hv4
      · rw [wayGo_snoc,hw,decide_eq_true hz0,decide_eq_true hz1]; rfl
    · rintro σ H4 ⟨ws,o,rfl,s4,hv4,hu4,hwl,hw⟩
      rw [ltm] at hwl
      refine ⟨_,rfl,u,_,rfl,.inl ⟨SqL.of hu4,fun l2 hl2 => ?_⟩⟩
      refine k l2 ws _ (s4.free hl2) (s4.new2 hl2) upd_same (by rw [hwl,hrl]) ?_
      unfold isWay
      rw [hw,decide_eq_true (show 1 <= ws.length by omega),decide_eq_true (show ws.length <= 9 by omega)]; rfl
theorem sc_law_size : FnScope (["_law_cell_here","_law_top"]) (["_law_cell_here","_law_top"]) (defScope s_law_size) := by trivial
theorem ok_law_size {f : Addr} {fd : FuncData} (F : Fun K "_law_size" "_law_size" s_law_size f fd) (B : Bs mg) (T : Gs mg)  (c_law_draw : Cal P w K mg base 1 "_law_draw" [] (spDraw K)) : FnOk P w K mg base CX0 2 f fd ["_law_cell_here","_law_top"] spSize := by
  have sc := sc_law_size
  refine F.ok sc (fun vs H Q E h => ?_) (fun cdv A outer s H vs Q E hr h => ?_)
  · obtain ⟨c,t,rfl,_⟩ := h; rfl
  · obtain ⟨c,t,rfl,h0,h1,k⟩ := h
    refine ⟨_,(pss_one (ps_ret (pe_op op_add pe_int (pe_ix (kix_list (K := K)) (pe_cal c_law_draw (hr.mono (by decide)) rfl (pa_cons (pv 0) (pa_cons (pe_lst (pa_cons (pv 1) pa_nil)) pa_nil))) pe_int (fun _ _ => rfl))))),?_⟩
    refine ⟨_,rfl,_,rfl,le_line (by simp),fun p hp => ?_⟩
    refine ⟨c,p,[t],rfl,SqL.of upd_same,fun z hz => by rw [List.mem_singleton.mp hz]; exact limOk_small (by omega) (by omega),by simp,fun d rs H1 _ s1 hd hD => ?_⟩
    obtain ⟨r,t',rfl,g0,g1,_⟩ := hD.uncons
    exact ⟨d,_,_,_,rfl,rfl,SqL.of hd,atI_int (by decide) rfl,_,_,rfl,rfl,k _ H1 ((Same.new hp).trans s1) (by omega) (by omega)⟩
theorem sc_law_number_row : FnScope (["_law_marks","_law_seen","_law_row","_law_one"]) (["_law_marks"]) (defScope s_law_number_row) := by trivial
theorem ok_law_number_row {f : Addr} {fd : FuncData} (F : Fun K "_law_number_row" "_law_number_row" s_law_number_row f fd) (B : Bs mg) (T : Gs mg)   : FnOk P w K mg base CX0 1 f fd ["_law_marks"] (spNumRow K) := by
  have sc := sc_law_number_row
  refine F.ok sc (fun vs H Q E h => ?_) (fun cdv A outer s H vs Q E hr h => ?_)
  · obtain ⟨a,ns,rfl,_⟩ := h; rfl
  · obtain ⟨a,ns,rfl,hS,hl,k⟩ := h
    refine ⟨_,(pss_cons (ps_set (i := 1) sc.nd rfl (Or.inl rfl) (pe_lst pa_nil))
      (pss_cons (ps_set (i := 2) sc.nd rfl (Or.inl rfl) (pe_lst pa_nil))
      (pss_cons (ps_for PassesOwn.never rfl (kpi_list (K := K) (pv 0)) (pg_name (i := 3) sc.nd rfl (Or.inl rfl))
      (pss_cons (ps_if (pt_cmpR (kop_notIn (K := K)) (pv 3) (pv 1) rfl) (pss_one (ps_expr (pe_bm PySem.F.plainAttrs_list PySem.F.slot_list_append PySem.F.type_list_append mt_append (pv 1) (pa_cons (pv 3) pa_nil)))) pss_nil)
      (pss_one (ps_expr (pe_bm PySem.F.plainAttrs_list PySem.F.slot_list_append PySem.F.type_list_append mt_append (pv 2) (pa_cons (pe_bm PySem.F.plainAttrs_list PySem.F.slot_list_index PySem.F.type_list_index mt_index (pv 1) (pa_cons (pv 3) pa_nil)) pa_nil))))))
      (pss_one (ps_ret (pe_callTy (kc_tuple (K := K)) (by rfl) B.tuple PyProof.Rows.Boot.«tuple» (pa_cons (pv 2) pa_nil))))))),?_⟩
    refine ⟨Nat.zero_le _,fun p hp => ⟨Nat.zero_le _,fun q hq => ?_⟩⟩
    have hpq : p ≠ q := ne_of_none upd_same hq
    have S0 : Same H (upd (upd H p (.lst [])) q (.lst [])) := (Same.new hp).new2 hq
    have hqH : H q = none := (Same.new hp).free hq
    refine ⟨_,rfl,a,rfl,⟨_,S0.seq hS⟩,for_list (K := K) (a := a) (xs := ns.map V.int) (fun i σ H2 => ∃ (v : Option V),σ = [some (.ref a),some (.ref p),some (.ref q),v] /\ Same H H2 /\ H2 p = some (.lst ((seen (ns.take i)).map V.int)) /\ H2 q = some (.lst ((numRow (ns.take i)).map V.int)))
      ⟨none,rfl,S0,by rw [upd_ne hpq,upd_same]; rfl,by rw [upd_same]; rfl⟩ (fun i σ H2 _ ⟨_,_,s2,_⟩ => s2.seq hS) ?_ ?_⟩
    · rintro i y σ H2 hi ⟨v,rfl,s2,hp2,hq2⟩
      obtain ⟨z,rfl,hz,hil⟩ := getI hi
      have hts := take_snoc hz
      have hsl := seen_length (ns.take i)
      have htl : (ns.take i).length <= ns.length := by rw [List.length_take]; omega
      have fl : ∀ s : List Int,(s.map V.int).all flatV = true := fun s => by rw [List.all_map]; exact List.all_eq_true.mpr fun _ _ => rfl
      have inv : inV (V.int z) ((seen (ns.take i)).map V.int) = decide (z ∈ seen (ns.take i)) := by
        unfold inV
        rw [List.any_map]
        rw [Bool.eq_iff_iff,List.any_eq_true,decide_eq_true_iff]
        constructor
        · rintro ⟨y,hy,e⟩
          have : y = z := by simpa [eqV] using e
          rw [<- this]; exact hy
        · intro hy; exact ⟨z,hy,by simp [eqV]⟩
      refine ⟨_,rfl,_,rfl,p,_,rfl,.inl (SqL.of hp2),rfl,fl _,_,rfl,?_⟩
      rw [inv]
      have fin : ∀ H3 : Hp,Same H H3 -> H3 p = some (.lst ((seenP (seen (ns.take i)) z).map V.int)) -> H3 q = some (.lst ((numRow (ns.take i)).map V.int)) ->
          ∃ H4 : Hp,H4 = upd H3 q (.lst (((numRow (ns.take i)) ++ [((seenP (seen (ns.take i)) z).idxOf z : Int)]).map V.int)) /\ Same H H4 /\ H4 p = some (.lst ((seen (ns.take (i + 1))).map V.int)) /\ H4 q = some (.lst ((numRow (ns.take (i + 1))).map V.int)) := fun H3 s3 h3 h3q => by
        refine ⟨_,rfl,s3.put hqH,?_,?_⟩
        · rw [upd_ne hpq,h3,hts,seen_snoc]
        · rw [upd_same,hts,numRow_snoc]
      have zin : z ∈ seenP (seen (ns.take i)) z := mem_seenP.mpr (.inr rfl)
      refine ite2 (fun g => ?_) (fun g => ?_)
      · have g : z ∉ seen (ns.take i) := by simpa using g
        refine ⟨_,rfl,.inl ⟨rfl,_,SqL.of hp2⟩,_,rfl,p,_,_,rfl,rfl,hp2,lt_line (by rw [ltm]; omega),?_⟩
        have e2 : (seen (ns.take i)).map V.int ++ [V.int z] = (seenP (seen (ns.take i)) z).map V.int := by unfold seenP; rw [if_neg g,mapV]
        rw [e2]
        have hp3 : upd H2 p (.lst ((seenP (seen (ns.take i)) z).map V.int)) p = some (.lst ((seenP (seen (ns.take i)) z).map V.int)) := upd_same
        have hq3 : upd H2 p (.lst ((seenP (seen (ns.take i)) z).map V.int)) q = some (.lst ((numRow (ns.take i)).map V.int)) := by rw [upd_ne hpq.symm]; exact hq2
        obtain ⟨H4,e4,r4⟩ := fin _ (s2.put hp) hp3 hq3
        refine ⟨_,rfl,.inl ⟨rfl,_,SqL.of hq3⟩,_,rfl,.inl ⟨rfl,_,SqL.of hp3⟩,_,rfl,p,_,z,rfl,rfl,hp3,zin,?_,q,_,_,rfl,rfl,hq3,lt_line (by rw [ltm,numRow_length]; omega),?_⟩
        · unfold seenP; rw [if_neg g,List.length_append]; show _ + 1 <= _; omega
        · rw [mapV,<- e4]; exact ⟨_,rfl,r4⟩
      · have g : z ∈ seen (ns.take i) := by simpa using g
        have e2 : seenP (seen (ns.take i)) z = seen (ns.take i) := by unfold seenP; rw [if_pos g]
        have hp3 : H2 p = some (.lst ((seenP (seen (ns.take i)) z).map V.int)) := by rw [e2]; exact hp2
        obtain ⟨H4,e4,r4⟩ := fin _ s2 hp3 hq2
        refine ⟨_,rfl,.inl ⟨rfl,_,SqL.of hq2⟩,_,rfl,.inl ⟨rfl,_,SqL.of hp3⟩,_,rfl,p,_,z,rfl,rfl,hp3,zin,?_,q,_,_,rfl,rfl,hq2,lt_line (by rw [ltm,numRow_length]; omega),?_⟩
        · rw [e2]; omega
        · rw [mapV,<- e4]; exact ⟨_,rfl,r4⟩
    · rintro σ H2 ⟨v,rfl,s2,hp2,hq2⟩
      rw [ltm,List.take_length] at hq2
      exact ⟨_,rfl,q,_,rfl,.inl ⟨SqL.of hq2,fun t ht => k t _ (s2.free ht) (s2.new2 ht) upd_same⟩⟩
theorem sc_law_lots : FnScope (["_law_way_here"]) (["_law_way_here"]) (defScope s_law_lots) := by trivial
theorem ok_law_lots {f : Addr} {fd : FuncData} (F : Fun K "_law_lots" "_law_lots" s_law_lots f fd) (B : Bs mg) (T : Gs mg)   : FnOk P w K mg base CX0 1 f fd ["_law_way_here"] (spLLots K) := by
  have sc := sc_law_lots
  refine F.ok sc (fun vs H Q E h => ?_) (fun cdv A outer s H vs Q E hr h => ?_)
  · obtain ⟨a,ws,rfl,_⟩ := h; rfl
  · obtain ⟨a,ws,rfl,hS,hw,k⟩ := h
    refine ⟨_,(pss_one (ps_ret (pe_lcC (N' := ["_law_lot","_law_way_here"]) (M := [none,some 0]) (lcScC_of (by rfl)) rfl (pi_range1 rfl B.range (pa_cons (pe_op op_add (pe_callB (kc_max (K := K)) (by rfl) B.max PyProof.Rows.Boot.«max» (pa_cons (pv 0) pa_nil)) pe_int) pa_nil)) (fun _ _ _ _ _ => pg_name (i := 0) (show (["_law_lot","_law_way_here"] : List Str).Nodup by decide +kernel) rfl (Or.inr rfl) (.inl rfl)) (frm_name rfl) (fun _ _ _ _ _ => pts_nil) (fun _ _ _ _ _ => (pe_lcV (N' := ["_law_k","_law_lot","_law_way_here"]) (M := [none,some 0,some 1]) (lcSc_of (by rfl)) rfl (pi_range1 rfl B.range (pa_cons (pe_callB (kc_len (K := K)) (by rfl) B.len PyProof.Rows.Boot.«len» (pa_cons (pv 1) pa_nil)) pa_nil)) (fun _ _ _ _ _ => pg_name (i := 0) (show (["_law_k","_law_lot","_law_way_here"] : List Str).Nodup by decide +kernel) rfl (Or.inl rfl) (.inr rfl)) (frm_name rfl) (fun _ _ _ _ _ => pts_one (pt_cmpR op_eq (pe_ix (kix_tup (K := K)) (pv 2) (pv 0) (fun _ _ => rfl)) (pv 1) (nomark _))) (fun _ _ _ _ _ => (pv 0))))))),?_⟩
    obtain ⟨w1,w9,w0⟩ := isWay_iff.mp hw
    have wne : ws ≠ [] := fun e => by rw [e] at w1; simp at w1
    have f0 := (fresh_pos w0 wne).1
    have fl := fresh_le ws
    refine ⟨_,rfl,a,ws,rfl,.inr hS,wne,fun m hm => ⟨_,_,rfl,rfl,_,rfl,?_,?_,?_⟩⟩
    · have := hm.uniq (fresh_pos w0 wne).2; omega
    · have := hm.uniq (fresh_pos w0 wne).2; omega
    have em : m + 1 = fresh 0 ws := by have := hm.uniq (fresh_pos w0 wne).2; omega
    rw [em]
    refine lc_range (n := (fresh 0 ws).toNat) (fun j ys H4 => Same H H4 /\ ∃ qs : List Addr,ys = qs.map V.ref /\ qs.length = j /\ ∀ (k : Nat) q,qs[k]? = some q -> H4 q = some (.lst ((lotL ws (k : Int) ws.length).map V.int))) (le_line (by omega)) ⟨Same.refl _,[],rfl,rfl,fun k q h => by simp at h⟩
      (fun j ys H4 _ h => by obtain ⟨_,qs,e,e2,_⟩ := h; rw [e,List.length_map,e2]; exact Nat.le_refl _) ?_ ?_
    · rintro j ys H4 hj ⟨s4,qs,rfl,hql,hqs⟩
      refine lcN ?_
      have hS4 := s4.seqT hS
      refine ⟨_,rfl,a,_,rfl,.inr hS4,_,rfl,by omega,by rw [ltm]; omega,?_⟩
      rw [ltm,Int.toNat_natCast]
      refine lc_range (fun b zs H5 => H5 = H4 /\ zs = (lotL ws (j : Int) b).map V.int) (le_line (by omega)) ⟨rfl,rfl⟩ (fun b zs H5 _ h => by rw [h.2,ltm,lotL_length]; exact lotN_length_le ws (j : Int) b) ?_ ?_
      · rintro b zs H5 hb ⟨rfl,rfl⟩
        have a1 := atI_lt (ns := ws) (i := (0 : Int) + (b : Int)) (by omega) (by omega)
        rw [show ((0 : Int) + (b : Int)).toNat = b by omega] at a1
        refine ⟨_,rfl,_,rfl,a,_,_,_,rfl,rfl,hS4,a1,_,rfl,rfl,_,rfl,?_⟩
        rw [lotL_succ]
        refine ite2 (fun g => ⟨_,rfl,rfl,?_⟩) (fun g => ⟨rfl,?_⟩)
        · have g : ws.getD b 0 = 0 + (j : Int) := V.int.inj (of_decide_eq_true g)
          rw [if_pos (by omega),mapV,Int.zero_add]
        · have g : ¬ ws.getD b 0 = 0 + (j : Int) := fun e => g (decide_eq_true (congrArg V.int e))
          rw [if_neg (by omega)]
      · rintro zs H5 ⟨rfl,rfl⟩ t ht
        refine ⟨s4.new2 ht,qs ++ [t],by rw [List.map_append]; rfl,by rw [List.length_append,hql]; rfl,fun k q' hk => ?_⟩
        by_cases e : k < qs.length
        · rw [List.getElem?_append_left e] at hk
          exact Same.new ht q' _ (hqs k q' hk)
        · have hkl : k < (qs ++ [t]).length := (List.getElem?_eq_some_iff.mp hk).1
          rw [List.length_append] at hkl
          have ek : k = qs.length := by simp at hkl; omega
          subst ek
          rw [List.getElem?_append_right (Nat.le_refl _),Nat.sub_self] at hk
          have : t = q' := by simpa using hk
          subst this
          rw [upd_same,hql]
    · rintro ys H4 ⟨s4,qs,rfl,hql,hqs⟩ p hp
      exact k p qs _ (s4.new2 hp) upd_same hql (fun k q hk => Same.new hp q _ (hqs k q hk))
theorem sc_law_split : FnScope (["_law_cell_here","_law_parts","_law_wide","_law_side","_law_size_here","_law_found","_law_big","_law_k"]) (["_law_cell_here","_law_parts","_law_wide"]) (defScope s_law_split) := by trivial
theorem ok_law_split {f : Addr} {fd : FuncData} {ds : List Value} (F : FunD K "_law_split" "_law_split" s_law_split f fd ds) (B : Bs mg) (T : Gs mg)   : FnOk P w K mg base CX0 1 f fd ["_law_cell_here","_law_parts","_law_wide"] spSplit := by
  have sc := sc_law_split
  refine F.ok sc (fun vs H Q E h => ?_) (fun cdv A outer s H vs Q E hr h => ?_)
  · obtain ⟨c,n,w,rfl,_⟩ := h; rfl
  · obtain ⟨c,n,wd,rfl,hn0,hn1,hw0,hw2,k⟩ := h
    refine ⟨_,(pss_cons (ps_set (i := 3) sc.nd rfl (Or.inl rfl) (pe_op op_mulW (pe_op op_pow pe_int pe_int) (pe_op op_pow pe_int pe_int)))
      (pss_cons (ps_set (i := 4) sc.nd rfl (Or.inl rfl) (pe_ix (kix_list (K := K)) (pe_lst (pa_cons (pe_op op_pow pe_int pe_int) (pa_cons (pv 3) (pa_cons (pe_op op_mulW (pe_op op_mulW (pe_op op_mulW (pv 3) (pv 3)) (pv 3)) (pv 3)) pa_nil)))) (pv 2) (fun _ _ => rfl)))
      (pss_cons (ps_set (i := 5) sc.nd rfl (Or.inl rfl) (pe_lst pa_nil))
      (pss_cons (ps_set (i := 6) sc.nd rfl (Or.inl rfl) (pe_cmpR op_ge (pv 0) (pe_op op_pow pe_int pe_int) (nomark _)))
      (pss_cons (ps_for PassesOwn.never rfl (pi_range1 rfl B.range (pa_cons (pv 1) pa_nil)) (pg_name (i := 7) sc.nd rfl (Or.inl rfl))
      (pss_one (ps_if (pt_val (pv 6)) (pss_cons (ps_expr (pe_bm PySem.F.plainAttrs_list PySem.F.slot_list_append PySem.F.type_list_append mt_append (pv 5) (pa_cons (pe_op op_add (pe_op op_pow pe_int pe_int) (pe_op op_mod (pv 0) (pv 4))) pa_nil)))
      (pss_one (ps_set (i := 0) sc.nd rfl (Or.inl rfl) (pe_op op_fdivW (pv 0) (pv 4))))) (pss_one (ps_expr (pe_bm PySem.F.plainAttrs_list PySem.F.slot_list_append PySem.F.type_list_append mt_append (pv 5) (pa_cons (pe_op op_add (pe_op op_mulW (pv 0) (pe_op op_add (pe_op op_mulW pe_int (pv 7)) pe_int)) (pe_op op_mulW pe_int (pv 7))) pa_nil)))))))
      (pss_one (ps_ret (pv 5)))))))),?_⟩
    refine ⟨_,_,rfl,rfl,⟨by decide,by decide,by decide⟩,_,_,rfl,rfl,⟨by decide,by decide,by decide⟩,_,_,rfl,rfl,mulOk_of (by decide +kernel),?_⟩
    refine ⟨_,_,rfl,rfl,⟨by decide,by decide,by decide⟩,_,rfl,_,rfl,_,rfl,_,_,rfl,rfl,mulOk_of (by decide +kernel),_,rfl,_,_,rfl,rfl,mulOk_of (by decide +kernel),_,rfl,_,_,rfl,rfl,mulOk_of (by decide +kernel),le_line (by decide),fun e he => ?_⟩
    obtain ⟨S,hS,hL⟩ : ∃ S : Int,atI [V.int (10 ^ (30 : Int).toNat),V.int (10 ^ (60 : Int).toNat * 10 ^ (60 : Int).toNat),V.int (10 ^ (60 : Int).toNat * 10 ^ (60 : Int).toNat * (10 ^ (60 : Int).toNat * 10 ^ (60 : Int).toNat) * (10 ^ (60 : Int).toNat * 10 ^ (60 : Int).toNat) * (10 ^ (60 : Int).toNat * 10 ^ (60 : Int).toNat))] wd = some (V.int S) /\ LimOk S := by
      have : wd = 0 \/ wd = 1 \/ wd = 2 := by omega
      rcases this with rfl | rfl | rfl
      · exact ⟨_,rfl,by decide +kernel,by decide +kernel⟩
      · exact ⟨_,rfl,by decide +kernel,by decide +kernel⟩
      · exact ⟨_,rfl,by decide +kernel,by decide +kernel⟩
    refine ⟨_,rfl,e,_,_,_,rfl,rfl,SqL.of upd_same,hS,?_⟩
    refine ⟨Nat.zero_le _,fun p hp => ?_⟩
    refine ⟨_,rfl,_,_,rfl,rfl,⟨by decide,by decide,by decide⟩,_,_,rfl,rfl,?_⟩
    have hpH : H p = none := (Same.new he).free hp
    refine ⟨_,rfl,_,rfl,by omega,by omega,for_range (lo := 0) (n := n.toNat) (fun i σ H2 => ∃ (c' : Int) (rs : List Int) (o : Option V),σ = [some (.int c'),some (.int n),some (.int wd),some (.int (10 ^ (60 : Int).toNat * 10 ^ (60 : Int).toNat)),some (.int S),some (.ref p),some (.bl (decide ((10 : Int) ^ (18 : Int).toNat <= c))),o] /\ Same H H2 /\ H2 p = some (.lst (rs.map V.int)) /\ rs.length = i)
      ⟨c,[],none,rfl,(Same.new he).new2 hp,upd_same,rfl⟩ ?_ ?_⟩
    · rintro i σ H2 hi ⟨c',rs,o,rfl,s2,hp2,hl⟩
      refine ⟨_,rfl,_,rfl,?_⟩
      refine ite2 (fun _ => ?_) (fun _ => ?_)
      · refine ⟨_,rfl,.inl ⟨rfl,_,SqL.of hp2⟩,_,_,rfl,rfl,⟨by decide,by decide,by decide⟩,_,rfl,_,rfl,_,_,rfl,rfl,hL.1,_,_,rfl,rfl,p,_,_,rfl,rfl,hp2,lt_line (by rw [ltm]; omega),?_⟩
        refine ⟨_,rfl,_,rfl,_,_,rfl,rfl,hL,?_⟩
        exact ⟨_,rs ++ [_],_,rfl,s2.put hpH,by rw [upd_same,mapV],by rw [List.length_append,hl]; rfl⟩
      · refine ⟨_,rfl,.inl ⟨rfl,_,SqL.of hp2⟩,_,rfl,_,rfl,_,_,rfl,rfl,mulOk_l ⟨by decide,by decide⟩,_,_,rfl,rfl,_,_,rfl,rfl,mulOk_r ⟨by omega,by omega⟩,_,rfl,_,_,rfl,rfl,mulOk_l ⟨by decide,by decide⟩,_,_,rfl,rfl,p,_,_,rfl,rfl,hp2,lt_line (by rw [ltm]; omega),?_⟩
        exact ⟨_,rs ++ [_],_,rfl,s2.put hpH,by rw [upd_same,mapV],by rw [List.length_append,hl]; rfl⟩
    · rintro σ H2 ⟨c',rs,o,rfl,s2,hp2,hl⟩
      exact ⟨_,rfl,k p rs H2 hpH s2 hp2 hl⟩
theorem sc_law_refused : FnScope (["_law_found"]) (["_law_found"]) (defScope s_law_refused) := by trivial
theorem ok_law_refused {f : Addr} {fd : FuncData} (F : Fun K "_law_refused" "_law_refused" s_law_refused f fd) (B : Bs mg) (T : Gs mg)   : FnOk P w K mg base CX0 1 f fd ["_law_found"] (spRefused K) := by
  have sc := sc_law_refused
  refine F.ok sc (fun vs H Q E h => ?_) (fun cdv A outer s H vs Q E hr h => ?_)
  · obtain ⟨a,rfl,_⟩ := h; rfl
  · obtain ⟨a,rfl,hL,k⟩ := h
    refine ⟨_,(pss_one (ps_ret (pe_and (pe_callB (kc_isi (K := K)) (by rfl) B.isinstance PyProof.Rows.Boot.«isinstance» (pa_cons (pv 0) (pa_cons (pe_bltn (v := .ty "list") rfl B.list PyProof.Rows.Boot.«list» rfl) pa_nil))) (pe_and (pe_cmpR op_eq (pe_callB (kc_len (K := K)) (by rfl) B.len PyProof.Rows.Boot.«len» (pa_cons (pv 0) pa_nil)) pe_int (nomark _)) (pe_one (pe_cmpR op_eq (pe_ix (kix_list (K := K)) (pv 0) pe_int (fun _ _ => rfl)) pe_str (nomark _))))))),?_⟩
    refine ⟨_,rfl,.ref a,"list",_,true,rfl,TyOf.lst hL,rfl,_,rfl,iteT ?_⟩
    refine ⟨_,rfl,a,_,rfl,.inl (SqL.of hL),rfl,_,rfl,iteT ?_⟩
    exact ⟨_,rfl,a,_,_,_,rfl,rfl,SqL.of hL,rfl,rfl,k⟩
theorem sc_law_linked : FnScope (["_law_size_here","_law_pairs","_law_row","_law_one","_law_other","_law_gone","_law_stays"]) (["_law_size_here","_law_pairs"]) (defScope s_law_linked) := by trivial
theorem ok_law_linked {f : Addr} {fd : FuncData} (F : Fun K "_law_linked" "_law_linked" s_law_linked f fd) (B : Bs mg) (T : Gs mg)  (c_law_number_row : Cal P w K mg base 1 "_law_number_row" [] (spNumRow K)) : FnOk P w K mg base CX0 2 f fd ["_law_size_here","_law_pairs"] (spLinked K) := by
  have sc := sc_law_linked
  refine F.ok sc (fun vs H Q E h => ?_) (fun cdv A outer s H vs Q E hr h => ?_)
  · obtain ⟨n,b,ps,qs,rfl,_⟩ := h; rfl
  · obtain ⟨n,b,ps,qs,rfl,h0,h9,hb,hP,hok,k⟩ := h
    refine ⟨_,(pss_cons (ps_set (i := 2) sc.nd rfl (Or.inl rfl) (pe_callTy call_listR (by rfl) B.list PyProof.Rows.Boot.«list» (pa_cons (pe_callTy call_rangeV (by rfl) B.range PyProof.Rows.Boot.«range» (pa_cons (pv 0) pa_nil)) pa_nil)))
      (pss_cons (ps_for PassesOwn.never rfl (kpi_list (K := K) (pv 1)) (pg_tup rfl (pgs_cons (pg_name (i := 3) sc.nd rfl (Or.inl rfl)) (pgs_cons (pg_name (i := 4) sc.nd rfl (Or.inl rfl)) pgs_nil)))
      (pss_cons (ps_set (i := 5) sc.nd rfl (Or.inr rfl) (pe_ix (kix_list (K := K)) (pv 2) (pv 4) (fun _ _ => rfl)))
      (pss_cons (ps_set (i := 6) sc.nd rfl (Or.inr rfl) (pe_ix (kix_list (K := K)) (pv 2) (pv 3) (fun _ _ => rfl)))
      (pss_one (ps_lc (i := 2) sc.nd rfl rfl (N' := ["_law_lot","_law_stays","_law_gone"]) (M := [none,some 6,some 5]) (lcSc_of (by rfl)) rfl (kpi_list (K := K) (pv 2)) (fun _ _ _ _ _ => pg_name (i := 0) (show (["_law_lot","_law_stays","_law_gone"] : List Str).Nodup by decide +kernel) rfl (Or.inl rfl) (.inr rfl)) (frm_name rfl) (fun _ _ _ _ _ => pts_nil) (fun _ _ _ _ _ => (pe_ifExp (pt_cmpR op_eq (pv 0) (pv 2) (nomark _)) (pv 1) (pv 0))))))))
      (pss_one (ps_ret (pe_cal c_law_number_row (hr.mono (by decide)) rfl (pa_cons (pv 2) pa_nil)))))),?_⟩
    refine ⟨_,rfl,_,rfl,fun rp hrp => ⟨rp,_,rfl,upd_same,by omega,by omega,fun l hl => ?_⟩⟩
    have s1 := (Same.new (o := HO.rng 0 n) hrp).new2 (o := HO.lst (((List.range n.toNat).map fun (k : Nat) => (k : Int)).map V.int)) hl
    have hl1 : upd (upd H rp (HO.rng 0 n)) l (HO.lst (((List.range n.toNat).map fun (k : Nat) => (k : Int)).map V.int)) l = some (.lst ((rg n.toNat).map V.int)) := upd_same
    generalize upd (upd H rp (HO.rng 0 n)) l (HO.lst (((List.range n.toNat).map fun (k : Nat) => (k : Int)).map V.int)) = H1 at s1 hl1
    have hpl := hP.length
    refine ⟨_,rfl,b,rfl,⟨_,s1.seq hb⟩,for_list (K := K) (a := b) (xs := ps.map V.ref) (fun m σ H2 => ∃ (l : Addr) (o1 o2 o3 o4 : Option V),σ = [some (.int n),some (.ref b),some (.ref l),o1,o2,o3,o4] /\ Same H H2 /\ H2 l = some (.lst ((mgs (rg n.toNat) (qs.take m)).map V.int)))
      ⟨l,none,none,none,none,rfl,s1,hl1⟩ (fun m σ H2 _ ⟨_,_,_,_,_,_,s2,_⟩ => s2.seq hb) ?_ ?_⟩
    · rintro m y σ H2 hm ⟨l,o1,o2,o3,o4,rfl,s2,hl2⟩
      obtain ⟨pa,rfl,haj,_⟩ := getRef hm
      obtain ⟨q,hq,hqj⟩ := paired_getM hP haj
      obtain ⟨q1,q2⟩ := hok q (List.mem_of_getElem? hqj)
      have hLl : (mgs (rg n.toNat) (qs.take m)).length = n.toNat := by rw [mgs_length,rg_length]
      have a1 := atI_lt (ns := mgs (rg n.toNat) (qs.take m)) (i := ((q.1 : Nat) : Int)) (by omega) (by omega)
      have a2 := atI_lt (ns := mgs (rg n.toNat) (qs.take m)) (i := ((q.2 : Nat) : Int)) (by omega) (by omega)
      rw [Int.toNat_natCast] at a1 a2
      refine ⟨pa,_,rfl,s2.seqT hq,rfl,_,_,rfl,_,_,rfl,rfl,?_⟩
      refine ⟨_,rfl,_,rfl,l,_,_,_,rfl,rfl,SqL.of hl2,a2,?_⟩
      refine ⟨_,rfl,_,rfl,l,_,_,_,rfl,rfl,SqL.of hl2,a1,?_⟩
      have eg : L2.mg (mgs (rg n.toNat) (qs.take m)) q = relab (mgs (rg n.toNat) (qs.take m)) ((mgs (rg n.toNat) (qs.take m)).getD q.2 0) ((mgs (rg n.toNat) (qs.take m)).getD q.1 0) := rfl
      rw [take_snoc hqj,mgs_snoc,eg]
      generalize (mgs (rg n.toNat) (qs.take m)).getD q.2 0 = go at *
      generalize (mgs (rg n.toNat) (qs.take m)).getD q.1 0 = st at *
      generalize mgs (rg n.toNat) (qs.take m) = L at *
      refine ⟨_,rfl,l,rfl,⟨_,SqL.of hl2⟩,lc_list (xs := L.map V.int) (fun i ys H4 => H4 = H2 /\ ys = ((relab L go st).take i).map V.int) (le_line (by rw [ltm]; omega)) ⟨rfl,rfl⟩
        (fun i ys H4 _ ⟨e,e2⟩ => ⟨by rw [e]; exact SqL.of hl2,by rw [e2,ltm,List.length_take]; omega⟩) ?_ ?_⟩
      · rintro i y ys H4 hi ⟨rfl,rfl⟩
        obtain ⟨z,rfl,hz,hil⟩ := getI hi
        refine lcN ?_
        have hr : (relab L go st)[i]? = some (if z = go then st else z) := by unfold relab; rw [List.getElem?_map,hz]; rfl
        refine ⟨_,rfl,_,rfl,rfl,_,rfl,ite2 (fun g => ⟨_,rfl,rfl,?_⟩) (fun g => ⟨_,rfl,rfl,?_⟩)⟩
        · have g : z = go := V.int.inj (of_decide_eq_true g)
          rw [if_pos g] at hr
          rw [take_snoc hr,mapV]
        · have g : ¬ z = go := fun e => g (decide_eq_true (congrArg V.int e))
          rw [if_neg g] at hr
          rw [take_snoc hr,mapV]
      · rintro ys H4 ⟨rfl,rfl⟩ p hp
        rw [ltm,<- relab_length L go st,List.take_length]
        exact ⟨p,_,_,_,_,rfl,s2.new2 hp,upd_same⟩
    · rintro σ H2 ⟨l,o1,o2,o3,o4,rfl,s2,hl2⟩
      rw [List.length_map,hpl,List.take_length] at hl2
      refine ⟨_,rfl,l,_,rfl,SqL.of hl2,by rw [mgs_length,rg_length]; omega,fun p H3 _ s3 hp => ?_⟩
      exact k p H3 (s2.trans s3) hp
theorem sc_law_stretches : FnScope (["_law_way_here"]) (["_law_way_here"]) (defScope s_law_stretches) := by trivial
theorem ok_law_stretches {f : Addr} {fd : FuncData} (F : Fun K "_law_stretches" "_law_stretches" s_law_stretches f fd) (B : Bs mg) (T : Gs mg)  (c_law_lots : Cal P w K mg base 1 "_law_lots" [] (spLLots K)) : FnOk P w K mg base CX0 2 f fd ["_law_way_here"] (spStretch K) := by
  have sc := sc_law_stretches
  refine F.ok sc (fun vs H Q E h => ?_) (fun cdv A outer s H vs Q E hr h => ?_)
  · obtain ⟨a,ws,rfl,_⟩ := h; rfl
  · obtain ⟨a,ws,rfl,hS,hw,k⟩ := h
    refine ⟨_,(pss_one (ps_ret (pe_lc (N' := ["_law_lot"]) (M := [none]) (lcSc_of (by rfl)) rfl (kpi_list (K := K) (pe_cal c_law_lots (hr.mono (by decide)) rfl (pa_cons (pv 0) pa_nil))) (fun _ _ _ _ _ => pg_name (i := 0) (show (["_law_lot"] : List Str).Nodup by decide +kernel) rfl (Or.inl rfl) (.inr rfl)) (frm_name rfl) (fun _ _ _ _ _ => pts_nil) (fun _ _ _ _ _ => (pe_tup (pa_cons (pe_ix (kix_list (K := K)) (pv 0) pe_int (fun _ _ => rfl)) (pa_cons (pe_ix (kix_list (K := K)) (pv 0) (pe_un un_neg pe_int) (fun _ _ => rfl)) pa_nil))))))),?_⟩
    obtain ⟨w1,w9,w0⟩ := isWay_iff.mp hw
    have fl := fresh_le ws
    refine ⟨_,rfl,a,ws,rfl,hS,hw,fun p qs H1 s1 hp1 hql hq1 => ?_⟩
    refine ⟨p,rfl,⟨_,SqL.of hp1⟩,lc_list (xs := qs.map V.ref) (fun j ys H4 => Same H1 H4 /\ ∃ ps : List Addr,ys = ps.map V.ref /\ ps.length = j /\ ∀ (k : Nat) q,ps[k]? = some q -> H4 q = some (.tup [.int (hdL ws k),.int (tlL ws k)])) (le_line (by rw [List.length_map]; omega)) ⟨Same.refl _,[],rfl,rfl,fun k q h => by simp at h⟩
      (fun j ys H4 _ ⟨s4,ps,e,e2,_⟩ => ⟨SqL.of (s4 p _ hp1),by rw [e,List.length_map,e2]; exact Nat.le_refl _⟩) ?_ ?_⟩
    · rintro j y ys H4 hj ⟨s4,ps,rfl,hpl,hps⟩
      obtain ⟨q,rfl,hqj,hjl⟩ := getRef hj
      have hne := lotN_ne hw (k := j) (by omega)
      have hq4 := s4 q _ (hq1 j q hqj)
      refine lcN ?_
      refine ⟨_,rfl,q,_,_,_,rfl,rfl,SqL.of hq4,at_hd hne,_,rfl,_,rfl,q,_,_,_,rfl,rfl,SqL.of hq4,at_tl hne,le_line (by simp),fun t ht => ?_⟩
      refine ⟨s4.new2 ht,ps ++ [t],by rw [List.map_append]; rfl,by rw [List.length_append,hpl]; rfl,fun k q' hk => ?_⟩
      by_cases e : k < ps.length
      · rw [List.getElem?_append_left e] at hk
        exact Same.new ht q' _ (hps k q' hk)
      · have hkl : k < (ps ++ [t]).length := (List.getElem?_eq_some_iff.mp hk).1
        rw [List.length_append] at hkl
        have ek : k = ps.length := by simp at hkl; omega
        subst ek
        rw [List.getElem?_append_right (Nat.le_refl _),Nat.sub_self] at hk
        have : t = q' := by simpa using hk
        subst this
        rw [upd_same,hpl]
    · rintro ys H4 ⟨s4,ps,rfl,hpl,hps⟩ r hr'
      rw [List.length_map] at hpl
      exact k r ps _ ((s1.trans s4).new2 hr') upd_same (by omega) (fun k q hk => Same.new hr' q _ (hps k q hk))
theorem sc_law_lie : FnScope (["_law_mine","_law_theirs"]) (["_law_mine","_law_theirs"]) (defScope s_law_lie) := by trivial
theorem ok_law_lie {f : Addr} {fd : FuncData} (F : Fun K "_law_lie" "_law_lie" s_law_lie f fd) (B : Bs mg) (T : Gs mg)   : FnOk P w K mg base CX0 1 f fd ["_law_mine","_law_theirs"] (spLLie K) := by
  have sc := sc_law_lie
  refine F.ok sc (fun vs H Q E h => ?_) (fun cdv A outer s H vs Q E hr h => ?_)
  · obtain ⟨a,b,a0,a1,b0,b1,rfl,_⟩ := h; rfl
  · obtain ⟨a,b,a0,a1,b0,b1,rfl,hA,hB,k⟩ := h
    refine ⟨_,(pss_cons (ps_if (pt_cmpR (op_eqS (K := K) hr.units0) (pv 0) (pv 1) (nomark _)) (pss_one (ps_ret pe_str)) pss_nil)
      (pss_cons (ps_if (PW.pt (pw_or (pt_cmpR op_lt (pe_ix (kix_tup (K := K)) (pv 0) pe_int (fun _ _ => rfl)) (pe_ix (kix_tup (K := K)) (pv 1) pe_int (fun _ _ => rfl)) (nomark _)) (pw_or1 (pt_cmpR op_lt (pe_ix (kix_tup (K := K)) (pv 1) pe_int (fun _ _ => rfl)) (pe_ix (kix_tup (K := K)) (pv 0) pe_int (fun _ _ => rfl)) (nomark _))))) (pss_one (ps_ret pe_str)) pss_nil)
      (pss_cons (ps_if (PW.pt (pw_and (pt_cmpR op_le (pe_ix (kix_tup (K := K)) (pv 1) pe_int (fun _ _ => rfl)) (pe_ix (kix_tup (K := K)) (pv 0) pe_int (fun _ _ => rfl)) (nomark _)) (pw_and1 (pt_cmpR op_le (pe_ix (kix_tup (K := K)) (pv 0) pe_int (fun _ _ => rfl)) (pe_ix (kix_tup (K := K)) (pv 1) pe_int (fun _ _ => rfl)) (nomark _))))) (pss_one (ps_ret pe_str)) pss_nil)
      (pss_cons (ps_if (PW.pt (pw_and (pt_cmpR op_le (pe_ix (kix_tup (K := K)) (pv 0) pe_int (fun _ _ => rfl)) (pe_ix (kix_tup (K := K)) (pv 1) pe_int (fun _ _ => rfl)) (nomark _)) (pw_and1 (pt_cmpR op_le (pe_ix (kix_tup (K := K)) (pv 1) pe_int (fun _ _ => rfl)) (pe_ix (kix_tup (K := K)) (pv 0) pe_int (fun _ _ => rfl)) (nomark _))))) (pss_one (ps_ret pe_str)) pss_nil)
      (pss_one (ps_ret pe_str)))))),?_⟩
    have hA' : SqT K H a ([a0,a1].map V.int) := SqT.of hA
    have hB' : SqT K H b ([b0,b1].map V.int) := SqT.of hB
    have x0 : atI ([a0,a1].map V.int) 0 = some (V.int a0) := rfl
    have x1 : atI ([a0,a1].map V.int) 1 = some (V.int a1) := rfl
    have y0 : atI ([b0,b1].map V.int) 0 = some (V.int b0) := rfl
    have y1 : atI ([b0,b1].map V.int) 1 = some (V.int b1) := rfl
    unfold lieL at k
    refine ⟨_,rfl,_,rfl,a,b,_,_,rfl,rfl,.inl ⟨hA',hB'⟩,_,rfl,ite2 (fun g => ?_) (fun g => ?_)⟩
    · have g : [a0,a1] = [b0,b1] := of_decide_eq_true g
      rw [if_pos (by simpa using g)] at k
      exact k
    have g : ¬ (a0 = b0 /\ a1 = b1) := fun e => g (decide_eq_true (by rw [e.1,e.2]))
    rw [if_neg g] at k
    refine ⟨_,rfl,a,_,_,_,rfl,rfl,hA',x1,_,rfl,b,_,_,_,rfl,rfl,hB',y0,_,_,rfl,rfl,_,rfl,?_⟩
    refine ite2 (fun g1 => iteT ?_) (fun g1 => ?_)
    · rw [if_pos (.inl (of_decide_eq_true g1))] at k; exact k
    have g1 : ¬ a1 < b0 := fun e => g1 (decide_eq_true e)
    refine ⟨_,rfl,b,_,_,_,rfl,rfl,hB',y1,_,rfl,a,_,_,_,rfl,rfl,hA',x0,_,_,rfl,rfl,_,rfl,?_⟩
    refine ite2 (fun g2 => ?_) (fun g2 => ?_)
    · rw [if_pos (.inr (of_decide_eq_true g2))] at k; exact k
    have g2 : ¬ b1 < a0 := fun e => g2 (decide_eq_true e)
    rw [if_neg (by omega)] at k
    by_cases c3 : (b0 <= a0 /\ a1 <= b1)
    · rw [if_pos c3] at k
      refine ⟨_,rfl,b,_,_,_,rfl,rfl,hB',y0,_,rfl,a,_,_,_,rfl,rfl,hA',x0,_,_,rfl,rfl,_,rfl,?_⟩
      rw [decide_eq_true c3.1]
      refine iteT ⟨_,rfl,a,_,_,_,rfl,rfl,hA',x1,_,rfl,b,_,_,_,rfl,rfl,hB',y1,_,_,rfl,rfl,_,rfl,?_⟩
      rw [decide_eq_true c3.2]
      exact iteT k
    rw [if_neg c3] at k
    refine ⟨_,rfl,b,_,_,_,rfl,rfl,hB',y0,_,rfl,a,_,_,_,rfl,rfl,hA',x0,_,_,rfl,rfl,_,rfl,ite2 (fun g3 => ⟨_,rfl,a,_,_,_,rfl,rfl,hA',x1,_,rfl,b,_,_,_,rfl,rfl,hB',y1,_,_,rfl,rfl,_,rfl,ite2 (fun g4 => absurd ⟨of_decide_eq_true g3,of_decide_eq_true g4⟩ c3) (fun _ => ?_)⟩) (fun _ => iteF ?_)⟩
    all_goals
      by_cases c5 : (a0 <= b0 /\ b1 <= a1)
      · rw [if_pos c5] at k
        refine ⟨_,rfl,a,_,_,_,rfl,rfl,hA',x0,_,rfl,b,_,_,_,rfl,rfl,hB',y0,_,_,rfl,rfl,_,rfl,?_⟩
        rw [decide_eq_true c5.1]
        refine iteT ⟨_,rfl,b,_,_,_,rfl,rfl,hB',y1,_,rfl,a,_,_,_,rfl,rfl,hA',x1,_,_,rfl,rfl,_,rfl,?_⟩
        rw [decide_eq_true c5.2]
        exact iteT k
      · rw [if_neg c5] at k
        exact ⟨_,rfl,a,_,_,_,rfl,rfl,hA',x0,_,rfl,b,_,_,_,rfl,rfl,hB',y0,_,_,rfl,rfl,_,rfl,ite2 (fun g5 => ⟨_,rfl,b,_,_,_,rfl,rfl,hB',y1,_,rfl,a,_,_,_,rfl,rfl,hA',x1,_,_,rfl,rfl,_,rfl,ite2 (fun g6 => absurd ⟨of_decide_eq_true g5,of_decide_eq_true g6⟩ c5) (fun _ => k)⟩) (fun _ => iteF k)⟩
theorem sc_law_stands : FnScope (["_law_spread","_law_row","_law_last","_law_lot","_law_word"]) (["_law_spread","_law_row"]) (defScope s_law_stands) := by trivial
theorem ok_law_stands {f : Addr} {fd : FuncData} (F : Fun K "_law_stands" "_law_stands" s_law_stands f fd) (B : Bs mg) (T : Gs mg)  (c_law_lie : Cal P w K mg base 1 "_law_lie" [] (spLLie K)) : FnOk P w K mg base CX0 3 f fd ["_law_spread","_law_row"] (spStandsG K) := by
  have sc := sc_law_stands
  refine F.ok sc (fun vs H Q E h => ?_) (fun cdv A outer s H vs Q E hr h => ?_)
  · obtain ⟨p,c,ps,ws,R,m,rfl,_⟩ := h; rfl
  · obtain ⟨p,c,ps,ws,R,m,rfl,hsp,hc,hw,hR,hm,k⟩ := h
    refine ⟨_,(pss_cons (ps_set (i := 2) sc.nd rfl (Or.inl rfl) (pe_op op_sub (pe_callB (kc_len (K := K)) (by rfl) B.len PyProof.Rows.Boot.«len» (pa_cons (pv 1) pa_nil)) pe_int))
      (pss_cons (ps_for PassesOwn.never rfl (pi_range1 rfl B.range (pa_cons (pv 2) pa_nil)) (pg_name (i := 3) sc.nd rfl (Or.inl rfl))
      (pss_cons (ps_set (i := 4) sc.nd rfl (Or.inl rfl) (pe_cal c_law_lie (hr.mono (by decide)) rfl (pa_cons (pe_ix (kix_list (K := K)) (pv 0) (pv 2) (fun _ _ => rfl)) (pa_cons (pe_ix (kix_list (K := K)) (pv 0) (pv 3) (fun _ _ => rfl)) pa_nil))))
      (pss_cons (ps_if (PW.pt (pw_and (pt_cmpR op_eq (pv 4) pe_str (nomark _)) (pw_and1 (pt_cmpR op_ge (pe_ix (kix_list (K := K)) (pv 1) (pv 2) (fun _ _ => rfl)) (pe_ix (kix_list (K := K)) (pv 1) (pv 3) (fun _ _ => rfl)) (nomark _))))) (pss_one (ps_ret pe_bl)) pss_nil)
      (pss_cons (ps_if (PW.pt (pw_and (pt_cmpR op_eq (pv 4) pe_str (nomark _)) (pw_and1 (pt_cmpR op_le (pe_ix (kix_list (K := K)) (pv 1) (pv 2) (fun _ _ => rfl)) (pe_ix (kix_list (K := K)) (pv 1) (pv 3) (fun _ _ => rfl)) (nomark _))))) (pss_one (ps_ret pe_bl)) pss_nil)
      (pss_one (ps_if (PW.pt (pw_and (pt_cmpR op_eq (pv 4) pe_str (nomark _)) (pw_and1 (pt_cmpR op_eq (pe_ix (kix_list (K := K)) (pv 1) (pv 2) (fun _ _ => rfl)) (pe_ix (kix_list (K := K)) (pv 1) (pv 3) (fun _ _ => rfl)) (nomark _))))) (pss_one (ps_ret pe_bl)) pss_nil))))))
      (pss_one (ps_ret pe_bl)))),?_⟩
    obtain ⟨w1,w9,w0⟩ := isWay_iff.mp hw
    have fl := fresh_le ws
    have sV : ∀ x y : Str,decide (V.str x = V.str y) = decide (x = y) := fun x y => decide_eq_decide.mpr ⟨fun e => V.str.inj e,fun e => congrArg V.str e⟩
    have iV : ∀ x y : Int,decide (V.int x = V.int y) = decide (x = y) := fun x y => decide_eq_decide.mpr ⟨fun e => V.int.inj e,fun e => congrArg V.int e⟩
    refine ⟨_,rfl,c,_,rfl,.inl (SqL.of hc),_,_,rfl,rfl,?_⟩
    rw [ltm,hR]
    have em : ((m + 1 : Nat) : Int) - 1 = (m : Int) := by omega
    have hml : (R.take m).length = m := by rw [List.length_take]; omega
    refine ⟨_,rfl,_,rfl,by omega,by omega,for_range (lo := 0) (n := (((m + 1 : Nat) : Int) - 1).toNat) (fun i σ H4 => ∃ (o3 o4 : Option V),σ = [some (.ref p),some (.ref c),some (.int (((m + 1 : Nat) : Int) - 1)),o3,o4] /\ H4 = H /\ (List.range i).all (fun k => !(arW ws k m && decide (R.getD k 0 <= R.getD m 0)) && !(crW ws k m && decide (R.getD k 0 = R.getD m 0))) = true) ⟨none,none,rfl,rfl,rfl⟩ ?_ ?_⟩
    · rintro i σ H4 hi ⟨o3,o4,rfl,rfl,hall⟩
      have him : i < m := by omega
      obtain ⟨q1,e1,t1⟩ := hsp.at (k := m) (by omega)
      obtain ⟨q2,e2,t2⟩ := hsp.at (k := i) (by omega)
      have a1 : atI (ps.map V.ref) (((m + 1 : Nat) : Int) - 1) = some (V.ref q1) := by rw [em]; exact atI_ref e1
      have a2 : atI (ps.map V.ref) (0 + (i : Int)) = some (V.ref q2) := by rw [Int.zero_add]; exact atI_ref e2
      have am := atI_lt (ns := R) (i := (((m + 1 : Nat) : Int) - 1)) (by omega) (by omega)
      have ai := atI_lt (ns := R) (i := 0 + (i : Int)) (by omega) (by omega)
      rw [show (((m + 1 : Nat) : Int) - 1).toNat = m by omega] at am
      rw [show ((0 : Int) + (i : Int)).toNat = i by omega] at ai
      obtain ⟨r1,r2,r3⟩ := lie_rev (a1 := tlL ws i) (b1 := tlL ws m) (hd_mono hw him (by omega))
      obtain ⟨r4,r5⟩ := lie_rev2 (a1 := tlL ws i) (b1 := tlL ws m) (hd_mono hw him (by omega))
      have eA : arW ws i m = decide (lieS (hdL ws i) (tlL ws i) (hdL ws m) (tlL ws m) = "around") := rfl
      have eC : crW ws i m = decide (lieS (hdL ws i) (tlL ws i) (hdL ws m) (tlL ws m) = "crossing") := rfl
      refine ⟨_,rfl,_,rfl,p,_,_,_,rfl,rfl,SqL.of hsp.1,a1,_,rfl,_,rfl,p,_,_,_,rfl,rfl,SqL.of hsp.1,a2,q1,q2,_,_,_,_,rfl,t1,t2,?_⟩
      rw [<- lie_same hw (by omega) (by omega)]
      have eA : arW ws i m = decide (lieS (hdL ws m) (tlL ws m) (hdL ws i) (tlL ws i) = "inside") := by rw [eA]; exact decide_eq_decide.mpr ⟨r4,r1⟩
      have eC : crW ws i m = decide (lieS (hdL ws m) (tlL ws m) (hdL ws i) (tlL ws i) = "crossing") := by rw [eC]; exact decide_eq_decide.mpr ⟨r5,r3⟩
      clear r1 r3 r4 r5
      generalize lieS (hdL ws m) (tlL ws m) (hdL ws i) (tlL ws i) = W at r2 eA eC
      have bad : (!(arW ws i m && decide (R.getD i 0 <= R.getD m 0)) && !(crW ws i m && decide (R.getD i 0 = R.getD m 0))) = false -> Q (.bl false) H4 := fun z => by
        have : suitsB (arW ws) (crW ws) (R.take m) (R.getD m 0) = false := by
          unfold suitsB
          rw [List.all_eq_false]
          refine ⟨i,List.mem_range.mpr (by omega),?_⟩
          rw [hml,show (R.take m).getD i 0 = R.getD i 0 by rw [List.getD_eq_getElem?_getD,List.getD_eq_getElem?_getD,List.getElem?_take_of_lt him],z]; decide
        rw [this] at k
        exact k
      have good : (!(arW ws i m && decide (R.getD i 0 <= R.getD m 0)) && !(crW ws i m && decide (R.getD i 0 = R.getD m 0))) = true -> (List.range (i + 1)).all (fun k => !(arW ws k m && decide (R.getD k 0 <= R.getD m 0)) && !(crW ws k m && decide (R.getD k 0 = R.getD m 0))) = true := fun z => by
        rw [List.range_succ,List.all_append,hall,Bool.true_and,List.all_cons,z]; rfl
      rw [eA,eC] at bad good
      refine ⟨_,rfl,rfl,_,rfl,ite2 (fun g => ⟨_,rfl,_,rfl,c,_,_,_,rfl,rfl,SqL.of hc,am,_,rfl,_,rfl,c,_,_,_,rfl,rfl,SqL.of hc,ai,_,_,rfl,rfl,_,rfl,ite2 (fun g2 => ?_) (fun g2 => ?_)⟩) (fun g => ite2 (fun z => by cases z) (fun _ => ?_))⟩
      · rw [sV] at g
        refine bad ?_
        rw [g,show decide (R.getD i 0 <= R.getD m 0) = true from g2]; rfl
      all_goals rw [sV] at g
      · have eW := of_decide_eq_true g
        have nC : decide (W = "crossing") = false := by rw [eW]; decide
        have nA : decide (W = "around") = false := by rw [eW]; decide
        rw [nC,show decide (R.getD i 0 <= R.getD m 0) = false from Bool.eq_false_iff.mpr g2] at good
        refine ⟨_,rfl,rfl,_,rfl,ite2 (fun g => ?_) (fun g => ite2 (fun z => by cases z) (fun _ => ?_))⟩
        · rw [sV,nA] at g; cases g
        refine ⟨_,rfl,rfl,_,rfl,ite2 (fun g => ?_) (fun g => ite2 (fun z => by cases z) (fun _ => ?_))⟩
        · rw [sV,nC] at g; cases g
        exact ⟨_,_,rfl,rfl,good (by simp)⟩
      · rw [show decide (W = "inside") = false from Bool.eq_false_iff.mpr g] at good bad
        refine ⟨_,rfl,rfl,_,rfl,ite2 (fun g => ?_) (fun g => ite2 (fun z => by cases z) (fun _ => ?_))⟩
        · rw [sV] at g; exact absurd (of_decide_eq_true g) r2
        refine ⟨_,rfl,rfl,_,rfl,ite2 (fun g => ⟨_,rfl,_,rfl,c,_,_,_,rfl,rfl,SqL.of hc,am,_,rfl,_,rfl,c,_,_,_,rfl,rfl,SqL.of hc,ai,rfl,_,rfl,ite2 (fun g2 => ?_) (fun g2 => ?_)⟩) (fun g => ite2 (fun z => by cases z) (fun _ => ?_))⟩
        · rw [sV] at g
          rw [iV] at g2
          refine bad ?_
          rw [g,show decide (R.getD i 0 = R.getD m 0) = true from decide_eq_true (of_decide_eq_true g2).symm]; rfl
        · rw [sV] at g
          rw [iV] at g2
          refine ⟨_,_,rfl,rfl,good ?_⟩
          rw [g,show decide (R.getD i 0 = R.getD m 0) = false from decide_eq_false fun e => g2 (decide_eq_true e.symm)]; rfl
        · rw [sV] at g
          refine ⟨_,_,rfl,rfl,good ?_⟩
          rw [show decide (W = "crossing") = false from Bool.eq_false_iff.mpr g]; rfl
    · rintro σ H4 ⟨o3,o4,rfl,rfl,hall⟩
      have : suitsB (arW ws) (crW ws) (R.take m) (R.getD m 0) = true := by
        rw [<- hall,show (((m + 1 : Nat) : Int) - 1).toNat = m by omega]
        unfold suitsB
        rw [hml]
        refine Bool.eq_iff_iff.mpr ?_
        rw [List.all_eq_true,List.all_eq_true]
        refine forall_congr' fun x => forall_congr' fun hx => ?_
        have hx := List.mem_range.mp hx
        rw [show (R.take m).getD x 0 = R.getD x 0 by rw [List.getD_eq_getElem?_getD,List.getD_eq_getElem?_getD,List.getElem?_take_of_lt hx]]
      rw [this] at k
      exact k
theorem sc_law_height_rows : FnScope (["_law_spread","_law_greatest","_law_rows","_law_stretch","_law_longer","_law_row","_law_height"]) (["_law_spread","_law_greatest"]) (defScope s_law_height_rows) := by trivial
theorem ok_law_height_rows {f : Addr} {fd : FuncData} (F : Fun K "_law_height_rows" "_law_height_rows" s_law_height_rows f fd) (B : Bs mg) (T : Gs mg)  (c_law_stands : Cal P w K mg base 3 "_law_stands" [] (spStandsG K)) : FnOk P w K mg base CX0 4 f fd ["_law_spread","_law_greatest"] (spHRows K) := by
  have sc := sc_law_height_rows
  refine F.ok sc (fun vs H Q E h => ?_) (fun cdv A outer s H vs Q E hr h => ?_)
  · obtain ⟨p,ps,ws,g,rfl,_⟩ := h; rfl
  · obtain ⟨p,ps,ws,g,rfl,hsp,hw,hg,k⟩ := h
    refine ⟨_,(pss_cons (ps_set (i := 2) sc.nd rfl (Or.inl rfl) (pe_lst (pa_cons (pe_lst pa_nil) pa_nil)))
      (pss_cons (ps_for PassesOwn.never rfl (kpi_list (K := K) (pv 0)) (pg_name (i := 3) sc.nd rfl (Or.inl rfl))
      (pss_cons (ps_set (i := 4) sc.nd rfl (Or.inl rfl) (pe_lst pa_nil))
      (pss_cons (ps_for PassesOwn.never rfl (kpi_list (K := K) (pv 2)) (pg_name (i := 5) sc.nd rfl (Or.inl rfl))
      (pss_one (ps_for PassesOwn.never rfl (pi_range2 rfl B.range (pa_cons pe_int (pa_cons (pe_op op_add (pv 1) pe_int) pa_nil))) (pg_name (i := 6) sc.nd rfl (Or.inl rfl))
      (pss_one (ps_if (pt_val (pe_cal c_law_stands (hr.mono (by decide)) rfl (pa_cons (pv 0) (pa_cons (pe_op op_cat (pv 5) (pe_lst (pa_cons (pv 6) pa_nil))) pa_nil)))) (pss_one (ps_expr (pe_bm PySem.F.plainAttrs_list PySem.F.slot_list_append PySem.F.type_list_append mt_append (pv 4) (pa_cons (pe_op op_cat (pv 5) (pe_lst (pa_cons (pv 6) pa_nil))) pa_nil)))) pss_nil)))))
      (pss_one (ps_set (i := 2) sc.nd rfl (Or.inl rfl) (pv 4))))))
      (pss_one (ps_ret (pv 2))))),?_⟩
    obtain ⟨w1,w9,w0⟩ := isWay_iff.mp hw
    have fl := fresh_le ws
    have hsl := hsp.2.1
    refine ⟨Nat.zero_le _,fun e0 he0 => ⟨le_line (by simp),fun r0 hr0 => ?_⟩⟩
    have s0 := (Same.new (o := HO.lst []) he0).new2 (o := HO.lst [V.ref e0]) hr0
    have hr1 : upd (upd H e0 (HO.lst [])) r0 (HO.lst [V.ref e0]) r0 = some (.lst ([e0].map V.ref)) := upd_same
    have he1 : upd (upd H e0 (HO.lst [])) r0 (HO.lst [V.ref e0]) e0 = some (.lst (([] : List Int).map V.int)) := Same.new hr0 e0 _ upd_same
    generalize upd (upd H e0 (HO.lst [])) r0 (HO.lst [V.ref e0]) = H1 at s0 hr1 he1
    refine ⟨_,rfl,p,rfl,⟨_,SqL.of (s0 p _ hsp.1)⟩,for_list (K := K) (a := p) (xs := ps.map V.ref) (fun i σ H2 => ∃ (r : Addr) (qs : List Addr) (o3 o4 o5 o6 : Option V),σ = [some (.ref p),some (.int (g : Int)),some (.ref r),o3,o4,o5,o6] /\ Same H H2 /\ H2 r = some (.lst (qs.map V.ref)) /\ LhAt H2 qs (extH (arW ws) (crW ws) g i [[]]))
      ⟨r0,[e0],none,none,none,none,rfl,s0,hr1,.cons he1 .nil⟩ (fun i σ H2 _ ⟨_,_,_,_,_,_,_,s2,_⟩ => SqL.of (s2 p _ hsp.1)) ?_ ?_⟩
    · rintro i y σ H2 hi ⟨r,qs,o3,o4,o5,o6,rfl,s2,hr2,hQ⟩
      obtain ⟨_,rfl,_,hil⟩ := getRef hi
      have hi9 : i < 9 := by omega
      have hlen := extH_len (ar := arW ws) (cr := crW ws) (g := g) i
      have hrow := extH_row (ar := arW ws) (cr := crW ws) (g := g) i
      have hlen1 := extH_len (ar := arW ws) (cr := crW ws) (g := g) (i + 1)
      have hpw : g ^ (i + 1) <= 5 ^ 9 := Nat.le_trans (Nat.pow_le_pow_left hg _) (Nat.pow_le_pow_right (by decide) (by omega))
      have hb : (extH (arW ws) (crW ws) g (i + 1) [[]]).length <= 1953125 := Nat.le_trans hlen1 (Nat.le_trans hpw (by decide))
      rw [extH_snoc] at hb ⊢
      generalize extH (arW ws) (crW ws) g i [[]] = L at hQ hlen hrow hb
      have hql := hQ.length
      refine ⟨Nat.zero_le _,fun q hq => ?_⟩
      have hqH : H2 q = none := hq
      have s3 := Same.new (o := HO.lst []) hq
      have hq3 : upd H2 q (HO.lst []) q = some (.lst (([] : List Addr).map V.ref)) := upd_same
      generalize upd H2 q (HO.lst []) = H3 at s3 hq3
      refine ⟨_,rfl,r,rfl,⟨_,SqL.of (s3 r _ hr2)⟩,for_list (K := K) (a := r) (xs := qs.map V.ref) (fun t σ H4 => ∃ (zs : List Addr) (o3 o5 o6 : Option V),σ = [some (.ref p),some (.int (g : Int)),some (.ref r),o3,some (.ref q),o5,o6] /\ Same H2 H4 /\ H4 q = some (.lst (zs.map V.ref)) /\ Paired (fun a (xs : List Int) => a ≠ q /\ H4 a = some (.lst (xs.map V.int))) zs ((L.take t).flatMap (stepH (arW ws) (crW ws) g)))
        ⟨[],_,o5,o6,rfl,s3,hq3,.nil⟩ (fun t σ H4 _ ⟨_,_,_,_,_,s4,_⟩ => SqL.of (s4 r _ hr2)) ?_ ?_⟩
      · rintro t y σ H4 ht ⟨zs,o3,o5,o6,rfl,s4,hq4,hZ⟩
        obtain ⟨ra,rfl,hra,htl⟩ := getRef ht
        obtain ⟨xs,hxs,hxt⟩ := lh_get hQ hra
        have hxl := hrow xs (List.mem_of_getElem? hxt)
        have hxs4 := s4 ra _ hxs
        have hts := take_snoc hxt
        have hb1 : ((L.take (t + 1)).flatMap (stepH (arW ws) (crW ws) g)).length <= 1953125 := Nat.le_trans (flat_le _ _ _) hb
        rw [hts,List.flatMap_append,List.flatMap_singleton,List.length_append] at hb1
        refine ⟨_,rfl,_,_,rfl,rfl,_,_,rfl,⟨by omega,by omega,by omega,by omega⟩,for_range (lo := 1) (n := ((g : Int) + 1 - 1).toNat) (fun j σ H5 => ∃ (zs : List Addr) (o6 : Option V),σ = [some (.ref p),some (.int (g : Int)),some (.ref r),o3,some (.ref q),some (.ref ra),o6] /\ Same H2 H5 /\ H5 q = some (.lst (zs.map V.ref)) /\ Paired (fun a (xs : List Int) => a ≠ q /\ H5 a = some (.lst (xs.map V.int))) zs ((L.take t).flatMap (stepH (arW ws) (crW ws) g) ++ (List.range j).filterMap fun (h : Nat) => if suitsB (arW ws) (crW ws) xs ((h : Int) + 1) then some (xs ++ [(h : Int) + 1]) else none))
          ⟨zs,o6,rfl,s4,hq4,by simpa using hZ⟩ ?_ ?_⟩
        · rintro j σ H5 hj ⟨zs,o6,rfl,s5,hq5,hZ⟩
          have hzl := hZ.length
          have hjl : ((List.range j).filterMap fun (h : Nat) => if suitsB (arW ws) (crW ws) xs ((h : Int) + 1) then some (xs ++ [(h : Int) + 1]) else none).length <= j := Nat.le_trans (List.length_filterMap_le _ _) (by simp)
          rw [List.length_append] at hzl
          have hx5 := s5 ra _ hxs
          have hraq : ra ≠ q := ne_of_none hxs hqH
          have efm : (List.range (j + 1)).filterMap (fun (h : Nat) => if suitsB (arW ws) (crW ws) xs ((h : Int) + 1) then some (xs ++ [(h : Int) + 1]) else none) = (List.range j).filterMap (fun (h : Nat) => if suitsB (arW ws) (crW ws) xs ((h : Int) + 1) then some (xs ++ [(h : Int) + 1]) else none) ++ (if suitsB (arW ws) (crW ws) xs ((j : Int) + 1) then [xs ++ [(j : Int) + 1]] else []) := by
            rw [List.range_succ,List.filterMap_append]
            congr 1
            by_cases e : suitsB (arW ws) (crW ws) xs ((j : Int) + 1) = true
            · rw [if_pos e,List.filterMap_cons,if_pos e]; rfl
            · rw [if_neg e,List.filterMap_cons,if_neg e]; rfl
          refine ⟨_,rfl,_,rfl,_,rfl,le_line (by simp),fun l1 hl1 => ⟨ra,l1,_,_,rfl,rfl,Same.new hl1 ra _ hx5,upd_same,le_line (by rw [ltm]; simp; omega),fun l2 hl2 => ?_⟩⟩
          have s6 := (Same.new (o := HO.lst [V.int (1 + (j : Int))]) hl1).new2 (o := HO.lst (xs.map V.int ++ [V.int (1 + (j : Int))])) hl2
          have h62 : upd (upd H5 l1 (HO.lst [V.int (1 + (j : Int))])) l2 (HO.lst (xs.map V.int ++ [V.int (1 + (j : Int))])) l2 = some (.lst ((xs ++ [1 + (j : Int)]).map V.int)) := by rw [upd_same,mapV]
          generalize upd (upd H5 l1 (HO.lst [V.int (1 + (j : Int))])) l2 (HO.lst (xs.map V.int ++ [V.int (1 + (j : Int))])) = H6 at s6 h62
          have S6 := (s2.trans s5).trans s6
          refine ⟨p,l2,ps,ws,xs ++ [1 + (j : Int)],i,rfl,hsp.same S6,h62,hw,by rw [List.length_append,hxl]; rfl,by omega,?_⟩
          rw [show (xs ++ [1 + (j : Int)]).take i = xs by rw [<- hxl,List.take_left],show (xs ++ [1 + (j : Int)]).getD i 0 = (j : Int) + 1 by rw [<- hxl,getD_app2]; omega]
          refine ⟨_,rfl,ite2 (fun gt => ?_) (fun gf => ?_)⟩
          · have hq6 := s6 q _ hq5
            have hx6 := s6 ra _ hx5
            refine ⟨_,rfl,.inl ⟨rfl,_,SqL.of hq6⟩,_,rfl,_,rfl,le_line (by simp),fun l3 hl3 => ⟨ra,l3,_,_,rfl,rfl,Same.new hl3 ra _ hx6,upd_same,le_line (by rw [ltm]; simp; omega),fun l4 hl4 => ?_⟩⟩
            have s7 := (Same.new (o := HO.lst [V.int (1 + (j : Int))]) hl3).new2 (o := HO.lst (xs.map V.int ++ [V.int (1 + (j : Int))])) hl4
            have h74 : upd (upd H6 l3 (HO.lst [V.int (1 + (j : Int))])) l4 (HO.lst (xs.map V.int ++ [V.int (1 + (j : Int))])) l4 = some (.lst ((xs ++ [1 + (j : Int)]).map V.int)) := by rw [upd_same,mapV]
            have hl46 : H6 l4 = none := (Same.new hl3).free hl4
            generalize upd (upd H6 l3 (HO.lst [V.int (1 + (j : Int))])) l4 (HO.lst (xs.map V.int ++ [V.int (1 + (j : Int))])) = H7 at s7 h74
            have hq7 := s7 q _ hq6
            have hl4q : l4 ≠ q := fun e => by rw [e,hq6] at hl46; cases hl46
            refine ⟨q,_,_,rfl,rfl,hq7,lt_line (by rw [List.length_map]; omega),?_⟩
            refine ⟨zs ++ [l4],_,rfl,((s5.trans s6).trans s7).put hqH,by rw [upd_same,List.map_append]; rfl,?_⟩
            rw [efm,if_pos gt,<- List.append_assoc]
            refine Paired.snoc (L2.Paired.mapP hZ fun a' xs' z => ⟨z.1,by rw [upd_ne z.1]; exact s7 a' _ (s6 a' _ z.2)⟩) ⟨hl4q,?_⟩
            rw [upd_ne hl4q,h74,Int.add_comm]
          · refine ⟨zs,_,rfl,s5.trans s6,s6 q _ hq5,?_⟩
            rw [efm,if_neg gf,List.append_nil]
            exact L2.Paired.mapP hZ fun a' xs' z => ⟨z.1,s6 a' _ z.2⟩
        · rintro σ H5 ⟨zs,o6,rfl,s5,hq5,hZ⟩
          refine ⟨zs,_,_,_,rfl,s5,hq5,?_⟩
          rw [hts,List.flatMap_append,List.flatMap_singleton]
          rw [show ((g : Int) + 1 - 1).toNat = g by omega] at hZ
          exact hZ
      · rintro σ H4 ⟨zs,o3,o5,o6,rfl,s4,hq4,hZ⟩
        rw [List.length_map,hql,List.take_length] at hZ
        exact ⟨_,rfl,q,zs,_,_,_,_,rfl,s2.trans s4,hq4,L2.Paired.mapP hZ fun a xs z => z.2⟩
    · rintro σ H2 ⟨r,qs,o3,o4,o5,o6,rfl,s2,hr2,hQ⟩
      rw [List.length_map,hsl] at hQ
      exact ⟨_,rfl,k r qs H2 s2 hr2 hQ⟩
theorem sc_law_heights : FnScope (["_law_way_here","_law_spread","_law_greatest","_law_rows"]) (["_law_way_here"]) (defScope s_law_heights) := by trivial
theorem ok_law_heights {f : Addr} {fd : FuncData} (F : Fun K "_law_heights" "_law_heights" s_law_heights f fd) (B : Bs mg) (T : Gs mg)  (c_law_height_rows : Cal P w K mg base 4 "_law_height_rows" [] (spHRows K)) (c_law_stretches : Cal P w K mg base 2 "_law_stretches" [] (spStretch K)) : FnOk P w K mg base CX0 7 f fd ["_law_way_here"] (spLHei K) := by
  have sc := sc_law_heights
  refine F.ok sc (fun vs H Q E h => ?_) (fun cdv A outer s H vs Q E hr h => ?_)
  · obtain ⟨a,ws,rfl,_⟩ := h; rfl
  · obtain ⟨a,ws,rfl,hT,hw,k⟩ := h
    refine ⟨_,(pss_cons (ps_set (i := 1) sc.nd rfl (Or.inl rfl) (pe_cal c_law_stretches (hr.mono (by decide)) rfl (pa_cons (pv 0) pa_nil)))
      (pss_cons (ps_for PassesOwn.never rfl (pi_range2 rfl B.range (pa_cons pe_int (pa_cons (pe_op op_add (pe_callB (kc_len (K := K)) (by rfl) B.len PyProof.Rows.Boot.«len» (pa_cons (pv 1) pa_nil)) pe_int) pa_nil))) (pg_name (i := 2) sc.nd rfl (Or.inl rfl))
      (pss_cons (ps_set (i := 3) sc.nd rfl (Or.inl rfl) (pe_cal c_law_height_rows (hr.mono (by decide)) rfl (pa_cons (pv 1) (pa_cons (pv 2) pa_nil))))
      (pss_one (ps_if (pt_cmpR op_gt (pe_callB (kc_len (K := K)) (by rfl) B.len PyProof.Rows.Boot.«len» (pa_cons (pv 3) pa_nil)) pe_int (nomark _)) (pss_one (ps_ret (pe_ix (kix_list (K := K)) (pv 3) pe_int (fun _ _ => rfl)))) pss_nil))))
      (pss_one (ps_ret (pe_lst pa_nil))))),?_⟩
    obtain ⟨w1,w9,w0⟩ := isWay_iff.mp hw
    have f0 := (fresh_pos w0 (fun e => by rw [e] at w1; simp at w1)).1
    have fl := fresh_le ws
    refine ⟨_,rfl,a,ws,rfl,hT,hw,fun p ps H1 s1 hp1 hpl hps => ?_⟩
    have hsp : SpanAt H1 p ps ws := ⟨hp1,hpl,hps⟩
    refine ⟨_,rfl,p,_,rfl,.inl (SqL.of hp1),_,_,rfl,rfl,?_⟩
    rw [List.length_map,hpl]
    refine ⟨_,_,rfl,⟨by omega,by omega,by omega,by omega⟩,for_range (lo := 1) (n := (((fresh 0 ws).toNat : Int) + 1 - 1).toNat) (fun i σ H2 => ∃ (o2 o3 : Option V),σ = [some (.ref a),some (.ref p),o2,o3] /\ Same H1 H2 /\ ∀ g',1 <= g' -> g' <= i -> extH (arW ws) (crW ws) g' (fresh 0 ws).toNat [[]] = []) ⟨none,none,rfl,Same.refl _,fun g' a b => by omega⟩ ?_ ?_⟩
    · rintro i σ H2 hi ⟨o2,o3,rfl,s2,hno⟩
      have i5 : i < 5 := Nat.lt_of_not_le fun z => ext_ne (five_good hw).1 (five_good hw).2 (hno 5 (by decide) z)
      have e1 : (1 : Int) + (i : Int) = ((i + 1 : Nat) : Int) := by omega
      rw [e1]
      refine ⟨_,rfl,_,rfl,p,ps,ws,i + 1,rfl,hsp.same s2,hw,by omega,fun r qs H3 s3 hr3 hQ => ?_⟩
      refine ⟨_,rfl,r,_,rfl,.inl (SqL.of hr3),_,_,rfl,rfl,_,rfl,?_⟩
      have hql := hQ.length
      rw [List.length_map]
      cases e : extH (arW ws) (crW ws) (i + 1) (fresh 0 ws).toNat [[]] with
      | nil =>
        rw [e] at hql
        rw [hql]
        refine iteF ⟨_,_,rfl,s2.trans s3,fun g' a b => ?_⟩
        by_cases z : g' = i + 1
        · rw [z]; exact e
        · exact hno g' a (by omega)
      | cons F L =>
        rw [e] at hQ hql
        obtain ⟨q0,qs',rfl,hq0⟩ : ∃ q0 qs',qs = q0 :: qs' /\ H3 q0 = some (.lst (F.map V.int)) := by
          cases hQ with
          | cons a b => exact ⟨_,_,rfl,a⟩
        refine ite2 (fun _ => ?_) (fun z => absurd (decide_eq_true (by rw [List.length_cons]; omega)) z)
        exact ⟨_,rfl,r,_,_,_,rfl,rfl,SqL.of hr3,atI_ref (j := 0) rfl,k q0 F _ ((s1.trans s2).trans s3) hq0 (isH_of (by omega) e fun g' a b => hno g' a (by omega))⟩
    · rintro σ H2 ⟨o2,o3,rfl,s2,hno⟩
      exact (ext_ne (g := (fresh 0 ws).toNat) (desc_good (by omega)) descL_length (hno _ (by omega) (by omega))).elim
theorem sc_law_over : FnScope (["_law_spread","_law_tops","_law_height","_law_first","_law_last","_law_lot"]) (["_law_spread","_law_tops","_law_height","_law_first","_law_last"]) (defScope s_law_over) := by trivial
theorem ok_law_over {f : Addr} {fd : FuncData} (F : Fun K "_law_over" "_law_over" s_law_over f fd) (B : Bs mg) (T : Gs mg)   : FnOk P w K mg base CX0 1 f fd ["_law_spread","_law_tops","_law_height","_law_first","_law_last"] (spOver K) := by
  have sc := sc_law_over
  refine F.ok sc (fun vs H Q E h => ?_) (fun cdv A outer s H vs Q E hr h => ?_)
  · obtain ⟨p,t,ps,ws,F,h,a,b,rfl,_⟩ := h; rfl
  · obtain ⟨p,t,ps,ws,F,ht,a,b,rfl,hsp,hF,hFl,hw,k⟩ := h
    refine ⟨_,(pss_cons (ps_for PassesOwn.never rfl (pi_range1 rfl B.range (pa_cons (pe_callB (kc_len (K := K)) (by rfl) B.len PyProof.Rows.Boot.«len» (pa_cons (pv 1) pa_nil)) pa_nil)) (pg_name (i := 5) sc.nd rfl (Or.inl rfl))
      (pss_one (ps_if (PW.pt (pw_and (pt_cmpR op_eq (pe_ix (kix_list (K := K)) (pv 1) (pv 5) (fun _ _ => rfl)) (pv 2) (nomark _)) (pw_and (pt_cmpR op_le (pe_ix (kix_tup (K := K)) (pe_ix (kix_list (K := K)) (pv 0) (pv 5) (fun _ _ => rfl)) pe_int (fun _ _ => rfl)) (pv 3) (nomark _)) (pw_and1 (pt_cmpR op_le (pv 4) (pe_ix (kix_tup (K := K)) (pe_ix (kix_list (K := K)) (pv 0) (pv 5) (fun _ _ => rfl)) pe_int (fun _ _ => rfl)) (nomark _)))))) (pss_one (ps_ret pe_bl)) pss_nil)))
      (pss_one (ps_ret pe_bl))),?_⟩
    obtain ⟨w1,w9,w0⟩ := isWay_iff.mp hw
    have fl := fresh_le ws
    have fn := hsp.2.1
    refine ⟨_,rfl,t,_,rfl,.inl (SqL.of hF),?_⟩
    rw [ltm]
    refine ⟨_,rfl,by omega,by omega,for_range (lo := 0) (n := ((F.length : Int)).toNat) (fun i σ H2 => ∃ (o : Option V),σ = [some (.ref p),some (.ref t),some (.int ht),some (.int a),some (.int b),o] /\ H2 = H /\ ((List.range i).any fun k => decide (F.getD k 0 = ht) && (decide (hdL ws k <= a) && decide (b <= tlL ws k))) = false) ⟨none,rfl,rfl,rfl⟩ ?_ ?_⟩
    · rintro i σ H2 hi ⟨o,rfl,rfl,hno⟩
      have hin : i < (fresh 0 ws).toNat := by omega
      obtain ⟨q,e1,t1⟩ := hsp.at hin
      have aq : atI (ps.map V.ref) (0 + (i : Int)) = some (V.ref q) := by rw [Int.zero_add]; exact atI_ref e1
      have af := atI_lt (ns := F) (i := 0 + (i : Int)) (by omega) (by omega)
      rw [show ((0 : Int) + (i : Int)).toNat = i by omega] at af
      have go : (decide (F.getD i 0 = ht) && (decide (hdL ws i <= a) && decide (b <= tlL ws i))) = false -> ((List.range (i + 1)).any fun k => decide (F.getD k 0 = ht) && (decide (hdL ws k <= a) && decide (b <= tlL ws k))) = false := fun z => by
        rw [List.range_succ,List.any_append,hno,List.any_cons,List.any_nil,z]; rfl
      refine ⟨_,rfl,_,rfl,t,_,_,_,rfl,rfl,SqL.of hF,af,_,rfl,rfl,_,rfl,ite2 (fun h1 => ?_) (fun h1 => ?_)⟩
      · refine ⟨_,rfl,_,rfl,p,_,_,_,rfl,rfl,SqL.of hsp.1,aq,q,_,_,_,rfl,rfl,SqT.of t1,rfl,_,rfl,_,_,rfl,rfl,_,rfl,ite2 (fun h2 => ?_) (fun h2 => ?_)⟩
        · refine ⟨_,rfl,_,rfl,_,rfl,p,_,_,_,rfl,rfl,SqL.of hsp.1,aq,q,_,_,_,rfl,rfl,SqT.of t1,rfl,_,_,rfl,rfl,_,rfl,ite2 (fun h3 => ?_) (fun h3 => ?_)⟩
          · have c : covB ws F ht a b = true := by
              unfold covB
              rw [List.any_eq_true]
              refine ⟨i,List.mem_range.mpr hin,?_⟩
              rw [h2,h3,decide_eq_true (V.int.inj (of_decide_eq_true h1))]; rfl
            rw [c] at k
            exact k
          · exact ⟨_,rfl,rfl,go (by rw [Bool.eq_false_iff.mpr h3,Bool.and_false,Bool.and_false])⟩
        · exact iteF ⟨_,rfl,rfl,go (by rw [Bool.eq_false_iff.mpr h2,Bool.false_and,Bool.and_false])⟩
      · exact iteF ⟨_,rfl,rfl,go (by rw [decide_eq_false (fun z => h1 (decide_eq_true (congrArg V.int z))),Bool.false_and])⟩
    · rintro σ H2 ⟨o,rfl,rfl,hno⟩
      have c : covB ws F ht a b = false := by
        unfold covB
        rw [<- hFl]
        simpa using hno
      rw [c] at k
      exact k
theorem sc_law_sign : FnScope (["_law_way_here","_law_spread","_law_tops","_law_height","_law_censer","_law_lot","_law_over_here"]) (["_law_way_here","_law_spread","_law_tops","_law_height","_law_censer"]) (defScope s_law_sign) := by trivial
theorem ok_law_sign {f : Addr} {fd : FuncData} (F : Fun K "_law_sign" "_law_sign" s_law_sign f fd) (B : Bs mg) (T : Gs mg)  (c_law_over : Cal P w K mg base 1 "_law_over" [] (spOver K)) : FnOk P w K mg base CX0 2 f fd ["_law_way_here","_law_spread","_law_tops","_law_height","_law_censer"] (spLSign K) := by
  have sc := sc_law_sign
  refine F.ok sc (fun vs H Q E h => ?_) (fun cdv A outer s H vs Q E hr h => ?_)
  · obtain ⟨wa,p,t,ps,ws,F,h,c,rfl,_⟩ := h; rfl
  · obtain ⟨wa,p,t,ps,ws,F,ht,c,rfl,hsp,hF,hFl,hT,hw,hc,k⟩ := h
    refine ⟨_,(pss_cons (ps_set (i := 5) sc.nd rfl (Or.inl rfl) (pe_ix (kix_tup (K := K)) (pv 0) (pv 4) (fun _ _ => rfl)))
      (pss_cons (ps_set (i := 6) sc.nd rfl (Or.inl rfl) (pe_cal c_law_over (hr.mono (by decide)) rfl (pa_cons (pv 1) (pa_cons (pv 2) (pa_cons (pv 3) (pa_cons (pv 4) (pa_cons (pv 4) pa_nil)))))))
      (pss_cons (ps_if (pt_cmpR op_eq (pe_ix (kix_list (K := K)) (pv 2) (pv 5) (fun _ _ => rfl)) (pv 3) (nomark _)) (pss_one (ps_ret (pe_ifExp (pt_cmpR op_lt (pe_ix (kix_tup (K := K)) (pe_ix (kix_list (K := K)) (pv 1) (pv 5) (fun _ _ => rfl)) pe_int (fun _ _ => rfl)) (pe_ix (kix_tup (K := K)) (pe_ix (kix_list (K := K)) (pv 1) (pv 5) (fun _ _ => rfl)) pe_int (fun _ _ => rfl)) (nomark _)) pe_str pe_str))) pss_nil)
      (pss_cons (ps_if (pt_cmpR op_gt (pe_ix (kix_list (K := K)) (pv 2) (pv 5) (fun _ _ => rfl)) (pv 3) (nomark _)) (pss_one (ps_ret (pe_ifExp (pt_val (pv 6)) pe_str pe_str))) pss_nil)
      (pss_one (ps_ret (pe_ifExp (pt_val (pv 6)) pe_str pe_str))))))),?_⟩
    obtain ⟨w1,w9,w0⟩ := isWay_iff.mp hw
    obtain ⟨u0,u9,uf⟩ := way_small hw hc
    have al := atI_lt (ns := ws) (i := (c : Int)) (by omega) (by omega)
    rw [Int.toNat_natCast] at al
    obtain ⟨m,hm⟩ : ∃ m : Nat,ws.getD c 0 = (m : Int) := ⟨(ws.getD c 0).toNat,by omega⟩
    have hmn : m < (fresh 0 ws).toNat := by omega
    obtain ⟨q,e1,t1⟩ := hsp.at hmn
    have aq := atI_ref e1
    have af := atI_lt (ns := F) (i := (m : Int)) (by omega) (by omega)
    rw [Int.toNat_natCast] at af
    unfold sgS at k
    rw [hm,Int.toNat_natCast] at k
    rw [hm] at al
    refine ⟨_,rfl,_,rfl,wa,_,_,_,rfl,rfl,hT,al,?_⟩
    refine ⟨_,rfl,_,rfl,_,rfl,_,rfl,_,rfl,p,t,ps,ws,F,ht,c,c,rfl,hsp,hF,hFl,hw,?_⟩
    refine ⟨_,rfl,_,rfl,t,_,_,_,rfl,rfl,SqL.of hF,af,_,rfl,rfl,_,rfl,ite2 (fun h1 => ?_) (fun h1 => ?_)⟩
    · rw [if_pos (V.int.inj (of_decide_eq_true h1))] at k
      refine ⟨_,rfl,_,rfl,p,_,_,_,rfl,rfl,SqL.of hsp.1,aq,q,_,_,_,rfl,rfl,SqT.of t1,rfl,_,rfl,_,rfl,p,_,_,_,rfl,rfl,SqL.of hsp.1,aq,q,_,_,_,rfl,rfl,SqT.of t1,rfl,_,_,rfl,rfl,_,rfl,ite2 (fun h2 => ?_) (fun h2 => ?_)⟩
      · rw [if_pos (of_decide_eq_true h2)] at k; exact k
      · rw [if_neg (fun z => h2 (decide_eq_true z))] at k; exact k
    · rw [if_neg (fun z => h1 (decide_eq_true (congrArg V.int z)))] at k
      refine ⟨_,rfl,_,rfl,t,_,_,_,rfl,rfl,SqL.of hF,af,_,rfl,_,_,rfl,rfl,_,rfl,ite2 (fun h2 => ?_) (fun h2 => ?_)⟩
      · rw [if_pos (of_decide_eq_true h2)] at k
        refine ⟨_,rfl,_,rfl,?_⟩
        cases hb : covB ws F ht c c
        · rw [hb] at k; exact iteF k
        · rw [hb] at k; exact iteT k
      · rw [if_neg (fun z => h2 (decide_eq_true z))] at k
        refine ⟨_,rfl,_,rfl,?_⟩
        cases hb : covB ws F ht c c
        · rw [hb] at k; exact iteF k
        · rw [hb] at k; exact iteT k
theorem sc_law_mark_row : FnScope (["_law_way_here","_law_spread","_law_tops","_law_height","_law_text","_law_censer","_law_over_here"]) (["_law_way_here","_law_spread","_law_tops","_law_height"]) (defScope s_law_mark_row) := by trivial
theorem ok_law_mark_row {f : Addr} {fd : FuncData} (F : Fun K "_law_mark_row" "_law_mark_row" s_law_mark_row f fd) (B : Bs mg) (T : Gs mg)  (c_law_over : Cal P w K mg base 1 "_law_over" [] (spOver K)) (c_law_sign : Cal P w K mg base 2 "_law_sign" [] (spLSign K)) : FnOk P w K mg base CX0 3 f fd ["_law_way_here","_law_spread","_law_tops","_law_height"] (spLRow K) := by
  have sc := sc_law_mark_row
  refine F.ok sc (fun vs H Q E h => ?_) (fun cdv A outer s H vs Q E hr h => ?_)
  · obtain ⟨wa,p,t,ps,ws,F,h,rfl,_⟩ := h; rfl
  · obtain ⟨wa,p,t,ps,ws,F,ht,rfl,hsp,hF,hFl,hT,hw,k⟩ := h
    refine ⟨_,(pss_cons (ps_set (i := 4) sc.nd rfl (Or.inl rfl) (pe_cal c_law_sign (hr.mono (by decide)) rfl (pa_cons (pv 0) (pa_cons (pv 1) (pa_cons (pv 2) (pa_cons (pv 3) (pa_cons pe_int pa_nil)))))))
      (pss_cons (ps_for PassesOwn.never rfl (pi_range2 rfl B.range (pa_cons pe_int (pa_cons (pe_callB (kc_len (K := K)) (by rfl) B.len PyProof.Rows.Boot.«len» (pa_cons (pv 0) pa_nil)) pa_nil))) (pg_name (i := 5) sc.nd rfl (Or.inl rfl))
      (pss_cons (ps_set (i := 6) sc.nd rfl (Or.inl rfl) (pe_cal c_law_over (hr.mono (by decide)) rfl (pa_cons (pv 1) (pa_cons (pv 2) (pa_cons (pv 3) (pa_cons (pe_op op_sub (pv 5) pe_int) (pa_cons (pv 5) pa_nil)))))))
      (pss_cons (ps_set (i := 4) sc.nd rfl (Or.inl rfl) (pe_op op_add_str (pv 4) (pe_ifExp (pt_val (pv 6)) pe_str pe_str)))
      (pss_one (ps_set (i := 4) sc.nd rfl (Or.inl rfl) (pe_op op_add_str (pv 4) (pe_cal c_law_sign (hr.mono (by decide)) rfl (pa_cons (pv 0) (pa_cons (pv 1) (pa_cons (pv 2) (pa_cons (pv 3) (pa_cons (pv 5) pa_nil))))))))))))
      (pss_one (ps_ret (pv 4))))),?_⟩
    obtain ⟨w1,w9,w0⟩ := isWay_iff.mp hw
    refine ⟨_,rfl,_,rfl,_,rfl,_,rfl,wa,p,t,ps,ws,F,ht,0,rfl,hsp,hF,hFl,hT,hw,by omega,?_⟩
    refine ⟨_,rfl,wa,_,rfl,.inr hT,?_⟩
    rw [ltm]
    refine ⟨_,_,rfl,⟨by omega,by omega,by omega,by omega⟩,for_range (lo := 1) (n := ((ws.length : Int) - 1).toNat) (fun i σ H2 => ∃ (o1 o2 : Option V),σ = [some (.ref wa),some (.ref p),some (.ref t),some (.int ht),some (.str (rowT ws F ht (i + 1))),o1,o2] /\ H2 = H) ⟨none,none,by rw [rowT_one]; rfl,rfl⟩ ?_ ?_⟩
    · rintro i σ H2 hi ⟨o1,o2,rfl,rfl⟩
      have e1 : (1 : Int) + (i : Int) = ((i + 1 : Nat) : Int) := by omega
      rw [e1]
      have hrl := rowT_len ws F ht i
      refine ⟨_,rfl,_,rfl,_,rfl,_,rfl,_,_,rfl,rfl,_,rfl,p,t,ps,ws,F,ht,((i + 1 : Nat) : Int) - 1,((i + 1 : Nat) : Int),rfl,hsp,hF,hFl,hw,?_⟩
      have fin : ∀ g : Str,g = gpS ws F ht (i + 1) -> ∃ (o1 o2 : Option V),([some (.ref wa),some (.ref p),some (.ref t),some (.int ht),some (.str (rowT ws F ht (i + 1) ++ g ++ sgS ws F ht (i + 1))),some (.int ((i + 1 : Nat) : Int)),some (.bl (covB ws F ht (((i + 1 : Nat) : Int) - 1) ((i + 1 : Nat) : Int)))] : St) = [some (.ref wa),some (.ref p),some (.ref t),some (.int ht),some (.str (rowT ws F ht (i + 1 + 1))),o1,o2] /\ H2 = H2 := fun g hg => by
        rw [rowT_succ ws F ht (Nat.succ_pos i),hg]; exact ⟨_,_,rfl,rfl⟩
      have gl := gpS_len ws F ht (i + 1)
      have sl := sgS_len ws F ht (i + 1)
      have go : ∀ g : Str,g = gpS ws F ht (i + 1) -> g.length = 1 := fun g hg => by rw [hg]; exact gl
      refine ⟨_,rfl,_,rfl,_,rfl,?_⟩
      cases hb : covB ws F ht (((i + 1 : Nat) : Int) - 1) ((i + 1 : Nat) : Int)
      · have hg : (" " : Str) = gpS ws F ht (i + 1) := by unfold gpS; rw [hb]; rfl
        refine iteF ⟨_,_,rfl,rfl,le_line (by rw [go _ hg]; omega),?_⟩
        refine ⟨_,rfl,_,rfl,_,rfl,_,rfl,_,rfl,_,rfl,wa,p,t,ps,ws,F,ht,i + 1,rfl,hsp,hF,hFl,hT,hw,by omega,?_⟩
        refine ⟨_,_,rfl,rfl,le_line (by rw [str_app_len,go _ hg]; omega),?_⟩
        have := fin _ hg
        rw [hb] at this
        exact this
      · have hg : ("-" : Str) = gpS ws F ht (i + 1) := by unfold gpS; rw [hb]; rfl
        refine iteT ⟨_,_,rfl,rfl,le_line (by rw [go _ hg]; omega),?_⟩
        refine ⟨_,rfl,_,rfl,_,rfl,_,rfl,_,rfl,_,rfl,wa,p,t,ps,ws,F,ht,i + 1,rfl,hsp,hF,hFl,hT,hw,by omega,?_⟩
        refine ⟨_,_,rfl,rfl,le_line (by rw [str_app_len,go _ hg]; omega),?_⟩
        have := fin _ hg
        rw [hb] at this
        exact this
    · rintro σ H2 ⟨o1,o2,rfl,rfl⟩
      rw [show ((ws.length : Int) - 1).toNat + 1 = ws.length by omega]
      exact ⟨_,rfl,k⟩
theorem sc_law_mark : FnScope (["_law_way_here","_law_spread","_law_tops","_law_rows","_law_height"]) (["_law_way_here"]) (defScope s_law_mark) := by trivial
theorem ok_law_mark {f : Addr} {fd : FuncData} (F : Fun K "_law_mark" "_law_mark" s_law_mark f fd) (B : Bs mg) (T : Gs mg)  (c_law_heights : Cal P w K mg base 7 "_law_heights" [] (spLHei K)) (c_law_mark_row : Cal P w K mg base 3 "_law_mark_row" [] (spLRow K)) (c_law_stretches : Cal P w K mg base 2 "_law_stretches" [] (spStretch K)) : FnOk P w K mg base CX0 8 f fd ["_law_way_here"] (spMarkL K) := by
  have sc := sc_law_mark
  refine F.ok sc (fun vs H Q E h => ?_) (fun cdv A outer s H vs Q E hr h => ?_)
  · obtain ⟨a,ws,rfl,_⟩ := h; rfl
  · obtain ⟨a,ws,rfl,hT,hw,k⟩ := h
    refine ⟨_,(pss_cons (ps_set (i := 1) sc.nd rfl (Or.inl rfl) (pe_cal c_law_stretches (hr.mono (by decide)) rfl (pa_cons (pv 0) pa_nil)))
      (pss_cons (ps_set (i := 2) sc.nd rfl (Or.inl rfl) (pe_cal c_law_heights (hr.mono (by decide)) rfl (pa_cons (pv 0) pa_nil)))
      (pss_cons (ps_set (i := 3) sc.nd rfl (Or.inl rfl) (pe_lst pa_nil))
      (pss_cons (ps_for PassesOwn.never rfl (pi_rangeD rfl B.range (pa_cons (pe_callB (kc_max (K := K)) (by rfl) B.max PyProof.Rows.Boot.«max» (pa_cons (pv 2) pa_nil)) (pa_cons pe_int (pa_cons (pe_un un_neg pe_int) pa_nil)))) (pg_name (i := 4) sc.nd rfl (Or.inl rfl))
      (pss_one (ps_expr (pe_bm PySem.F.plainAttrs_list PySem.F.slot_list_append PySem.F.type_list_append mt_append (pv 3) (pa_cons (pe_cal c_law_mark_row (hr.mono (by decide)) rfl (pa_cons (pv 0) (pa_cons (pv 1) (pa_cons (pv 2) (pa_cons (pv 4) pa_nil))))) pa_nil)))))
      (pss_cons (ps_expr (pe_bm PySem.F.plainAttrs_list PySem.F.slot_list_append PySem.F.type_list_append mt_append (pv 3) (pa_cons (pe_bm PySem.F.plainAttrs_str PySem.F.slot_str_join PySem.F.type_str_join (mt_join (K := K)) pe_str (pa_cons (pe_lc (N' := ["_law_censer"]) (M := [none]) (lcSc_of (by rfl)) rfl (kpi_tup (K := K) (pv 0)) (fun _ _ _ _ _ => pg_name (i := 0) (show (["_law_censer"] : List Str).Nodup by decide +kernel) rfl (Or.inl rfl) (.inr rfl)) (frm_name rfl) (fun _ _ _ _ _ => pts_nil) (fun _ _ _ _ _ => pe_str)) pa_nil)) pa_nil)))
      (pss_one (ps_ret (pe_bm PySem.F.plainAttrs_str PySem.F.slot_str_join PySem.F.type_str_join (mt_join (K := K)) pe_str (pa_cons (pv 3) pa_nil))))))))),?_⟩
    obtain ⟨w1,w9,w0⟩ := isWay_iff.mp hw
    have f0 := (fresh_pos w0 (fun e => by rw [e] at w1; simp at w1)).1
    have fl := fresh_le ws
    refine ⟨_,rfl,a,ws,rfl,hT,hw,fun p ps H1 s1 hp1 hpl hps => ?_⟩
    have hsp : SpanAt H1 p ps ws := ⟨hp1,hpl,hps⟩
    refine ⟨_,rfl,a,ws,rfl,(s1.seqT hT),hw,fun r F H2 s2 hr2 hH => ?_⟩
    obtain ⟨g,g1,g5,gn,hmax,hFl,hhead,hnone⟩ := isH_full hw hH
    have hFne : F ≠ [] := fun e => by rw [e] at hFl; simp at hFl; omega
    have hmg : maxL F = (g : Int) := (maxL_is hFne).uniq hmax
    have hsp2 := hsp.same s2
    refine ⟨Nat.zero_le _,fun q hq => ?_⟩
    have s3 := Same.new (o := HO.lst []) hq
    have hq3 : upd H2 q (HO.lst []) q = some (.lst (([] : List Str).map V.str)) := upd_same
    generalize upd H2 q (HO.lst []) = H3 at s3 hq3
    refine ⟨_,rfl,r,F,rfl,.inl (SqL.of (s3 r _ hr2)),hFne,fun mx hmx => ?_⟩
    have emx : mx = (g : Int) := hmx.uniq hmax
    subst emx
    refine ⟨_,rfl,_,_,rfl,⟨by omega,by omega,by decide,by decide⟩,for_it (n := ((g : Int) - 0).toNat) (fun i σ H4 => ∃ (o : Option V),σ = [some (.ref a),some (.ref p),some (.ref r),some (.ref q),o] /\ Same H2 H4 /\ H4 q = some (.lst ((rowsT ws F (g : Int) i).map V.str))) ⟨none,rfl,s3,hq3⟩ (fun i σ H4 h _ => h) (fun σ H4 _ => Nat.le_refl _) ?_ ?_⟩
    · rintro i x σ H4 H5 hi ⟨o,rfl,s4,hq4⟩ ⟨rfl,rfl⟩
      refine ⟨_,rfl,.inl ⟨rfl,_,SqL.of hq4⟩,?_⟩
      refine ⟨_,rfl,_,rfl,_,rfl,_,rfl,a,p,r,ps,ws,F,(g : Int) - i,rfl,hsp2.same s4,s4 r _ hr2,hFl,((s1.trans (s2.trans s4)).seqT hT),hw,?_⟩
      refine ⟨q,_,_,rfl,rfl,hq4,lt_line (by rw [List.length_map,rowsT_length]; omega),?_⟩
      exact ⟨_,rfl,s4.put hq,by rw [rowsT_succ,List.map_append]; exact upd_same⟩
    · rintro σ H4 ⟨o,rfl,s4,hq4⟩
      have hT4 := (s1.trans (s2.trans s4)).seqT hT
      rw [show ((g : Int) - 0).toNat = g by omega] at hq4
      refine ⟨_,rfl,.inl ⟨rfl,_,SqL.of hq4⟩,rfl,?_⟩
      refine ⟨_,rfl,a,rfl,⟨_,hT4⟩,lc_tup (xs := ws.map V.int) (fun j ys H5 => H5 = H4 /\ ys = (List.replicate j ("|" : Str)).map V.str) (le_line (by rw [List.length_map]; omega)) ⟨rfl,rfl⟩
        (fun j ys H5 _ ⟨e,e2⟩ => ⟨by rw [e]; exact hT4,by rw [e2,List.length_map,List.length_replicate]; omega⟩) ?_ ?_⟩
      · rintro j y ys H5 hj ⟨rfl,rfl⟩
        refine lcN ?_
        exact ⟨rfl,by rw [List.replicate_succ',List.map_append]; rfl⟩
      rintro ys H5 ⟨rfl,rfl⟩ b hb
      rw [List.length_map]
      have s5 := Same.new (o := HO.lst ((List.replicate ws.length ("|" : Str)).map V.str)) hb
      have hq5 := s5 q _ hq4
      have hb5 : upd H5 b (HO.lst ((List.replicate ws.length ("|" : Str)).map V.str)) b = some (.lst ((List.replicate ws.length ("|" : Str)).map V.str)) := upd_same
      generalize upd H5 b (HO.lst ((List.replicate ws.length ("|" : Str)).map V.str)) = H6 at s5 hq5 hb5
      refine ⟨_,b,_,rfl,rfl,SqL.of hb5,foot_ok (by omega),?_⟩
      refine ⟨q,_,_,rfl,rfl,hq5,lt_line (by rw [List.length_map,rowsT_length]; omega),?_⟩
      have hq6 : upd H6 q (HO.lst ((rowsT ws F (g : Int) g).map V.str ++ [V.str (footT ws.length)])) q = some (.lst ((rowsT ws F (maxL F) (maxL F).toNat ++ [footT ws.length]).map V.str)) := by
        rw [upd_same,hmg,Int.toNat_natCast,List.map_append]; rfl
      refine ⟨rfl,_,rfl,_,q,_,rfl,rfl,SqL.of hq6,mark_ok hw (by rw [hmg]; omega),?_⟩
      exact k F _ hH (((s1.trans s2).trans (s4.trans s5)).put ((s1.trans s2).free hq))
theorem sc_law_joint_lots : FnScope (["_law_line","_law_found","_law_going","_law_at"]) (["_law_line"]) (defScope s_law_joint_lots) := by trivial
theorem ok_law_joint_lots {f : Addr} {fd : FuncData} (F : Fun K "_law_joint_lots" "_law_joint_lots" s_law_joint_lots f fd) (B : Bs mg) (T : Gs mg)   : FnOk P w K mg base CX0 1 f fd ["_law_line"] (spJoint K) := by
  have sc := sc_law_joint_lots
  refine F.ok sc (fun vs H Q E h => ?_) (fun cdv A outer s H vs Q E hr h => ?_)
  · obtain ⟨z,rfl,_⟩ := h; rfl
  · obtain ⟨z,rfl,hz,k⟩ := h
    refine ⟨_,(pss_cons (ps_set (i := 1) sc.nd rfl (Or.inl rfl) (pe_lst pa_nil))
      (pss_cons (ps_set (i := 2) sc.nd rfl (Or.inl rfl) (pe_lst pa_nil))
      (pss_cons (ps_for PassesOwn.never rfl (pi_range1 rfl B.range (pa_cons (pe_callB call_len_str (by rfl) B.len PyProof.Rows.Boot.«len» (pa_cons (pv 0) pa_nil)) pa_nil)) (pg_name (i := 3) sc.nd rfl (Or.inl rfl))
      (pss_one (ps_if (PW.pt (pw_and (pt_cmpR op_eq (pe_ix ix_str (pv 0) (pv 3) (fun _ _ => rfl)) pe_str (nomark _)) (pw_and1 (pt_cmpR op_eq (pe_op op_mod (pv 3) pe_int) pe_int (nomark _))))) (pss_one (ps_expr (pe_bm PySem.F.plainAttrs_list PySem.F.slot_list_append PySem.F.type_list_append mt_append (pv 2) (pa_cons (pe_op op_fdivW (pv 3) pe_int) pa_nil)))) (pss_one (ps_if (pt_cmpR op_notIn_str (pe_ix ix_str (pv 0) (pv 3) (fun _ _ => rfl)) pe_str rfl) (pss_cons (ps_expr (pe_bm PySem.F.plainAttrs_list PySem.F.slot_list_append PySem.F.type_list_append mt_append (pv 1) (pa_cons (pv 2) pa_nil)))
      (pss_one (ps_set (i := 2) sc.nd rfl (Or.inl rfl) (pe_lst pa_nil)))) pss_nil)))))
      (pss_cons (ps_expr (pe_bm PySem.F.plainAttrs_list PySem.F.slot_list_append PySem.F.type_list_append mt_append (pv 1) (pa_cons (pv 2) pa_nil)))
      (pss_one (ps_ret (pe_lc (N' := ["_law_some"]) (M := [none]) (lcSc_of (by rfl)) rfl (kpi_list (K := K) (pv 1)) (fun _ _ _ _ _ => pg_name (i := 0) (show (["_law_some"] : List Str).Nodup by decide +kernel) rfl (Or.inl rfl) (.inr rfl)) (frm_name rfl) (fun _ _ _ _ _ => pts_one (pt_cmpR op_gt (pe_callB (kc_len (K := K)) (by rfl) B.len PyProof.Rows.Boot.«len» (pa_cons (pv 0) pa_nil)) pe_int (nomark _))) (fun _ _ _ _ _ => (pv 0))))))))),?_⟩
    have hLl : z.cps.toList.length = z.length := by simp [Str.length]
    generalize hL : z.cps.toList = L at hLl k
    refine ⟨Nat.zero_le _,fun f hf => ?_⟩
    have sf := Same.new (o := HO.lst []) hf
    refine ⟨Nat.zero_le _,fun g0 hg0 => ?_⟩
    have hfg0 : f ≠ g0 := ne_of_none upd_same hg0
    have hg0H := sf.free hg0
    have s0 := sf.new2 (o := HO.lst []) hg0
    have hf0 : upd (upd H f (HO.lst [])) g0 (HO.lst []) f = some (.lst (([] : List Addr).map V.ref)) := by rw [upd_ne hfg0,upd_same]; rfl
    have hgg0 : upd (upd H f (HO.lst [])) g0 (HO.lst []) g0 = some (.lst (([] : List Int).map V.int)) := upd_same
    generalize upd (upd H f (HO.lst [])) g0 (HO.lst []) = H0 at s0 hf0 hgg0
    refine ⟨_,rfl,_,rfl,le_line (by omega),?_⟩
    refine ⟨_,rfl,by omega,by omega,for_range (lo := 0) (n := ((z.length : Int)).toNat) (fun i σ H2 => ∃ (g : Addr) (qs : List Addr) (o3 : Option V),σ = [some (.str z),some (.ref f),some (.ref g),o3] /\ Same H H2 /\ H g = none /\ H2 f = some (.lst (qs.map V.ref)) /\ LhAt H2 qs (runJ (L.take i)).2.1 /\ H2 g = some (.lst ((runJ (L.take i)).2.2.map V.int)) /\ g ∉ qs /\ f ∉ qs /\ f ≠ g)
      ⟨g0,[],none,rfl,s0,hg0H,hf0,.nil,hgg0,by simp,by simp,hfg0⟩ ?_ ?_⟩
    · rintro i σ H2 hi ⟨g,qs,o3,rfl,s2,hgH,hf2,hQ,hg2,n1,n2,n3⟩
      rw [Int.zero_add]
      have hil : i < L.length := by omega
      have hx : L[i]? = some L[i] := List.getElem?_eq_getElem hil
      have hxa : atI z.cps.toList (i : Int) = some L[i] := by rw [hL]; exact atI_nat hx
      have hrs := runJ_small (L.take i)
      have hl1 : (runJ (L.take i)).1 = i := by rw [hrs.1,List.length_take]; omega
      have hl2 := hrs.2.1
      have hl5 := hrs.2.2.2.2
      rw [List.length_take] at hl2 hl5
      rw [take_snoc hx,runJ_snoc]
      have hql := hQ.length
      generalize L[i] = x at hxa
      generalize hs : runJ (L.take i) = st at *
      obtain ⟨pp,ff,gg⟩ := st
      dsimp only at hl1 hl2 hl5 hQ hg2 hql
      subst hl1
      refine if_dec (decide (x = 43 /\ pp % 2 = 0)) (fun N hN => ?_) (fun hb => ?_) (fun hb => ?_)
      · refine ⟨_,rfl,_,rfl,_,_,_,rfl,rfl,le_line (by omega),hxa,rfl,_,rfl,ite2 (fun g1 => ?_) (fun g1 => ?_)⟩
        · have e1 : x = 43 := (one_str (by decide)).mp (of_decide_eq_true g1)
          refine ⟨_,rfl,_,_,rfl,rfl,(show (0 : Int) < 2 by decide),rfl,_,rfl,?_⟩
          rw [show decide (V.int ((pp : Int) % 2) = V.int 0) = decide (x = 43 /\ pp % 2 = 0) from decide_eq_decide.mpr ⟨fun e => ⟨e1,by have := V.int.inj e; omega⟩,fun e => congrArg V.int (by omega)⟩]
          exact hN
        · rw [decide_eq_false (fun z => g1 (decide_eq_true ((one_str (by decide)).mpr z.1)))] at hN
          exact hN
      · have hb := of_decide_eq_true hb
        unfold stJ
        rw [if_pos hb]
        refine ⟨_,rfl,.inl ⟨rfl,_,SqL.of hg2⟩,_,rfl,_,_,rfl,rfl,⟨by decide,by decide⟩,g,_,_,rfl,rfl,hg2,lt_line (by rw [List.length_map]; omega),?_⟩
        refine ⟨g,qs,_,rfl,s2.put hgH,hgH,by rw [upd_ne n3]; exact hf2,lh_upd hQ n1,?_,n1,n2,n3⟩
        rw [upd_same,List.map_append]; rfl
      · have hb := of_decide_eq_false hb
        unfold stJ
        rw [if_neg hb]
        have hni := notin_two x
        refine if_dec (!decide (x = 45 \/ x = 35)) (fun N hN => ?_) (fun hc => ?_) (fun hc => ?_)
        · refine ⟨_,rfl,_,rfl,_,_,_,rfl,rfl,le_line (by omega),hxa,_,_,rfl,rfl,_,rfl,?_⟩
          rw [hni]; exact hN
        · have hc : ¬ (x = 45 \/ x = 35) := by simpa using hc
          rw [if_neg hc]
          refine ⟨_,rfl,.inl ⟨rfl,_,SqL.of hf2⟩,_,rfl,f,_,_,rfl,rfl,hf2,lt_line (by rw [List.length_map]; omega),?_⟩
          have hf3 : upd H2 f (HO.lst (qs.map V.ref ++ [V.ref g])) f = some (.lst ((qs ++ [g]).map V.ref)) := by rw [upd_same,List.map_append]; rfl
          have hQ3 : LhAt (upd H2 f (HO.lst (qs.map V.ref ++ [V.ref g]))) (qs ++ [g]) (ff ++ [gg]) := Paired.snoc (lh_upd hQ n2) (by rw [upd_ne n3.symm]; exact hg2)
          have s3 := s2.put (o := HO.lst (qs.map V.ref ++ [V.ref g])) hf
          generalize upd H2 f (HO.lst (qs.map V.ref ++ [V.ref g])) = H3 at s3 hf3 hQ3
          refine ⟨Nat.zero_le _,fun g' hg' => ?_⟩
          have hg'H := s3.free hg'
          refine ⟨g',qs ++ [g],_,rfl,s3.new2 hg',hg'H,Same.new hg' f _ hf3,hQ3.same (Same.new hg'),upd_same,?_,?_,ne_of_none hf3 hg'⟩
          · intro m
            obtain ⟨b,hb1,_⟩ := paired_getM hQ3 (List.getElem?_eq_getElem (List.idxOf_lt_length_of_mem m))
            rw [List.getElem_idxOf,hg'] at hb1
            cases hb1
          · intro m
            rcases List.mem_append.mp m with m | m
            · exact n2 m
            · exact n3 (List.mem_singleton.mp m)
        · have hc : x = 45 \/ x = 35 := Decidable.byContradiction fun z => by rw [decide_eq_false z] at hc; cases hc
          rw [if_pos hc]
          exact ⟨g,qs,_,rfl,s2,hgH,hf2,hQ,hg2,n1,n2,n3⟩
    · rintro σ H2 ⟨g,qs,o3,rfl,s2,hgH,hf2,hQ,hg2,n1,n2,n3⟩
      rw [show L.take ((z.length : Int)).toNat = L by rw [List.take_of_length_le (by omega)]] at hQ hg2
      have hrs := runJ_small L
      have hql := hQ.length
      have hl5 := hrs.2.2.2.2
      refine ⟨_,rfl,.inl ⟨rfl,_,SqL.of hf2⟩,_,rfl,f,_,_,rfl,rfl,hf2,lt_line (by rw [List.length_map]; omega),?_⟩
      have hf3 : upd H2 f (HO.lst (qs.map V.ref ++ [V.ref g])) f = some (.lst ((qs ++ [g]).map V.ref)) := by rw [upd_same,List.map_append]; rfl
      have hQ3 : LhAt (upd H2 f (HO.lst (qs.map V.ref ++ [V.ref g]))) (qs ++ [g]) ((runJ L).2.1 ++ [(runJ L).2.2]) := Paired.snoc (lh_upd hQ n2) (by rw [upd_ne n3.symm]; exact hg2)
      have s3 := s2.put (o := HO.lst (qs.map V.ref ++ [V.ref g])) hf
      generalize upd H2 f (HO.lst (qs.map V.ref ++ [V.ref g])) = H3 at s3 hf3 hQ3
      unfold jointC at k
      generalize (runJ L).2.1 ++ [(runJ L).2.2] = M at k hQ3
      have hqg : (qs ++ [g]).length = qs.length + 1 := by simp
      generalize qs ++ [g] = rs at hf3 hQ3 hqg
      have hrl := hQ3.length
      refine ⟨_,rfl,f,rfl,⟨_,SqL.of hf3⟩,lc_list (xs := rs.map V.ref) (fun j ys H4 => H4 = H3 /\ ∃ us : List Addr,ys = us.map V.ref /\ LhAt H3 us (neL (M.take j)) /\ us.length <= j) (le_line (by rw [List.length_map]; omega)) ⟨rfl,[],rfl,.nil,Nat.le_refl _⟩
        (fun j ys H4 _ ⟨e,us,e2,_,h⟩ => ⟨by rw [e]; exact SqL.of hf3,by rw [e2,List.length_map]; exact h⟩) ?_ ?_⟩
      · rintro j y ys H4 hj ⟨rfl,us,rfl,hU,hul⟩
        obtain ⟨q,rfl,hq,hjl⟩ := getRef hj
        obtain ⟨l,hl,hlj⟩ := lh_get hQ3 hq
        rw [neL_take hlj]
        refine ⟨_,rfl,q,_,rfl,.inl (SqL.of hl),?_⟩
        rw [ltm]
        refine ⟨_,_,rfl,rfl,_,rfl,ite2 (fun e => ?_) (fun e => ?_)⟩
        · rw [if_pos (show 0 < l.length by have := of_decide_eq_true e; omega)]
          exact ⟨_,rfl,rfl,us ++ [q],by rw [List.map_append]; rfl,Paired.snoc hU hl,by rw [List.length_append]; simp only [List.length_cons,List.length_nil]; omega⟩
        · rw [if_neg (show ¬ 0 < l.length from fun z => e (decide_eq_true (by omega)))]
          exact ⟨rfl,us,rfl,hU,by omega⟩
      rintro ys H4 ⟨rfl,us,rfl,hU,_⟩ p hp
      rw [List.length_map,hrl,List.take_length] at hU
      exact k p us _ (s3.new2 hp) upd_same (hU.same (Same.new hp))
theorem sc_law_read_mark : FnScope (["_law_text","_law_rows","_law_size_here","_law_lots_told","_law_line","_law_numbers","_law_some","_law_pairs","_law_way_here"]) (["_law_text"]) (defScope s_law_read_mark) := by trivial
theorem ok_law_read_mark {f : Addr} {fd : FuncData} (F : Fun K "_law_read_mark" "_law_read_mark" s_law_read_mark f fd) (B : Bs mg) (T : Gs mg)  (c_law_joint_lots : Cal P w K mg base 1 "_law_joint_lots" [] (spJoint K)) (c_law_linked : Cal P w K mg base 2 "_law_linked" [] (spLinked K)) (c_law_mark : Cal P w K mg base 8 "_law_mark" [] (spMarkL K)) : FnOk P w K mg base CX0 9 f fd ["_law_text"] (spLRead K) := by
  have sc := sc_law_read_mark
  refine F.ok sc (fun vs H Q E h => ?_) (fun cdv A outer s H vs Q E hr h => ?_)
  · obtain ⟨t,rfl,_⟩ := h; rfl
  · obtain ⟨t,rfl,ht,k⟩ := h
    refine ⟨_,(pss_cons (ps_set (i := 1) sc.nd rfl (Or.inl rfl) (pe_bm PySem.F.plainAttrs_str PySem.F.slot_str_split PySem.F.type_str_split mt_split (pv 0) (pa_cons pe_str pa_nil)))
      (pss_cons (ps_set (i := 2) sc.nd rfl (Or.inl rfl) (pe_op op_fdivW (pe_op op_add (pe_callB call_len_str (by rfl) B.len PyProof.Rows.Boot.«len» (pa_cons (pe_ix (kix_list (K := K)) (pv 1) (pe_un un_neg pe_int) (fun _ _ => rfl)) pa_nil)) pe_int) pe_int))
      (pss_cons (ps_set (i := 3) sc.nd rfl (Or.inl rfl) (pe_lst pa_nil))
      (pss_cons (ps_for PassesOwn.never rfl (kpi_list (K := K) (pe_slice (ksl_list (K := K)) (pv 1) po_none (po_some (pe_un un_neg pe_int)))) (pg_name (i := 4) sc.nd rfl (Or.inl rfl))
      (pss_one (ps_expr (pe_bm PySem.F.plainAttrs_list PySem.F.slot_list_extend PySem.F.type_list_extend mt_extend (pv 3) (pa_cons (pe_cal c_law_joint_lots (hr.mono (by decide)) rfl (pa_cons (pv 4) pa_nil)) pa_nil)))))
      (pss_cons (ps_set (i := 5) sc.nd rfl (Or.inl rfl) (pe_lst pa_nil))
      (pss_cons (ps_for PassesOwn.never rfl (kpi_list (K := K) (pv 3)) (pg_name (i := 6) sc.nd rfl (Or.inr rfl))
      (pss_one (ps_expr (pe_bm PySem.F.plainAttrs_list PySem.F.slot_list_extend PySem.F.type_list_extend mt_extend (pv 5) (pa_cons (pv 6) pa_nil)))))
      (pss_cons (ps_if (PW.pt (pw_or (pt_not (pt_chain op_le op_le pe_int (pv 2) pe_int)) (pw_or (pt_cmpR op_lt (pe_callB kc_lenS (by rfl) B.len PyProof.Rows.Boot.«len» (pa_cons (pe_callTy (kc_setL (K := K)) (by rfl) B.set PyProof.Rows.Boot.«set» (pa_cons (pv 5) pa_nil)) pa_nil)) (pe_callB (kc_len (K := K)) (by rfl) B.len PyProof.Rows.Boot.«len» (pa_cons (pv 5) pa_nil)) (nomark _)) (pw_or1 (pt_cmpR op_ge (pe_callB (kc_max (K := K)) (by rfl) B.max PyProof.Rows.Boot.«max» (pa_cons (pe_op op_cat (pe_lst (pa_cons pe_int pa_nil)) (pv 5)) pa_nil)) (pv 2) (nomark _)))))) (pss_one (ps_ret pe_non)) pss_nil)
      (pss_cons (ps_set (i := 7) sc.nd rfl (Or.inl rfl) (pe_lst pa_nil))
      (pss_cons (ps_for PassesOwn.never rfl (kpi_list (K := K) (pv 3)) (pg_name (i := 6) sc.nd rfl (Or.inr rfl))
      (pss_one (ps_expr (pe_bm PySem.F.plainAttrs_list PySem.F.slot_list_extend PySem.F.type_list_extend mt_extend (pv 7) (pa_cons (pe_lc (N' := ["_law_one","_law_some"]) (M := [none,some 6]) (lcSc_of (by rfl)) rfl (kpi_list (K := K) (pe_slice (ksl_list (K := K)) (pv 6) (po_some pe_int) po_none)) (fun _ _ _ _ _ => pg_name (i := 0) (show (["_law_one","_law_some"] : List Str).Nodup by decide +kernel) rfl (Or.inl rfl) (.inr rfl)) (frm_name rfl) (fun _ _ _ _ _ => pts_nil) (fun _ _ _ _ _ => (pe_tup (pa_cons (pe_ix (kix_list (K := K)) (pv 1) pe_int (fun _ _ => rfl)) (pa_cons (pv 0) pa_nil))))) pa_nil)))))
      (pss_cons (ps_set (i := 8) sc.nd rfl (Or.inl rfl) (pe_cal c_law_linked (hr.mono (by decide)) rfl (pa_cons (pv 2) (pa_cons (pv 7) pa_nil))))
      (pss_cons (ps_if (pt_cmpR op_ne (pe_cal c_law_mark (hr.mono (by decide)) rfl (pa_cons (pv 8) pa_nil)) (pv 0) (nomark _)) (pss_one (ps_ret pe_non)) pss_nil)
      (pss_one (ps_ret (pv 8)))))))))))))),?_⟩
    obtain ⟨hne,hRl,hRz,hRs⟩ := split_small t
    have hmk : ∀ ws F : List Int,isWay ws = true -> t = markT ws F -> Txt.split t "\n" = rowsM ws F := fun ws F hw e => by rw [e]; exact mark_split hw
    refine seq_a ?_
    refine ⟨_,rfl,rfl,_,_,rfl,rfl,by decide,by omega,by omega,fun p hp => ?_⟩
    generalize Txt.split t "\n" = R at hne hRl hRz hRs hmk
    have s1 := Same.new (o := HO.lst (R.map V.str)) hp
    have hp1 : upd H p (HO.lst (R.map V.str)) p = some (.lst (R.map V.str)) := upd_same
    generalize upd H p (HO.lst (R.map V.str)) = H1 at s1 hp1
    have hWl := hRz _ (List.getLast_mem hne)
    refine seq_a ?_
    refine ⟨_,rfl,_,rfl,p,_,_,_,rfl,rfl,SqL.of hp1,atI_lastS hne,_,rfl,le_line (by omega),?_⟩
    generalize hW : (R.getLast hne).length = W at hWl
    refine ⟨_,_,rfl,rfl,_,_,rfl,rfl,⟨by decide,by decide⟩,?_⟩
    dsimp only
    generalize hn : ((W : Int) + 1) / 2 = n
    refine seq_a ?_
    refine ⟨Nat.zero_le _,fun lt hlt => ?_⟩
    have hltH := s1.free hlt
    have s2 := s1.new2 (o := HO.lst []) hlt
    have hlt2 : upd H1 lt (HO.lst []) lt = some (.lst (([] : List Addr).map V.ref)) := upd_same
    have hp2 := Same.new (o := HO.lst []) hlt p _ hp1
    generalize upd H1 lt (HO.lst []) = H2 at s2 hlt2 hp2
    have hcut : cutV (R.map V.str) none (some (-1)) = R.dropLast.map V.str := by rw [cut_last,List.length_map,<- List.map_take,List.dropLast_eq_take]
    obtain ⟨tl1,tl2⟩ := told_small R.dropLast
    have tl3 := dropLast_sum R
    have tl4 := len_le_flat _ fun l hl => (tl2 l hl).1
    generalize hM : (R.dropLast.flatMap fun z => jointC z.cps.toList) = M at tl1 tl2 tl4
    refine seq_by2 (fun σ H' => ∃ (o4 : Option V) (qs : List Addr),σ = [some (.str t),some (.ref p),some (.int n),some (.ref lt),o4,none,none,none,none] /\ Same H H' /\ H' lt = some (.lst (qs.map V.ref)) /\ LhAt H' qs M) (fun N hN => ?_) ?_
    · refine ⟨_,rfl,_,rfl,_,rfl,p,_,rfl,SqL.of hp2,fun p2 hp2' => ?_⟩
      rw [hcut]
      have hlt3 := Same.new (o := HO.lst (R.dropLast.map V.str)) hp2' lt _ hlt2
      have s3 := s2.new2 (o := HO.lst (R.dropLast.map V.str)) hp2'
      have hp23 : upd H2 p2 (HO.lst (R.dropLast.map V.str)) p2 = some (.lst (R.dropLast.map V.str)) := upd_same
      have hp2H := s2.free hp2'
      have hne2 : p2 ≠ lt := (ne_of_none hlt2 hp2').symm
      generalize upd H2 p2 (HO.lst (R.dropLast.map V.str)) = H3 at s3 hlt3 hp23
      refine ⟨p2,rfl,⟨_,SqL.of hp23⟩,for_list (K := K) (a := p2) (xs := R.dropLast.map V.str) (fun i σ H4 => ∃ (o4 : Option V) (qs : List Addr),σ = [some (.str t),some (.ref p),some (.int n),some (.ref lt),o4,none,none,none,none] /\ Same H H4 /\ H4 p2 = some (.lst (R.dropLast.map V.str)) /\ H4 lt = some (.lst (qs.map V.ref)) /\ LhAt H4 qs ((R.dropLast.take i).flatMap fun z => jointC z.cps.toList) /\ lt ∉ qs)
        ⟨none,[],rfl,s3,hp23,hlt3,.nil,by simp⟩ (fun i σ H4 _ ⟨_,_,_,_,z,_⟩ => SqL.of z) ?_ ?_⟩
      · rintro i y σ H4 hi ⟨o4,qs,rfl,s4,hp24,hlt4,hQ,hnq⟩
        obtain ⟨z,rfl,hzi,hil⟩ := getStr hi
        have hzl := hRz z (List.dropLast_subset _ (List.mem_of_getElem? hzi))
        refine ⟨_,rfl,.inl ⟨rfl,_,SqL.of hlt4⟩,_,rfl,z,rfl,by omega,fun pj qs' H5 s5 hpj hQ' => ?_⟩
        obtain ⟨k1,k2,k3⟩ := joint_small z.cps.toList
        have ezl : z.cps.toList.length = z.length := by simp [Str.length]
        have hlt5 := s5 lt _ hlt4
        have hnq' : lt ∉ qs' := fun m => by
          obtain ⟨xs,hx,hxm⟩ := lh_get hQ' (List.getElem?_eq_getElem (List.idxOf_lt_length_of_mem m))
          rw [List.getElem_idxOf,hlt5] at hx
          have hxs := (k3 xs (List.mem_of_getElem? hxm)).1
          cases xs with
          | nil => exact hxs rfl
          | cons a t => cases qs with
            | nil => cases hx
            | cons b u => cases hx
        have hql := hQ.length
        have hql' := hQ'.length
        have hts : (R.dropLast.take (i + 1)).flatMap (fun z => jointC z.cps.toList) = (R.dropLast.take i).flatMap (fun z => jointC z.cps.toList) ++ jointC z.cps.toList := by
          rw [take_snoc hzi,List.flatMap_append,List.flatMap_singleton]
        have hle : ((R.dropLast.take i).flatMap fun z => jointC z.cps.toList).length <= 1000 := by
          obtain ⟨u1,u2⟩ := told_small (R.dropLast.take i)
          have u3 := len_le_flat _ fun l hl => (u2 l hl).1
          have u4 : ((R.dropLast.take i).map (·.length)).sum <= (R.dropLast.map (·.length)).sum := by
            conv => rhs; rw [<- List.take_append_drop i R.dropLast,List.map_append,List.sum_append]
            omega
          omega
        refine ⟨lt,pj,_,_,rfl,rfl,hlt5,hpj,le_line (by rw [List.length_map,List.length_map]; omega),?_⟩
        have hne5 : p2 ≠ lt := hne2
        refine ⟨_,qs ++ qs',rfl,(s4.trans s5).put hltH,by rw [upd_ne hne5]; exact s5 p2 _ hp24,by rw [upd_same,List.map_append],?_,fun m => (List.mem_append.mp m).elim hnq hnq'⟩
        rw [hts]
        have app : ∀ {l1 l2 : List Addr} {m1 m2 : List (List Int)} {HH : Hp},LhAt HH l1 m1 -> LhAt HH l2 m2 -> LhAt HH (l1 ++ l2) (m1 ++ m2) := fun {l1 l2 m1 m2 HH} a b => by
          induction a with
          | nil => exact b
          | cons r t ih => exact .cons r ih
        exact app (lh_upd (hQ.same s5) hnq) (lh_upd hQ' hnq')
      · rintro σ H4 ⟨o4,qs,rfl,s4,hp24,hlt4,hQ,hnq⟩
        rw [List.length_map,List.take_length,hM] at hQ
        exact hN _ _ ⟨o4,qs,rfl,s4,hlt4,hQ⟩
    rintro σ H4 ⟨o4,qs,rfl,s4,hlt4,hQ⟩
    have hql := hQ.length
    refine seq_a ?_
    refine ⟨Nat.zero_le _,fun nb hnb => ?_⟩
    have hnbH := s4.free hnb
    have hnbq : nb ∉ qs := fun m => by
      obtain ⟨xs,hx,_⟩ := lh_get hQ (List.getElem?_eq_getElem (List.idxOf_lt_length_of_mem m))
      rw [List.getElem_idxOf,hnb] at hx; cases hx
    have hnbl : lt ≠ nb := ne_of_none hlt4 hnb
    have s5 := s4.new2 (o := HO.lst []) hnb
    have hnb5 : upd H4 nb (HO.lst []) nb = some (.lst (([] : List Int).map V.int)) := upd_same
    have hlt5 := Same.new (o := HO.lst []) hnb lt _ hlt4
    have hQ5 := hQ.same (Same.new (o := HO.lst []) hnb)
    generalize upd H4 nb (HO.lst []) = H5 at s5 hnb5 hlt5 hQ5
    refine seq_by2 (fun σ H' => ∃ (o6 : Option V),σ = [some (.str t),some (.ref p),some (.int n),some (.ref lt),o4,some (.ref nb),o6,none,none] /\ Same H H' /\ H' lt = some (.lst (qs.map V.ref)) /\ LhAt H' qs M /\ H' nb = some (.lst (M.flatten.map V.int))) (fun N hN => ?_) ?_
    · refine ⟨_,rfl,lt,rfl,⟨_,SqL.of hlt5⟩,for_list (K := K) (a := lt) (xs := qs.map V.ref) (fun i σ H6 => ∃ (o6 : Option V),σ = [some (.str t),some (.ref p),some (.int n),some (.ref lt),o4,some (.ref nb),o6,none,none] /\ Same H H6 /\ H6 lt = some (.lst (qs.map V.ref)) /\ LhAt H6 qs M /\ H6 nb = some (.lst ((M.take i).flatten.map V.int)))
        ⟨none,rfl,s5,hlt5,hQ5,hnb5⟩ (fun i σ H6 _ ⟨_,_,_,z,_⟩ => SqL.of z) ?_ ?_⟩
      · rintro i y σ H6 hi ⟨o6,rfl,s6,hlt6,hQ6,hnb6⟩
        obtain ⟨q,rfl,hq,hil⟩ := getRef hi
        obtain ⟨xs,hx,hxi⟩ := lh_get hQ6 hq
        have hfl := flat_take_le M i
        have hfl2 := flat_take_le M (i + 1)
        rw [flatten_take hxi,List.length_append] at hfl2
        refine ⟨_,rfl,.inl ⟨rfl,_,SqL.of hnb6⟩,_,rfl,nb,q,_,_,rfl,rfl,hnb6,hx,le_line (by rw [List.length_map,List.length_map]; omega),?_⟩
        exact ⟨_,rfl,s6.put hnbH,by rw [upd_ne hnbl]; exact hlt6,lh_upd hQ6 hnbq,by rw [upd_same,flatten_take hxi,List.map_append]⟩
      · rintro σ H6 ⟨o6,rfl,s6,hlt6,hQ6,hnb6⟩
        rw [List.length_map,hql,List.take_length] at hnb6
        exact hN _ _ ⟨o6,rfl,s6,hlt6,hQ6,hnb6⟩
    rintro σ H6 ⟨o6,rfl,s6,hlt6,hQ6,hnb6⟩
    have hMl : M.flatten.length <= 900 := by omega
    have hpos : ∀ x ∈ M.flatten,0 <= x := fun x hx => by
      obtain ⟨l,hl,hxl⟩ := List.mem_flatten.mp hx
      exact (tl2 l hl).2 x hxl
    have mkf : ∀ ws F : List Int,t = markT ws F -> isWay ws = true -> IsH (arW ws) (crW ws) (fresh 0 ws).toNat F -> n = (ws.length : Int) /\ (∀ x ∈ M.flatten,x < n) /\ M.flatten.Nodup /\ numRow (mgs (rg ws.length) (M.flatMap prsOf)) = ws := fun ws F e hw hH => by
      obtain ⟨w1,w9,w0⟩ := isWay_iff.mp hw
      have hR := hmk ws F hw e
      obtain ⟨gg,hG,hGl⟩ := isH_good hH
      have hlast : (R.getLast hne).length = 2 * ws.length - 1 := (rowsM_mem (F := F) hw _ (by rw [<- hR]; exact List.getLast_mem hne)).1
      have hnn : n = (ws.length : Int) := by omega
      have hMt : M = toldL ws F (maxL F) (maxL F).toNat := by rw [<- hM,hR,mark_told]
      obtain ⟨ks,e1,hnd,hks⟩ := told_lots hw hH (g := maxL F) (maxL F).toNat
      have f0 := (fresh_pos w0 (fun e => by rw [e] at w1; simp at w1)).1
      have hFne : F ≠ [] := fun e => by rw [e] at hGl; simp at hGl; omega
      have hmx := maxL_is hFne
      have hks2 : ∀ k,k ∈ ks ↔ k < (fresh 0 ws).toNat /\ hdL ws k < tlL ws k := fun k => by
        rw [hks]
        refine ⟨fun z => ⟨z.1,z.2.1⟩,fun z => ⟨z.1,z.2,?_,?_⟩⟩
        · have := (hG k (by omega)).2.1
          have := hmx.2 (F.getD k 0) (mem_getD.mpr ⟨k,by omega,rfl⟩)
          omega
        · exact hmx.2 (F.getD k 0) (mem_getD.mpr ⟨k,by omega,rfl⟩)
      rw [hMt,e1]
      refine ⟨hnn,fun x hx => ?_,lots_nodup ks hnd,(link_ways hw hks2).2⟩
      obtain ⟨l,hl,hxl⟩ := List.mem_flatten.mp hx
      obtain ⟨k,_,rfl⟩ := List.mem_map.mp hl
      obtain ⟨j,rfl,hj,_⟩ := mem_lotL.mp hxl
      omega
    have kN : ∀ H',Same H H' -> (¬ ∃ ws F : List Int,t = markT ws F /\ isWay ws = true /\ IsH (arW ws) (crW ws) (fresh 0 ws).toNat F) -> Q .non H' := fun H' s hno => by
      rcases k with ⟨ws,F,e,hw,hH,_⟩ | ⟨_,k⟩
      · exact (hno ⟨ws,F,e,hw,hH⟩).elim
      · exact k H' s
    refine seq_by2 (fun σ H' => σ = [some (.str t),some (.ref p),some (.int n),some (.ref lt),o4,some (.ref nb),o6,none,none] /\ Same H H' /\ H' lt = some (.lst (qs.map V.ref)) /\ LhAt H' qs M /\ 1 <= n /\ n <= 9 /\ ∀ x ∈ M.flatten,x < n) (fun N hN => ?_) ?_
    · have none1 : ¬ (1 <= n /\ n <= 9) -> Q .non H6 := fun z => kN H6 s6 fun ⟨ws,F,e,hw,hH⟩ => by
        have := (mkf ws F e hw hH).1
        obtain ⟨w1,w9,w0⟩ := isWay_iff.mp hw
        omega
      refine ⟨_,rfl,_,_,rfl,rfl,_,rfl,?_⟩
      by_cases g1 : 1 <= n
      case neg =>
        rw [if_neg (fun z => g1 (of_decide_eq_true z))]
        exact ⟨_,rfl,iteT (iteT (none1 fun z => g1 z.1))⟩
      rw [if_pos (decide_eq_true g1)]
      refine ⟨_,_,rfl,rfl,_,rfl,?_⟩
      by_cases g9 : n <= 9
      case neg =>
        rw [decide_eq_false g9]
        exact iteT (iteT (none1 fun z => g9 z.2))
      rw [decide_eq_true g9]
      refine iteF ?_
      refine ⟨_,rfl,nb,M.flatten,rfl,SqL.of hnb6,by omega,fun st S hst => ?_⟩
      have s7 := s6.new2 (o := HO.set S (seen M.flatten).length) hst
      have hnb7 := Same.new (o := HO.set S (seen M.flatten).length) hst nb _ hnb6
      have hlt7 := Same.new (o := HO.set S (seen M.flatten).length) hst lt _ hlt6
      have hQ7 := hQ6.same (Same.new (o := HO.set S (seen M.flatten).length) hst)
      have hst7 : upd H6 st (HO.set S (seen M.flatten).length) st = some (.set S (seen M.flatten).length) := upd_same
      generalize upd H6 st (HO.set S (seen M.flatten).length) = H7 at s7 hnb7 hlt7 hQ7 hst7
      refine ⟨st,S,_,rfl,hst7,_,rfl,nb,_,rfl,.inl (SqL.of hnb7),?_⟩
      rw [ltm]
      refine ⟨_,_,rfl,rfl,_,rfl,ite2 (fun g2 => ?_) (fun g2 => ?_)⟩
      · refine iteT (kN H7 s7 fun ⟨ws,F,e,hw,hH⟩ => ?_)
        have hnd := (mkf ws F e hw hH).2.2.1
        have g2 := of_decide_eq_true g2
        rw [seen_self _ hnd] at g2
        omega
      refine ⟨le_line (by simp),fun u hu => ?_⟩
      have s8 := s7.new2 (o := HO.lst [V.int 0]) hu
      have hnb8 := Same.new (o := HO.lst [V.int 0]) hu nb _ hnb7
      have hu8 : upd H7 u (HO.lst [V.int 0]) u = some (.lst [V.int 0]) := upd_same
      have hlt8 := Same.new (o := HO.lst [V.int 0]) hu lt _ hlt7
      have hQ8 := hQ7.same (Same.new (o := HO.lst [V.int 0]) hu)
      generalize upd H7 u (HO.lst [V.int 0]) = H8 at s8 hnb8 hu8 hlt8 hQ8
      refine ⟨_,rfl,u,nb,_,_,rfl,rfl,hu8,hnb8,le_line (by rw [ltm]; simp only [List.length_cons,List.length_nil]; omega),fun v hv => ?_⟩
      have s9 := s8.new2 (o := HO.lst ([V.int 0] ++ M.flatten.map V.int)) hv
      have hv9 : upd H8 v (HO.lst ([V.int 0] ++ M.flatten.map V.int)) v = some (.lst ((0 :: M.flatten).map V.int)) := upd_same
      have hlt9 := Same.new (o := HO.lst ([V.int 0] ++ M.flatten.map V.int)) hv lt _ hlt8
      have hQ9 := hQ8.same (Same.new (o := HO.lst ([V.int 0] ++ M.flatten.map V.int)) hv)
      generalize upd H8 v (HO.lst ([V.int 0] ++ M.flatten.map V.int)) = H9 at s9 hv9 hlt9 hQ9
      refine ⟨v,0 :: M.flatten,rfl,.inl (SqL.of hv9),by simp,fun mx hmx => ?_⟩
      refine ⟨_,rfl,_,_,rfl,rfl,_,rfl,ite2 (fun g3 => ?_) (fun g3 => ?_)⟩
      · refine kN H9 s9 fun ⟨ws,F,e,hw,hH⟩ => ?_
        have hb := (mkf ws F e hw hH).2.1
        have g3 : n <= mx := of_decide_eq_true g3
        rcases List.mem_cons.mp hmx.1 with z | z
        · omega
        · have := hb mx z; omega
      · have g3 : ¬ n <= mx := fun z => g3 (decide_eq_true z)
        exact hN _ _ ⟨rfl,s9,hlt9,hQ9,g1,g9,fun x hx => by have := hmx.2 x (List.mem_cons_of_mem _ hx); omega⟩
    rintro σ H7 ⟨rfl,s7,hlt7,hQ7,g1,g9,hlt_n⟩
    refine seq_a ?_
    refine ⟨Nat.zero_le _,fun pr hpr => ?_⟩
    have hprH := s7.free hpr
    have hprq : pr ∉ qs := fun m => by
      obtain ⟨xs,hx,_⟩ := lh_get hQ7 (List.getElem?_eq_getElem (List.idxOf_lt_length_of_mem m))
      rw [List.getElem_idxOf,hpr] at hx; cases hx
    have hprl : lt ≠ pr := ne_of_none hlt7 hpr
    have s8 := s7.new2 (o := HO.lst []) hpr
    have hpr8 : upd H7 pr (HO.lst []) pr = some (.lst (([] : List Addr).map V.ref)) := upd_same
    have hlt8 := Same.new (o := HO.lst []) hpr lt _ hlt7
    have hQ8 := hQ7.same (Same.new (o := HO.lst []) hpr)
    generalize upd H7 pr (HO.lst []) = H8 at s8 hpr8 hlt8 hQ8
    refine seq_by2 (fun σ H' => ∃ (o6 : Option V) (us : List Addr),σ = [some (.str t),some (.ref p),some (.int n),some (.ref lt),o4,some (.ref nb),o6,some (.ref pr),none] /\ Same H H' /\ H' pr = some (.lst (us.map V.ref)) /\ Paired (fun a (q : Nat × Nat) => H' a = some (.tup [.int ((q.1 : Nat) : Int),.int ((q.2 : Nat) : Int)])) us (M.flatMap prsOf)) (fun N hN => ?_) ?_
    · refine ⟨_,rfl,lt,rfl,⟨_,SqL.of hlt8⟩,for_list (K := K) (a := lt) (xs := qs.map V.ref) (fun i σ H9 => ∃ (o6 : Option V) (us : List Addr),σ = [some (.str t),some (.ref p),some (.int n),some (.ref lt),o4,some (.ref nb),o6,some (.ref pr),none] /\ Same H H9 /\ H9 lt = some (.lst (qs.map V.ref)) /\ LhAt H9 qs M /\ H9 pr = some (.lst (us.map V.ref)) /\ Paired (fun a (q : Nat × Nat) => H9 a = some (.tup [.int ((q.1 : Nat) : Int),.int ((q.2 : Nat) : Int)])) us ((M.take i).flatMap prsOf))
        ⟨_,[],rfl,s8,hlt8,hQ8,hpr8,.nil⟩ (fun i σ H9 _ ⟨_,_,_,_,z,_⟩ => SqL.of z) ?_ ?_⟩
      · rintro i y σ H9 hi ⟨o6,us,rfl,s9,hlt9,hQ9,hpr9,hU⟩
        obtain ⟨q,rfl,hq,hil⟩ := getRef hi
        obtain ⟨xs,hx,hxi⟩ := lh_get hQ9 hq
        have hxm := List.mem_of_getElem? hxi
        obtain ⟨hxne,hxp⟩ := tl2 xs hxm
        have hul := hU.length
        have hfl := prs_flat (M.take i)
        have hfl2 := flat_take_le M i
        have hxl : xs.length <= 900 := by
          have := flat_take_le M (i + 1)
          rw [flatten_take hxi,List.length_append] at this
          omega
        obtain ⟨x0,xt,rfl⟩ : ∃ x0 xt,xs = x0 :: xt := by
          cases xs with
          | nil => exact absurd rfl hxne
          | cons a b => exact ⟨a,b,rfl⟩
        refine ⟨_,rfl,.inl ⟨rfl,_,SqL.of hpr9⟩,?_⟩
        refine ⟨_,rfl,_,rfl,q,_,rfl,SqL.of hx,fun c hc => ?_⟩
        have hcd : cutV ((x0 :: xt).map V.int) (some 1) none = xt.map V.int := cut_drop_int (x0 :: xt) 1
        rw [hcd]
        have s10 := s9.new2 (o := HO.lst (xt.map V.int)) hc
        have s10' := Same.new (o := HO.lst (xt.map V.int)) hc
        have hc10 : upd H9 c (HO.lst (xt.map V.int)) c = some (.lst (xt.map V.int)) := upd_same
        generalize upd H9 c (HO.lst (xt.map V.int)) = H10 at s10 s10' hc10
        have hx10 := s10' q _ hx
        refine ⟨c,rfl,⟨_,SqL.of hc10⟩,lc_list (xs := xt.map V.int) (fun j ys H11 => Same H10 H11 /\ ∃ as : List Addr,ys = as.map V.ref /\ Paired (fun a (q : Nat × Nat) => H11 a = some (.tup [.int ((q.1 : Nat) : Int),.int ((q.2 : Nat) : Int)])) as ((xt.take j).map fun x => (x0.toNat,x.toNat))) (le_line (by rw [ltm]; rw [List.length_cons] at hxl; omega)) ⟨Same.refl _,[],rfl,.nil⟩
          (fun j ys H11 _ ⟨s11,as,e,hA⟩ => ⟨SqL.of (s11 c _ hc10),by rw [e,List.length_map,hA.length,List.length_map,List.length_take]; omega⟩) ?_ ?_⟩
        · rintro j y ys H11 hj ⟨s11,as,rfl,hA⟩
          obtain ⟨x,rfl,hxj,hjl⟩ := getI hj
          have hx0 := hxp x0 List.mem_cons_self
          have hxx := hxp x (List.mem_cons_of_mem _ (List.mem_of_getElem? hxj))
          refine lcN ?_
          refine ⟨_,rfl,q,_,_,_,rfl,rfl,SqL.of (s11 q _ hx10),atI_int (i := 0) (z := x0) (by decide) rfl,_,rfl,le_line (by simp),fun l hl => ⟨s11.new2 hl,as ++ [l],by rw [List.map_append]; rfl,?_⟩⟩
          rw [take_snoc hxj,List.map_append]
          refine Paired.snoc (L2.Paired.mapP hA fun a' q' z => Same.new hl a' _ z) ?_
          rw [upd_same]
          show some (HO.tup [V.int x0,V.int x]) = some (HO.tup [V.int ((x0.toNat : Nat) : Int),V.int ((x.toNat : Nat) : Int)])
          rw [Int.toNat_of_nonneg hx0,Int.toNat_of_nonneg hxx]
        rintro ys H11 ⟨s11,as,rfl,hA⟩ w hw'
        rw [ltm,List.take_length] at hA
        have s12 := s11.new2 (o := HO.lst (as.map V.ref)) hw'
        have hw12 : upd H11 w (HO.lst (as.map V.ref)) w = some (.lst (as.map V.ref)) := upd_same
        have hA12 : Paired (fun a (q : Nat × Nat) => upd H11 w (HO.lst (as.map V.ref)) a = some (.tup [.int ((q.1 : Nat) : Int),.int ((q.2 : Nat) : Int)])) as (xt.map fun x => (x0.toNat,x.toNat)) := L2.Paired.mapP hA fun a' q' z => Same.new hw' a' _ z
        generalize upd H11 w (HO.lst (as.map V.ref)) = H12 at s12 hw12 hA12
        have s912 := s10'.trans s12
        have hpr12 := s912 pr _ hpr9
        have hal := hA.length
        rw [List.length_map] at hal
        refine ⟨pr,w,_,_,rfl,rfl,hpr12,hw12,le_line (by rw [List.length_map,List.length_map]; rw [List.length_cons] at hxl; omega),?_⟩
        have keep : ∀ (a : Addr) (x y : Int),H12 a = some (.tup [.int x,.int y]) -> upd H12 pr (HO.lst (us.map V.ref ++ as.map V.ref)) a = some (.tup [.int x,.int y]) := fun a x y h => by
          rw [upd_ne (show a ≠ pr from fun e => by rw [e,hpr12] at h; cases h)]; exact h
        refine ⟨_,us ++ as,rfl,(s9.trans s912).put hprH,by rw [upd_ne hprl]; exact s912 lt _ hlt9,lh_upd (hQ9.same s912) hprq,by rw [upd_same,List.map_append],?_⟩
        rw [flatMap_take hxi]
        have app : ∀ {l1 l2 : List Addr} {m1 m2 : List (Nat × Nat)} {FF : Addr -> Nat × Nat -> Prop},Paired FF l1 m1 -> Paired FF l2 m2 -> Paired FF (l1 ++ l2) (m1 ++ m2) := fun {l1 l2 m1 m2 FF} a b => by
          induction a with
          | nil => exact b
          | cons r t ih => exact .cons r ih
        exact app (L2.Paired.mapP hU fun a' q' z => keep a' _ _ (s912 a' _ z)) (L2.Paired.mapP hA12 fun a' q' z => keep a' _ _ z)
      · rintro σ H9 ⟨o6,us,rfl,s9,hlt9,hQ9,hpr9,hU⟩
        rw [List.length_map,hql,List.take_length] at hU
        exact hN _ _ ⟨o6,us,rfl,s9,hpr9,hU⟩
    rintro σ H9 ⟨o6',us,rfl,s9,hpr9,hU⟩
    refine seq_a ?_
    refine ⟨_,rfl,_,rfl,n,pr,us,M.flatMap prsOf,rfl,by omega,g9,SqL.of hpr9,L2.Paired.mapP hU fun a' q' z => SqT.of z,fun q hq => ?_,fun wy H10 s10 hwy => ?_⟩
    · obtain ⟨l,hl,hql'⟩ := List.mem_flatMap.mp hq
      obtain ⟨hlne,hlp⟩ := tl2 l hl
      unfold prsOf at hql'
      obtain ⟨x,hx,rfl⟩ := List.mem_map.mp hql'
      have in_ : ∀ y ∈ l,0 <= y /\ y < n := fun y hy => ⟨hlp y hy,hlt_n y (List.mem_flatten.mpr ⟨l,hl,hy⟩)⟩
      have h1 := in_ x (List.mem_of_mem_drop hx)
      have h2 := in_ (l.headD 0) (by
        cases l with
        | nil => exact absurd rfl hlne
        | cons a b => exact List.mem_cons_self)
      show (l.headD 0).toNat < n.toNat /\ x.toNat < n.toNat
      omega
    have hwl : (mgs (rg n.toNat) (M.flatMap prsOf)).length = n.toNat := by rw [mgs_length,rg_length]
    have hwy0 := numRow_isWay (xs := mgs (rg n.toNat) (M.flatMap prsOf)) (by omega) (by omega)
    refine seq_by2 (fun σ H' => (∃ (o6 : Option V),σ = [some (.str t),some (.ref p),some (.int n),some (.ref lt),o4,some (.ref nb),o6,some (.ref pr),some (.ref wy)]) /\ Same H10 H' /\ ∃ G,IsH (arW (numRow (mgs (rg n.toNat) (M.flatMap prsOf)))) (crW (numRow (mgs (rg n.toNat) (M.flatMap prsOf)))) (fresh 0 (numRow (mgs (rg n.toNat) (M.flatMap prsOf)))).toNat G /\ markT (numRow (mgs (rg n.toNat) (M.flatMap prsOf))) G = t) (fun N hN => ?_) ?_
    · refine ⟨_,rfl,wy,_,rfl,SqT.of hwy,hwy0,fun G H11 hG s11 => ?_⟩
      refine ⟨_,rfl,rfl,_,rfl,ite2 (fun e => ?_) (fun e => ?_)⟩
      · refine kN H11 ((s9.trans s10).trans s11) fun ⟨ws,F,e1,hw,hH⟩ => ?_
        obtain ⟨m1,m2,m3,m4⟩ := mkf ws F e1 hw hH
        rw [show n.toNat = ws.length by omega,m4] at e hG
        rw [isH_uniq hG hH,e1] at e
        rw [decide_eq_true rfl] at e
        cases e
      · have e : markT (numRow (mgs (rg n.toNat) (M.flatMap prsOf))) G = t := Classical.byContradiction fun z => e (by rw [decide_eq_false (fun y => z (V.str.inj y))]; rfl)
        exact hN _ _ ⟨⟨_,rfl⟩,s11,G,hG,e⟩
    rintro σ H11 ⟨⟨o6'',rfl⟩,s11,G,hG,e⟩
    refine ⟨_,rfl,?_⟩
    rcases k with ⟨ws,F,e1,hw,hH,k⟩ | ⟨hno,k⟩
    · obtain ⟨m1,m2,m3,m4⟩ := mkf ws F e1 hw hH
      rw [show n.toNat = ws.length by omega,m4] at hwy
      exact k wy H11 ((s9.trans s10).trans s11) (s11 wy _ hwy)
    · exact (hno _ _ hwy0 hG e.symm).elim
theorem sc_law_any_sign : FnScope (["_law_cell_here","_law_some"]) (["_law_cell_here"]) (defScope s_law_any_sign) := by trivial
theorem ok_law_any_sign {f : Addr} {fd : FuncData} (F : Fun K "_law_any_sign" "_law_any_sign" s_law_any_sign f fd) (B : Bs mg) (T : Gs mg)   : FnOk P w K mg base CX0 1 f fd ["_law_cell_here"] (spAnyS K) := by
  have sc := sc_law_any_sign
  refine F.ok sc (fun vs H Q E h => ?_) (fun cdv A outer s H vs Q E hr h => ?_)
  · obtain ⟨c,rfl,_⟩ := h; rfl
  · obtain ⟨c,rfl,k⟩ := h
    refine ⟨_,(pss_cons (ps_set (i := 1) sc.nd rfl (Or.inl rfl) pe_str)
      (pss_cons (ps_set (i := 1) sc.nd rfl (Or.inl rfl) (pe_op op_add_str (pe_op op_add_str (pv 1) pe_str) pe_str))
      (pss_one (ps_ret (pe_ix ix_str (pv 1) (pe_op op_mod (pv 0) (pe_callB call_len_str (by rfl) B.len PyProof.Rows.Boot.«len» (pa_cons (pv 1) pa_nil))) (fun _ _ => rfl)))))),?_⟩
    refine ⟨_,rfl,_,_,rfl,rfl,le_line (by decide),_,_,rfl,rfl,le_line (by decide),?_⟩
    refine ⟨_,rfl,_,rfl,_,rfl,_,rfl,le_line (by decide),_,_,rfl,rfl,(show (0 : Int) < ((Str.ofString "|-+# |-+# \n!\"$&'()*,./0123456789:;<=>?@ABCDEFGHIJKLMNOPQRSTUVWXYZ[\\]^_" ++ Str.ofString "abcdefghijklmnopqrstuvwxyz{}~" ++ Str.ofString "`").length : Int) by decide),?_⟩
    dsimp only
    generalize hS : (Str.ofString "|-+# |-+# \n!\"$&'()*,./0123456789:;<=>?@ABCDEFGHIJKLMNOPQRSTUVWXYZ[\\]^_" ++ Str.ofString "abcdefghijklmnopqrstuvwxyz{}~" ++ Str.ofString "`") = S
    have hl : 0 < S.length /\ S.length <= 1000 := by rw [<- hS]; decide
    have e : S.cps.toList.length = S.length := by simp [Str.length]
    have hm := modB c (show (0 : Int) < (S.length : Int) by omega)
    obtain ⟨m,hm2⟩ : ∃ m : Nat,c % (S.length : Int) = (m : Int) := ⟨(c % (S.length : Int)).toNat,by omega⟩
    rw [hm2] at hm ⊢
    refine ⟨S,_,S.cps.toList[m]'(by omega),rfl,rfl,le_line (by omega),atI_nat (List.getElem?_eq_getElem _),k _ ?_⟩
    exact Nat.le_refl _
theorem sc_law_rows_bent : FnScope (["_law_rows","_law_kind","_law_at","_law_bent_here"]) (["_law_rows","_law_kind","_law_at"]) (defScope s_law_rows_bent) := by trivial
theorem ok_law_rows_bent {f : Addr} {fd : FuncData} (F : Fun K "_law_rows_bent" "_law_rows_bent" s_law_rows_bent f fd) (B : Bs mg) (T : Gs mg)   : FnOk P w K mg base CX0 1 f fd ["_law_rows","_law_kind","_law_at"] (spRBent K) := by
  have sc := sc_law_rows_bent
  refine F.ok sc (fun vs H Q E h => ?_) (fun cdv A outer s H vs Q E hr h => ?_)
  · obtain ⟨p,R,kd,at_,rfl,_⟩ := h; rfl
  · obtain ⟨p,R,kd,at_,rfl,hp,hR1,hR,hz,h0,h1,k⟩ := h
    refine ⟨_,(pss_cons (ps_set (i := 3) sc.nd rfl (Or.inl rfl) (pe_callTy (kc_list (K := K)) (by rfl) B.list PyProof.Rows.Boot.«list» (pa_cons (pv 0) pa_nil)))
      (pss_cons (ps_if (pt_cmpR op_eq (pv 1) pe_int (nomark _)) (pss_one (ps_expr (pe_bm PySem.F.plainAttrs_list PySem.F.slot_list_insert PySem.F.type_list_insert mt_insert (pv 3) (pa_cons (pv 2) (pa_cons (pe_ix (kix_list (K := K)) (pv 0) (pv 2) (fun _ _ => rfl)) pa_nil))))) pss_nil)
      (pss_cons (ps_if (pt_cmpR op_eq (pv 1) pe_int (nomark _)) (pss_one (ps_expr (pe_bm PySem.F.plainAttrs_list PySem.F.slot_list_pop PySem.F.type_list_pop mt_popAt (pv 3) (pa_cons (pv 2) pa_nil)))) pss_nil)
      (pss_cons (ps_if (pt_cmpR op_eq (pv 1) pe_int (nomark _)) (pss_one (ps_asg (pe_tup (pa_cons (pe_ix (kix_list (K := K)) (pv 3) pe_int (fun _ _ => rfl)) (pa_cons (pe_ix (kix_list (K := K)) (pv 3) (pv 2) (fun _ _ => rfl)) pa_nil))) (pg_tup rfl (pgs_cons (pg_sub (pv 3) (pv 2) set_list) (pgs_cons (pg_sub (pv 3) pe_int set_list) pgs_nil))))) pss_nil)
      (pss_cons (ps_if (pt_cmpR op_eq (pv 1) pe_int (nomark _)) (pss_one (ps_expr (pe_bm PySem.F.plainAttrs_list PySem.F.slot_list_insert PySem.F.type_list_insert mt_insert (pv 3) (pa_cons (pv 2) (pa_cons (pe_op op_mulS pe_str (pe_callB call_len_str (by rfl) B.len PyProof.Rows.Boot.«len» (pa_cons (pe_ix (kix_list (K := K)) (pv 0) pe_int (fun _ _ => rfl)) pa_nil))) pa_nil))))) pss_nil)
      (pss_cons (ps_if (pt_cmpR op_eq (pv 1) pe_int (nomark _)) (pss_one (ps_lc (i := 3) sc.nd rfl rfl (N' := ["_law_line"]) (M := [none]) (lcSc_of (by rfl)) rfl (kpi_list (K := K) (pv 0)) (fun _ _ _ _ _ => pg_name (i := 0) (show (["_law_line"] : List Str).Nodup by decide +kernel) rfl (Or.inl rfl) (.inr rfl)) (frm_name rfl) (fun _ _ _ _ _ => pts_nil) (fun _ _ _ _ _ => (pe_op op_add_str (pv 0) pe_str)))) pss_nil)
      (pss_cons (ps_if (pt_cmpR op_eq (pv 1) pe_int (nomark _)) (pss_one (ps_expr (pe_bm PySem.F.plainAttrs_list PySem.F.slot_list_append PySem.F.type_list_append mt_append (pv 3) (pa_cons pe_str pa_nil)))) pss_nil)
      (pss_cons (ps_if (pt_cmpR op_eq (pv 1) pe_int (nomark _)) (pss_one (ps_lc (i := 3) sc.nd rfl rfl (N' := ["_law_line"]) (M := [none]) (lcSc_of (by rfl)) rfl (kpi_list (K := K) (pv 0)) (fun _ _ _ _ _ => pg_name (i := 0) (show (["_law_line"] : List Str).Nodup by decide +kernel) rfl (Or.inl rfl) (.inr rfl)) (frm_name rfl) (fun _ _ _ _ _ => pts_nil) (fun _ _ _ _ _ => (pe_op op_add_str (pv 0) pe_str)))) pss_nil)
      (pss_cons (ps_if (pt_cmpR op_eq (pv 1) pe_int (nomark _)) (pss_one (ps_set (i := 3) sc.nd rfl (Or.inl rfl) (pe_op op_cat (pe_lst (pa_cons pe_str pa_nil)) (pv 0)))) pss_nil)
      (pss_one (ps_ret (pe_bm PySem.F.plainAttrs_str PySem.F.slot_str_join PySem.F.type_str_join (mt_join (K := K)) pe_str (pa_cons (pv 3) pa_nil))))))))))))),?_⟩
    have iV : ∀ x y : Int,decide (V.int x = V.int y) = decide (x = y) := fun x y => decide_eq_decide.mpr ⟨fun e => V.int.inj e,fun e => congrArg V.int e⟩
    obtain ⟨m,rfl⟩ : ∃ m : Nat,at_ = (m : Int) := ⟨at_.toNat,by omega⟩
    have hm : m < R.length := by omega
    have hz0 : ∀ i,i < R.length -> (R.getD i "").length <= 17 := fun i h => by
      rw [List.getD_eq_getElem?_getD,List.getElem?_eq_getElem h]; exact hz _ (List.getElem_mem h)
    have hz2 : ∀ z ∈ R,z.length <= 20 := fun z h => by have := hz z h; omega
    have key : ∀ (b : Int) (N : Bool -> Hp -> Prop) (σ : St) (H' : Hp),σ[1]? = some (some (.int kd)) -> N (decide (kd = b)) H' -> tTest (tOp rEq (tVar 1) (tC (V.int b))) σ H' N := fun b N σ H' e h => ⟨_,e,rfl,_,rfl,by rw [iV]; exact h⟩
    refine seq_a ?_
    refine ⟨_,rfl,p,_,rfl,.inl (SqL.of hp),fun q0 hq0 => ?_⟩
    have s0 := Same.new (o := HO.lst (R.map V.str)) hq0
    have hq00 : upd H q0 (HO.lst (R.map V.str)) q0 = some (.lst (R.map V.str)) := upd_same
    generalize upd H q0 (HO.lst (R.map V.str)) = H0 at s0 hq00
    obtain ⟨q,S,eσ,s,hq,hqH,hS,hl,hzS⟩ : ∃ (q : Addr) (S : List Str),(List.set (L2.start ["_law_rows","_law_kind","_law_at","_law_bent_here"] [V.ref p,V.int kd,V.int (m : Int)]) 3 (some (V.ref q0)) : St) = [some (.ref p),some (.int kd),some (.int (m : Int)),some (.ref q)] /\ Same H H0 /\ H0 q = some (.lst (S.map V.str)) /\ H q = none /\ ((0 : Int) <= kd -> S = R) /\ S.length <= 11 /\ ∀ z ∈ S,z.length <= 20 :=
      ⟨q0,R,rfl,s0,hq00,hq0,fun _ => rfl,by omega,hz2⟩
    dsimp only
    rw [eσ]
    clear eσ hq0 s0 hq00
    generalize H0 = H' at s hq
    refine seq_by2 (fun σ H' => ∃ (q : Addr) (S : List Str),σ = [some (.ref p),some (.int kd),some (.int (m : Int)),some (.ref q)] /\ Same H H' /\ H' q = some (.lst (S.map V.str)) /\ H q = none /\ ((1 : Int) <= kd -> S = R) /\ S.length <= 11 /\ ∀ z ∈ S,z.length <= 20) (fun N hN => ?_) ?_
    · skip
      refine if_dec (decide (kd = 0)) (fun N' h => key 0 N' _ _ rfl h) (fun e => ?_) (fun e => ?_)
      · have e : kd = 0 := of_decide_eq_true e
        have eS : S = R := hS (by omega)
        rw [eS] at hq
        have fin : ∀ l : List V,(∀ v ∈ l,∃ z : Str,v = .str z /\ z.length <= 20) -> l.length <= 11 -> N [some (.ref p),some (.int kd),some (.int (m : Int)),some (.ref q)] (upd H' q (.lst l)) := fun l h1 h2 => by
          obtain ⟨S',rfl,e1,e2⟩ := strs_of l h1
          rw [List.length_map] at h2
          exact hN _ _ ⟨q,S',rfl,s.put hqH,upd_same,hqH,fun h => absurd h (by omega),h2,e2⟩
        refine ⟨_,rfl,.inl ⟨rfl,_,SqL.of hq⟩,_,rfl,_,rfl,_,rfl,p,_,_,_,rfl,rfl,SqL.of (s p _ hp),atI_strs hm,q,_,(m : Int),_,rfl,rfl,hq,by omega,by rw [List.length_map]; omega,by rw [List.length_map]; omega,fin _ (fun v hv => ?_) (by simp; omega)⟩
        rcases List.mem_append.mp hv with hv | hv
        · exact of_strs hz2 v (List.mem_of_mem_take hv)
        · rcases List.mem_cons.mp hv with e | hv
          · exact ⟨_,e,by have := hz0 m hm; omega⟩
          · exact of_strs hz2 v (List.mem_of_mem_drop hv)
      · exact hN _ _ ⟨q,S,rfl,s,hq,hqH,fun h => hS (by have := of_decide_eq_false e; omega),hl,hzS⟩
    clear hq s hqH hS hl hzS
    clear q S H'
    rintro σ H' ⟨q,S,rfl,s,hq,hqH,hS,hl,hzS⟩
    refine seq_by2 (fun σ H' => ∃ (q : Addr) (S : List Str),σ = [some (.ref p),some (.int kd),some (.int (m : Int)),some (.ref q)] /\ Same H H' /\ H' q = some (.lst (S.map V.str)) /\ H q = none /\ ((2 : Int) <= kd -> S = R) /\ S.length <= 11 /\ ∀ z ∈ S,z.length <= 20) (fun N hN => ?_) ?_
    · skip
      refine if_dec (decide (kd = 1)) (fun N' h => key 1 N' _ _ rfl h) (fun e => ?_) (fun e => ?_)
      · have e : kd = 1 := of_decide_eq_true e
        have eS : S = R := hS (by omega)
        rw [eS] at hq
        have fin : ∀ l : List V,(∀ v ∈ l,∃ z : Str,v = .str z /\ z.length <= 20) -> l.length <= 11 -> N [some (.ref p),some (.int kd),some (.int (m : Int)),some (.ref q)] (upd H' q (.lst l)) := fun l h1 h2 => by
          obtain ⟨S',rfl,e1,e2⟩ := strs_of l h1
          rw [List.length_map] at h2
          exact hN _ _ ⟨q,S',rfl,s.put hqH,upd_same,hqH,fun h => absurd h (by omega),h2,e2⟩
        obtain ⟨j,hj1,hj2,hj3,_⟩ := atI_get (atI_strs (R := R) hm)
        refine ⟨_,rfl,.inl ⟨rfl,_,SqL.of hq⟩,_,rfl,q,_,(m : Int),j,_,rfl,rfl,hq,by omega,by omega,hj1,hj2,fin _ (fun v hv => of_strs hz2 v (List.mem_of_mem_eraseIdx hv)) ?_⟩
        refine Nat.le_trans (List.length_eraseIdx_le _ _) ?_
        rw [List.length_map]; omega
      · exact hN _ _ ⟨q,S,rfl,s,hq,hqH,fun h => hS (by have := of_decide_eq_false e; omega),hl,hzS⟩
    clear hq s hqH hS hl hzS
    clear q S H'
    rintro σ H' ⟨q,S,rfl,s,hq,hqH,hS,hl,hzS⟩
    refine seq_by2 (fun σ H' => ∃ (q : Addr) (S : List Str),σ = [some (.ref p),some (.int kd),some (.int (m : Int)),some (.ref q)] /\ Same H H' /\ H' q = some (.lst (S.map V.str)) /\ H q = none /\ ((3 : Int) <= kd -> S = R) /\ S.length <= 11 /\ ∀ z ∈ S,z.length <= 20) (fun N hN => ?_) ?_
    · skip
      refine if_dec (decide (kd = 2)) (fun N' h => key 2 N' _ _ rfl h) (fun e => ?_) (fun e => ?_)
      · have e : kd = 2 := of_decide_eq_true e
        have eS : S = R := hS (by omega)
        rw [eS] at hq
        have fin : ∀ l : List V,(∀ v ∈ l,∃ z : Str,v = .str z /\ z.length <= 20) -> l.length <= 11 -> N [some (.ref p),some (.int kd),some (.int (m : Int)),some (.ref q)] (upd H' q (.lst l)) := fun l h1 h2 => by
          obtain ⟨S',rfl,e1,e2⟩ := strs_of l h1
          rw [List.length_map] at h2
          exact hN _ _ ⟨q,S',rfl,s.put hqH,upd_same,hqH,fun h => absurd h (by omega),h2,e2⟩
        refine ⟨_,rfl,q,_,_,_,rfl,rfl,SqL.of hq,atI_strs (i := 0) (by omega),_,rfl,_,rfl,q,_,_,_,rfl,rfl,SqL.of hq,atI_strs hm,le_line (by simp),fun tp htp => ?_⟩
        have s2 := s.new2 (o := HO.tup [V.str (R.getD 0 ""),V.str (R.getD m "")]) htp
        have hq2 := Same.new (o := HO.tup [V.str (R.getD 0 ""),V.str (R.getD m "")]) htp q _ hq
        have htp2 : upd H' tp (HO.tup [V.str (R.getD 0 ""),V.str (R.getD m "")]) tp = some (.tup [V.str (R.getD 0 ""),V.str (R.getD m "")]) := upd_same
        generalize upd H' tp (HO.tup [V.str (R.getD 0 ""),V.str (R.getD m "")]) = H2 at s2 hq2 htp2
        refine ⟨tp,_,rfl,SqT.of htp2,rfl,_,_,rfl,_,rfl,_,rfl,q,_,(m : Int),(m : Int).toNat,rfl,rfl,hq2,ixN_pos (by omega) (by rw [List.length_map]; omega),_,_,rfl,_,rfl,q,_,0,(0 : Int).toNat,rfl,rfl,upd_same,ixN_pos (by decide) (by rw [List.length_set,List.length_map]; omega),rfl,?_⟩
        obtain ⟨S',e0,e1,e2⟩ := strs_of (((R.map V.str).set (m : Int).toNat (V.str (R.getD 0 ""))).set (0 : Int).toNat (V.str (R.getD m ""))) (fun v hv => by
          rcases List.mem_or_eq_of_mem_set hv with hv | hv
          · rcases List.mem_or_eq_of_mem_set hv with hv | hv
            · exact of_strs hz2 v hv
            · exact ⟨_,hv,by have := hz0 0 (by omega); omega⟩
          · exact ⟨_,hv,by have := hz0 m hm; omega⟩)
        refine hN _ _ ⟨q,S',rfl,(s2.put hqH).put hqH,by rw [upd_same,e0],hqH,fun h => absurd h (by omega),?_,e2⟩
        rw [e1,List.length_set,List.length_set,List.length_map]; omega
      · exact hN _ _ ⟨q,S,rfl,s,hq,hqH,fun h => hS (by have := of_decide_eq_false e; omega),hl,hzS⟩
    clear hq s hqH hS hl hzS
    clear q S H'
    rintro σ H' ⟨q,S,rfl,s,hq,hqH,hS,hl,hzS⟩
    refine seq_by2 (fun σ H' => ∃ (q : Addr) (S : List Str),σ = [some (.ref p),some (.int kd),some (.int (m : Int)),some (.ref q)] /\ Same H H' /\ H' q = some (.lst (S.map V.str)) /\ H q = none /\ ((4 : Int) <= kd -> S = R) /\ S.length <= 11 /\ ∀ z ∈ S,z.length <= 20) (fun N hN => ?_) ?_
    · skip
      refine if_dec (decide (kd = 3)) (fun N' h => key 3 N' _ _ rfl h) (fun e => ?_) (fun e => ?_)
      · have e : kd = 3 := of_decide_eq_true e
        have eS : S = R := hS (by omega)
        rw [eS] at hq
        have fin : ∀ l : List V,(∀ v ∈ l,∃ z : Str,v = .str z /\ z.length <= 20) -> l.length <= 11 -> N [some (.ref p),some (.int kd),some (.int (m : Int)),some (.ref q)] (upd H' q (.lst l)) := fun l h1 h2 => by
          obtain ⟨S',rfl,e1,e2⟩ := strs_of l h1
          rw [List.length_map] at h2
          exact hN _ _ ⟨q,S',rfl,s.put hqH,upd_same,hqH,fun h => absurd h (by omega),h2,e2⟩
        refine ⟨_,rfl,.inl ⟨rfl,_,SqL.of hq⟩,_,rfl,_,rfl,p,_,_,_,rfl,rfl,SqL.of (s p _ hp),atI_strs (i := 0) (by omega),_,rfl,le_line (by have := hz0 0 (by omega); omega),_,_,rfl,rfl,by omega,by have := hz0 0 (by omega); omega,by decide,fun zz hzz => ?_⟩
        have := hz0 0 (by omega)
        refine ⟨q,_,(m : Int),_,rfl,rfl,hq,by omega,by rw [List.length_map]; omega,by rw [List.length_map]; omega,fin _ (fun v hv => ?_) (by simp; omega)⟩
        rcases List.mem_append.mp hv with hv | hv
        · exact of_strs hz2 v (List.mem_of_mem_take hv)
        · rcases List.mem_cons.mp hv with e | hv
          · exact ⟨_,e,by omega⟩
          · exact of_strs hz2 v (List.mem_of_mem_drop hv)
      · exact hN _ _ ⟨q,S,rfl,s,hq,hqH,fun h => hS (by have := of_decide_eq_false e; omega),hl,hzS⟩
    clear hq s hqH hS hl hzS
    clear q S H'
    rintro σ H' ⟨q,S,rfl,s,hq,hqH,hS,hl,hzS⟩
    refine seq_by2 (fun σ H' => ∃ (q : Addr) (S : List Str),σ = [some (.ref p),some (.int kd),some (.int (m : Int)),some (.ref q)] /\ Same H H' /\ H' q = some (.lst (S.map V.str)) /\ H q = none /\ ((5 : Int) <= kd -> S = R) /\ S.length <= 11 /\ ∀ z ∈ S,z.length <= 20) (fun N hN => ?_) ?_
    · skip
      refine if_dec (decide (kd = 4)) (fun N' h => key 4 N' _ _ rfl h) (fun e => ?_) (fun e => ?_)
      · have e : kd = 4 := of_decide_eq_true e
        have eS : S = R := hS (by omega)
        rw [eS] at hq
        have fin : ∀ l : List V,(∀ v ∈ l,∃ z : Str,v = .str z /\ z.length <= 20) -> l.length <= 11 -> N [some (.ref p),some (.int kd),some (.int (m : Int)),some (.ref q)] (upd H' q (.lst l)) := fun l h1 h2 => by
          obtain ⟨S',rfl,e1,e2⟩ := strs_of l h1
          rw [List.length_map] at h2
          exact hN _ _ ⟨q,S',rfl,s.put hqH,upd_same,hqH,fun h => absurd h (by omega),h2,e2⟩
        have hp' := s p _ hp
        have hsl : (Str.ofString " ").length = 1 := by decide
        refine ⟨_,rfl,p,rfl,⟨_,SqL.of hp'⟩,lc_list (xs := R.map V.str) (fun j ys H2 => H2 = H' /\ ys = ((R.take j).map fun z => z ++ Str.ofString " ").map V.str) (le_line (by rw [List.length_map]; omega)) ⟨rfl,rfl⟩
          (fun j ys H2 _ ⟨e,e2⟩ => ⟨by rw [e]; exact SqL.of hp',by rw [e2,List.length_map,List.length_map,List.length_take]; omega⟩) ?_ ?_⟩
        · rintro j y ys H2 hj ⟨rfl,rfl⟩
          obtain ⟨z,rfl,hzj,_⟩ := getStr hj
          have hzl := hz z (List.mem_of_getElem? hzj)
          refine lcN ?_
          refine ⟨_,rfl,_,_,rfl,rfl,le_line (by rw [hsl]; omega),rfl,?_⟩
          rw [take_snoc hzj,List.map_append,List.map_append]; rfl
        rintro ys H2 ⟨rfl,rfl⟩ v hv
        rw [List.length_map,List.take_length]
        refine hN _ _ ⟨v,_,rfl,s.new2 hv,upd_same,s.free hv,fun h => absurd h (by omega),by rw [List.length_map]; omega,fun z hz' => ?_⟩
        obtain ⟨z0,hz00,rfl⟩ := List.mem_map.mp hz'
        have := hz z0 hz00
        rw [str_app_len,hsl]; omega
      · exact hN _ _ ⟨q,S,rfl,s,hq,hqH,fun h => hS (by have := of_decide_eq_false e; omega),hl,hzS⟩
    clear hq s hqH hS hl hzS
    clear q S H'
    rintro σ H' ⟨q,S,rfl,s,hq,hqH,hS,hl,hzS⟩
    refine seq_by2 (fun σ H' => ∃ (q : Addr) (S : List Str),σ = [some (.ref p),some (.int kd),some (.int (m : Int)),some (.ref q)] /\ Same H H' /\ H' q = some (.lst (S.map V.str)) /\ H q = none /\ ((6 : Int) <= kd -> S = R) /\ S.length <= 11 /\ ∀ z ∈ S,z.length <= 20) (fun N hN => ?_) ?_
    · skip
      refine if_dec (decide (kd = 5)) (fun N' h => key 5 N' _ _ rfl h) (fun e => ?_) (fun e => ?_)
      · have e : kd = 5 := of_decide_eq_true e
        have eS : S = R := hS (by omega)
        rw [eS] at hq
        have fin : ∀ l : List V,(∀ v ∈ l,∃ z : Str,v = .str z /\ z.length <= 20) -> l.length <= 11 -> N [some (.ref p),some (.int kd),some (.int (m : Int)),some (.ref q)] (upd H' q (.lst l)) := fun l h1 h2 => by
          obtain ⟨S',rfl,e1,e2⟩ := strs_of l h1
          rw [List.length_map] at h2
          exact hN _ _ ⟨q,S',rfl,s.put hqH,upd_same,hqH,fun h => absurd h (by omega),h2,e2⟩
        refine ⟨_,rfl,.inl ⟨rfl,_,SqL.of hq⟩,q,_,_,rfl,rfl,hq,lt_line (by rw [List.length_map]; omega),fin _ (fun v hv => ?_) (by simp; omega)⟩
        rcases List.mem_append.mp hv with hv | hv
        · exact of_strs hz2 v hv
        · exact ⟨_,List.mem_singleton.mp hv,by decide⟩
      · exact hN _ _ ⟨q,S,rfl,s,hq,hqH,fun h => hS (by have := of_decide_eq_false e; omega),hl,hzS⟩
    clear hq s hqH hS hl hzS
    clear q S H'
    rintro σ H' ⟨q,S,rfl,s,hq,hqH,hS,hl,hzS⟩
    refine seq_by2 (fun σ H' => ∃ (q : Addr) (S : List Str),σ = [some (.ref p),some (.int kd),some (.int (m : Int)),some (.ref q)] /\ Same H H' /\ H' q = some (.lst (S.map V.str)) /\ H q = none /\ ((7 : Int) <= kd -> S = R) /\ S.length <= 11 /\ ∀ z ∈ S,z.length <= 20) (fun N hN => ?_) ?_
    · skip
      refine if_dec (decide (kd = 6)) (fun N' h => key 6 N' _ _ rfl h) (fun e => ?_) (fun e => ?_)
      · have e : kd = 6 := of_decide_eq_true e
        have eS : S = R := hS (by omega)
        rw [eS] at hq
        have fin : ∀ l : List V,(∀ v ∈ l,∃ z : Str,v = .str z /\ z.length <= 20) -> l.length <= 11 -> N [some (.ref p),some (.int kd),some (.int (m : Int)),some (.ref q)] (upd H' q (.lst l)) := fun l h1 h2 => by
          obtain ⟨S',rfl,e1,e2⟩ := strs_of l h1
          rw [List.length_map] at h2
          exact hN _ _ ⟨q,S',rfl,s.put hqH,upd_same,hqH,fun h => absurd h (by omega),h2,e2⟩
        have hp' := s p _ hp
        have hsl : (Str.ofString " |").length = 2 := by decide
        refine ⟨_,rfl,p,rfl,⟨_,SqL.of hp'⟩,lc_list (xs := R.map V.str) (fun j ys H2 => H2 = H' /\ ys = ((R.take j).map fun z => z ++ Str.ofString " |").map V.str) (le_line (by rw [List.length_map]; omega)) ⟨rfl,rfl⟩
          (fun j ys H2 _ ⟨e,e2⟩ => ⟨by rw [e]; exact SqL.of hp',by rw [e2,List.length_map,List.length_map,List.length_take]; omega⟩) ?_ ?_⟩
        · rintro j y ys H2 hj ⟨rfl,rfl⟩
          obtain ⟨z,rfl,hzj,_⟩ := getStr hj
          have hzl := hz z (List.mem_of_getElem? hzj)
          refine lcN ?_
          refine ⟨_,rfl,_,_,rfl,rfl,le_line (by rw [hsl]; omega),rfl,?_⟩
          rw [take_snoc hzj,List.map_append,List.map_append]; rfl
        rintro ys H2 ⟨rfl,rfl⟩ v hv
        rw [List.length_map,List.take_length]
        refine hN _ _ ⟨v,_,rfl,s.new2 hv,upd_same,s.free hv,fun h => absurd h (by omega),by rw [List.length_map]; omega,fun z hz' => ?_⟩
        obtain ⟨z0,hz00,rfl⟩ := List.mem_map.mp hz'
        have := hz z0 hz00
        rw [str_app_len,hsl]; omega
      · exact hN _ _ ⟨q,S,rfl,s,hq,hqH,fun h => hS (by have := of_decide_eq_false e; omega),hl,hzS⟩
    clear hq s hqH hS hl hzS
    clear q S H'
    rintro σ H' ⟨q,S,rfl,s,hq,hqH,hS,hl,hzS⟩
    refine seq_by2 (fun σ H' => ∃ (q : Addr) (S : List Str),σ = [some (.ref p),some (.int kd),some (.int (m : Int)),some (.ref q)] /\ Same H H' /\ H' q = some (.lst (S.map V.str)) /\ H q = none /\ ((8 : Int) <= kd -> S = R) /\ S.length <= 11 /\ ∀ z ∈ S,z.length <= 20) (fun N hN => ?_) ?_
    · skip
      refine if_dec (decide (kd = 7)) (fun N' h => key 7 N' _ _ rfl h) (fun e => ?_) (fun e => ?_)
      · have e : kd = 7 := of_decide_eq_true e
        have eS : S = R := hS (by omega)
        rw [eS] at hq
        have fin : ∀ l : List V,(∀ v ∈ l,∃ z : Str,v = .str z /\ z.length <= 20) -> l.length <= 11 -> N [some (.ref p),some (.int kd),some (.int (m : Int)),some (.ref q)] (upd H' q (.lst l)) := fun l h1 h2 => by
          obtain ⟨S',rfl,e1,e2⟩ := strs_of l h1
          rw [List.length_map] at h2
          exact hN _ _ ⟨q,S',rfl,s.put hqH,upd_same,hqH,fun h => absurd h (by omega),h2,e2⟩
        have hp' := s p _ hp
        refine ⟨le_line (by simp),fun u hu => ⟨_,rfl,u,p,_,_,rfl,rfl,upd_same,Same.new hu p _ hp',le_line (by rw [List.length_map]; simp only [List.length_cons,List.length_nil]; omega),fun v hv => ?_⟩⟩
        refine hN _ _ ⟨v,Str.ofString "" :: R,rfl,(s.new2 hu).new2 hv,by rw [upd_same]; rfl,(s.new2 hu).free hv,fun h => absurd h (by omega),by rw [List.length_cons]; omega,fun z hz' => ?_⟩
        rcases List.mem_cons.mp hz' with e | h
        · rw [e]; decide
        · exact hz2 z h
      · exact hN _ _ ⟨q,S,rfl,s,hq,hqH,fun h => hS (by have := of_decide_eq_false e; omega),hl,hzS⟩
    clear hq s hqH hS hl hzS
    clear q S H'
    rintro σ H' ⟨q,S,rfl,s,hq,hqH,hS,hl,hzS⟩
    obtain ⟨j1,j2⟩ := joinN_len hzS hl
    exact ⟨rfl,_,rfl,_,q,S,rfl,rfl,SqL.of hq,j1,k _ _ j2 s⟩
theorem sc_law_bent : FnScope (["_law_cell_here","_law_text","_law_row","_law_rows","_law_at","_law_sign_here"]) (["_law_cell_here","_law_text"]) (defScope s_law_bent) := by trivial
theorem ok_law_bent {f : Addr} {fd : FuncData} (F : Fun K "_law_bent" "_law_bent" s_law_bent f fd) (B : Bs mg) (T : Gs mg)  (c_law_any_sign : Cal P w K mg base 1 "_law_any_sign" [] (spAnyS K)) (c_law_draw : Cal P w K mg base 1 "_law_draw" [] (spDraw K)) (c_law_rows_bent : Cal P w K mg base 1 "_law_rows_bent" [] (spRBent K)) : FnOk P w K mg base CX0 2 f fd ["_law_cell_here","_law_text"] (spBent K) := by
  have sc := sc_law_bent
  refine F.ok sc (fun vs H Q E h => ?_) (fun cdv A outer s H vs Q E hr h => ?_)
  · obtain ⟨c,ws,F,rfl,_⟩ := h; rfl
  · obtain ⟨c,ws,F,rfl,hw,hH,k⟩ := h
    refine ⟨_,(pss_cons (ps_set (i := 2) sc.nd rfl (Or.inl rfl) (pe_cal c_law_draw (hr.mono (by decide)) rfl (pa_cons (pv 0) (pa_cons (pe_lst (pa_cons pe_int (pa_cons pe_int (pa_cons pe_int (pa_cons pe_int pa_nil))))) pa_nil))))
      (pss_cons (ps_set (i := 3) sc.nd rfl (Or.inl rfl) (pe_bm PySem.F.plainAttrs_str PySem.F.slot_str_split PySem.F.type_str_split mt_split (pv 1) (pa_cons pe_str pa_nil)))
      (pss_cons (ps_if (pt_cmpR op_lt (pe_ix (kix_list (K := K)) (pv 2) pe_int (fun _ _ => rfl)) pe_int (nomark _)) (pss_one (ps_ret (pe_cal c_law_rows_bent (hr.mono (by decide)) rfl (pa_cons (pv 3) (pa_cons (pe_ix (kix_list (K := K)) (pv 2) pe_int (fun _ _ => rfl)) (pa_cons (pe_op op_mod (pe_ix (kix_list (K := K)) (pv 2) pe_int (fun _ _ => rfl)) (pe_callB (kc_len (K := K)) (by rfl) B.len PyProof.Rows.Boot.«len» (pa_cons (pv 3) pa_nil))) pa_nil)))))) pss_nil)
      (pss_cons (ps_set (i := 4) sc.nd rfl (Or.inl rfl) (pe_op op_mod (pe_ix (kix_list (K := K)) (pv 2) pe_int (fun _ _ => rfl)) (pe_callB call_len_str (by rfl) B.len PyProof.Rows.Boot.«len» (pa_cons (pv 1) pa_nil))))
      (pss_cons (ps_set (i := 5) sc.nd rfl (Or.inl rfl) (pe_cal c_law_any_sign (hr.mono (by decide)) rfl (pa_cons (pe_ix (kix_list (K := K)) (pv 2) pe_int (fun _ _ => rfl)) pa_nil)))
      (pss_cons (ps_if (pt_cmpR op_lt (pe_ix (kix_list (K := K)) (pv 2) pe_int (fun _ _ => rfl)) pe_int (nomark _)) (pss_one (ps_ret (pe_op op_add_str (pe_op op_add_str (pe_slice sl_strA (pv 1) po_none (po_some (pv 4))) (pv 5)) (pe_slice sl_strA (pv 1) (po_some (pe_op op_add (pv 4) pe_int)) po_none)))) pss_nil)
      (pss_cons (ps_if (pt_cmpR op_lt (pe_ix (kix_list (K := K)) (pv 2) pe_int (fun _ _ => rfl)) pe_int (nomark _)) (pss_one (ps_ret (pe_op op_add_str (pe_op op_add_str (pe_slice sl_strA (pv 1) po_none (po_some (pv 4))) (pv 5)) (pe_slice sl_strA (pv 1) (po_some (pv 4)) po_none)))) pss_nil)
      (pss_cons (ps_if (pt_cmpR op_lt (pe_ix (kix_list (K := K)) (pv 2) pe_int (fun _ _ => rfl)) pe_int (nomark _)) (pss_one (ps_ret (pe_op op_add_str (pe_slice sl_strA (pv 1) po_none (po_some (pv 4))) (pe_slice sl_strA (pv 1) (po_some (pe_op op_add (pv 4) pe_int)) po_none)))) pss_nil)
      (pss_one (ps_ret (pe_ix (kix_list (K := K)) (pe_lst (pa_cons (pe_bm PySem.F.plainAttrs_str PySem.F.slot_str_join PySem.F.type_str_join (mt_join (K := K)) pe_str (pa_cons (pe_lc (N' := ["_law_k"]) (M := [none]) (lcSc_of (by rfl)) rfl (pi_range1 rfl B.range (pa_cons (pe_op op_add pe_int (pe_op op_mod (pe_ix (kix_list (K := K)) (pv 2) pe_int (fun _ _ => rfl)) pe_int)) pa_nil)) (fun _ _ _ _ _ => pg_name (i := 0) (show (["_law_k"] : List Str).Nodup by decide +kernel) rfl (Or.inl rfl) (.inr rfl)) (frm_name rfl) (fun _ _ _ _ _ => pts_nil) (fun _ _ _ _ _ => pe_str)) pa_nil)) (pa_cons (pe_slice sl_strA (pv 1) po_none (po_some (pv 4))) pa_nil))) (pe_op op_sub (pe_ix (kix_list (K := K)) (pv 2) pe_int (fun _ _ => rfl)) pe_int) (fun _ _ => rfl)))))))))))),?_⟩
    obtain ⟨w1,w9,w0⟩ := isWay_iff.mp hw
    have f0 := (fresh_pos w0 (fun e => by rw [e] at w1; simp at w1)).1
    obtain ⟨g,g1,g5,gn,hmax,hFl,hhead,hnone⟩ := isH_full hw hH
    have hFne : F ≠ [] := fun e => by rw [e] at hFl; simp at hFl; omega
    have hmg : maxL F = (g : Int) := (maxL_is hFne).uniq hmax
    obtain ⟨ml1,ml2⟩ := mark_len2 (F := F) hw (by rw [hmg]; omega)
    have hRl := rowsM_len ws F
    rw [hmg,Int.toNat_natCast] at hRl
    have hRm := rowsM_mem (F := F) hw
    have hsp := mark_split (F := F) hw
    generalize markT ws F = t at *
    generalize rowsM ws F = R at *
    refine seq_a ?_
    refine ⟨_,rfl,le_line (by decide),fun e he => ⟨c,e,[20,9,300,95],rfl,SqL.of upd_same,fun z hz => ?_,by decide,fun d rs H1 hd s1 hd1 hD => ?_⟩⟩
    · rcases List.mem_cons.mp hz with q | hz
      · rw [q]; exact limOk_small (by decide) (by decide)
      rcases List.mem_cons.mp hz with q | hz
      · rw [q]; exact limOk_small (by decide) (by decide)
      rcases List.mem_cons.mp hz with q | hz
      · rw [q]; exact limOk_small (by decide) (by decide)
      rcases List.mem_cons.mp hz with q | hz
      · rw [q]; exact limOk_small (by decide) (by decide)
      · simp at hz
    obtain ⟨r0,rs',rfl,a0,b0,hD⟩ := hD.uncons
    obtain ⟨r1,rs',rfl,a1,b1,hD⟩ := hD.uncons
    obtain ⟨r2,rs',rfl,a2,b2,hD⟩ := hD.uncons
    obtain ⟨r3,rs',rfl,a3,b3,hD⟩ := hD.uncons
    have S1 := (Same.new (o := HO.lst ([20,9,300,95].map V.int)) he).trans s1
    clear hD
    generalize hrs : (r0 :: r1 :: r2 :: r3 :: rs') = row at hd1
    have x0 : atI (row.map V.int) 0 = some (V.int r0) := by rw [<- hrs]; exact atI_int (i := 0) (by decide) rfl
    have x1 : atI (row.map V.int) 1 = some (V.int r1) := by rw [<- hrs]; exact atI_int (i := 1) (by decide) rfl
    have x2 : atI (row.map V.int) 2 = some (V.int r2) := by rw [<- hrs]; exact atI_int (i := 2) (by decide) rfl
    have x3 : atI (row.map V.int) 3 = some (V.int r3) := by rw [<- hrs]; exact atI_int (i := 3) (by decide) rfl
    refine seq_a ?_
    refine ⟨_,rfl,rfl,_,_,rfl,rfl,by decide,by omega,by rw [hsp]; omega,fun p hp => ?_⟩
    rw [hsp]
    have s2 := S1.new2 (o := HO.lst (R.map V.str)) hp
    have hd2 := Same.new (o := HO.lst (R.map V.str)) hp d _ hd1
    have hp2 : upd H1 p (HO.lst (R.map V.str)) p = some (.lst (R.map V.str)) := upd_same
    generalize upd H1 p (HO.lst (R.map V.str)) = H2 at s2 hd2 hp2
    have kk := fun (z : Str) (h : z.length <= 900) => k z H2 h s2
    refine seq_by2 (fun σ H' => σ = [some (.int c),some (.str t),some (.ref d),some (.ref p),none,none] /\ H2 = H') (fun N hN => ?_) ?_
    · refine ⟨_,rfl,d,_,_,_,rfl,rfl,SqL.of hd2,x0,_,_,rfl,rfl,_,rfl,ite2 (fun _ => ?_) (fun _ => hN _ _ ⟨rfl,rfl⟩)⟩
      refine ⟨_,rfl,_,rfl,d,_,_,_,rfl,rfl,SqL.of hd2,x0,_,rfl,d,_,_,_,rfl,rfl,SqL.of hd2,x1,_,rfl,p,_,rfl,.inl (SqL.of hp2),?_⟩
      rw [List.length_map]
      have hpos : (0 : Int) < (R.length : Int) := by omega
      have hmod := modB r1 hpos
      exact ⟨_,_,rfl,rfl,hpos,p,R,r0,r1 % (R.length : Int),rfl,hp2,by omega,by omega,fun z hz => by have := (hRm z hz).1; omega,hmod.1,hmod.2,fun z H3 hz s3 => k z H3 hz (s2.trans s3)⟩
    rintro σ H' ⟨rfl,rfl⟩
    refine seq_a ?_
    have hpos : (0 : Int) < (t.length : Int) := by omega
    refine ⟨_,rfl,d,_,_,_,rfl,rfl,SqL.of hd2,x2,_,rfl,_,rfl,le_line (by omega),_,_,rfl,rfl,hpos,?_⟩
    dsimp only
    generalize r2 % (t.length : Int) = at_
    refine seq_a ?_
    refine ⟨_,rfl,d,_,_,_,rfl,rfl,SqL.of hd2,x3,r3,rfl,fun sg hsg => ?_⟩
    refine seq_by2 (fun σ H' => σ = [some (.int c),some (.str t),some (.ref d),some (.ref p),some (.int at_),some (.str sg)] /\ H2 = H') (fun N hN => ?_) ?_
    · refine ⟨_,rfl,d,_,_,_,rfl,rfl,SqL.of hd2,x0,_,_,rfl,rfl,_,rfl,ite2 (fun _ => ?_) (fun _ => hN _ _ ⟨rfl,rfl⟩)⟩
      refine ⟨_,rfl,_,rfl,_,rfl,_,rfl,by omega,fun z1 hz1 => ⟨_,rfl,_,_,rfl,rfl,le_line (by omega),_,rfl,_,rfl,_,_,rfl,rfl,_,rfl,_,rfl,by omega,fun z2 hz2 => ⟨_,_,rfl,rfl,le_line (by rw [str_app_len]; omega),kk _ ?_⟩⟩⟩
      rw [str_app_len,str_app_len]; omega
    rintro σ H' ⟨rfl,rfl⟩
    refine seq_by2 (fun σ H' => σ = [some (.int c),some (.str t),some (.ref d),some (.ref p),some (.int at_),some (.str sg)] /\ H2 = H') (fun N hN => ?_) ?_
    · refine ⟨_,rfl,d,_,_,_,rfl,rfl,SqL.of hd2,x0,_,_,rfl,rfl,_,rfl,ite2 (fun _ => ?_) (fun _ => hN _ _ ⟨rfl,rfl⟩)⟩
      refine ⟨_,rfl,_,rfl,_,rfl,_,rfl,by omega,fun z1 hz1 => ⟨_,rfl,_,_,rfl,rfl,le_line (by omega),_,rfl,_,rfl,_,rfl,_,rfl,by omega,fun z2 hz2 => ⟨_,_,rfl,rfl,le_line (by rw [str_app_len]; omega),kk _ ?_⟩⟩⟩
      rw [str_app_len,str_app_len]; omega
    rintro σ H' ⟨rfl,rfl⟩
    refine seq_by2 (fun σ H' => σ = [some (.int c),some (.str t),some (.ref d),some (.ref p),some (.int at_),some (.str sg)] /\ H2 = H' /\ 18 <= r0) (fun N hN => ?_) ?_
    · refine ⟨_,rfl,d,_,_,_,rfl,rfl,SqL.of hd2,x0,_,_,rfl,rfl,_,rfl,ite2 (fun _ => ?_) (fun q => hN _ _ ⟨rfl,rfl,by refine Classical.byContradiction fun z => q (decide_eq_true (by omega))⟩)⟩
      refine ⟨_,rfl,_,rfl,_,rfl,_,rfl,by omega,fun z1 hz1 => ⟨_,rfl,_,rfl,_,_,rfl,rfl,_,rfl,_,rfl,by omega,fun z2 hz2 => ⟨_,_,rfl,rfl,le_line (by omega),kk _ ?_⟩⟩⟩
      rw [str_app_len]; omega
    rintro σ H' ⟨rfl,rfl,h18⟩
    refine ⟨rfl,_,rfl,d,_,_,_,rfl,rfl,SqL.of hd2,x1,_,_,rfl,rfl,(show (0 : Int) < 4 by decide),_,_,rfl,rfl,?_⟩
    have hm4 := modB r1 (show (0 : Int) < 4 by decide)
    dsimp only
    generalize hn : (9 : Int) + r1 % 4 = n
    refine ⟨_,rfl,by omega,by omega,lc_range (lo := 0) (n := n.toNat) (fun j ys H4 => H4 = H2 /\ ys = (List.replicate j ("|" : Str)).map V.str) (le_line (by omega)) ⟨rfl,rfl⟩
      (fun j ys H4 _ ⟨_,e⟩ => by rw [e,List.length_map,List.length_replicate]; exact Nat.le_refl _) ?_ ?_⟩
    · rintro j ys H4 hj ⟨rfl,rfl⟩
      refine lcN ?_
      exact ⟨rfl,by rw [List.replicate_succ',List.map_append]; rfl⟩
    rintro ys H4 ⟨rfl,rfl⟩ b hb
    obtain ⟨j1,j2⟩ := bars_ok (n := n.toNat) (by omega)
    have s5 := s2.new2 (o := HO.lst ((List.replicate n.toNat ("|" : Str)).map V.str)) hb
    have hd5 := Same.new (o := HO.lst ((List.replicate n.toNat ("|" : Str)).map V.str)) hb d _ hd2
    have hb5 : upd H4 b (HO.lst ((List.replicate n.toNat ("|" : Str)).map V.str)) b = some (.lst ((List.replicate n.toNat ("|" : Str)).map V.str)) := upd_same
    generalize upd H4 b (HO.lst ((List.replicate n.toNat ("|" : Str)).map V.str)) = H5 at s5 hd5 hb5
    refine ⟨_,b,_,rfl,rfl,SqL.of hb5,j1,_,rfl,_,rfl,_,rfl,_,rfl,by omega,fun z1 hz1 => ⟨le_line (by simp),fun l hl => ?_⟩⟩
    have s6 := s5.new2 (o := HO.lst [V.str (Txt.join (Str.ofString " ") (List.replicate n.toNat ("|" : Str))),V.str z1]) hl
    have hd6 := Same.new (o := HO.lst [V.str (Txt.join (Str.ofString " ") (List.replicate n.toNat ("|" : Str))),V.str z1]) hl d _ hd5
    refine ⟨_,rfl,d,_,_,_,rfl,rfl,SqL.of hd6,x0,_,_,rfl,rfl,?_⟩
    have hcase : r0 = 18 \/ r0 = 19 := by omega
    rcases hcase with z | z
    · subst z
      exact ⟨l,_,_,_,rfl,rfl,SqL.of upd_same,rfl,k _ _ (by omega) s6⟩
    · subst z
      exact ⟨l,_,_,_,rfl,rfl,SqL.of upd_same,rfl,k _ _ (by omega) s6⟩
theorem sc_law_tried : FnScope (["_law_text"]) (["_law_text"]) (defScope s_law_tried) := by trivial
theorem ok_law_tried {f : Addr} {fd : FuncData} (F : Fun K "_law_tried" "_law_tried" s_law_tried f fd) (B : Bs mg) (T : Gs mg) (mBadMark : mg "BadMark" = some (.ref CBadMark)) (qBadMark : PySem.W.excIn K CBadMark bmV "ValueError.__new__" = true)  (cread_mark : CalE P w K mg base 21 "read_mark" [] (spRead2 K CBadMark)) : FnOk P w K mg base CX0 22 f fd ["_law_text"] (spTried17 K) := by
  have sc := sc_law_tried
  refine F.ok sc (fun vs H Q E h => ?_) (fun cdv A outer s H vs Q E hr h => ?_)
  · obtain ⟨t,rfl,_⟩ := h; rfl
  · obtain ⟨t,rfl,ht,k⟩ := h
    refine ⟨_,(pss_one (ps_try rfl rfl rfl rfl mBadMark qBadMark (fun _ _ => (pss_one (ps_ret (pe_calE cread_mark (hr.mono (by decide)) rfl pass_try (pa_cons (pv 0) pa_nil))))) (fun _ _ => (pss_one (ps_ret (pe_lst (pa_cons pe_str pa_nil))))))),?_⟩
    rcases k with ⟨ws,F,e,hw,hH,k⟩ | ⟨hno,k⟩
    · exact ⟨_,rfl,t,rfl,ht,.inl ⟨ws,F,e,hw,hH,fun p H1 s1 hp => k p H1 s1 hp⟩⟩
    · refine ⟨_,rfl,t,rfl,ht,.inr ⟨hno,fun H1 s1 => ⟨rfl,?_⟩⟩⟩
      exact ⟨le_line (by simp),fun p hp => k p _ (s1.new2 hp) upd_same⟩
theorem sclaw : FnScope (["_law_script","_law_k","_law_first","_law_second","_law_third","_law_way_here","_law_text","_law_due","_law_found"]) (["_law_script"]) (defScope slaw) := by trivial
theorem oklaw {f : Addr} {fd : FuncData} (F : Fun K "law" "law" slaw f fd) (B : Bs mg) (T : Gs mg)  (c_law_bent : Cal P w K mg base 2 "_law_bent" [] (spBent K)) (c_law_cell : Cal P w K mg base 1 "_law_cell" [] (spCell K)) (c_law_many : Cal P w K mg base 1 "_law_many" [] (spMany K)) (c_law_mark : Cal P w K mg base 8 "_law_mark" [] (spMarkL K)) (c_law_read_mark : Cal P w K mg base 9 "_law_read_mark" [] (spLRead K)) (c_law_refused : Cal P w K mg base 1 "_law_refused" [] (spRefused K)) (c_law_size : Cal P w K mg base 2 "_law_size" [] spSize) (c_law_split : Cal P w K mg base 1 "_law_split" [.int 0] spSplit) (c_law_tried : Cal P w K mg base 22 "_law_tried" [] (spTried17 K)) (c_law_way : Cal P w K mg base 2 "_law_way" [] (spWay K)) (c_law_way_ok : Cal P w K mg base 2 "_law_way_ok" [] (spWayOkF K)) : FnOk P w K mg base CX0 23 f fd ["_law_script"] (spLaw K) := by
  have sc := sclaw
  refine F.ok sc (fun vs H Q E h => ?_) (fun cdv A outer s H vs Q E hr h => ?_)
  · obtain ⟨a,ns,rfl,_⟩ := h; rfl
  · obtain ⟨a,ns,rfl,hS,hlen,k⟩ := h
    refine ⟨_,(pss_cons (ps_for PassesOwn.never rfl (pi_range1 rfl B.range (pa_cons (pe_callB kc_min2 (by rfl) B.min PyProof.Rows.Boot.«min» (pa_cons pe_int (pa_cons (pe_cal c_law_many (hr.mono (by decide)) rfl (pa_cons (pv 0) (pa_cons pe_int pa_nil))) pa_nil))) pa_nil)) (pg_name (i := 1) sc.nd rfl (Or.inl rfl))
      (pss_cons (ps_asg (pe_cal c_law_split (hr.mono (by decide)) rfl (pa_cons (pe_cal c_law_cell (hr.mono (by decide)) rfl (pa_cons (pv 0) (pa_cons (pv 1) pa_nil))) (pa_cons pe_int pa_nil))) (pg_lst rfl (pgs_cons (pg_name (i := 2) sc.nd rfl (Or.inl rfl)) (pgs_cons (pg_name (i := 3) sc.nd rfl (Or.inl rfl)) (pgs_cons (pg_name (i := 4) sc.nd rfl (Or.inl rfl)) pgs_nil)))))
      (pss_cons (ps_set (i := 5) sc.nd rfl (Or.inl rfl) (pe_cal c_law_way (hr.mono (by decide)) rfl (pa_cons (pv 3) (pa_cons (pe_cal c_law_size (hr.mono (by decide)) rfl (pa_cons (pv 2) (pa_cons pe_int pa_nil))) pa_nil))))
      (pss_cons (ps_set (i := 6) sc.nd rfl (Or.inl rfl) (pe_cal c_law_bent (hr.mono (by decide)) rfl (pa_cons (pv 4) (pa_cons (pe_cal c_law_mark (hr.mono (by decide)) rfl (pa_cons (pv 5) pa_nil)) pa_nil))))
      (pss_cons (ps_set (i := 7) sc.nd rfl (Or.inl rfl) (pe_cal c_law_read_mark (hr.mono (by decide)) rfl (pa_cons (pv 6) pa_nil)))
      (pss_cons (ps_set (i := 8) sc.nd rfl (Or.inl rfl) (pe_cal c_law_tried (hr.mono (by decide)) rfl (pa_cons (pv 6) pa_nil)))
      (pss_one (ps_if (pt_cmpR op_isN (pv 7) pe_non (nomark _)) (pss_one (ps_if (pt_not (pt_val (pe_cal c_law_refused (hr.mono (by decide)) rfl (pa_cons (pv 8) pa_nil)))) (pss_one (ps_ret pe_bl)) pss_nil)) (pss_one (ps_if (PW.pt (pw_or (pt_not (pt_val (pe_cal c_law_way_ok (hr.mono (by decide)) rfl (pa_cons (pv 8) (pa_cons (pe_callB (kc_len (K := K)) (by rfl) B.len PyProof.Rows.Boot.«len» (pa_cons (pv 7) pa_nil)) pa_nil))))) (pw_or1 (pt_cmpR (op_neS (K := K) hr.units0) (pv 8) (pv 7) (nomark _))))) (pss_one (ps_ret pe_bl)) pss_nil))))))))))
      (pss_one (ps_ret pe_bl))),?_⟩
    refine ⟨_,rfl,a,ns,2,rfl,hS,fun z hz0 hz1 => ⟨_,_,rfl,?_⟩⟩
    have hz7 : 0 <= (if z < 7 then z else 7) /\ (if z < 7 then z else 7) <= 7 := by split <;> omega
    generalize (if z < 7 then z else 7) = z7 at hz7
    refine ⟨_,rfl,by omega,by omega,for_range (lo := 0) (n := z7.toNat) (fun i σ H2 => ∃ (o1 o2 o3 o4 o5 o6 o7 o8 : Option V),σ = [some (.ref a),o1,o2,o3,o4,o5,o6,o7,o8] /\ Same H H2)
      ⟨none,none,none,none,none,none,none,none,rfl,Same.refl H⟩ ?_ ?_⟩
    · rintro i σ H2 hi ⟨o1,o2,o3,o4,o5,o6,o7,o8,rfl,s2⟩
      refine ⟨_,rfl,_,rfl,a,ns,_,rfl,s2.seq hS,by omega,by omega,by omega,fun cell => ⟨cell,3,0,rfl,by decide,by decide,by decide,by decide,fun p3 sp3 H3 _ s3 hp3 hl3 => ?_⟩⟩
      obtain ⟨f1,f2,f3,rfl⟩ : ∃ f1 f2 f3,sp3 = [f1,f2,f3] := by
        match sp3,hl3 with
        | [x,y,z],_ => exact ⟨x,y,z,rfl⟩
      refine ⟨p3,_,rfl,SqL.of hp3,rfl,_,_,rfl,_,_,rfl,_,_,rfl,rfl,?_⟩
      refine ⟨_,rfl,_,rfl,f1,9,rfl,by decide,by decide,fun sz H4 s4 z1 z9 => ?_⟩
      refine ⟨f2,sz,rfl,z1,z9,fun wa ws H5 _ s5 hw5 hwl hww => ?_⟩
      have S5 := ((s2.trans s3).trans s4).trans s5
      refine ⟨_,rfl,_,rfl,wa,ws,rfl,SqT.of hw5,hww,fun F H6 hH s6 => ?_⟩
      refine ⟨f3,ws,F,rfl,hww,hH,fun t H7 ht s7 => ?_⟩
      by_cases hmk : ∃ vs G : List Int,t = markT vs G /\ isWay vs = true /\ IsH (arW vs) (crW vs) (fresh 0 vs).toNat G
      · obtain ⟨vs,G,et,hv,hG⟩ := hmk
        obtain ⟨v1,v9,v0⟩ := isWay_iff.mp hv
        refine ⟨_,rfl,t,rfl,ht,.inl ⟨vs,G,et,hv,hG,fun du H8 s8 hdu => ?_⟩⟩
        refine ⟨_,rfl,t,rfl,ht,.inl ⟨vs,G,et,hv,hG,fun fo H9 s9 hfo => ?_⟩⟩
        refine ⟨_,rfl,rfl,_,rfl,?_⟩
        refine iteF ?_
        have hdu9 := s9 du _ hdu
        refine ⟨_,rfl,_,rfl,du,_,rfl,.inr (SqT.of hdu9),?_⟩
        rw [ltm]
        refine ⟨fo,vs,_,rfl,hfo,by omega,fun H10 s10 => ⟨_,rfl,?_⟩⟩
        have e7 : (decide ((vs.length : Int) = (vs.length : Int)) && rowOk vs) = true := by
          rw [decide_eq_true rfl,<- way_rowOk,hv]; rfl
        rw [e7]
        refine iteF ?_
        refine ⟨_,rfl,_,rfl,fo,du,vs,vs,rfl,rfl,.inl ⟨(hfo.same s10).sq,SqT.of (s10 du _ hdu9)⟩,_,rfl,iteNS rfl ?_⟩
        exact ⟨_,_,_,_,_,_,_,_,rfl,((((S5.trans s6).trans s7).trans s8).trans s9).trans s10⟩
      · have hno : ∀ vs G : List Int,isWay vs = true -> IsH (arW vs) (crW vs) (fresh 0 vs).toNat G -> t ≠ markT vs G := fun vs G hv hG e => hmk ⟨vs,G,e,hv,hG⟩
        refine ⟨_,rfl,t,rfl,ht,.inr ⟨hno,fun H8 s8 => ?_⟩⟩
        refine ⟨_,rfl,t,rfl,ht,.inr ⟨hno,fun fo H9 s9 hfo => ?_⟩⟩
        refine ⟨_,rfl,rfl,_,rfl,?_⟩
        refine iteT ?_
        refine ⟨_,rfl,fo,rfl,hfo,_,rfl,iteF ?_⟩
        exact ⟨_,_,_,_,_,_,_,_,rfl,(((S5.trans s6).trans s7).trans s8).trans s9⟩
    · rintro σ H2 ⟨o1,o2,o3,o4,o5,o6,o7,o8,rfl,s2⟩
      exact k H2
end
theorem all_mk {l : PySem.W.OpenLaw} {w : World} {K : PySem.W.Frag} {h : Heap} {mg : Str -> Option Value} {fa : Addr} (X : K.In h) (G : h.Ns mainGlobals mg) (hfa : mg "law" = some (.ref fa))
    {f1 : Addr} {od1 an1 : Option Addr} {sl1 : Array (Option Value)} {oc1 kV1 dc1 pm1 cd1 ct1 : Value} {f2 : Addr} {od2 an2 : Option Addr} {sl2 : Array (Option Value)} {oc2 kV2 dc2 pm2 cd2 ct2 : Value} {f3 : Addr} {od3 an3 : Option Addr} {sl3 : Array (Option Value)} {oc3 kV3 dc3 pm3 cd3 ct3 : Value} {f4 : Addr} {od4 an4 : Option Addr} {sl4 : Array (Option Value)} {oc4 kV4 dc4 pm4 cd4 ct4 : Value} {f5 : Addr} {od5 an5 : Option Addr} {sl5 : Array (Option Value)} {oc5 kV5 dc5 pm5 cd5 ct5 : Value} {f6 : Addr} {od6 an6 : Option Addr} {sl6 : Array (Option Value)} {oc6 kV6 dc6 pm6 cd6 ct6 : Value} {f7 : Addr} {od7 an7 : Option Addr} {sl7 : Array (Option Value)} {oc7 kV7 dc7 pm7 cd7 ct7 : Value} {f8 : Addr} {od8 an8 : Option Addr} {sl8 : Array (Option Value)} {oc8 kV8 dc8 pm8 cd8 ct8 : Value} {f9 : Addr} {od9 an9 : Option Addr} {sl9 : Array (Option Value)} {oc9 kV9 dc9 pm9 cd9 ct9 : Value} {f10 : Addr} {od10 an10 : Option Addr} {sl10 : Array (Option Value)} {oc10 kV10 dc10 pm10 cd10 ct10 : Value} {f11 : Addr} {od11 an11 : Option Addr} {sl11 : Array (Option Value)} {oc11 kV11 dc11 pm11 cd11 ct11 : Value} {f12 : Addr} {od12 an12 : Option Addr} {sl12 : Array (Option Value)} {oc12 kV12 dc12 pm12 cd12 ct12 : Value} {f13 : Addr} {od13 an13 : Option Addr} {sl13 : Array (Option Value)} {oc13 kV13 dc13 pm13 cd13 ct13 : Value} {f14 : Addr} {od14 an14 : Option Addr} {sl14 : Array (Option Value)} {oc14 kV14 dc14 pm14 cd14 ct14 : Value} {f15 : Addr} {od15 an15 : Option Addr} {sl15 : Array (Option Value)} {oc15 kV15 dc15 pm15 cd15 ct15 : Value} {f16 : Addr} {od16 an16 : Option Addr} {sl16 : Array (Option Value)} {oc16 kV16 dc16 pm16 cd16 ct16 : Value} {f17 : Addr} {od17 an17 : Option Addr} {sl17 : Array (Option Value)} {oc17 kV17 dc17 pm17 cd17 ct17 : Value} {f18 : Addr} {od18 an18 : Option Addr} {sl18 : Array (Option Value)} {oc18 kV18 dc18 pm18 cd18 ct18 : Value} {f19 : Addr} {od19 an19 : Option Addr} {sl19 : Array (Option Value)} {oc19 kV19 dc19 pm19 cd19 ct19 : Value} {f20 : Addr} {od20 an20 : Option Addr} {sl20 : Array (Option Value)} {oc20 kV20 dc20 pm20 cd20 ct20 : Value} {f21 : Addr} {od21 an21 : Option Addr} {sl21 : Array (Option Value)} {oc21 kV21 dc21 pm21 cd21 ct21 : Value} {f22 : Addr} {od22 an22 : Option Addr} {sl22 : Array (Option Value)} {oc22 kV22 dc22 pm22 cd22 ct22 : Value} {f23 : Addr} {od23 an23 : Option Addr} {sl23 : Array (Option Value)} {oc23 kV23 dc23 pm23 cd23 ct23 : Value} {f24 : Addr} {od24 an24 : Option Addr} {sl24 : Array (Option Value)} {oc24 kV24 dc24 pm24 cd24 ct24 : Value} {f25 : Addr} {od25 an25 : Option Addr} {sl25 : Array (Option Value)} {oc25 kV25 dc25 pm25 cd25 ct25 : Value} {f26 : Addr} {od26 an26 : Option Addr} {sl26 : Array (Option Value)} {oc26 kV26 dc26 pm26 cd26 ct26 : Value} {f27 : Addr} {od27 an27 : Option Addr} {sl27 : Array (Option Value)} {oc27 kV27 dc27 pm27 cd27 ct27 : Value} {T27 : Addr} {oT27 : Obj} {nT27 : Nat} {tk27 : Tok} {f28 : Addr} {od28 an28 : Option Addr} {sl28 : Array (Option Value)} {oc28 kV28 dc28 pm28 cd28 ct28 : Value} {f29 : Addr} {od29 an29 : Option Addr} {sl29 : Array (Option Value)} {oc29 kV29 dc29 pm29 cd29 ct29 : Value} {f30 : Addr} {od30 an30 : Option Addr} {sl30 : Array (Option Value)} {oc30 kV30 dc30 pm30 cd30 ct30 : Value} {f31 : Addr} {od31 an31 : Option Addr} {sl31 : Array (Option Value)} {oc31 kV31 dc31 pm31 cd31 ct31 : Value} {f32 : Addr} {od32 an32 : Option Addr} {sl32 : Array (Option Value)} {oc32 kV32 dc32 pm32 cd32 ct32 : Value} {f33 : Addr} {od33 an33 : Option Addr} {sl33 : Array (Option Value)} {oc33 kV33 dc33 pm33 cd33 ct33 : Value} {f34 : Addr} {od34 an34 : Option Addr} {sl34 : Array (Option Value)} {oc34 kV34 dc34 pm34 cd34 ct34 : Value} {f35 : Addr} {od35 an35 : Option Addr} {sl35 : Array (Option Value)} {oc35 kV35 dc35 pm35 cd35 ct35 : Value} {f36 : Addr} {od36 an36 : Option Addr} {sl36 : Array (Option Value)} {oc36 kV36 dc36 pm36 cd36 ct36 : Value} {f37 : Addr} {od37 an37 : Option Addr} {sl37 : Array (Option Value)} {oc37 kV37 dc37 pm37 cd37 ct37 : Value} {f38 : Addr} {od38 an38 : Option Addr} {sl38 : Array (Option Value)} {oc38 kV38 dc38 pm38 cd38 ct38 : Value} {f39 : Addr} {od39 an39 : Option Addr} {sl39 : Array (Option Value)} {oc39 kV39 dc39 pm39 cd39 ct39 : Value} {f40 : Addr} {od40 an40 : Option Addr} {sl40 : Array (Option Value)} {oc40 kV40 dc40 pm40 cd40 ct40 : Value} {f41 : Addr} {od41 an41 : Option Addr} {sl41 : Array (Option Value)} {oc41 kV41 dc41 pm41 cd41 ct41 : Value} {f42 : Addr} {od42 an42 : Option Addr} {sl42 : Array (Option Value)} {oc42 kV42 dc42 pm42 cd42 ct42 : Value} {f43 : Addr} {od43 an43 : Option Addr} {sl43 : Array (Option Value)} {oc43 kV43 dc43 pm43 cd43 ct43 : Value} {f44 : Addr} {od44 an44 : Option Addr} {sl44 : Array (Option Value)} {oc44 kV44 dc44 pm44 cd44 ct44 : Value} {f45 : Addr} {od45 an45 : Option Addr} {sl45 : Array (Option Value)} {oc45 kV45 dc45 pm45 cd45 ct45 : Value} {tg0 : Tok} {CBadMark : Addr}
    (a1 : PySem.W.nsIn K mainGlobals "_law_draw" = some (some (.ref f1)))
    (l1 : K.lookup f1 = some ⟨oc1,od1,.func (PySem.W.fnOf "_law_draw" "_law_draw" (defArgs s_law_draw) (defBody s_law_draw) (defScope s_law_draw) .none kV1 dc1 pm1 an1 cd1 ct1),sl1⟩)
    (c1 : PySem.W.codeIn K cd1 "_law_draw" = true) (k1 : PySem.W.keepIn K (.ref f1) = true)
    (a2 : PySem.W.nsIn K mainGlobals "_law_cell" = some (some (.ref f2)))
    (l2 : K.lookup f2 = some ⟨oc2,od2,.func (PySem.W.fnOf "_law_cell" "_law_cell" (defArgs s_law_cell) (defBody s_law_cell) (defScope s_law_cell) .none kV2 dc2 pm2 an2 cd2 ct2),sl2⟩)
    (c2 : PySem.W.codeIn K cd2 "_law_cell" = true) (k2 : PySem.W.keepIn K (.ref f2) = true)
    (a3 : PySem.W.nsIn K mainGlobals "_law_many" = some (some (.ref f3)))
    (l3 : K.lookup f3 = some ⟨oc3,od3,.func (PySem.W.fnOf "_law_many" "_law_many" (defArgs s_law_many) (defBody s_law_many) (defScope s_law_many) .none kV3 dc3 pm3 an3 cd3 ct3),sl3⟩)
    (c3 : PySem.W.codeIn K cd3 "_law_many" = true) (k3 : PySem.W.keepIn K (.ref f3) = true)
    (a4 : PySem.W.nsIn K mainGlobals "is_way" = some (some (.ref f4)))
    (l4 : K.lookup f4 = some ⟨oc4,od4,.func (PySem.W.fnOf "is_way" "is_way" (defArgs sis_way) (defBody sis_way) (defScope sis_way) .none kV4 dc4 pm4 an4 cd4 ct4),sl4⟩)
    (c4 : PySem.W.codeIn K cd4 "is_way" = true) (k4 : PySem.W.keepIn K (.ref f4) = true)
    (a5 : PySem.W.nsIn K mainGlobals "check_way" = some (some (.ref f5)))
    (l5 : K.lookup f5 = some ⟨oc5,od5,.func (PySem.W.fnOf "check_way" "check_way" (defArgs scheck_way) (defBody scheck_way) (defScope scheck_way) .none kV5 dc5 pm5 an5 cd5 ct5),sl5⟩)
    (c5 : PySem.W.codeIn K cd5 "check_way" = true) (k5 : PySem.W.keepIn K (.ref f5) = true)
    (a6 : PySem.W.nsIn K mainGlobals "woods" = some (some (.ref f6)))
    (l6 : K.lookup f6 = some ⟨oc6,od6,.func (PySem.W.fnOf "woods" "woods" (defArgs swoods) (defBody swoods) (defScope swoods) .none kV6 dc6 pm6 an6 cd6 ct6),sl6⟩)
    (c6 : PySem.W.codeIn K cd6 "woods" = true) (k6 : PySem.W.keepIn K (.ref f6) = true)
    (a7 : PySem.W.nsIn K mainGlobals "lots" = some (some (.ref f7)))
    (l7 : K.lookup f7 = some ⟨oc7,od7,.func (PySem.W.fnOf "lots" "lots" (defArgs slots) (defBody slots) (defScope slots) .none kV7 dc7 pm7 an7 cd7 ct7),sl7⟩)
    (c7 : PySem.W.codeIn K cd7 "lots" = true) (k7 : PySem.W.keepIn K (.ref f7) = true)
    (a8 : PySem.W.nsIn K mainGlobals "way_of" = some (some (.ref f8)))
    (l8 : K.lookup f8 = some ⟨oc8,od8,.func (PySem.W.fnOf "way_of" "way_of" (defArgs sway_of) (defBody sway_of) (defScope sway_of) .none kV8 dc8 pm8 an8 cd8 ct8),sl8⟩)
    (c8 : PySem.W.codeIn K cd8 "way_of" = true) (k8 : PySem.W.keepIn K (.ref f8) = true)
    (a9 : PySem.W.nsIn K mainGlobals "stretches" = some (some (.ref f9)))
    (l9 : K.lookup f9 = some ⟨oc9,od9,.func (PySem.W.fnOf "stretches" "stretches" (defArgs sstretches) (defBody sstretches) (defScope sstretches) .none kV9 dc9 pm9 an9 cd9 ct9),sl9⟩)
    (c9 : PySem.W.codeIn K cd9 "stretches" = true) (k9 : PySem.W.keepIn K (.ref f9) = true)
    (a10 : PySem.W.nsIn K mainGlobals "lying" = some (some (.ref f10)))
    (l10 : K.lookup f10 = some ⟨oc10,od10,.func (PySem.W.fnOf "lying" "lying" (defArgs slying) (defBody slying) (defScope slying) .none kV10 dc10 pm10 an10 cd10 ct10),sl10⟩)
    (c10 : PySem.W.codeIn K cd10 "lying" = true) (k10 : PySem.W.keepIn K (.ref f10) = true)
    (a11 : PySem.W.nsIn K mainGlobals "suits" = some (some (.ref f11)))
    (l11 : K.lookup f11 = some ⟨oc11,od11,.func (PySem.W.fnOf "suits" "suits" (defArgs ssuits) (defBody ssuits) (defScope ssuits) .none kV11 dc11 pm11 an11 cd11 ct11),sl11⟩)
    (c11 : PySem.W.codeIn K cd11 "suits" = true) (k11 : PySem.W.keepIn K (.ref f11) = true)
    (a12 : PySem.W.nsIn K mainGlobals "completed" = some (some (.ref f12)))
    (l12 : K.lookup f12 = some ⟨oc12,od12,.func (PySem.W.fnOf "completed" "completed" (defArgs scompleted) (defBody scompleted) (defScope scompleted) .none kV12 dc12 pm12 an12 cd12 ct12),sl12⟩)
    (c12 : PySem.W.codeIn K cd12 "completed" = true) (k12 : PySem.W.keepIn K (.ref f12) = true)
    (a13 : PySem.W.nsIn K mainGlobals "heights" = some (some (.ref f13)))
    (l13 : K.lookup f13 = some ⟨oc13,od13,.func (PySem.W.fnOf "heights" "heights" (defArgs sheights) (defBody sheights) (defScope sheights) .none kV13 dc13 pm13 an13 cd13 ct13),sl13⟩)
    (c13 : PySem.W.codeIn K cd13 "heights" = true) (k13 : PySem.W.keepIn K (.ref f13) = true)
    (a14 : PySem.W.nsIn K mainGlobals "is_covered" = some (some (.ref f14)))
    (l14 : K.lookup f14 = some ⟨oc14,od14,.func (PySem.W.fnOf "is_covered" "is_covered" (defArgs sis_covered) (defBody sis_covered) (defScope sis_covered) .none kV14 dc14 pm14 an14 cd14 ct14),sl14⟩)
    (c14 : PySem.W.codeIn K cd14 "is_covered" = true) (k14 : PySem.W.keepIn K (.ref f14) = true)
    (a15 : PySem.W.nsIn K mainGlobals "censer_sign" = some (some (.ref f15)))
    (l15 : K.lookup f15 = some ⟨oc15,od15,.func (PySem.W.fnOf "censer_sign" "censer_sign" (defArgs scenser_sign) (defBody scenser_sign) (defScope scenser_sign) .none kV15 dc15 pm15 an15 cd15 ct15),sl15⟩)
    (c15 : PySem.W.codeIn K cd15 "censer_sign" = true) (k15 : PySem.W.keepIn K (.ref f15) = true)
    (a16 : PySem.W.nsIn K mainGlobals "row_of" = some (some (.ref f16)))
    (l16 : K.lookup f16 = some ⟨oc16,od16,.func (PySem.W.fnOf "row_of" "row_of" (defArgs srow_of) (defBody srow_of) (defScope srow_of) .none kV16 dc16 pm16 an16 cd16 ct16),sl16⟩)
    (c16 : PySem.W.codeIn K cd16 "row_of" = true) (k16 : PySem.W.keepIn K (.ref f16) = true)
    (a17 : PySem.W.nsIn K mainGlobals "mark" = some (some (.ref f17)))
    (l17 : K.lookup f17 = some ⟨oc17,od17,.func (PySem.W.fnOf "mark" "mark" (defArgs smark) (defBody smark) (defScope smark) .none kV17 dc17 pm17 an17 cd17 ct17),sl17⟩)
    (c17 : PySem.W.codeIn K cd17 "mark" = true) (k17 : PySem.W.keepIn K (.ref f17) = true)
    (a18 : PySem.W.nsIn K mainGlobals "lot_place" = some (some (.ref f18)))
    (l18 : K.lookup f18 = some ⟨oc18,od18,.func (PySem.W.fnOf "lot_place" "lot_place" (defArgs slot_place) (defBody slot_place) (defScope slot_place) .none kV18 dc18 pm18 an18 cd18 ct18),sl18⟩)
    (c18 : PySem.W.codeIn K cd18 "lot_place" = true) (k18 : PySem.W.keepIn K (.ref f18) = true)
    (a19 : PySem.W.nsIn K mainGlobals "read_mark" = some (some (.ref f19)))
    (l19 : K.lookup f19 = some ⟨oc19,od19,.func (PySem.W.fnOf "read_mark" "read_mark" (defArgs sread_mark) (defBody sread_mark) (defScope sread_mark) .none kV19 dc19 pm19 an19 cd19 ct19),sl19⟩)
    (c19 : PySem.W.codeIn K cd19 "read_mark" = true) (k19 : PySem.W.keepIn K (.ref f19) = true)
    (a20 : PySem.W.nsIn K mainGlobals "_law_num" = some (some (.ref f20)))
    (l20 : K.lookup f20 = some ⟨oc20,od20,.func (PySem.W.fnOf "_law_num" "_law_num" (defArgs s_law_num) (defBody s_law_num) (defScope s_law_num) .none kV20 dc20 pm20 an20 cd20 ct20),sl20⟩)
    (c20 : PySem.W.codeIn K cd20 "_law_num" = true) (k20 : PySem.W.keepIn K (.ref f20) = true)
    (a21 : PySem.W.nsIn K mainGlobals "_law_row_ok" = some (some (.ref f21)))
    (l21 : K.lookup f21 = some ⟨oc21,od21,.func (PySem.W.fnOf "_law_row_ok" "_law_row_ok" (defArgs s_law_row_ok) (defBody s_law_row_ok) (defScope s_law_row_ok) .none kV21 dc21 pm21 an21 cd21 ct21),sl21⟩)
    (c21 : PySem.W.codeIn K cd21 "_law_row_ok" = true) (k21 : PySem.W.keepIn K (.ref f21) = true)
    (a22 : PySem.W.nsIn K mainGlobals "_law_way_ok" = some (some (.ref f22)))
    (l22 : K.lookup f22 = some ⟨oc22,od22,.func (PySem.W.fnOf "_law_way_ok" "_law_way_ok" (defArgs s_law_way_ok) (defBody s_law_way_ok) (defScope s_law_way_ok) .none kV22 dc22 pm22 an22 cd22 ct22),sl22⟩)
    (c22 : PySem.W.codeIn K cd22 "_law_way_ok" = true) (k22 : PySem.W.keepIn K (.ref f22) = true)
    (a23 : PySem.W.nsIn K mainGlobals "_law_way" = some (some (.ref f23)))
    (l23 : K.lookup f23 = some ⟨oc23,od23,.func (PySem.W.fnOf "_law_way" "_law_way" (defArgs s_law_way) (defBody s_law_way) (defScope s_law_way) .none kV23 dc23 pm23 an23 cd23 ct23),sl23⟩)
    (c23 : PySem.W.codeIn K cd23 "_law_way" = true) (k23 : PySem.W.keepIn K (.ref f23) = true)
    (a24 : PySem.W.nsIn K mainGlobals "_law_size" = some (some (.ref f24)))
    (l24 : K.lookup f24 = some ⟨oc24,od24,.func (PySem.W.fnOf "_law_size" "_law_size" (defArgs s_law_size) (defBody s_law_size) (defScope s_law_size) .none kV24 dc24 pm24 an24 cd24 ct24),sl24⟩)
    (c24 : PySem.W.codeIn K cd24 "_law_size" = true) (k24 : PySem.W.keepIn K (.ref f24) = true)
    (a25 : PySem.W.nsIn K mainGlobals "_law_number_row" = some (some (.ref f25)))
    (l25 : K.lookup f25 = some ⟨oc25,od25,.func (PySem.W.fnOf "_law_number_row" "_law_number_row" (defArgs s_law_number_row) (defBody s_law_number_row) (defScope s_law_number_row) .none kV25 dc25 pm25 an25 cd25 ct25),sl25⟩)
    (c25 : PySem.W.codeIn K cd25 "_law_number_row" = true) (k25 : PySem.W.keepIn K (.ref f25) = true)
    (a26 : PySem.W.nsIn K mainGlobals "_law_lots" = some (some (.ref f26)))
    (l26 : K.lookup f26 = some ⟨oc26,od26,.func (PySem.W.fnOf "_law_lots" "_law_lots" (defArgs s_law_lots) (defBody s_law_lots) (defScope s_law_lots) .none kV26 dc26 pm26 an26 cd26 ct26),sl26⟩)
    (c26 : PySem.W.codeIn K cd26 "_law_lots" = true) (k26 : PySem.W.keepIn K (.ref f26) = true)
    (a27 : PySem.W.nsIn K mainGlobals "_law_split" = some (some (.ref f27)))
    (l27 : K.lookup f27 = some ⟨oc27,od27,.func (PySem.W.fnOf "_law_split" "_law_split" (defArgs s_law_split) (defBody s_law_split) (defScope s_law_split) (.ref T27) kV27 dc27 pm27 an27 cd27 ct27),sl27⟩)
    (c27 : PySem.W.codeIn K cd27 "_law_split" = true) (k27 : PySem.W.keepIn K (.ref f27) = true)
    (lT27 : K.lookup T27 = some oT27) (dT27 : oT27.data = .seq [Value.int 0 tk27].toArray nT27)
    (a28 : PySem.W.nsIn K mainGlobals "_law_refused" = some (some (.ref f28)))
    (l28 : K.lookup f28 = some ⟨oc28,od28,.func (PySem.W.fnOf "_law_refused" "_law_refused" (defArgs s_law_refused) (defBody s_law_refused) (defScope s_law_refused) .none kV28 dc28 pm28 an28 cd28 ct28),sl28⟩)
    (c28 : PySem.W.codeIn K cd28 "_law_refused" = true) (k28 : PySem.W.keepIn K (.ref f28) = true)
    (a29 : PySem.W.nsIn K mainGlobals "_law_linked" = some (some (.ref f29)))
    (l29 : K.lookup f29 = some ⟨oc29,od29,.func (PySem.W.fnOf "_law_linked" "_law_linked" (defArgs s_law_linked) (defBody s_law_linked) (defScope s_law_linked) .none kV29 dc29 pm29 an29 cd29 ct29),sl29⟩)
    (c29 : PySem.W.codeIn K cd29 "_law_linked" = true) (k29 : PySem.W.keepIn K (.ref f29) = true)
    (a30 : PySem.W.nsIn K mainGlobals "_law_stretches" = some (some (.ref f30)))
    (l30 : K.lookup f30 = some ⟨oc30,od30,.func (PySem.W.fnOf "_law_stretches" "_law_stretches" (defArgs s_law_stretches) (defBody s_law_stretches) (defScope s_law_stretches) .none kV30 dc30 pm30 an30 cd30 ct30),sl30⟩)
    (c30 : PySem.W.codeIn K cd30 "_law_stretches" = true) (k30 : PySem.W.keepIn K (.ref f30) = true)
    (a31 : PySem.W.nsIn K mainGlobals "_law_lie" = some (some (.ref f31)))
    (l31 : K.lookup f31 = some ⟨oc31,od31,.func (PySem.W.fnOf "_law_lie" "_law_lie" (defArgs s_law_lie) (defBody s_law_lie) (defScope s_law_lie) .none kV31 dc31 pm31 an31 cd31 ct31),sl31⟩)
    (c31 : PySem.W.codeIn K cd31 "_law_lie" = true) (k31 : PySem.W.keepIn K (.ref f31) = true)
    (a32 : PySem.W.nsIn K mainGlobals "_law_stands" = some (some (.ref f32)))
    (l32 : K.lookup f32 = some ⟨oc32,od32,.func (PySem.W.fnOf "_law_stands" "_law_stands" (defArgs s_law_stands) (defBody s_law_stands) (defScope s_law_stands) .none kV32 dc32 pm32 an32 cd32 ct32),sl32⟩)
    (c32 : PySem.W.codeIn K cd32 "_law_stands" = true) (k32 : PySem.W.keepIn K (.ref f32) = true)
    (a33 : PySem.W.nsIn K mainGlobals "_law_height_rows" = some (some (.ref f33)))
    (l33 : K.lookup f33 = some ⟨oc33,od33,.func (PySem.W.fnOf "_law_height_rows" "_law_height_rows" (defArgs s_law_height_rows) (defBody s_law_height_rows) (defScope s_law_height_rows) .none kV33 dc33 pm33 an33 cd33 ct33),sl33⟩)
    (c33 : PySem.W.codeIn K cd33 "_law_height_rows" = true) (k33 : PySem.W.keepIn K (.ref f33) = true)
    (a34 : PySem.W.nsIn K mainGlobals "_law_heights" = some (some (.ref f34)))
    (l34 : K.lookup f34 = some ⟨oc34,od34,.func (PySem.W.fnOf "_law_heights" "_law_heights" (defArgs s_law_heights) (defBody s_law_heights) (defScope s_law_heights) .none kV34 dc34 pm34 an34 cd34 ct34),sl34⟩)
    (c34 : PySem.W.codeIn K cd34 "_law_heights" = true) (k34 : PySem.W.keepIn K (.ref f34) = true)
    (a35 : PySem.W.nsIn K mainGlobals "_law_over" = some (some (.ref f35)))
    (l35 : K.lookup f35 = some ⟨oc35,od35,.func (PySem.W.fnOf "_law_over" "_law_over" (defArgs s_law_over) (defBody s_law_over) (defScope s_law_over) .none kV35 dc35 pm35 an35 cd35 ct35),sl35⟩)
    (c35 : PySem.W.codeIn K cd35 "_law_over" = true) (k35 : PySem.W.keepIn K (.ref f35) = true)
    (a36 : PySem.W.nsIn K mainGlobals "_law_sign" = some (some (.ref f36)))
    (l36 : K.lookup f36 = some ⟨oc36,od36,.func (PySem.W.fnOf "_law_sign" "_law_sign" (defArgs s_law_sign) (defBody s_law_sign) (defScope s_law_sign) .none kV36 dc36 pm36 an36 cd36 ct36),sl36⟩)
    (c36 : PySem.W.codeIn K cd36 "_law_sign" = true) (k36 : PySem.W.keepIn K (.ref f36) = true)
    (a37 : PySem.W.nsIn K mainGlobals "_law_mark_row" = some (some (.ref f37)))
    (l37 : K.lookup f37 = some ⟨oc37,od37,.func (PySem.W.fnOf "_law_mark_row" "_law_mark_row" (defArgs s_law_mark_row) (defBody s_law_mark_row) (defScope s_law_mark_row) .none kV37 dc37 pm37 an37 cd37 ct37),sl37⟩)
    (c37 : PySem.W.codeIn K cd37 "_law_mark_row" = true) (k37 : PySem.W.keepIn K (.ref f37) = true)
    (a38 : PySem.W.nsIn K mainGlobals "_law_mark" = some (some (.ref f38)))
    (l38 : K.lookup f38 = some ⟨oc38,od38,.func (PySem.W.fnOf "_law_mark" "_law_mark" (defArgs s_law_mark) (defBody s_law_mark) (defScope s_law_mark) .none kV38 dc38 pm38 an38 cd38 ct38),sl38⟩)
    (c38 : PySem.W.codeIn K cd38 "_law_mark" = true) (k38 : PySem.W.keepIn K (.ref f38) = true)
    (a39 : PySem.W.nsIn K mainGlobals "_law_joint_lots" = some (some (.ref f39)))
    (l39 : K.lookup f39 = some ⟨oc39,od39,.func (PySem.W.fnOf "_law_joint_lots" "_law_joint_lots" (defArgs s_law_joint_lots) (defBody s_law_joint_lots) (defScope s_law_joint_lots) .none kV39 dc39 pm39 an39 cd39 ct39),sl39⟩)
    (c39 : PySem.W.codeIn K cd39 "_law_joint_lots" = true) (k39 : PySem.W.keepIn K (.ref f39) = true)
    (a40 : PySem.W.nsIn K mainGlobals "_law_read_mark" = some (some (.ref f40)))
    (l40 : K.lookup f40 = some ⟨oc40,od40,.func (PySem.W.fnOf "_law_read_mark" "_law_read_mark" (defArgs s_law_read_mark) (defBody s_law_read_mark) (defScope s_law_read_mark) .none kV40 dc40 pm40 an40 cd40 ct40),sl40⟩)
    (c40 : PySem.W.codeIn K cd40 "_law_read_mark" = true) (k40 : PySem.W.keepIn K (.ref f40) = true)
    (a41 : PySem.W.nsIn K mainGlobals "_law_any_sign" = some (some (.ref f41)))
    (l41 : K.lookup f41 = some ⟨oc41,od41,.func (PySem.W.fnOf "_law_any_sign" "_law_any_sign" (defArgs s_law_any_sign) (defBody s_law_any_sign) (defScope s_law_any_sign) .none kV41 dc41 pm41 an41 cd41 ct41),sl41⟩)
    (c41 : PySem.W.codeIn K cd41 "_law_any_sign" = true) (k41 : PySem.W.keepIn K (.ref f41) = true)
    (a42 : PySem.W.nsIn K mainGlobals "_law_rows_bent" = some (some (.ref f42)))
    (l42 : K.lookup f42 = some ⟨oc42,od42,.func (PySem.W.fnOf "_law_rows_bent" "_law_rows_bent" (defArgs s_law_rows_bent) (defBody s_law_rows_bent) (defScope s_law_rows_bent) .none kV42 dc42 pm42 an42 cd42 ct42),sl42⟩)
    (c42 : PySem.W.codeIn K cd42 "_law_rows_bent" = true) (k42 : PySem.W.keepIn K (.ref f42) = true)
    (a43 : PySem.W.nsIn K mainGlobals "_law_bent" = some (some (.ref f43)))
    (l43 : K.lookup f43 = some ⟨oc43,od43,.func (PySem.W.fnOf "_law_bent" "_law_bent" (defArgs s_law_bent) (defBody s_law_bent) (defScope s_law_bent) .none kV43 dc43 pm43 an43 cd43 ct43),sl43⟩)
    (c43 : PySem.W.codeIn K cd43 "_law_bent" = true) (k43 : PySem.W.keepIn K (.ref f43) = true)
    (a44 : PySem.W.nsIn K mainGlobals "_law_tried" = some (some (.ref f44)))
    (l44 : K.lookup f44 = some ⟨oc44,od44,.func (PySem.W.fnOf "_law_tried" "_law_tried" (defArgs s_law_tried) (defBody s_law_tried) (defScope s_law_tried) .none kV44 dc44 pm44 an44 cd44 ct44),sl44⟩)
    (c44 : PySem.W.codeIn K cd44 "_law_tried" = true) (k44 : PySem.W.keepIn K (.ref f44) = true)
    (a45 : PySem.W.nsIn K mainGlobals "law" = some (some (.ref f45)))
    (l45 : K.lookup f45 = some ⟨oc45,od45,.func (PySem.W.fnOf "law" "law" (defArgs slaw) (defBody slaw) (defScope slaw) .none kV45 dc45 pm45 an45 cd45 ct45),sl45⟩)
    (c45 : PySem.W.codeIn K cd45 "law" = true) (k45 : PySem.W.keepIn K (.ref f45) = true)
    (z0 : PySem.W.nsIn K mainGlobals "all" = some none)
    (z1 : PySem.W.nsIn K mainGlobals "any" = some none)
    (z2 : PySem.W.nsIn K mainGlobals "bool" = some none)
    (z3 : PySem.W.nsIn K mainGlobals "enumerate" = some none)
    (z4 : PySem.W.nsIn K mainGlobals "int" = some none)
    (z5 : PySem.W.nsIn K mainGlobals "isinstance" = some none)
    (z6 : PySem.W.nsIn K mainGlobals "len" = some none)
    (z7 : PySem.W.nsIn K mainGlobals "list" = some none)
    (z8 : PySem.W.nsIn K mainGlobals "max" = some none)
    (z9 : PySem.W.nsIn K mainGlobals "min" = some none)
    (z10 : PySem.W.nsIn K mainGlobals "range" = some none)
    (z11 : PySem.W.nsIn K mainGlobals "set" = some none)
    (z12 : PySem.W.nsIn K mainGlobals "sum" = some none)
    (z13 : PySem.W.nsIn K mainGlobals "tuple" = some none)
    (z14 : PySem.W.nsIn K mainGlobals "zip" = some none)
    (mc0 : PySem.W.nsIn K mainGlobals "MOST_CENSERS" = some (some (.int 9 tg0)))
    (xmBadMark : PySem.W.nsIn K mainGlobals "BadMark" = some (some (.ref CBadMark))) (xqBadMark : PySem.W.excIn K CBadMark bmV "ValueError.__new__" = true) :
    ∃ fd : FuncData,(∀ (s : Shared) (v : Value),BindsTo s fd ⟨[v],[]⟩ [("_law_script",v)]) /\ ∀ base : Heap,K.In base -> base.Ns mainGlobals mg -> FnOk l.prog w K mg base CX0 23 fa fd ["_law_script"] (spLaw K) := by
  have e := hfa.symm.trans (PySem.W.mg_of X G a45)
  cases e
  have B : Bs mg := ⟨PySem.W.mg_none_of X G z0,PySem.W.mg_none_of X G z1,PySem.W.mg_none_of X G z2,PySem.W.mg_none_of X G z3,PySem.W.mg_none_of X G z4,PySem.W.mg_none_of X G z5,PySem.W.mg_none_of X G z6,PySem.W.mg_none_of X G z7,PySem.W.mg_none_of X G z8,PySem.W.mg_none_of X G z9,PySem.W.mg_none_of X G z10,PySem.W.mg_none_of X G z11,PySem.W.mg_none_of X G z12,PySem.W.mg_none_of X G z13,PySem.W.mg_none_of X G z14⟩
  have T : Gs mg := ⟨trivial,⟨_,PySem.W.mg_of X G mc0⟩⟩
  have mBadMark := PySem.W.mg_of X G xmBadMark
  refine ⟨PySem.W.fnOf "law" "law" (defArgs slaw) (defBody slaw) (defScope slaw) .none kV45 dc45 pm45 an45 cd45 ct45,fun s v => .of_eq rfl,fun base _ _ => ?_⟩
  have F1 := fun_mk (st := s_law_draw) l1 c1 k1
  have C1 : Cal l.prog w K mg base 1 "_law_draw" [] (spDraw K) := F1.cal (ok_law_draw F1 B T  ) (PySem.W.mg_of X G a1) (fun _ _ _ _ _ _ us hl => match us,hl with | [_,_],_ => rfl)
  have F2 := fun_mk (st := s_law_cell) l2 c2 k2
  have C2 : Cal l.prog w K mg base 1 "_law_cell" [] (spCell K) := F2.cal (ok_law_cell F2 B T  ) (PySem.W.mg_of X G a2) (fun _ _ _ _ _ _ us hl => match us,hl with | [_,_],_ => rfl)
  have F3 := fun_mk (st := s_law_many) l3 c3 k3
  have C3 : Cal l.prog w K mg base 1 "_law_many" [] (spMany K) := F3.cal (ok_law_many F3 B T  ) (PySem.W.mg_of X G a3) (fun _ _ _ _ _ _ us hl => match us,hl with | [_,_],_ => rfl)
  have F4 := fun_mk (st := sis_way) l4 c4 k4
  have C4 : Cal l.prog w K mg base 1 "is_way" [] (spIsWay K) := F4.cal (okis_way F4 B T  ) (PySem.W.mg_of X G a4) (fun _ _ _ _ _ _ us hl => match us,hl with | [_],_ => rfl)
  have F5 := fun_mk (st := scheck_way) l5 c5 k5
  have C5 : Cal l.prog w K mg base 2 "check_way" [] (spCheckWay K) := F5.cal (okcheck_way F5 B T  C4) (PySem.W.mg_of X G a5) (fun _ _ _ _ _ _ us hl => match us,hl with | [_],_ => rfl)
  have F6 := fun_mk (st := swoods) l6 c6 k6
  have C6 : Cal l.prog w K mg base 3 "woods" [] (spWoods K) := F6.cal (okwoods F6 B T  C5) (PySem.W.mg_of X G a6) (fun _ _ _ _ _ _ us hl => match us,hl with | [_],_ => rfl)
  have F7 := fun_mk (st := slots) l7 c7 k7
  have C7 : Cal l.prog w K mg base 4 "lots" [] (spLots K) := F7.cal (oklots F7 B T  C6) (PySem.W.mg_of X G a7) (fun _ _ _ _ _ _ us hl => match us,hl with | [_],_ => rfl)
  have F8 := fun_mk (st := sway_of) l8 c8 k8
  have C8 : Cal l.prog w K mg base 1 "way_of" [] (spWayOfO K) := F8.cal (okway_of F8 B T  ) (PySem.W.mg_of X G a8) (fun _ _ _ _ _ _ us hl => match us,hl with | [_],_ => rfl)
  have F9 := fun_mk (st := sstretches) l9 c9 k9
  have C9 : Cal l.prog w K mg base 5 "stretches" [] (spStretch K) := F9.cal (okstretches F9 B T  C7) (PySem.W.mg_of X G a9) (fun _ _ _ _ _ _ us hl => match us,hl with | [_],_ => rfl)
  have F10 := fun_mk (st := slying) l10 c10 k10
  have C10 : Cal l.prog w K mg base 1 "lying" [] (spLying K) := F10.cal (oklying F10 B T  ) (PySem.W.mg_of X G a10) (fun _ _ _ _ _ _ us hl => match us,hl with | [_,_],_ => rfl)
  have F11 := fun_mk (st := ssuits) l11 c11 k11
  have C11 : Cal l.prog w K mg base 6 "suits" [] (spSuits K) := F11.cal (oksuits F11 B T  C10) (PySem.W.mg_of X G a11) (fun _ _ _ _ _ _ us hl => match us,hl with | [_,_,_],_ => rfl)
  have F12 := fun_mk (st := scompleted) l12 c12 k12
  have R12 : ∀ dd : Nat,Cal l.prog w K mg base (7 + dd) "completed" [] (spCompl K dd) := fun dd => by
    induction dd with
    | zero => exact F12.cal (ps := ["spans","chosen","greatest"]) ⟨fun _ _ _ _ h => absurd h.1 (by decide),fun _ _ _ _ _ _ _ _ _ _ _ _ _ h => absurd h.1 (by decide)⟩ (PySem.W.mg_of X G a12) (fun _ _ _ _ _ _ us hl => match us,hl with | [_,_,_],_ => rfl)
    | succ dd ih => exact F12.cal (okcompleted F12 B T  ih C11) (PySem.W.mg_of X G a12) (fun _ _ _ _ _ _ us hl => match us,hl with | [_,_,_],_ => rfl)
  have C12 := R12 11
  have F13 := fun_mk (st := sheights) l13 c13 k13
  have C13 : Cal l.prog w K mg base 19 "heights" [] (spHeights K) := F13.cal (okheights F13 B T  C12 C9) (PySem.W.mg_of X G a13) (fun _ _ _ _ _ _ us hl => match us,hl with | [_],_ => rfl)
  have F14 := fun_mk (st := sis_covered) l14 c14 k14
  have C14 : Cal l.prog w K mg base 1 "is_covered" [] (spCovered K) := F14.cal (okis_covered F14 B T  ) (PySem.W.mg_of X G a14) (fun _ _ _ _ _ _ us hl => match us,hl with | [_,_,_],_ => rfl)
  have F15 := fun_mk (st := scenser_sign) l15 c15 k15
  have C15 : Cal l.prog w K mg base 1 "censer_sign" [] (spSign K) := F15.cal (okcenser_sign F15 B T  ) (PySem.W.mg_of X G a15) (fun _ _ _ _ _ _ us hl => match us,hl with | [_,_,_,_],_ => rfl)
  have F16 := fun_mk (st := srow_of) l16 c16 k16
  have C16 : Cal l.prog w K mg base 9 "row_of" [] (spRowOf K) := F16.cal (okrow_of F16 B T  C15 C14 C9) (PySem.W.mg_of X G a16) (fun _ _ _ _ _ _ us hl => match us,hl with | [_,_,_],_ => rfl)
  have F17 := fun_mk (st := smark) l17 c17 k17
  have C17 : Cal l.prog w K mg base 20 "mark" [] (spMark K) := F17.cal (okmark F17 B T  C13 C16) (PySem.W.mg_of X G a17) (fun _ _ _ _ _ _ us hl => match us,hl with | [_],_ => rfl)
  have F18 := fun_mk (st := slot_place) l18 c18 k18
  have C18 : Cal l.prog w K mg base 1 "lot_place" [] (spPlace2 K) := F18.cal (oklot_place F18 B T  ) (PySem.W.mg_of X G a18) (fun _ _ _ _ _ _ us hl => match us,hl with | [_,_],_ => rfl)
  have F19 := fun_mk (st := sread_mark) l19 c19 k19
  have C19 : CalE l.prog w K mg base 21 "read_mark" [] (spRead2 K CBadMark) := F19.calE (okread_mark F19 B T mBadMark xqBadMark  C18 C17 C8) (PySem.W.mg_of X G a19) (fun _ _ _ _ _ _ us hl => match us,hl with | [_],_ => rfl)
  have F20 := fun_mk (st := s_law_num) l20 c20 k20
  have C20 : Cal l.prog w K mg base 1 "_law_num" [] spNum := F20.cal (ok_law_num F20 B T  ) (PySem.W.mg_of X G a20) (fun _ _ _ _ _ _ us hl => match us,hl with | [_],_ => rfl)
  have F21 := fun_mk (st := s_law_row_ok) l21 c21 k21
  have C21 : Cal l.prog w K mg base 1 "_law_row_ok" [] (spRowOk K) := F21.cal (ok_law_row_ok F21 B T  ) (PySem.W.mg_of X G a21) (fun _ _ _ _ _ _ us hl => match us,hl with | [_],_ => rfl)
  have F22 := fun_mk (st := s_law_way_ok) l22 c22 k22
  have C22 : Cal l.prog w K mg base 2 "_law_way_ok" [] (spWayOkF K) := F22.cal (ok_law_way_ok F22 B T  C20 C21) (PySem.W.mg_of X G a22) (fun _ _ _ _ _ _ us hl => match us,hl with | [_,_],_ => rfl)
  have F23 := fun_mk (st := s_law_way) l23 c23 k23
  have C23 : Cal l.prog w K mg base 2 "_law_way" [] (spWay K) := F23.cal (ok_law_way F23 B T  C1) (PySem.W.mg_of X G a23) (fun _ _ _ _ _ _ us hl => match us,hl with | [_,_],_ => rfl)
  have F24 := fun_mk (st := s_law_size) l24 c24 k24
  have C24 : Cal l.prog w K mg base 2 "_law_size" [] spSize := F24.cal (ok_law_size F24 B T  C1) (PySem.W.mg_of X G a24) (fun _ _ _ _ _ _ us hl => match us,hl with | [_,_],_ => rfl)
  have F25 := fun_mk (st := s_law_number_row) l25 c25 k25
  have C25 : Cal l.prog w K mg base 1 "_law_number_row" [] (spNumRow K) := F25.cal (ok_law_number_row F25 B T  ) (PySem.W.mg_of X G a25) (fun _ _ _ _ _ _ us hl => match us,hl with | [_],_ => rfl)
  have F26 := fun_mk (st := s_law_lots) l26 c26 k26
  have C26 : Cal l.prog w K mg base 1 "_law_lots" [] (spLLots K) := F26.cal (ok_law_lots F26 B T  ) (PySem.W.mg_of X G a26) (fun _ _ _ _ _ _ us hl => match us,hl with | [_],_ => rfl)
  have F27 := funD_mk (st := s_law_split) (ds := [Value.int 0 tk27]) l27 c27 k27 lT27 dT27
  have D27 : Cal l.prog w K mg base 1 "_law_split" [] spSplit := ⟨f27,_,_,[],ok_law_split F27 B T  , PySem.W.mg_of X G a27,k27,F27.binds (es := []) (fun _ _ _ _ _ _ _ us hl => match us,(show us.length = 3 from by simpa using hl) with | [_,_,_],_ => ⟨_,rfl,rfl⟩),.nil⟩
  have C27 : Cal l.prog w K mg base 1 "_law_split" [.int 0] spSplit := ⟨f27,_,_,[Value.int 0 tk27],ok_law_split F27 B T  , PySem.W.mg_of X G a27,k27,F27.binds (fun _ _ _ _ _ _ _ us hl => match us,(show us.length = 2 from by simpa using hl) with | [_,_],_ => ⟨_,rfl,rfl⟩),.cons ⟨_,rfl⟩ .nil⟩
  have F28 := fun_mk (st := s_law_refused) l28 c28 k28
  have C28 : Cal l.prog w K mg base 1 "_law_refused" [] (spRefused K) := F28.cal (ok_law_refused F28 B T  ) (PySem.W.mg_of X G a28) (fun _ _ _ _ _ _ us hl => match us,hl with | [_],_ => rfl)
  have F29 := fun_mk (st := s_law_linked) l29 c29 k29
  have C29 : Cal l.prog w K mg base 2 "_law_linked" [] (spLinked K) := F29.cal (ok_law_linked F29 B T  C25) (PySem.W.mg_of X G a29) (fun _ _ _ _ _ _ us hl => match us,hl with | [_,_],_ => rfl)
  have F30 := fun_mk (st := s_law_stretches) l30 c30 k30
  have C30 : Cal l.prog w K mg base 2 "_law_stretches" [] (spStretch K) := F30.cal (ok_law_stretches F30 B T  C26) (PySem.W.mg_of X G a30) (fun _ _ _ _ _ _ us hl => match us,hl with | [_],_ => rfl)
  have F31 := fun_mk (st := s_law_lie) l31 c31 k31
  have C31 : Cal l.prog w K mg base 1 "_law_lie" [] (spLLie K) := F31.cal (ok_law_lie F31 B T  ) (PySem.W.mg_of X G a31) (fun _ _ _ _ _ _ us hl => match us,hl with | [_,_],_ => rfl)
  have F32 := fun_mk (st := s_law_stands) l32 c32 k32
  have C32 : Cal l.prog w K mg base 3 "_law_stands" [] (spStandsG K) := F32.cal (ok_law_stands F32 B T  C31) (PySem.W.mg_of X G a32) (fun _ _ _ _ _ _ us hl => match us,hl with | [_,_],_ => rfl)
  have F33 := fun_mk (st := s_law_height_rows) l33 c33 k33
  have C33 : Cal l.prog w K mg base 4 "_law_height_rows" [] (spHRows K) := F33.cal (ok_law_height_rows F33 B T  C32) (PySem.W.mg_of X G a33) (fun _ _ _ _ _ _ us hl => match us,hl with | [_,_],_ => rfl)
  have F34 := fun_mk (st := s_law_heights) l34 c34 k34
  have C34 : Cal l.prog w K mg base 7 "_law_heights" [] (spLHei K) := F34.cal (ok_law_heights F34 B T  C33 C30) (PySem.W.mg_of X G a34) (fun _ _ _ _ _ _ us hl => match us,hl with | [_],_ => rfl)
  have F35 := fun_mk (st := s_law_over) l35 c35 k35
  have C35 : Cal l.prog w K mg base 1 "_law_over" [] (spOver K) := F35.cal (ok_law_over F35 B T  ) (PySem.W.mg_of X G a35) (fun _ _ _ _ _ _ us hl => match us,hl with | [_,_,_,_,_],_ => rfl)
  have F36 := fun_mk (st := s_law_sign) l36 c36 k36
  have C36 : Cal l.prog w K mg base 2 "_law_sign" [] (spLSign K) := F36.cal (ok_law_sign F36 B T  C35) (PySem.W.mg_of X G a36) (fun _ _ _ _ _ _ us hl => match us,hl with | [_,_,_,_,_],_ => rfl)
  have F37 := fun_mk (st := s_law_mark_row) l37 c37 k37
  have C37 : Cal l.prog w K mg base 3 "_law_mark_row" [] (spLRow K) := F37.cal (ok_law_mark_row F37 B T  C35 C36) (PySem.W.mg_of X G a37) (fun _ _ _ _ _ _ us hl => match us,hl with | [_,_,_,_],_ => rfl)
  have F38 := fun_mk (st := s_law_mark) l38 c38 k38
  have C38 : Cal l.prog w K mg base 8 "_law_mark" [] (spMarkL K) := F38.cal (ok_law_mark F38 B T  C34 C37 C30) (PySem.W.mg_of X G a38) (fun _ _ _ _ _ _ us hl => match us,hl with | [_],_ => rfl)
  have F39 := fun_mk (st := s_law_joint_lots) l39 c39 k39
  have C39 : Cal l.prog w K mg base 1 "_law_joint_lots" [] (spJoint K) := F39.cal (ok_law_joint_lots F39 B T  ) (PySem.W.mg_of X G a39) (fun _ _ _ _ _ _ us hl => match us,hl with | [_],_ => rfl)
  have F40 := fun_mk (st := s_law_read_mark) l40 c40 k40
  have C40 : Cal l.prog w K mg base 9 "_law_read_mark" [] (spLRead K) := F40.cal (ok_law_read_mark F40 B T  C39 C29 C38) (PySem.W.mg_of X G a40) (fun _ _ _ _ _ _ us hl => match us,hl with | [_],_ => rfl)
  have F41 := fun_mk (st := s_law_any_sign) l41 c41 k41
  have C41 : Cal l.prog w K mg base 1 "_law_any_sign" [] (spAnyS K) := F41.cal (ok_law_any_sign F41 B T  ) (PySem.W.mg_of X G a41) (fun _ _ _ _ _ _ us hl => match us,hl with | [_],_ => rfl)
  have F42 := fun_mk (st := s_law_rows_bent) l42 c42 k42
  have C42 : Cal l.prog w K mg base 1 "_law_rows_bent" [] (spRBent K) := F42.cal (ok_law_rows_bent F42 B T  ) (PySem.W.mg_of X G a42) (fun _ _ _ _ _ _ us hl => match us,hl with | [_,_,_],_ => rfl)
  have F43 := fun_mk (st := s_law_bent) l43 c43 k43
  have C43 : Cal l.prog w K mg base 2 "_law_bent" [] (spBent K) := F43.cal (ok_law_bent F43 B T  C41 C1 C42) (PySem.W.mg_of X G a43) (fun _ _ _ _ _ _ us hl => match us,hl with | [_,_],_ => rfl)
  have F44 := fun_mk (st := s_law_tried) l44 c44 k44
  have C44 : Cal l.prog w K mg base 22 "_law_tried" [] (spTried17 K) := F44.cal (ok_law_tried F44 B T mBadMark xqBadMark  C19) (PySem.W.mg_of X G a44) (fun _ _ _ _ _ _ us hl => match us,hl with | [_],_ => rfl)
  have F45 := fun_mk (st := slaw) l45 c45 k45
  exact oklaw F45 B T  C43 C2 C3 C38 C40 C28 C24 C27 C44 C23 C22
theorem walk {l : PySem.W.OpenLaw} {q : Program} {loose : List Str} {XP : (Str -> Option Value) -> Heap -> Prop} {YP : World -> Heap -> Prop} {d : DefRec} {K : Params -> PySem.W.Frag} (hn : l.most = some 63) (hdf : d.params.defaults = [])
    (hY : ∀ (w : World) (h : Heap),YP w h -> (K w.params).In h)
    (F : ∀ (w : World) (mg : Str -> Option Value) (fa : Addr) (h : Heap),(K w.params).In h -> h.Ns mainGlobals mg -> mg d.name = some (.ref fa) ->
      ∃ fd : FuncData,(∀ (s : Shared) (u : Value),BindsTo s fd ⟨[u],[]⟩ [("_law_script",u)]) /\ ∀ base : Heap,(K w.params).In base -> base.Ns mainGlobals mg -> FnOk l.prog w (K w.params) mg base CX0 23 fa fd ["_law_script"] (spLaw (K w.params))) :
    PySem.W.WalkO q loose XP YP l.row.toRowW d [] (fun f vs => PySem.call f vs) :=
  L2.walk_of (n := 63) (k := 23) (x := "_law_script") (CX := fun _ => CX0) (sp := fun w => spLaw (K w.params)) hn (by decide) hdf ⟨rfl,by decide,by decide⟩ hY F (fun _ _ a ns hl _ hS => ⟨a,ns,rfl,hS,hl,fun _ => rfl⟩) fun _ _ _ _ _ z => z
end Lw
namespace PySem.W.Fast
def tw11409219219843039274:=0
def tw8795856338840443564:=0
def tw1899681047349707601:=0
def tw1666930842596737470:=0
def tw5871588174703149608:=0
def tw16796138564503709948:=0
def tw16673736233613278013:=0
def tw5530239286577787291:=0
def tw2262584932586132618:=0
def tw2379163347261007084:=0
def tw614844819019958058:=0
def tw15357212064230200338:=0
def tw7319978504325265593:=0
def tw7975720820627620111:=0
def tw17255602491682700011:=0
def tw13686319878397078058:=0
def tw8335235726000514907:=0
def tw10891537536543761583:=0
def tw9812403568962043394:=0
def tw9634243316562024029:=0
def tw12426258292510389803:=0
def tw4473326749436451296:=0
def tw13669187861172767852:=0
def tw3282356130014129715:=0
def tw9058629866257058964:=0
def tw11259682058831649224:=0
def tw7773575020478723375:=0
def tw5391285998455580408:=0
def tw9864483436290575170:=0
def tw7044765275247343112:=0
def tw6212669159424107809:=0
def tw17574378936778970029:=0
def tw6998446680160926307:=0
def tw3525098464965839760:=0
def tw10384945649327473424:=0
def tw14114963076468819648:=0
def tw17050222639905639873:=0
def tw7897385750909670477:=0
def tw2724632710979932489:=0
def tw14329031320742228634:=0
def tw8537073497515179256:=0
def tw12026962857128536450:=0
def tw2768316619148559103:=0
def tw6221833838999478258:=0
def tw15902825840734647848:=0
def tw4744196004954958706:=0
def tw7459982486145507777:=0
def tw2799662701951806103:=0
def tw3328582370265868449:=0
def tw18347807448488429206:=0
def tw12547677580553246535:=0
def tw9644611711794599597:=0
def tw14627779931889476800:=0
def tw15545328682879971316:=0
def tw9840118605093121100:=0
def tw17427520271201297570:=0
def tw18195064257924874300:=0
def tw14930060430202778759:=0
def tw11248736556025041851:=0
def tw611284889363355821:=0
def tw15604333088436967259:=0
def tw6621447905358677370:=0
def tw5024543784830082486:=0
def tw14827400570193703777:=0
def tw3089154296733343027:=0
def tw8014277594602079385:=0
def tw17273896427697446687:=0
def tw4937768488272150009:=0
def tw11956408386945852649:=0
def tw4533340506923037462:=0
def tw14692816034789749182:=0
def tw16581786504617202273:=0
def tw18043508742184251269:=0
def tw330463075882524514:=0
def tw17114047147422202445:=0
def tw15535616940710767340:=0
def tw8091339471419071405:=0
def tw1152457950158513385:=0
def tw4494694714239097761:=0
def tw16826011464783411341:=0
def tw12314199267331014623:=0
def tw10519427560527430007:=0
def tw1660555067374504330:=0
def tw14316508955950832883:=0
def tw708179850930180673:=0
def tw2877200547653630954:=0
def tw690239981768546616:=0
def tw3711060218029342445:=0
def tw16641037473398326535:=0
def tw8608831311875831672:=0
def tw6944843619296537408:=0
def tw17443479386875702853:=0
def tw17233206222824318891:=0
def tw10360688612325228936:=0
def tw17172889922245482979:=0
def tw8776085037295998605:=0
def tw2755716613070646294:=0
def tw8714495203456249888:=0
def tw13372260700580103574:=0
def tw14564451831798983330:=0
def tw2039070496668262338:=0
def tw12029991390704269563:=0
def tw13977154066106052909:=0
def tw13380856077026877239:=0
def tw2406137091741419112:=0
def tw14663099427828230980:=0
def tw1338865045602069523:=0
def tw1220639249580014214:=0
def tw15085705177141479472:=0
def tw14089472669172466278:=0
end PySem.W.Fast
open PySem PySem.W PyProof.Rows
set_option maxRecDepth 100000 in
set_option maxHeartbeats 0 in
theorem PySem.Challenge.cw_censers_k17_whole_texts_spoilt_holds : PySem.Challenge.rw_censers_k17_whole_texts_spoilt.Holds := by
  w_on; o_law; k_head; (case hw => w_witness2)
  k_fill
  refine Lw.walk (l := PySem.Challenge.rw_censers_k17_whole_texts_spoilt) rfl rfl (fun w h Y => PySem.W.kIn_of Y) ?F
  case F =>
    intro w mg fa h KX G hmg
    refine' Lw.all_mk KX G hmg ?a1 ?l1 ?c1 ?k1 ?a2 ?l2 ?c2 ?k2 ?a3 ?l3 ?c3 ?k3 ?a4 ?l4 ?c4 ?k4 ?a5 ?l5 ?c5 ?k5 ?a6 ?l6 ?c6 ?k6 ?a7 ?l7 ?c7 ?k7 ?a8 ?l8 ?c8 ?k8 ?a9 ?l9 ?c9 ?k9 ?a10 ?l10 ?c10 ?k10 ?a11 ?l11 ?c11 ?k11 ?a12 ?l12 ?c12 ?k12 ?a13 ?l13 ?c13 ?k13 ?a14 ?l14 ?c14 ?k14 ?a15 ?l15 ?c15 ?k15 ?a16 ?l16 ?c16 ?k16 ?a17 ?l17 ?c17 ?k17 ?a18 ?l18 ?c18 ?k18 ?a19 ?l19 ?c19 ?k19 ?a20 ?l20 ?c20 ?k20 ?a21 ?l21 ?c21 ?k21 ?a22 ?l22 ?c22 ?k22 ?a23 ?l23 ?c23 ?k23 ?a24 ?l24 ?c24 ?k24 ?a25 ?l25 ?c25 ?k25 ?a26 ?l26 ?c26 ?k26 ?a27 ?l27 ?c27 ?k27 ?lT27 ?dT27 ?a28 ?l28 ?c28 ?k28 ?a29 ?l29 ?c29 ?k29 ?a30 ?l30 ?c30 ?k30 ?a31 ?l31 ?c31 ?k31 ?a32 ?l32 ?c32 ?k32 ?a33 ?l33 ?c33 ?k33 ?a34 ?l34 ?c34 ?k34 ?a35 ?l35 ?c35 ?k35 ?a36 ?l36 ?c36 ?k36 ?a37 ?l37 ?c37 ?k37 ?a38 ?l38 ?c38 ?k38 ?a39 ?l39 ?c39 ?k39 ?a40 ?l40 ?c40 ?k40 ?a41 ?l41 ?c41 ?k41 ?a42 ?l42 ?c42 ?k42 ?a43 ?l43 ?c43 ?k43 ?a44 ?l44 ?c44 ?k44 ?a45 ?l45 ?c45 ?k45 ?z0 ?z1 ?z2 ?z3 ?z4 ?z5 ?z6 ?z7 ?z8 ?z9 ?z10 ?z11 ?z12 ?z13 ?z14 ?mc0 ?xmBadMark ?xqBadMark
    (case a1 => k_is)
    (case l1 => k_is)
    (case c1 => k_is)
    (case k1 => k_is)
    (case a2 => k_is)
    (case l2 => k_is)
    (case c2 => k_is)
    (case k2 => k_is)
    (case a3 => k_is)
    (case l3 => k_is)
    (case c3 => k_is)
    (case k3 => k_is)
    (case a4 => k_is)
    (case l4 => k_is)
    (case c4 => k_is)
    (case k4 => k_is)
    (case a5 => k_is)
    (case l5 => k_is)
    (case c5 => k_is)
    (case k5 => k_is)
    (case a6 => k_is)
    (case l6 => k_is)
    (case c6 => k_is)
    (case k6 => k_is)
    (case a7 => k_is)
    (case l7 => k_is)
    (case c7 => k_is)
    (case k7 => k_is)
    (case a8 => k_is)
    (case l8 => k_is)
    (case c8 => k_is)
    (case k8 => k_is)
    (case a9 => k_is)
    (case l9 => k_is)
    (case c9 => k_is)
    (case k9 => k_is)
    (case a10 => k_is)
    (case l10 => k_is)
    (case c10 => k_is)
    (case k10 => k_is)
    (case a11 => k_is)
    (case l11 => k_is)
    (case c11 => k_is)
    (case k11 => k_is)
    (case a12 => k_is)
    (case l12 => k_is)
    (case c12 => k_is)
    (case k12 => k_is)
    (case a13 => k_is)
    (case l13 => k_is)
    (case c13 => k_is)
    (case k13 => k_is)
    (case a14 => k_is)
    (case l14 => k_is)
    (case c14 => k_is)
    (case k14 => k_is)
    (case a15 => k_is)
    (case l15 => k_is)
    (case c15 => k_is)
    (case k15 => k_is)
    (case a16 => k_is)
    (case l16 => k_is)
    (case c16 => k_is)
    (case k16 => k_is)
    (case a17 => k_is)
    (case l17 => k_is)
    (case c17 => k_is)
    (case k17 => k_is)
    (case a18 => k_is)
    (case l18 => k_is)
    (case c18 => k_is)
    (case k18 => k_is)
    (case a19 => k_is)
    (case l19 => k_is)
    (case c19 => k_is)
    (case k19 => k_is)
    (case a20 => k_is)
    (case l20 => k_is)
    (case c20 => k_is)
    (case k20 => k_is)
    (case a21 => k_is)
    (case l21 => k_is)
    (case c21 => k_is)
    (case k21 => k_is)
    (case a22 => k_is)
    (case l22 => k_is)
    (case c22 => k_is)
    (case k22 => k_is)
    (case a23 => k_is)
    (case l23 => k_is)
    (case c23 => k_is)
    (case k23 => k_is)
    (case a24 => k_is)
    (case l24 => k_is)
    (case c24 => k_is)
    (case k24 => k_is)
    (case a25 => k_is)
    (case l25 => k_is)
    (case c25 => k_is)
    (case k25 => k_is)
    (case a26 => k_is)
    (case l26 => k_is)
    (case c26 => k_is)
    (case k26 => k_is)
    (case a27 => k_is)
    (case l27 => k_is)
    (case c27 => k_is)
    (case k27 => k_is)
    (case lT27 => k_is)
    (case dT27 => rfl)
    (case a28 => k_is)
    (case l28 => k_is)
    (case c28 => k_is)
    (case k28 => k_is)
    (case a29 => k_is)
    (case l29 => k_is)
    (case c29 => k_is)
    (case k29 => k_is)
    (case a30 => k_is)
    (case l30 => k_is)
    (case c30 => k_is)
    (case k30 => k_is)
    (case a31 => k_is)
    (case l31 => k_is)
    (case c31 => k_is)
    (case k31 => k_is)
    (case a32 => k_is)
    (case l32 => k_is)
    (case c32 => k_is)
    (case k32 => k_is)
    (case a33 => k_is)
    (case l33 => k_is)
    (case c33 => k_is)
    (case k33 => k_is)
    (case a34 => k_is)
    (case l34 => k_is)
    (case c34 => k_is)
    (case k34 => k_is)
    (case a35 => k_is)
    (case l35 => k_is)
    (case c35 => k_is)
    (case k35 => k_is)
    (case a36 => k_is)
    (case l36 => k_is)
    (case c36 => k_is)
    (case k36 => k_is)
    (case a37 => k_is)
    (case l37 => k_is)
    (case c37 => k_is)
    (case k37 => k_is)
    (case a38 => k_is)
    (case l38 => k_is)
    (case c38 => k_is)
    (case k38 => k_is)
    (case a39 => k_is)
    (case l39 => k_is)
    (case c39 => k_is)
    (case k39 => k_is)
    (case a40 => k_is)
    (case l40 => k_is)
    (case c40 => k_is)
    (case k40 => k_is)
    (case a41 => k_is)
    (case l41 => k_is)
    (case c41 => k_is)
    (case k41 => k_is)
    (case a42 => k_is)
    (case l42 => k_is)
    (case c42 => k_is)
    (case k42 => k_is)
    (case a43 => k_is)
    (case l43 => k_is)
    (case c43 => k_is)
    (case k43 => k_is)
    (case a44 => k_is)
    (case l44 => k_is)
    (case c44 => k_is)
    (case k44 => k_is)
    (case a45 => k_is)
    (case l45 => k_is)
    (case c45 => k_is)
    (case k45 => k_is)
    (case z0 => k_is)
    (case z1 => k_is)
    (case z2 => k_is)
    (case z3 => k_is)
    (case z4 => k_is)
    (case z5 => k_is)
    (case z6 => k_is)
    (case z7 => k_is)
    (case z8 => k_is)
    (case z9 => k_is)
    (case z10 => k_is)
    (case z11 => k_is)
    (case z12 => k_is)
    (case z13 => k_is)
    (case z14 => k_is)
    (case mc0 => k_is)
    (case xmBadMark => k_is)
    (case xqBadMark => k_exc)
