import PyProof.Rows.All
import Wide.All
import OpenK.AllK
import Wide.FinOn
import Lean
import PyProof.EqAt
import PyProof.EqKinds
import PyProof.TupleCall
import KE.KSortTup
import KE.KRevSl
import KE.KDictSum
import PyProof.NeKinds
import PyProof.Rows.Range3
import PyProof.Rows.SetFrom
import PyProof.Rows.StrItems
import PyProof.StrWalks
import PyProof.EnumMake
import PyProof.FString5
import PyProof.Conv_int_bool
import PyProof.DictStraight
import PyProof.StrLawsIn
import PyProof.Rows.RuleN_abs
import PyProof.Rows.CallKwBuiltin
import PyProof.MinMaxWalk
import PyProof.IsiH_list
import PyProof.AttrMiss
import KE.KDictOf
import PyProof.DictList
import PyProof.TupleIter
import PyProof.Rows.CountFlat
import PyProof.Rows.RuleB_mul
import PyProof.CompFree
import PyProof.DictItemsLoops
import KE.KSortKey
import KE.KDictList
import PyProof.SetRoads
import PyProof.DictWalks
import PyProof.DictCompW
import KE.KTab
import PySem.Challenge.RW_censers_k34_whole_a_way_or_a_paper
set_option Elab.async false
set_option linter.all false
set_option maxRecDepth 100000
namespace L2
open PySem PySem.Spec PyProof.Rows
abbrev Key:=Sum Int Str
def keyIs:Key->Value->Bool
 | .inl k,v=>Value.isInt k v
 | .inr x,v=>Value.isStrOf x v
def keyH (w:World):Key->Int
 | .inl k=>hashInt k
 | .inr x=>hashStr w x
theorem keyIs_shape : ∀ {k:Key} {v:Value},keyIs k v=true->(∃ i t,k=Sum.inl i/\v=Value.int i t)\/(∃ x t,k=Sum.inr x/\v=Value.str x t)
 | .inl i,v,h=>by
  obtain ⟨t,e⟩:=Value.isInt_shape (k:=i) (v:=v) h
  exact .inl ⟨i,t,rfl,e⟩
 | .inr x,v,h=>by
  obtain ⟨t,e⟩:=Value.isStrOf_shape (x:=x) (v:=v) h
  exact .inr ⟨x,t,rfl,e⟩
theorem keyIs_int (i:Int) (t:Tok):keyIs (.inl i) (.int i t)=true:=by simp [keyIs,Value.isInt]
theorem keyIs_str (x:Str) (t:Tok):keyIs (.inr x) (.str x t)=true:=by simp [keyIs,Value.isStrOf]
theorem key_ll (a b:Int):decide ((Sum.inl a:Key)=Sum.inl b)=(a==b):= by
 by_cases e:a=b
 ·subst e;simp
 ·have h : ¬ (Sum.inl a:Key)=Sum.inl b:=fun q=>e (Sum.inl.inj q)
  rw[decide_eq_false h]
  exact (beq_eq_false_iff_ne.mpr e).symm
theorem key_rr (a b:Str):decide ((Sum.inr a:Key)=Sum.inr b)=decide (a=b):= by
 by_cases e:a=b
 ·subst e;simp
 ·have h : ¬ (Sum.inr a:Key)=Sum.inr b:=fun q=>e (Sum.inr.inj q)
  rw[decide_eq_false h,decide_eq_false e]
theorem key_lr (a:Int) (b:Str):decide ((Sum.inl a:Key)=Sum.inr b)=false:=decide_eq_false (fun q=>nomatch q)
theorem key_rl (a:Str) (b:Int):decide ((Sum.inr a:Key)=Sum.inl b)=false:=decide_eq_false (fun q=>nomatch q)
def mixKind (prog:Program) (w:World):PySem.KeyKind prog w Key where
 is:=keyIs
 hash:=keyH w
 inj:=fun v a b ha hb=>by
  rcases keyIs_shape ha with ⟨i,t,rfl,rfl⟩ | ⟨x,t,rfl,rfl⟩
  ·rcases keyIs_shape hb with ⟨j,u,rfl,e⟩ | ⟨y,u,rfl,e⟩
   ·injection e with e1 _;rw[e1]
   ·exact nomatch e
  ·rcases keyIs_shape hb with ⟨j,u,rfl,e⟩ | ⟨y,u,rfl,e⟩
   ·exact nomatch e
   ·injection e with e1 _;rw[e1]
 byValue:=fun k v h=>by
  rcases keyIs_shape h with ⟨i,t,rfl,rfl⟩ | ⟨x,t,rfl,rfl⟩ <;> rfl
 pyHash:=fun hv h=>by
  rcases keyIs_shape hv with ⟨i,t,rfl,rfl⟩ | ⟨x,t,rfl,rfl⟩
  ·exact wpAny_pyHash_int h
  ·exact wpAny_pyHash_str h
 eqBool:=fun hu hv h=>by
  rcases keyIs_shape hu with ⟨i,t,rfl,rfl⟩ | ⟨x,t,rfl,rfl⟩
  ·rcases keyIs_shape hv with ⟨j,u,rfl,rfl⟩ | ⟨y,u,rfl,rfl⟩
   ·rw[key_ll] at h;exact wpAny_eqBool_int h
   ·rw[key_lr] at h;exact SeqAt.EqAt.int_str i t y u _ _ _ _ h
  ·rcases keyIs_shape hv with ⟨j,u,rfl,rfl⟩ | ⟨y,u,rfl,rfl⟩
   ·rw[key_rl] at h;exact SeqAt.EqAt.str_int x t j u _ _ _ _ h
   ·rw[key_rr] at h;exact wpAny_eqBool_str h
 «strs»:=fun k x t v h=>by
  rcases keyIs_shape h with ⟨i,u,rfl,e⟩ | ⟨y,u,rfl,e⟩
  ·exact nomatch e
  ·injection e with e1 _
   subst e1
   cases v <;> rfl
theorem mixKind_int (prog:Program) (w:World) (i:Int) (t:Tok):(mixKind prog w).is (.inl i) (.int i t)=true:=keyIs_int i t
theorem mixKind_str (prog:Program) (w:World) (x:Str) (t:Tok):(mixKind prog w).is (.inr x) (.str x t)=true:=keyIs_str x t
end L2
namespace L2
open PySem PySem.Spec PyProof.Rows
inductive V where
 | non | bl (b:Bool) | int (i:Int) | str (x:Str) | byt (b:Array UInt8) | flt (b:UInt64) | ref (a:Addr) | ty (n:String)
 deriving DecidableEq
def RelV:V->Value->Prop
 | .non,u=>u=Value.none
 | .bl b,u=>u=Value.bool b
 | .int i,u=>∃ t,u=Value.int i t
 | .str x,u=>∃ t,u=Value.str x t
 | .byt b,u=>∃ t,u=Value.bytes b t
 | .flt b,u=>∃ t,u=Value.float b t
 | .ref a,u=>u=Value.ref a
 | .ty n,u=>u=Value.type n
abbrev Vals:List V->List Value->Prop:=Paired RelV
theorem Vals.length {xs:List V} {us:List Value} (r:Vals xs us):xs.length=us.length:=Paired.length r
theorem Vals.get : ∀ {xs:List V} {us:List Value} {i:Nat} {x:V},Vals xs us->xs[i]?=some x -> ∃ u,us[i]?=some u/\RelV x u
 | _,_,_,_,.nil,e=>by simp at e
 | _,_,0,_,.cons r _,e=>by simp at e;subst e;exact ⟨_,rfl,r⟩
 | _,_,i+1,x,.cons _ t,e=>by
  obtain ⟨u,h1,h2⟩:=Vals.get (i:=i) (x:=x) t (by simpa using e)
  exact ⟨u,by simpa using h1,h2⟩
theorem Vals.append : ∀ {xs ys:List V} {us ws:List Value},Vals xs us->Vals ys ws->Vals (xs++ys) (us++ws)
 | _,_,_,_,.nil,s=>s
 | _,_,_,_,.cons r t,s=>.cons r (Vals.append t s)
theorem Vals.take : ∀ {xs:List V} {us:List Value} (n:Nat),Vals xs us->Vals (xs.take n) (us.take n)
 | _,_,0,_=>.nil
 | _,_,_+1,.nil=>.nil
 | _,_,n+1,.cons r t=>.cons r (Vals.take n t)
theorem Vals.drop : ∀ {xs:List V} {us:List Value} (n:Nat),Vals xs us->Vals (xs.drop n) (us.drop n)
 | _,_,0,r=>r
 | _,_,_+1,.nil=>.nil
 | _,_,n+1,.cons _ t=>Vals.drop n t
def RelO:Option V->Option Value->Prop
 | some v,some u=>RelV v u
 | none,none=>True
 | _,_=>False
def KV {κ:Type}:List (κ × V)->List (κ × Value)->Prop:=Paired fun (p:κ × V) (q:κ × Value)=>p.1=q.1/\RelV p.2 q.2
def kV:Key->V
 | .inl i=>.int i
 | .inr x=>.str x
inductive HO where
 | lst (xs:List V)
 | tup (xs:List V)
 | dK (kvs:List (Key × V)) | dT (kvs:List (List Key × V))
 | set (S:Int->Bool) (n:Nat)
 | ins (C dx:Addr) (fs:List (Str × V))
 | own (x:Addr)
 | xd (fs:List (Str × V))
 | met (f x:Addr)
 | rng (lo hi:Int)
 | frz (o:Obj) (u:HO)
 | tbl (ps:Array Value)
 | ext (φ:Heap->Prop)
abbrev Hp:=Addr->Option HO
def upd (H:Hp) (a:Addr) (o:HO):Hp:=fun b=>if b=a then some o else H b
theorem upd_same {H:Hp} {a:Addr} {o:HO}:upd H a o a=some o:=by unfold upd;rw[if_pos rfl]
theorem upd_ne {H:Hp} {a b:Addr} {o:HO} (h:b≠a):upd H a o b=H b:=by unfold upd;rw[if_neg h]
theorem upd_upd {H:Hp} {a:Addr} {o u:HO}:upd (upd H a o) a u=upd H a u:= by
 funext b;unfold upd;split <;> rfl
theorem ne_of {H:Hp} {a b:Addr} {o u:HO} (h:H a=some o) (h':H b=some u) (d:o≠u):a≠b:= by
 intro e;subst e;rw[h] at h';exact d (Option.some.inj h')
theorem ne_of_none {H:Hp} {a b:Addr} {o:HO} (h:H a=some o) (h':H b=none):a≠b:= by
 intro e;subst e;rw[h] at h';cases h'
section
variable (P:Program) (w:World)
def ObjOk (H:Hp) (h:Heap) (a:Addr):HO->Prop
 | .lst xs=>xs.length <= sizeLine /\ ∃ (its : List Value) (n : Nat),Vals xs its /\ h.get? a = some { cls:=.type "list",data:=.seq its.toArray n }
 | .tup xs=>xs.length<=sizeLine /\ ∃ its:List Value,Vals xs its/\IsTup h a its.toArray
 | .dK kvs=>kvs.length<=sizeLine/\(a==sysModules)=false /\ ∃ vs,KV kvs vs/\h.DictOf (mixKind P w) a vs
 | .dT kvs=>kvs.length<=sizeLine/\(a==sysModules)=false /\ ∃ xs:List (List Key × Addr × Value),
   Paired (fun (p:List Key × V) (q:List Key × Addr × Value)=>p.1=q.1/\H q.2.1=some (.tup (p.1.map kV))/\RelV p.2 q.2.2) kvs xs /\
   ∃ o es ep,h.get? a=some o/\o.ExactDict/\o.data = .dict es ep/\es.toList=xs.map (entryOfKey (tupleKind (mixKind P w)))/\(xs.map (·.1)).Nodup
 | .set S n=>h.SetOf (intKind P w) a S n
 | .ins C dx fs=>H dx=some (.own a)/\fs.length<=1000/\dx≠a/\h.get? a=some (PySem.W.instObj C dx) /\
   ∃ mA,h.Ns1 dx mA/\(∀ f,RelO (fs.lookup f) (mA f))/\PySem.Within mA (fs.map (·.1))
 | .own _=>∃ o,h.get? a=some o
 | .xd fs=>∃ mA,h.Ns1 a mA /\ ∀ f,RelO (fs.lookup f) (mA f)
 | .rng lo hi=>∃ t u v,h.get? a = some { cls:=.type "range",data:=.fields #[.int lo t,.int hi u,.int 1 v] }
 | .frz o u=>h.get? a=some o/\ObjOk H h a u
 | .tbl ps=>h.get? a=some { cls:=.none,data:=.fields ps }
 | .met f x=>h.get? a=some (PySem.W.methodObj (.ref f) (.ref x))
 | .ext φ=>φ h/\(∃ o,h.get? a=some o) /\ ∀ h1 h2:Heap,φ h1->(∀ o,h1.get? a=some o->h2.get? a=some o)->φ h2
def HOk (H:Hp) (h:Heap):Prop:=∀ a o,H a=some o->ObjOk P w H h a o
end
section
variable {P:Program} {w:World} {H H':Hp} {h h':Heap} {a:Addr} {o:HO}
theorem ObjOk.lt (x:ObjOk P w H h a o):a<h.objs.size:= by
 cases o with
 | lst xs=>obtain ⟨_,_,_,_,e⟩:=x;exact Heap.lt_size e
 | tup xs=>obtain ⟨_,_,_,p⟩:=x;exact p.lt
 | dK kvs=>obtain ⟨_,_,_,_,o,_,_,e,_⟩:=x;exact Heap.lt_size e
 | dT kvs=>obtain ⟨_,_,_,_,o,_,_,e,_⟩:=x;exact Heap.lt_size e
 | set S n=>obtain ⟨o,_,_,_,e,_⟩:=x;exact Heap.lt_size e
 | ins C dx fs=>obtain ⟨_,_,_,e,_⟩:=x;exact Heap.lt_size e
 | own y=>obtain ⟨_,e⟩:=x;exact Heap.lt_size e
 | xd fs=>obtain ⟨_,⟨_,_,_,e,_⟩,_⟩:=x;exact Heap.lt_size e
 | rng lo hi=>obtain ⟨_,_,_,e⟩:=x;exact Heap.lt_size e
 | frz ob u=>obtain ⟨e,_⟩:=x;exact Heap.lt_size e
 | tbl ps=>exact Heap.lt_size (show h.get? a=some _ from x)
 | met f y=>exact Heap.lt_size (show h.get? a=some _ from x)
 | ext φ=>obtain ⟨_,⟨_,e⟩,_⟩:=x;exact Heap.lt_size e
theorem Paired.mapP {α β:Type} {F G:α->β->Prop} : ∀ {l₁:List α} {l₂:List β},Paired F l₁ l₂->(∀ a b,F a b->G a b)->Paired G l₁ l₂
 | _,_,.nil,_=>.nil
 | _,_,.cons r t,f=>.cons (f _ _ r) (Paired.mapP t f)
theorem ObjOk.stay (x:ObjOk P w H h a o) (k : ∀ b u,(b=a\/H b=some (.own a))->h.get? b=some u->h'.get? b=some u)
  (ho : ∀ b,H b=some (.own a)->H' b=some (.own a)) (ht : ∀ b xs,H b=some (.tup xs)->H' b=some (.tup xs)):ObjOk P w H' h' a o:= by
 induction o with
 | lst xs=>obtain ⟨z,its,n,r,e⟩:=x;exact ⟨z,its,n,r,k _ _ (.inl rfl) e⟩
 | tup xs=>obtain ⟨z,its,r,ob,e,c⟩:=x;exact ⟨z,its,r,ob,k _ _ (.inl rfl) e,c⟩
 | dK kvs=>obtain ⟨z,y,vs,r,ob,es,ep,e,c⟩:=x;exact ⟨z,y,vs,r,ob,es,ep,k _ _ (.inl rfl) e,c⟩
 | dT kvs=>
  obtain ⟨z,y,xs,r,ob,es,ep,e,c⟩:=x
  exact ⟨z,y,xs,Paired.mapP r fun p q z=>⟨z.1,ht _ _ z.2.1,z.2.2⟩,ob,es,ep,k _ _ (.inl rfl) e,c⟩
 | set S n=>obtain ⟨ob,es,ep,t,e,c⟩:=x;exact ⟨ob,es,ep,t,k _ _ (.inl rfl) e,c⟩
 | ins C dx fs=>
  obtain ⟨d,z,ne,e,mA,⟨od,es,ep,e2,c⟩,r⟩:=x
  exact ⟨ho _ d,z,ne,k _ _ (.inl rfl) e,mA,⟨od,es,ep,k _ _ (.inr d) e2,c⟩,r⟩
 | own y=>obtain ⟨ob,e⟩:=x;exact ⟨ob,k _ _ (.inl rfl) e⟩
 | xd fs=>obtain ⟨mA,⟨od,es,ep,e,c⟩,r⟩:=x;exact ⟨mA,⟨od,es,ep,k _ _ (.inl rfl) e,c⟩,r⟩
 | rng lo hi=>obtain ⟨t,u,v,e⟩:=x;exact ⟨t,u,v,k _ _ (.inl rfl) e⟩
 | frz ob u ih=>obtain ⟨e,q⟩:=x;exact ⟨k _ _ (.inl rfl) e,ih q⟩
 | tbl ps=>
  have e:h.get? a=some { cls:=.none,data:=.fields ps }:=x
  show h'.get? a=some { cls:=.none,data:=.fields ps }
  exact k a _ (.inl rfl) e
 | met f y=>
  have e:h.get? a=some (PySem.W.methodObj (.ref f) (.ref y)):=x
  show h'.get? a=some (PySem.W.methodObj (.ref f) (.ref y))
  exact k a _ (.inl rfl) e
 | ext φ=>obtain ⟨p,⟨o,e⟩,st⟩:=x;exact ⟨st _ _ p fun o q=>k _ _ (.inl rfl) q,⟨o,k _ _ (.inl rfl) e⟩,st⟩
theorem HOk.lt (x:HOk P w H h) (e:H a=some o):a<h.objs.size:=(x a o e).lt
theorem HOk.fresh (x:HOk P w H h) (e:h.objs.size<=a):H a=none:= by
 cases q:H a with
 | none=>rfl
 | some u=>exact absurd (Nat.lt_of_lt_of_le (x.lt q) e) (Nat.lt_irrefl _)
theorem HOk.kept (x:HOk P w H h) (k : ∀ b u,h.get? b=some u->h'.get? b=some u):HOk P w H h':=fun a o e=>
 (x a o e).stay (fun b u _ q=>k b u q) (fun _ q=>q) fun _ _ q=>q
theorem HOk.laid (x:HOk P w H h) (k : ∀ b u,h.get? b=some u->h'.get? b=some u) (hp:h.objs.size<=a) (new:ObjOk P w (upd H a o) h' a o):HOk P w (upd H a o) h':=fun b u e=>by
 have hn:=x.fresh hp
 by_cases hb:b=a
 ·subst hb;rw[upd_same] at e;cases e;exact new
 ·rw[upd_ne hb] at e
  exact (x b u e).stay (fun c v _ q=>k c v q) (fun c q=>by rw[upd_ne (ne_of_none q hn)];exact q) fun c xs q=>by rw[upd_ne (ne_of_none q hn)];exact q
end
def Rd (H:Hp) (a:Addr) (u:HO):Prop:=H a=some u \/ ∃ o,H a=some (.frz o u)
theorem Rd.ok {P:Program} {w:World} {H:Hp} {h:Heap} {a:Addr} {u:HO} (r:Rd H a u) (x:HOk P w H h):ObjOk P w H h a u:= by
 rcases r with r | ⟨o,r⟩
 ·exact x a u r
 ·obtain ⟨_,q⟩:=x a _ r
  exact q
def Mut:Option HO->Prop
 | some (.lst _)=>True
 | some (.dK _)=>True
 | some (.dT _)=>True
 | some (.set _ _)=>True
 | some (.ins _ _ _)=>True
 | some (.ext _)=>True
 | _=>False
section
variable {P:Program} {w:World} {H:Hp} {h h':Heap} {x e:Addr} {o':HO}
theorem HOk.write (ok:HOk P w H h) (mu:Mut (H x)) (he:e=x\/H e=some (.own x)) (k : ∀ b u,b≠e->h.get? b=some u->h'.get? b=some u) (heo : ∃ u,h'.get? e=some u)
  (new:ObjOk P w (upd H x o') h' x o'):HOk P w (upd H x o') h':=fun b u q=>by
 have nown : ∀ c y,H c=some (.own y)->c≠x:=fun c y r z=>by subst z;rw[r] at mu;exact mu
 have ntup : ∀ c xs,H c=some (.tup xs)->c≠x:=fun c xs r z=>by subst z;rw[r] at mu;exact mu
 by_cases hb:b=x
 ·subst hb;rw[upd_same] at q;cases q;exact new
 ·rw[upd_ne hb] at q
  by_cases hbe:b=e
  ·have q':H b=some (.own x):= by
    rcases he with z | z
    ·exact absurd (hbe.trans z) hb
    ·rw[hbe];exact z
   rw[q] at q';cases q'
   obtain ⟨v,hv⟩:=heo
   exact ⟨v,by rw[hbe];exact hv⟩
  ·refine (ok b u q).stay (fun c v hc r=>k c v ?_ r) (fun c r=>by rw[upd_ne (nown c b r)];exact r) fun c xs r=>by rw[upd_ne (ntup c xs r)];exact r
   rcases hc with rfl | hc
   ·exact hbe
   ·rintro rfl
    rcases he with z | z
    ·exact nown c b hc z
    ·rw[hc] at z;cases z;exact hb rfl
end
structure Un (fs ex:List Addr) (H H':Hp) (h h':Heap):Prop where
 keep : ∀ b o,h.get? b=some o->H b=none->b ∉ fs->b ∉ ex->h'.get? b=some o
 slot : ∀ b o,h.get? b=some o->H b=none->b ∈ fs->b ∉ ex -> ∃ sl,h'.get? b=some { o with slots:=sl }
 free : ∀ b o,h.get? b=some o->H b=none->b ∉ ex->H' b=none
 there : ∀ b o,h.get? b=some o->b ∉ ex -> ∃ o',h'.get? b=some o'
 tups : ∀ b xs,H b=some (.tup xs)->H' b=some (.tup xs)
 frzs : ∀ b o u,H b=some (.frz o u)->H' b=some (.frz o u)
 tbls : ∀ b ps,H b=some (.tbl ps) -> ∃ more,H' b=some (.tbl (ps++more))
section
variable {fs fs' ex ex':List Addr} {H H1 H2:Hp} {h h1 h2 h':Heap} {a x e:Addr} {o:HO}
theorem Un.any (u:Un fs ex H H1 h h1) {b:Addr} {ob:Obj} (q:h.get? b=some ob) (n:H b=none) (hx:b ∉ ex) : ∃ sl,h1.get? b=some { ob with slots:=sl }:= by
 by_cases hb:b ∈ fs
 ·exact u.slot b ob q n hb hx
 ·exact ⟨ob.slots,u.keep b ob q n hb hx⟩
theorem Un.trans (a:Un fs ex H H1 h h1) (b:Un fs ex H1 H2 h1 h2):Un fs ex H H2 h h2 where
 keep:=fun c ob q n hc hx=>b.keep c ob (a.keep c ob q n hc hx) (a.free c ob q n hx) hc hx
 slot:=fun c ob q n hc hx=>by
  obtain ⟨sl,e1⟩:=a.slot c ob q n hc hx
  obtain ⟨sl',e2⟩:=b.slot c _ e1 (a.free c ob q n hx) hc hx
  exact ⟨sl',e2⟩
 free:=fun c ob q n hx=>by
  obtain ⟨o',e1⟩:=a.there c ob q hx
  exact b.free c o' e1 (a.free c ob q n hx) hx
 there:=fun c ob q hx=>by
  obtain ⟨o',e1⟩:=a.there c ob q hx
  exact b.there c o' e1 hx
 tups:=fun c xs q=>b.tups c xs (a.tups c xs q)
 frzs:=fun c ob xs q=>b.frzs c ob xs (a.frzs c ob xs q)
 tbls:=fun c ps q=>by
  obtain ⟨m1,e1⟩:=a.tbls c ps q
  obtain ⟨m2,e2⟩:=b.tbls c _ e1
  exact ⟨m1++m2,by rw[e2,Array.append_assoc]⟩
theorem Un.kept (k : ∀ b u,h.get? b=some u->h'.get? b=some u):Un fs ex H H h h':=
 ⟨fun b ob q _ _ _=>k b ob q,fun b ob q _ _ _=>⟨ob.slots,k b ob q⟩,fun _ _ _ n _=>n,fun b ob q _=>⟨ob,k b ob q⟩,fun _ _ q=>q,fun _ _ _ q=>q,fun _ ps q=>⟨#[],by rw[q];simp⟩⟩
theorem Un.refl:Un fs ex H H h h:=Un.kept fun _ _ q=>q
theorem Un.laid (k : ∀ b u,h.get? b=some u->h'.get? b=some u) (hp:h.objs.size<=a) (hn:H a=none):Un fs ex H (upd H a o) h h' where
 keep:=fun b u q _ _ _=>k b u q
 slot:=fun b u q _ _ _=>⟨u.slots,k b u q⟩
 free:=fun b u q n _=>by rw[upd_ne (Nat.ne_of_lt (Nat.lt_of_lt_of_le (Heap.lt_size q) hp))];exact n
 there:=fun b u q _=>⟨u,k b u q⟩
 tups:=fun b xs q=>by rw[upd_ne (ne_of_none q hn)];exact q
 frzs:=fun b u xs q=>by rw[upd_ne (ne_of_none q hn)];exact q
 tbls:=fun b ps q=>⟨#[],by rw[upd_ne (ne_of_none q hn),q];simp⟩
theorem Un.write (mu:Mut (H x)) (he:e=x\/H e=some (.own x)) (k : ∀ b u,b≠e->h.get? b=some u->h'.get? b=some u) (heo : ∃ u,h'.get? e=some u):Un fs ex H (upd H x o) h h':= by
 have hx : ∀ b,H b=none->b≠x:=fun b n z=>by subst z;rw[n] at mu;exact mu
 have hb : ∀ b,H b=none->b≠e:=fun b n z=>by
  subst z
  rcases he with r | r
  ·exact hx b n r
  ·rw[n] at r;cases r
 have hm : ∀ b u,H b=some u -> ¬ Mut (some u)->b≠x:=fun b u q nm z=>by subst z;rw[q] at mu;exact nm mu
 refine ⟨fun b u q n _ _=>k b u (hb b n) q,fun b u q n _ _=>⟨u.slots,k b u (hb b n) q⟩,fun b u q n _=>by rw[upd_ne (hx b n)];exact n,fun b u q _=>?_,
  fun b xs q=>by rw[upd_ne (hm b _ q fun z=>z)];exact q,fun b u xs q=>by rw[upd_ne (hm b _ q fun z=>z)];exact q,fun b ps q=>⟨#[],by rw[upd_ne (hm b _ q fun z=>z),q];simp⟩⟩
 by_cases hbe:b=e
 ·subst hbe;exact heo
 ·exact ⟨u,k b u hbe q⟩
end
def trk (h:Heap) (H:Hp):List Addr:=(List.range h.objs.size).filter fun a=>(H a).isSome
def hidT (h:Heap) (H:Hp):Heap:=PySem.W.hideAll h (trk h H)
theorem hidT_size (h:Heap) (H:Hp):(hidT h H).objs.size=h.objs.size:=PySem.W.hideAll_size _ _
theorem hidT_get {h:Heap} {H:Hp} {b:Addr} {o:Obj} (e:h.get? b=some o) (n:H b=none):(hidT h H).get? b=some o:=
 PySem.W.hideAll_get _ e fun hm=>by
  have q:(H b).isSome=true:=(List.mem_filter.mp hm).2
  rw[n] at q;simp at q
theorem of_hidT {h:Heap} {H:Hp} {b:Addr} {o:Obj} (e:(hidT h H).get? b=some o):h.get? b=some o/\H b=none:= by
 have e':h.get? b=some o:=PySem.W.of_hideAll (trk h H) e
 refine ⟨e',?_⟩
 cases q:H b with
 | none=>rfl
 | some x=>
  have hm:b ∈ trk h H:=List.mem_filter.mpr ⟨List.mem_range.mpr (Heap.lt_size e'),by simp [q]⟩
  have z:(hidT h H).get? b=none:=PySem.W.hideAll_none (trk h H) hm
  rw[z] at e;cases e
def allNews (g h:Heap) (L:Addr):List (Addr × Obj):=(List.range h.objs.size).filterMap fun a=>if a=L\/(g.get? a).isSome=true then none else (h.get? a).map fun o=>(a,o)
def rest (g h:Heap) (L d:Addr):List (Addr × Obj):=(allNews g h L).filter fun p=>decide (p.1≠d)
end L2
namespace L2
open PySem PySem.Spec PyProof.Rows
structure Mod (K:PySem.W.Frag) (mg:Str->Option Value) (base:Heap):Prop where
 kin:K.In base
 glob:base.Ns mainGlobals mg
 blt : ∃ mb,base.Ns builtinsNs mb /\ ∀ x : Str,x ≠ "__name__" -> mb x = bootBuiltins x
 nolimit:base.NoLimit
structure Cx where
 prog:Program
 w:World
 K:PySem.W.Frag
 mg:Str->Option Value
 base:Heap
 A:Around
 N:List Str
 s₀:Shared
 H₀:Hp
 env:Env
 outer:List Env
 stack:List Env
 ex:List Addr
 fn:Str->Bool
 calm:Bool
 pn:List (Addr × Obj)
 xe:Value->Shared->Prop
def frs (l:List Env):List Addr:=l.filterMap (·.frame)
abbrev Cx.fs (X:Cx):List Addr:=frs X.outer
def Vis (sc:Scope) (x:Str):Prop:=sc.names.lookup x=some .local\/sc.names.lookup x=some .cell\/sc.names.lookup x=some .free
def Loc (sc:Scope) (x:Str):Prop:=sc.names.lookup x=some .local\/sc.names.lookup x=some .cell
def Look (env:Env) (h:Heap) (m:Str->Option Value) (x:Str) (u:Value):Prop:=
 (env.kindOf x=some .local/\m x=some u)\/((env.kindOf x=some .cell\/env.kindOf x=some .free) /\ ∃ c,env.cells.lookup x=some c/\h.IsCell c (some u))
structure Cx.Ok (X:Cx):Prop where
 mod:Mod X.K X.mg X.base
 kind:X.env.scope.kind = .function
 glob:X.env.globals=mainGlobals
 blt:X.env.builtins=builtinsNs
 above:X.s₀.heap.objs.size<=X.env.locals
 inj : ∀ x y c,X.env.cells.lookup x=some c->X.env.cells.lookup y=some c->x=y
 has : ∀ x,(X.env.kindOf x=some .cell\/X.env.kindOf x=some .free) -> ∃ c,X.env.cells.lookup x=some c
 cab : ∀ x c,X.fn x=true->X.env.cells.lookup x=some c->X.s₀.heap.objs.size<=c
 hd:X.calm=true->X.A.handled=none
 frames:X.A.frames=some X.stack
 stk:X.stack=X.outer\/(X.stack=X.env::X.outer/\X.env.frame=some X.env.locals)
 exf : ∀ b ∈ X.ex,b≠X.env.locals /\ ∀ x c,X.env.cells.lookup x=some c->c≠b
 bs : ∀ b o,X.base.get? b=some o->X.s₀.heap.get? b=some o/\X.H₀ b=none
 bsz:X.base.objs.size<=X.s₀.heap.objs.size
 noex : ∀ b o,X.base.get? b=some o->b ∉ X.ex
 exfs : ∀ b ∈ X.ex,b ∉ X.fs
 funs:X.s₀.heap.FunFrames X.base X.outer
 frf : ∀ b ∈ X.fs,X.H₀ b=none
structure Inv (X:Cx) (pins:List (Addr × Obj)) (σ:List (Option V)) (H:Hp) (s:Shared):Prop where
 ok:X.Ok
 os:s.os=X.s₀.os
 bare:AllBare s.gens
 base:Un X.fs X.ex X.H₀ H X.s₀.heap s.heap
 loc : ∃ m,s.heap.Ns X.env.locals m /\ ∀ (i:Nat) (x:Str) (v:V),X.N[i]?=some x->σ[i]?=some (some v)->Vis X.env.scope x -> ∃ u,RelV v u/\Look X.env s.heap m x u
 cell : ∀ x c,X.env.cells.lookup x=some c -> ∃ v,s.heap.IsCell c v
 free:H X.env.locals=none
 freeC : ∀ x c,X.env.cells.lookup x=some c->H c=none
 pin : ∀ p ∈ X.pn++pins,s.heap.get? p.1=some p.2/\H p.1=none/\p.1≠X.env.locals/\p.1 ∉ X.fs /\ ∀ v,p.2.data ≠ .cell v
 hok:HOk X.prog X.w H s.heap
 len:σ.length=X.N.length
section
variable {X:Cx} {pins:List (Addr × Obj)} {σ:List (Option V)} {H H':Hp} {s:Shared} {h':Heap}
theorem Cx.Ok.nofr (ok:X.Ok) {b:Addr} {o:Obj} (e:X.base.get? b=some o):b ∉ X.fs:=fun hb=>by
 have:=(ok.funs.mem hb).1
 rw[e] at this;cases this
theorem Inv.bs (I:Inv X pins σ H s) : ∀ b o,X.base.get? b=some o->s.heap.get? b=some o/\H b=none:=fun b o e=>
 ⟨I.base.keep b o (I.ok.bs b o e).1 (I.ok.bs b o e).2 (I.ok.nofr e) (I.ok.noex b o e),I.base.free b o (I.ok.bs b o e).1 (I.ok.bs b o e).2 (I.ok.noex b o e)⟩
theorem Inv.bk (I:Inv X pins σ H s) : ∀ b o,X.base.get? b=some o->s.heap.get? b=some o:=fun b o e=>(I.bs b o e).1
theorem Inv.mod (I:Inv X pins σ H s):Mod X.K X.mg X.base:=I.ok.mod
theorem Inv.kIn (I:Inv X pins σ H s):X.K.In s.heap:=I.ok.mod.kin.keeps I.bk
theorem Inv.nolimit (I:Inv X pins σ H s):s.heap.NoLimit:=I.ok.mod.nolimit.keeps I.bk
theorem Inv.fr (I:Inv X pins σ H s) : ∃ m,Fr X.base X.env.locals s.heap m:=
 let ⟨m,hn,_⟩:=I.loc
 ⟨m,hn,I.bk,Nat.le_trans I.ok.bsz I.ok.above⟩
theorem Inv.lt (I:Inv X pins σ H s):X.env.locals<s.heap.objs.size:=let ⟨_,hn,_⟩:=I.loc;hn.lt
theorem Inv.sz (I:Inv X pins σ H s):X.s₀.heap.objs.size<=s.heap.objs.size:=Nat.le_trans I.ok.above (Nat.le_of_lt I.lt)
theorem Inv.nofs (I:Inv X pins σ H s) {a:Addr} (h:s.heap.objs.size<=a):a ∉ X.fs:=fun hb=>by
 obtain ⟨_,o,ho,_⟩:=I.ok.funs.mem hb
 exact absurd (Nat.lt_of_lt_of_le (Heap.lt_size ho) (Nat.le_trans I.sz h)) (Nat.lt_irrefl _)
theorem Inv.cne (I:Inv X pins σ H s) : ∀ x c,X.env.cells.lookup x=some c->c≠X.env.locals:=fun x c e z=>by
 obtain ⟨v,o,ho,hd⟩:=I.cell x c e
 obtain ⟨m,⟨o',es,ep,ho',hd',_⟩,_⟩:=I.loc
 rw[z,ho'] at ho;cases ho;rw[hd'] at hd;cases hd
theorem Inv.funs (I:Inv X pins σ H s):s.heap.FunFrames X.base X.outer:= by
 have all : ∀ (l:List Env),(∀ b ∈ frs l,b ∈ X.fs)->X.s₀.heap.FunFrames X.base l->s.heap.FunFrames X.base l:= by
  intro l
  induction l with
  | nil=>intro _ _;trivial
  | cons env r ih=>
   intro hs hl
   obtain ⟨hk,⟨L,o,hf,hn,ho,hd⟩,hr⟩:=hl
   have hL:L ∈ X.fs:=hs L (by unfold frs;rw[List.filterMap_cons,hf];exact List.mem_cons_self)
   obtain ⟨sl,e⟩:=I.base.slot L o ho (I.ok.frf L hL) hL fun z=>I.ok.exfs L z hL
   exact ⟨hk,⟨L,_,hf,hn,e,hd⟩,ih (fun b hb=>hs b (by unfold frs;rw[List.filterMap_cons,hf];exact List.mem_cons_of_mem _ hb)) hr⟩
 exact all X.outer (fun _ hb=>hb) I.ok.funs
theorem Inv.stack (I:Inv X pins σ H s):s.heap.FunFrames X.base X.stack:= by
 rcases I.ok.stk with e | ⟨e,hf⟩
 ·rw[e];exact I.funs
 ·rw[e]
  obtain ⟨m,hn,_⟩:=I.loc
  refine .cons (by rw[I.ok.kind];decide) hf hn ?_ I.funs
  exact Heap.get?_none_of_le (Nat.le_trans I.ok.bsz I.ok.above)
theorem Inv.stkSub (I:Inv X pins σ H s) : ∀ b ∈ frs X.stack,b ∈ X.env.locals::X.fs:=fun b hb=>by
 rcases I.ok.stk with e | ⟨e,hf⟩
 ·rw[e] at hb;exact List.mem_cons_of_mem _ hb
 ·rw[e] at hb
  unfold frs at hb
  rw[List.filterMap_cons,hf] at hb
  exact hb
theorem Inv.stkFree (I:Inv X pins σ H s) : ∀ b ∈ frs X.stack,H b=none:=fun b hb=>by
 rcases List.mem_cons.mp (I.stkSub b hb) with e | hb
 ·rw[e];exact I.free
 ·obtain ⟨_,o,ho,_⟩:=I.ok.funs.mem hb
  exact I.base.free b o ho (I.ok.frf b hb) fun z=>I.ok.exfs b z hb
theorem Inv.step {g':Array GenState} {t':Nat} {d':Drawn} {ch:List Addr} (I:Inv X pins σ H s)
  (hch : ∀ b ∈ ch,(b ∈ X.ex\/X.s₀.heap.objs.size<=b)/\b≠X.env.locals/\(∀ x c,X.env.cells.lookup x=some c->c≠b) /\ ∀ p ∈ X.pn++pins,p.1≠b)
  (keep : ∀ b o,b≠X.env.locals->b ∉ X.fs->b ∉ ch->s.heap.get? b=some o->H b=none->h'.get? b=some o)
  (slot : ∀ b o,b≠X.env.locals->b ∈ X.fs->b ∉ ch->s.heap.get? b=some o->H b=none -> ∃ sl,h'.get? b=some { o with slots:=sl }) (free : ∀ b o,b ∉ ch->s.heap.get? b=some o->H b=none->H' b=none)
  (there : ∀ b o,b ∉ ch->s.heap.get? b=some o -> ∃ o',h'.get? b=some o')
  (tups : ∀ b xs,H b=some (.tup xs)->H' b=some (.tup xs)) (frzs : ∀ b o u,H b=some (.frz o u)->H' b=some (.frz o u)) (tbls : ∀ b ps,H b=some (.tbl ps) -> ∃ more,H' b=some (.tbl (ps++more)))
  (ns : ∀ m,s.heap.Ns X.env.locals m->h'.Ns X.env.locals m) (hok:HOk X.prog X.w H' h') (hg:AllBare g') :
  Inv X pins σ H' { s with heap:=h',gens:=g',drawn:=d',toks:=t' }:= by
 have neL : ∀ b o,X.s₀.heap.get? b=some o->b≠X.env.locals:=fun b o e=>Nat.ne_of_lt (Nat.lt_of_lt_of_le (Heap.lt_size e) I.ok.above)
 have neC : ∀ b o,X.s₀.heap.get? b=some o->b ∉ X.ex->b ∉ ch:=fun b o e hx hb=>by
  rcases (hch b hb).1 with z | z
  ·exact hx z
  ·exact absurd (Nat.lt_of_lt_of_le (Heap.lt_size e) z) (Nat.lt_irrefl _)
 have cellK : ∀ x c,X.env.cells.lookup x=some c -> ∀ v,s.heap.IsCell c v->h'.IsCell c v:=fun x c e v ⟨o,ho,hd⟩=>by
  have nch:c ∉ ch:=fun z=>(hch c z).2.2.1 x c e rfl
  by_cases hc:c ∈ X.fs
  ·obtain ⟨sl,q⟩:=slot c o (I.cne x c e) hc nch ho (I.freeC x c e)
   exact ⟨_,q,hd⟩
  ·exact ⟨o,keep c o (I.cne x c e) hc nch ho (I.freeC x c e),hd⟩
 refine ⟨I.ok,I.os,hg,⟨fun b o e n hb hx=>?_,fun b o e n hb hx=>?_,fun b o e n hx=>?_,fun b o e hx=>?_,fun b xs e=>tups b xs (I.base.tups b xs e),fun b o xs e=>frzs b o xs (I.base.frzs b o xs e),fun b ps e=>?_⟩,?_,fun x c e=>?_,?_,fun x c e=>?_,fun p hp=>?_,hok,I.len⟩
 ·exact keep b o (neL b o e) hb (neC b o e hx) (I.base.keep b o e n hb hx) (I.base.free b o e n hx)
 ·obtain ⟨sl,e1⟩:=I.base.slot b o e n hb hx
  obtain ⟨sl',e2⟩:=slot b _ (neL b o e) hb (neC b o e hx) e1 (I.base.free b o e n hx)
  exact ⟨sl',e2⟩
 ·obtain ⟨o',e1⟩:=I.base.there b o e hx
  exact free b o' (neC b o e hx) e1 (I.base.free b o e n hx)
 ·obtain ⟨o',e1⟩:=I.base.there b o e hx
  exact there b o' (neC b o e hx) e1
 ·obtain ⟨m1,e1⟩:=I.base.tbls b ps e
  obtain ⟨m2,e2⟩:=tbls b _ e1
  exact ⟨m1++m2,by rw[e2,Array.append_assoc]⟩
 ·obtain ⟨m,hn,hl⟩:=I.loc
  refine ⟨m,ns m hn,fun i x v e1 e2 e3=>?_⟩
  obtain ⟨u,r,l⟩:=hl i x v e1 e2 e3
  refine ⟨u,r,?_⟩
  rcases l with l | ⟨k,c,e,z⟩
  ·exact .inl l
  ·exact .inr ⟨k,c,e,cellK x c e _ z⟩
 ·obtain ⟨v,z⟩:=I.cell x c e
  exact ⟨v,cellK x c e v z⟩
 ·obtain ⟨m,⟨o,_,_,ho,_⟩,_⟩:=I.loc
  exact free _ o (fun z=>(hch _ z).2.1 rfl) ho I.free
 ·obtain ⟨v,o,ho,hd⟩:=I.cell x c e
  exact free c o (fun z=>(hch c z).2.2.1 x c e rfl) ho (I.freeC x c e)
 ·obtain ⟨e,n,ne,nf,d⟩:=I.pin p hp
  have nch:p.1 ∉ ch:=fun z=>(hch p.1 z).2.2.2 p hp rfl
  exact ⟨keep p.1 p.2 ne nf nch e n,free p.1 p.2 nch e n,ne,nf,d⟩
theorem Inv.un {t':Nat} (I:Inv X pins σ H s) (u:Un X.fs [] H H' s.heap h') (hok:HOk X.prog X.w H' h'):Inv X pins σ H' { s with heap:=h',toks:=t' }:= by
 obtain ⟨m,⟨o,es,ep,ho,r⟩,_⟩:=id I.loc
 obtain ⟨sl,hL⟩:=u.any ho I.free (by simp)
 exact I.step (g':=s.gens) (d':=s.drawn) (ch:=[]) (fun _ z=>nomatch z) (fun b o _ hb _ e n=>u.keep b o e n hb (by simp)) (fun b o _ hb _ e n=>u.slot b o e n hb (by simp)) (fun b o _ e n=>u.free b o e n (by simp)) (fun b o _ e=>u.there b o e (by simp)) u.tups u.frzs u.tbls (fun m' hm=>by
  obtain ⟨o',es',ep',ho',r'⟩:=hm
  rw[ho] at ho';cases ho'
  exact ⟨_,es',ep',hL,r'⟩) hok I.bare
theorem Inv.call {g':Array GenState} {t':Nat} {d':Drawn} {ch:List Addr} (I:Inv X pins σ H s) (u:Un (frs X.stack) ch H H' s.heap h') (hok:HOk X.prog X.w H' h') (hg:AllBare g')
  (hch : ∀ b ∈ ch,(b ∈ X.ex\/X.s₀.heap.objs.size<=b)/\b≠X.env.locals/\(∀ x c,X.env.cells.lookup x=some c->c≠b) /\ ∀ p ∈ X.pn++pins,p.1≠b) :
  Inv X pins σ H' { s with heap:=h',gens:=g',drawn:=d',toks:=t' }:= by
 obtain ⟨m,⟨o,es,ep,ho,r⟩,_⟩:=id I.loc
 obtain ⟨sl,hL⟩:=u.any ho I.free fun z=>(hch _ z).2.1 rfl
 exact I.step (ch:=ch) hch (fun b o hL hb hc e n=>u.keep b o e n (fun z=>(List.mem_cons.mp (I.stkSub b z)).elim hL hb) hc) (fun b o _ _ hc e n=>u.any e n hc) (fun b o hc e n=>u.free b o e n hc) (fun b o hc e=>u.there b o e hc) u.tups u.frzs u.tbls (fun m' hm=>by
  obtain ⟨o',es',ep',ho',r'⟩:=hm
  rw[ho] at ho';cases ho'
  exact ⟨_,es',ep',hL,r'⟩) hok hg
theorem Inv.turned {t':Nat} {it:Addr} (I:Inv X pins σ H s) (k : ∀ b o,b≠it->s.heap.get? b=some o->h'.get? b=some o) (hn:H it=none) (hL:it≠X.env.locals)
  (h1:it ∈ X.ex\/X.s₀.heap.objs.size<=it) (h2 : ∀ x c,X.env.cells.lookup x=some c->c≠it) (h3 : ∀ p ∈ X.pn++pins,p.1≠it):Inv X pins σ H { s with heap:=h',toks:=t' }:= by
 have nit : ∀ b u,H b=some u->b≠it:=fun b u e z=>by rw[z,hn] at e;cases e
 refine I.step (g':=s.gens) (d':=s.drawn) (ch:=[it]) (fun b hb=>?_) (fun b o _ _ hc e _=>k b o (fun z=>hc (by simp [z])) e) (fun b o _ _ hc e _=>⟨o.slots,k b o (fun z=>hc (by simp [z])) e⟩) (fun _ _ _ _ n=>n)
  (fun b o hc e=>⟨o,k b o (fun z=>hc (by simp [z])) e⟩) (fun _ _ e=>e) (fun _ _ _ e=>e) (fun b ps e=>⟨#[],by rw[e];simp⟩) (fun m hm=>?_) (fun b u e=>?_) I.bare
 ·have e:b=it:=by simpa using hb
  subst e
  exact ⟨h1,hL,h2,h3⟩
 ·obtain ⟨o,es,ep,ho,r⟩:=hm
  exact ⟨o,es,ep,k _ o (Ne.symm hL) ho,r⟩
 ·refine (I.hok b u e).stay (fun c v hc q=>k c v ?_ q) (fun _ q=>q) fun _ _ q=>q
  rcases hc with z | z
  ·rw[z];exact nit b u e
  ·exact nit c _ z
theorem Inv.tok (I:Inv X pins σ H s) (t:Nat):Inv X pins σ H { s with toks:=t }:=I.un (h':=s.heap) (t':=t) Un.refl I.hok
theorem Inv.kept {t':Nat} (I:Inv X pins σ H s) (k : ∀ b u,s.heap.get? b=some u->h'.get? b=some u):Inv X pins σ H { s with heap:=h',toks:=t' }:=I.un (Un.kept k) (I.hok.kept k)
theorem Inv.laid {a:Addr} {o:HO} {t':Nat} (I:Inv X pins σ H s) (k : ∀ b u,s.heap.get? b=some u->h'.get? b=some u) (hp:s.heap.objs.size<=a) (new:ObjOk X.prog X.w (upd H a o) h' a o) :
  Inv X pins σ (upd H a o) { s with heap:=h',toks:=t' }:=I.un (Un.laid k hp (I.hok.fresh hp)) (I.hok.laid k hp new)
theorem Inv.write {x e:Addr} {o:HO} {t':Nat} (I:Inv X pins σ H s) (mu:Mut (H x)) (he:e=x\/H e=some (.own x)) (k : ∀ b u,b≠e->s.heap.get? b=some u->h'.get? b=some u) (heo : ∃ u,h'.get? e=some u)
  (new:ObjOk X.prog X.w (upd H x o) h' x o):Inv X pins σ (upd H x o) { s with heap:=h',toks:=t' }:=I.un (Un.write mu he k heo) (I.hok.write mu he k heo new)
theorem Inv.weak {σ':List (Option V)} (I:Inv X pins σ H s) (hl:σ'.length=σ.length) (w : ∀ (i:Nat) v,σ'[i]?=some (some v)->σ[i]?=some (some v)):Inv X pins σ' H s:=
 ⟨I.ok,I.os,I.bare,I.base,let ⟨m,hn,hl'⟩:=I.loc;⟨m,hn,fun i x v e1 e2 e3=>hl' i x v e1 (w i v e2) e3⟩,I.cell,I.free,I.freeC,I.pin,I.hok,hl.trans I.len⟩
theorem Inv.pins_of {pins':List (Addr × Obj)} (I:Inv X pins σ H s) (h : ∀ p ∈ pins',s.heap.get? p.1=some p.2/\H p.1=none/\p.1≠X.env.locals/\p.1 ∉ X.fs /\ ∀ v,p.2.data ≠ .cell v):Inv X pins' σ H s:=
 ⟨I.ok,I.os,I.bare,I.base,I.loc,I.cell,I.free,I.freeC,fun p hp=>(List.mem_append.mp hp).elim (fun z=>I.pin p (List.mem_append_left _ z)) (h p),I.hok,I.len⟩
theorem nodup_ix {N:List Str} (hN:N.Nodup) {i j:Nat} {x:Str} (a:N[i]?=some x) (b:N[j]?=some x):i=j:= by
 obtain ⟨h1,e1⟩:=List.getElem?_eq_some_iff.mp a
 obtain ⟨h2,e2⟩:=List.getElem?_eq_some_iff.mp b
 exact (List.getElem_inj hN).mp (e1.trans e2.symm)
theorem store_ok2 {M:Model} {A:Around} {E:Value->Shared->Prop} {i:Nat} {x:Str} {v:V} {u:Value} {Q:Unit->Shared->Prop} (I:Inv X pins σ H s) (hN:X.N.Nodup) (hi:X.N[i]?=some x) (hx:Loc X.env.scope x) (r:RelV v u)
  (h : ∀ s',Inv X pins (σ.set i (some v)) H s'->(∃ a,Heap.SameBut a s.heap s'.heap/\(a=X.env.locals\/X.env.cells.lookup x=some a))->Q () s') (hf:X.fn x=true\/X.env.scope.names.lookup x=some .local:=by first | exact .inl rfl | exact .inr rfl | assumption):wpAny M A (storeName X.env x u) Q E s:= by
 obtain ⟨m,hn,hl⟩:=id I.loc
 have hcls:(X.env.scope.kind == .class||(X.env.scope.kind == .module&&X.env.locals != X.env.globals))=false:=by rw[I.ok.kind];rfl
 have hiσ:i<σ.length:=by rw[I.len];exact (List.getElem?_eq_some_iff.mp hi).1
 have cne:=I.cne
 have tracked : ∀ {a:Addr} {h':Heap},(∃ o,s.heap.get? a=some o/\H a=none)->Heap.SameBut a s.heap h'->HOk X.prog X.w H h':=fun {a h'} ha hs b ob e=>by
  obtain ⟨_,_,hfree⟩:=ha
  refine (I.hok b ob e).stay (fun c w' hc q=>(hs.2 c ?_).trans q) (fun _ q=>q) fun _ _ q=>q
  rintro rfl
  rcases hc with rfl | hc
  ·rw[hfree] at e;cases e
  ·rw[hfree] at hc;cases hc
 rcases hx with hk | hk
 ·refine wpAny_storeName_local hk hn (fun h' hn' hs=>?_) hcls
  obtain ⟨oL,_,_,hoL,_⟩:=id hn
  refine h _ ⟨I.ok,I.os,I.bare,⟨fun b o e n hb hx=>?_,fun b o e n hb hx=>?_,I.base.free,fun b o e hx=>?_,I.base.tups,I.base.frzs,I.base.tbls⟩,⟨_,hn',fun j y v' e1 e2 e3=>?_⟩,fun y c e=>?_,I.free,I.freeC,fun p hp=>?_,tracked ⟨oL,hoL,I.free⟩ hs,by simpa using I.len⟩ ⟨_,hs,.inl rfl⟩
  ·exact (hs.2 b (Nat.ne_of_lt (Nat.lt_of_lt_of_le (Heap.lt_size e) I.ok.above))).trans (I.base.keep b o e n hb hx)
  ·obtain ⟨sl,e1⟩:=I.base.slot b o e n hb hx
   exact ⟨sl,(hs.2 b (Nat.ne_of_lt (Nat.lt_of_lt_of_le (Heap.lt_size e) I.ok.above))).trans e1⟩
  ·obtain ⟨o',e1⟩:=I.base.there b o e hx
   exact ⟨o',(hs.2 b (Nat.ne_of_lt (Nat.lt_of_lt_of_le (Heap.lt_size e) I.ok.above))).trans e1⟩
  ·by_cases hj:j=i
   ·subst hj
    rw[hi] at e1;cases e1
    rw[List.getElem?_set_self hiσ] at e2
    cases e2
    exact ⟨u,r,.inl ⟨hk,by simp⟩⟩
   ·rw[List.getElem?_set_ne (Ne.symm hj)] at e2
    obtain ⟨u',r',q⟩:=hl j y v' e1 e2 e3
    refine ⟨u',r',?_⟩
    rcases q with ⟨k,e⟩ | ⟨k,c,e,z⟩
    ·refine .inl ⟨k,?_⟩
     have:y≠x:=fun e=>hj (nodup_ix hN e1 (e ▸ hi))
     simp [this,e]
    ·exact .inr ⟨k,c,e,z.sameBut hs (cne y c e)⟩
  ·obtain ⟨w',z⟩:=I.cell y c e
   exact ⟨w',z.sameBut hs (cne y c e)⟩
  ·obtain ⟨e,n,ne,nf,d⟩:=I.pin p hp
   exact ⟨(hs.2 p.1 ne).trans e,n,ne,nf,d⟩
 ·have hfn:X.fn x=true:= by
   rcases hf with z | z
   ·exact z
   ·rw[z] at hk;cases hk
  obtain ⟨c,hc⟩:=I.ok.has x (.inl hk)
  obtain ⟨w',z⟩:=I.cell x c hc
  refine wpAny_storeName_cell I.ok.kind hk hc z (fun h' hc' hs=>?_)
  obtain ⟨oc,hoc,hocd⟩:=id z
  refine h { s with heap:=h' } ⟨I.ok,I.os,I.bare,⟨fun b o e n hb hx=>?_,fun b o e n hb hx=>?_,I.base.free,fun b o e hx=>?_,I.base.tups,I.base.frzs,I.base.tbls⟩,⟨m,hn.sameBut hs (Ne.symm (cne x c hc)),fun j y v' e1 e2 e3=>?_⟩,fun y c' e=>?_,I.free,I.freeC,fun p hp=>?_,tracked ⟨oc,hoc,I.freeC x c hc⟩ hs,by simpa using I.len⟩ ⟨c,hs,.inr hc⟩
  ·exact (hs.2 b (Nat.ne_of_lt (Nat.lt_of_lt_of_le (Heap.lt_size e) (I.ok.cab x c hfn hc)))).trans (I.base.keep b o e n hb hx)
  ·obtain ⟨sl,e1⟩:=I.base.slot b o e n hb hx
   exact ⟨sl,(hs.2 b (Nat.ne_of_lt (Nat.lt_of_lt_of_le (Heap.lt_size e) (I.ok.cab x c hfn hc)))).trans e1⟩
  ·obtain ⟨o',e1⟩:=I.base.there b o e hx
   exact ⟨o',(hs.2 b (Nat.ne_of_lt (Nat.lt_of_lt_of_le (Heap.lt_size e) (I.ok.cab x c hfn hc)))).trans e1⟩
  ·by_cases hj:j=i
   ·subst hj
    rw[hi] at e1;cases e1
    rw[List.getElem?_set_self hiσ] at e2
    cases e2
    exact ⟨u,r,.inr ⟨.inl hk,c,hc,hc'⟩⟩
   ·rw[List.getElem?_set_ne (Ne.symm hj)] at e2
    obtain ⟨u',r',q⟩:=hl j y v' e1 e2 e3
    refine ⟨u',r',?_⟩
    rcases q with q | ⟨k,c',e,z'⟩
    ·exact .inl q
    ·refine .inr ⟨k,c',e,z'.sameBut hs ?_⟩
     rintro rfl
     exact hj (nodup_ix hN e1 (I.ok.inj _ _ _ e hc ▸ hi))
  ·by_cases hcc:c'=c
   ·subst hcc;exact ⟨_,hc'⟩
   ·obtain ⟨w2,z2⟩:=I.cell y c' e
    exact ⟨w2,z2.sameBut hs hcc⟩
  ·obtain ⟨e,n,ne,nf,d⟩:=I.pin p hp
   refine ⟨(hs.2 p.1 ?_).trans e,n,ne,nf,d⟩
   intro q
   rw[q,hoc] at e
   have q':oc=p.2:=Option.some.inj e
   exact d w' (by rw[<- q'];exact hocd)
theorem store_ok {M:Model} {A:Around} {E:Value->Shared->Prop} {i:Nat} {x:Str} {v:V} {u:Value} {Q:Unit->Shared->Prop} (I:Inv X pins σ H s) (hN:X.N.Nodup) (hi:X.N[i]?=some x) (hx:Loc X.env.scope x) (r:RelV v u)
  (h : ∀ s',Inv X pins (σ.set i (some v)) H s'->Q () s') (hf:X.fn x=true\/X.env.scope.names.lookup x=some .local:=by first | exact .inl rfl | exact .inr rfl | assumption):wpAny M A (storeName X.env x u) Q E s:=
 store_ok2 I hN hi hx r (fun s' I' _=>h s' I') hf
theorem Inv.call' {s':Shared} {ch:List Addr} (I:Inv X pins σ H s) (ho:s'.os=s.os) (u:Un (frs X.stack) ch H H' s.heap s'.heap) (hok:HOk X.prog X.w H' s'.heap) (hg:AllBare s'.gens)
  (hch : ∀ b ∈ ch,(b ∈ X.ex\/X.s₀.heap.objs.size<=b)/\b≠X.env.locals/\(∀ x c,X.env.cells.lookup x=some c->c≠b) /\ ∀ p ∈ X.pn++pins,p.1≠b):Inv X pins σ H' s':= by
 obtain ⟨h',g',d',t',o'⟩:=s'
 have e:o'=s.os:=ho
 subst e
 exact I.call (g':=g') (t':=t') (d':=d') u hok hg hch
end
abbrev XK:=Value->Option Addr->Hp->Prop
abbrev St:=List (Option V)
abbrev VK:=V->Hp->Prop
abbrev TE:=St->Hp->VK->Prop
abbrev TT:=St->Hp->(Bool->Hp->Prop)->Prop
abbrev TA:=St->Hp->(List V->Hp->Prop)->Prop
structure Ends where
 nx:St->Hp->Prop
 rt:VK
 bk:St->Hp->Prop:=fun _ _=>False
 ct:St->Hp->Prop:=fun _ _=>False
abbrev TS:=Ends->St->Hp->Prop
def EP (X:Cx) (pins:List (Addr × Obj)) (σ:St) (Q:VK) (u:Value) (s':Shared):Prop:=∃ v H',Inv X pins σ H' s'/\RelV v u/\Q v H'
def TP (X:Cx) (pins:List (Addr × Obj)) (σ:St) (Q:Bool->Hp->Prop) (b:Bool) (s':Shared):Prop:=∃ H',Inv X pins σ H' s'/\Q b H'
def AP (X:Cx) (pins:List (Addr × Obj)) (σ:St) (Q:List V->Hp->Prop) (us:List Value) (s':Shared):Prop:=∃ vs H',Inv X pins σ H' s'/\Vals vs us/\Q vs H'
def SP (X:Cx) (pins:List (Addr × Obj)) (D:Ends) (f:Flow) (s':Shared):Prop:=
 match f with
 | .next=>∃ σ' H',Inv X pins σ' H' s'/\D.nx σ' H'
 | .brk=>∃ σ' H',Inv X pins σ' H' s'/\D.bk σ' H'
 | .cont=>∃ σ' H',Inv X pins σ' H' s'/\D.ct σ' H'
 | .ret u=>∃ v σ' H',Inv X pins σ' H' s'/\RelV v u/\D.rt v H'
def PE (X:Cx) (e:Expr) (t:TE):Prop:=
 ∀ (pins:List (Addr × Obj)) (s:Shared) (σ:St) (H:Hp) (Q:VK),Inv X pins σ H s->t σ H Q->wpAny (model X.prog X.w) X.A (eval e X.env) (EP X pins σ Q) X.xe s
def PT (X:Cx) (e:Expr) (t:TT):Prop:=
 ∀ (pins:List (Addr × Obj)) (s:Shared) (σ:St) (H:Hp) (Q:Bool->Hp->Prop),Inv X pins σ H s->t σ H Q->wpAny (model X.prog X.w) X.A (isTrue e X.env (eval e X.env)) (TP X pins σ Q) X.xe s
def PW (X:Cx) (e:Expr) (t:TT):Prop:=
 ∀ (whole:Sem Value) (pins:List (Addr × Obj)) (s:Shared) (σ:St) (H:Hp) (Q:Bool->Hp->Prop),Inv X pins σ H s->t σ H Q->wpAny (model X.prog X.w) X.A (isTrue e X.env whole) (TP X pins σ Q) X.xe s
theorem PW.pt {X:Cx} {e:Expr} {t:TT} (h:PW X e t):PT X e t:=h _
def PA (X:Cx) (es:List Expr) (t:TA):Prop:=
 ∀ (pos:Pos) (pins:List (Addr × Obj)) (s:Shared) (σ:St) (H:Hp) (Q:List V->Hp->Prop),Inv X pins σ H s->t σ H Q->wpAny (model X.prog X.w) X.A (spliced (backTo pos (starEach es X.env))) (AP X pins σ Q) X.xe s
def PS (X:Cx) (st:Stmt) (t:TS):Prop:=
 ∀ (pins:List (Addr × Obj)) (s:Shared) (σ:St) (H:Hp) (D:Ends),Inv X pins σ H s->t D σ H->wpAny (model X.prog X.w) X.A (exec st X.env) (SP X pins D) X.xe s
def PSs (X:Cx) (st:List Stmt) (t:TS):Prop:=
 ∀ (pins:List (Addr × Obj)) (s:Shared) (σ:St) (H:Hp) (D:Ends),Inv X pins σ H s->t D σ H->wpAny (model X.prog X.w) X.A (execs st X.env) (SP X pins D) X.xe s
theorem thn {α:Type} {t:Sem α} {Q Q':α->Shared->Prop} {M:Model} {A:Around} {E:Value->Shared->Prop} {s:Shared} (h:wpAny M A t Q E s) (hQ : ∀ a s,Q a s->Q' a s):wpAny M A t Q' E s:=wpAny_mono h hQ fun _ _ x=>x
end L2
namespace L2
open PySem PySem.Spec PyProof.Rows
section
variable {X:Cx}
theorem bin {a b:Expr} {ta tb:TE} (ha:PE X a ta) (hb:PE X b tb) {pins:List (Addr × Obj)} {s:Shared} {σ:St} {H:Hp} {R:V->V->Hp->Prop} (I:Inv X pins σ H s) (h:ta σ H fun x H1=>tb σ H1 fun y H2=>R x y H2)
  {α:Type} {Q:α->Shared->Prop} {f:Value->Value->Sem α}
  (hf : ∀ v u s2 x y H2,Inv X pins σ H2 s2->RelV x v->RelV y u->R x y H2->wpAny (model X.prog X.w) X.A (f v u) Q X.xe s2) :
  wpAny (model X.prog X.w) X.A (eval a X.env) (fun v s₁=>wpAny (model X.prog X.w) X.A (eval b X.env) (fun u s₂=>wpAny (model X.prog X.w) X.A (f v u) Q X.xe s₂) X.xe s₁) X.xe s:= by
 refine thn (ha pins s σ H _ I h) fun v s1 ⟨x,H1,I1,r1,q1⟩=>?_
 refine thn (hb pins s1 σ H1 _ I1 q1) fun u s2 ⟨y,H2,I2,r2,q2⟩=>?_
 exact hf v u s2 x y H2 I2 r1 r2 q2
def tVar (i:Nat):TE:=fun σ H Q=>∃ v,σ[i]?=some (some v)/\Q v H
def tC (v:V):TE:=fun _ H Q=>Q v H
theorem pe_var {i : Nat} {x : Str} {pos : Pos} (hN : X.N[i]? = some x) (hv : Vis X.env.scope x) (hd : (x == ("__debug__" : Str)) = false:=by decide) (hcd : (x == ("__classdict__" : Str)) = false:=by decide) : PE X (.Name x pos) (tVar i):= by
 intro pins s σ H Q I h
 obtain ⟨v,e,h⟩:=h
 obtain ⟨m,hn,hl⟩:=I.loc
 obtain ⟨u,r,l⟩:=hl i x v hN e hv
 have fin:EP X pins σ Q u s:=⟨v,H,I,r,h⟩
 rcases l with ⟨hk,hm⟩ | ⟨hk,c,hc,hcell⟩
 ·exact wpAny_Name (wpAny_loadName_local I.ok.kind hk hn hm fin) hd
 ·rcases hk with hk | hk
  ·exact wpAny_Name (wpAny_loadName_cell I.ok.kind hk hc hcell fin) hd
  ·exact wpAny_Name (wpAny_loadName_free I.ok.kind hk hc hcell fin hcd) hd
theorem pe_int {i j pos}:PE X (.Constant (.int i) j pos) (tC (.int i)):=fun _ _ _ H _ I h=>wpAny_Constant_int ⟨.int i,H,I.tok _,⟨_,rfl⟩,h⟩
theorem pe_bl {b j pos}:PE X (.Constant (.bool b) j pos) (tC (.bl b)):=fun _ _ _ H _ I h=>Constant_bool ⟨.bl b,H,I,rfl,h⟩
theorem pe_non {j pos}:PE X (.Constant .none j pos) (tC .non):=fun _ _ _ H _ I h=>Constant_none ⟨.non,H,I,rfl,h⟩
theorem pe_str {x j pos}:PE X (.Constant (.str x) j pos) (tC (.str x)):=fun _ _ _ H _ I h=>Calls.Constant_str ⟨.str x,H,I.tok _,⟨_,rfl⟩,h⟩
def Gl (X:Cx) (x:Str):Prop:=X.env.kindOf x=some .globalImplicit
theorem ld_glob {E:Value->Shared->Prop} {pins:List (Addr × Obj)} {s:Shared} {σ:St} {H:Hp} {x:Str} {u:Value} {pos:Pos} {Q:Value->Shared->Prop} (I:Inv X pins σ H s) (hg:Gl X x) (hm:X.mg x=some u) (h:Q u s)
  (hd : (x == ("__debug__" : Str)) = false:=by decide) : wpAny (model X.prog X.w) X.A (eval (.Name x pos) X.env) Q E s:=
 Calls.Name_function_global I.ok.kind hg (Calls.loadGlobal_global (by rw[I.ok.glob];exact I.mod.glob.keeps I.bk) hm h) hd
theorem ld_blt {E:Value->Shared->Prop} {pins:List (Addr × Obj)} {s:Shared} {σ:St} {H:Hp} {x:Str} {u:Value} {pos:Pos} {Q:Value->Shared->Prop} (I:Inv X pins σ H s) (hg:Gl X x) (hm:X.mg x=none) (hv:bootBuiltins x=some u) (h:Q u s)
  (hn : x ≠ "__name__":=by decide) (hd : (x == ("__debug__" : Str)) = false:=by decide) : wpAny (model X.prog X.w) X.A (eval (.Name x pos) X.env) Q E s:= by
 obtain ⟨mb,h1,h2⟩:=I.mod.blt
 exact Calls.Name_function_global I.ok.kind hg (Calls.loadGlobal_builtin (by rw[I.ok.glob];exact I.mod.glob.keeps I.bk) hm (by rw[I.ok.blt];exact h1.keeps I.bk) ((h2 x hn).trans hv) h) hd
theorem pe_glob {x : Str} {v : V} {u : Value} {pos : Pos} (hg : Gl X x) (hm : X.mg x = some u) (r : RelV v u) (hd : (x == ("__debug__" : Str)) = false:=by decide) : PE X (.Name x pos) (tC v):=
 fun _ _ _ H _ I h=>ld_glob I hg hm ⟨v,H,I,r,h⟩ hd
theorem pe_bltn {x : Str} {v : V} {u : Value} {pos : Pos} (hg : Gl X x) (hm : X.mg x = none) (hv : bootBuiltins x = some u) (r : RelV v u) (hn : x ≠ "__name__":=by decide) (hd : (x == ("__debug__" : Str)) = false:=by decide) : PE X (.Name x pos) (tC v):=
 fun _ _ _ H _ I h=>ld_blt I hg hm hv ⟨v,H,I,r,h⟩ hn hd
variable {a b:Expr} {ta tb:TE} {pos:Pos}
def PC (X:Cx) (op:CmpOp) (a b:Expr) (t:TE):Prop:=
 ∀ (pins:List (Addr × Obj)) (s:Shared) (σ:St) (H:Hp) (Q:VK),Inv X pins σ H s->t σ H Q ->
  wpAny (model X.prog X.w) X.A (eval a X.env) (fun v s₁=>wpAny (model X.prog X.w) X.A (eval b X.env) (fun u s₂=>wpAny (model X.prog X.w) X.A (compareOp op v u) (EP X pins σ Q) X.xe s₂) X.xe s₁) X.xe s
theorem nobehind (b:Expr) {op:CmpOp} (h:op ≠ .In) (h2:op ≠ .NotIn):behindInMarks op b=false:= by
 have e1:(op==CmpOp.In)=false:=by cases op <;> first | rfl | exact absurd rfl h
 have e2:(op==CmpOp.NotIn)=false:=by cases op <;> first | rfl | exact absurd rfl h2
 cases b <;> simp [behindInMarks,e1,e2]
def tB (t:TE):TT:=fun σ H Q=>t σ H fun x H1=>∃ c,x = .bl c/\Q c H1
theorem pt_cmp {op:CmpOp} {t:TE} (h:PC X op a b t) (h1:behindInMarks op b=false:=by first | exact nobehind _ (by decide) (by decide) | rfl):PT X (.Compare a [op] [b] pos) (tB t):= by
 intro pins s σ H Q I hw
 refine wpAny_isTrue_Compare1 (thn (h pins s σ H _ I hw) fun v s1 h1=>thn h1 fun u s2 h2=>thn h2 fun c s3 ⟨x,H1,I1,r1,q1⟩=>?_) h1
 obtain ⟨d,rfl,q⟩:=q1
 cases r1
 exact wpAny_truthy_bool ⟨H1,I1,q⟩
theorem pt_val {e:Expr} {t:TE} (h:PE X e t) (he : ∀ whole,isTrue e X.env whole=(do let v <- whole;standAt e.pos;holding [v] (truthy v)):=by intro _;rfl):PT X e (tB t):= by
 intro pins s σ H Q I hw
 refine isTrue_plain (thn (h pins s σ H _ I hw) fun v s1 ⟨x,H1,I1,r1,q1⟩=>?_) (he _)
 obtain ⟨d,rfl,q⟩:=q1
 cases r1
 exact wpAny_truthy_bool ⟨H1,I1,q⟩
variable {tA tB':TT} {rest:List Expr}
def tAnd (t u:TT):TT:=fun σ H Q=>t σ H fun c H1=>if c=true then u σ H1 Q else Q false H1
def tOr (t u:TT):TT:=fun σ H Q=>t σ H fun c H1=>if c=true then Q true H1 else u σ H1 Q
def tNot (t:TT):TT:=fun σ H Q=>t σ H fun c H1=>Q (!c) H1
theorem pw_and1 (ha:PT X a tA):PW X (.BoolOp .And [a] pos) tA:= by
 intro wh pins s σ H Q I h
 refine isTrue_and (thn (ha pins s σ H Q I h) fun c s1 e=>?_)
 cases c with
 | true=>exact isTrue_and_nil e
 | false=>exact e
theorem pw_or1 (ha:PT X a tA):PW X (.BoolOp .Or [a] pos) tA:= by
 intro wh pins s σ H Q I h
 refine isTrue_or (thn (ha pins s σ H Q I h) fun c s1 e=>?_)
 cases c with
 | false=>exact isTrue_or_nil e
 | true=>exact e
theorem pw_and (ha:PT X a tA) (hb:PW X (.BoolOp .And (b::rest) pos) tB'):PW X (.BoolOp .And (a::b::rest) pos) (tAnd tA tB'):= by
 intro wh pins s σ H Q I h
 refine isTrue_and (thn (ha pins s σ H _ I h) fun c s1 ⟨H1,I1,q1⟩=>?_)
 cases c with
 | true=>exact hb wh pins s1 σ H1 Q I1 q1
 | false=>exact ⟨H1,I1,q1⟩
theorem pw_or (ha:PT X a tA) (hb:PW X (.BoolOp .Or (b::rest) pos) tB'):PW X (.BoolOp .Or (a::b::rest) pos) (tOr tA tB'):= by
 intro wh pins s σ H Q I h
 refine isTrue_or (thn (ha pins s σ H _ I h) fun c s1 ⟨H1,I1,q1⟩=>?_)
 cases c with
 | true=>exact ⟨H1,I1,q1⟩
 | false=>exact hb wh pins s1 σ H1 Q I1 q1
theorem pt_not (ha:PT X a tA):PT X (.UnaryOp .Not a pos) (tNot tA):= by
 intro pins s σ H Q I h
 exact isTrue_not (ha pins s σ H (fun c H1=>Q (!c) H1) I h)
def tAndV (ta tb:TE):TE:=fun σ H Q=>ta σ H fun x H1=>∃ c,x = .bl c/\if c=true then tb σ H1 Q else Q (.bl false) H1
def tOrV (ta tb:TE):TE:=fun σ H Q=>ta σ H fun x H1=>∃ c,x = .bl c/\if c=true then Q (.bl true) H1 else tb σ H1 Q
def tNotV (ta:TE):TE:=fun σ H Q=>ta σ H fun x H1=>∃ c,x = .bl c/\Q (.bl (!c)) H1
theorem pe_one {op} {t:TE} (h:PE X a t):PE X (.BoolOp op [a] pos) t:=fun pins s σ H Q I hw=>BoolOp_one (h pins s σ H Q I hw)
theorem pe_and (ha:PE X a ta) (hb:PE X (.BoolOp .And (b::rest) pos) tb):PE X (.BoolOp .And (a::b::rest) pos) (tAndV ta tb):= by
 intro pins s σ H Q I h
 refine BoolOp_and (thn (ha pins s σ H _ I h) fun v s1 ⟨x,H1,I1,r1,q1⟩=>?_)
 obtain ⟨c,rfl,q1⟩:=q1
 cases r1
 refine wpAny_truthy_bool ?_
 cases c with
 | true=>exact hb pins s1 σ H1 Q I1 q1
 | false=>exact ⟨.bl false,H1,I1,rfl,q1⟩
theorem pe_or (ha:PE X a ta) (hb:PE X (.BoolOp .Or (b::rest) pos) tb):PE X (.BoolOp .Or (a::b::rest) pos) (tOrV ta tb):= by
 intro pins s σ H Q I h
 refine BoolOp_or (thn (ha pins s σ H _ I h) fun v s1 ⟨x,H1,I1,r1,q1⟩=>?_)
 obtain ⟨c,rfl,q1⟩:=q1
 cases r1
 refine wpAny_truthy_bool ?_
 cases c with
 | false=>exact hb pins s1 σ H1 Q I1 q1
 | true=>exact ⟨.bl true,H1,I1,rfl,q1⟩
theorem pe_not (ha:PE X a ta):PE X (.UnaryOp .Not a pos) (tNotV ta):= by
 intro pins s σ H Q I h
 refine UnaryOp_ (thn (ha pins s σ H _ I h) fun v s1 ⟨x,H1,I1,r1,q1⟩=>?_)
 obtain ⟨c,rfl,q1⟩:=q1
 cases r1
 exact not_of (wpAny_truthy_bool ⟨.bl (!c),H1,I1,rfl,q1⟩)
def tIf (t:TT) (ta tb:TE):TE:=fun σ H Q=>t σ H fun c H1=>if c=true then ta σ H1 Q else tb σ H1 Q
theorem pe_ifExp {c:Expr} (hc:PT X c tA) (ha:PE X a ta) (hb:PE X b tb):PE X (.IfExp c a b pos) (tIf tA ta tb):= by
 intro pins s σ H Q I h
 refine wpAny_IfExp (thn (hc pins s σ H _ I h) fun d s1 ⟨H1,I1,q1⟩=>?_)
 cases d with
 | true=>exact ha pins s1 σ H1 Q I1 q1
 | false=>exact hb pins s1 σ H1 Q I1 q1
end
end L2
namespace L2
open PySem PySem.Spec PyProof.Rows
def SqL (K:PySem.W.Frag) (H:Hp) (a:Addr) (xs:List V):Prop:=
 Rd H a (.lst xs) \/
  ∃ (o : Obj) (its : Array Value) (n : Nat),K.lookup a = some o /\ o.cls = .type "list" /\ o.dict = none /\ o.data = .seq its n /\ its.size <= sizeLine /\ Vals xs its.toList
def SqT (K:PySem.W.Frag) (H:Hp) (a:Addr) (xs:List V):Prop:=
 Rd H a (.tup xs) \/
  ∃ (o : Obj) (its : Array Value) (n : Nat),K.lookup a = some o /\ o.cls = .type "tuple" /\ o.data = .seq its n /\ its.size <= sizeLine /\ Vals xs its.toList
def absV:Value->Option V
 | .none=>some .non
 | .bool b=>some (.bl b)
 | .int i _=>some (.int i)
 | .str x _=>some (.str x)
 | .bytes b _=>some (.byt b)
 | .float b _=>some (.flt b)
 | .ref a=>some (.ref a)
 | .type n=>some (.ty n)
 | _=>none
theorem RelV.abs {x:V} {u:Value} (r:RelV x u):absV u=some x:= by
 cases x with
 | non=>cases r;rfl
 | bl _=>cases r;rfl
 | int _=>obtain ⟨t,rfl⟩:=r;rfl
 | str _=>obtain ⟨t,rfl⟩:=r;rfl
 | byt _=>obtain ⟨t,rfl⟩:=r;rfl
 | flt _=>obtain ⟨t,rfl⟩:=r;rfl
 | ref _=>cases r;rfl
 | ty _=>cases r;rfl
theorem RelV.inj {x y:V} {u:Value} (r:RelV x u) (q:RelV y u):x=y:=Option.some.inj (r.abs.symm.trans q.abs)
theorem Vals.inj : ∀ {xs ys:List V} {us:List Value},Vals xs us->Vals ys us->xs=ys
 | _,_,_,.nil,.nil=>rfl
 | _,_,_,.cons r t,.cons r' t'=>by rw[r.inj r',Vals.inj t t']
section
variable {X:Cx} {pins:List (Addr × Obj)} {σ:St} {H:Hp} {s:Shared} {a:Addr} {xs ys:List V}
theorem SqL.of {K:PySem.W.Frag} (h:H a=some (.lst xs)):SqL K H a xs:=.inl (.inl h)
theorem SqT.of {K:PySem.W.Frag} (h:H a=some (.tup xs)):SqT K H a xs:=.inl (.inl h)
theorem Inv.list (I:Inv X pins σ H s) (h:SqL X.K H a xs) : ∃ its:List Value,Vals xs its/\PlainL s.heap a its.toArray/\xs.length<=sizeLine:= by
 rcases h with h | ⟨o,its,n,hk,hc,hd,hs,hz,r⟩
 ·obtain ⟨z,its,n,r,e⟩:=h.ok I.hok
  exact ⟨its,r,⟨_,n,e,rfl,rfl,rfl⟩,z⟩
 ·refine ⟨its.toList,r,⟨o,n,I.kIn a o hk,hc,hd,by simpa using hs⟩,?_⟩
  have e:=r.length
  simp only [Array.length_toList] at e
  omega
theorem Inv.tuple (I:Inv X pins σ H s) (h:SqT X.K H a xs) : ∃ its:List Value,Vals xs its/\IsTup s.heap a its.toArray/\xs.length<=sizeLine:= by
 rcases h with h | ⟨o,its,n,hk,hc,hs,hz,r⟩
 ·obtain ⟨z,its,r,p⟩:=h.ok I.hok
  exact ⟨its,r,p,z⟩
 ·refine ⟨its.toList,r,⟨o,I.kIn a o hk,hc,n,by simpa using hs⟩,?_⟩
  have e:=r.length
  simp only [Array.length_toList] at e
  omega
theorem Inv.list_inj (I:Inv X pins σ H s) (h:SqL X.K H a xs) (h':SqL X.K H a ys):xs=ys:= by
 obtain ⟨its,r,⟨o,n,e,_,_,d⟩,_⟩:=I.list h
 obtain ⟨its',r',⟨o',n',e',_,_,d'⟩,_⟩:=I.list h'
 rw[e] at e';cases e'
 rw[d] at d'
 injection d' with d1 _
 have:its=its':=by simpa using congrArg Array.toList d1
 subst this
 exact r.inj r'
theorem Inv.tuple_inj (I:Inv X pins σ H s) (h:SqT X.K H a xs) (h':SqT X.K H a ys):xs=ys:= by
 obtain ⟨its,r,⟨o,e,_,n,d⟩,_⟩:=I.tuple h
 obtain ⟨its',r',⟨o',e',_,n',d'⟩,_⟩:=I.tuple h'
 rw[e] at e';cases e'
 rw[d] at d'
 injection d' with d1 _
 have:its=its':=by simpa using congrArg Array.toList d1
 subst this
 exact r.inj r'
end
abbrev Cx.wish (X:Cx) (E:Value->Shared->Prop):Cx:={ X with xe:=E }
abbrev Cx.nox (X:Cx):Cx:=X.wish fun _ _=>False
theorem Cx.Ok.wish {X:Cx} (ok:X.Ok) (E:Value->Shared->Prop):(X.wish E).Ok:=
 ⟨ok.mod,ok.kind,ok.glob,ok.blt,ok.above,ok.inj,ok.has,ok.cab,ok.hd,ok.frames,ok.stk,ok.exf,ok.bs,ok.bsz,ok.noex,ok.exfs,ok.funs,ok.frf⟩
theorem Cx.Ok.unwish {X:Cx} {E:Value->Shared->Prop} (ok:(X.wish E).Ok):X.Ok:=
 ⟨ok.mod,ok.kind,ok.glob,ok.blt,ok.above,ok.inj,ok.has,ok.cab,ok.hd,ok.frames,ok.stk,ok.exf,ok.bs,ok.bsz,ok.noex,ok.exfs,ok.funs,ok.frf⟩
section
variable {X:Cx} {pins:List (Addr × Obj)} {σ:St} {H:Hp} {s:Shared} {E:Value->Shared->Prop}
theorem Inv.wish (I:Inv X pins σ H s) (E:Value->Shared->Prop):Inv (X.wish E) pins σ H s:=⟨I.ok.wish E,I.os,I.bare,I.base,I.loc,I.cell,I.free,I.freeC,I.pin,I.hok,I.len⟩
theorem Inv.unwish (I:Inv (X.wish E) pins σ H s):Inv X pins σ H s:=⟨I.ok.unwish,I.os,I.bare,I.base,I.loc,I.cell,I.free,I.freeC,I.pin,I.hok,I.len⟩
theorem SP.unwish {D:Ends} {f:Flow} {s':Shared} (h:SP (X.wish E) pins D f s'):SP X pins D f s':= by
 cases f with
 | next=>obtain ⟨σ',H',I,q⟩:=h;exact ⟨σ',H',I.unwish,q⟩
 | brk=>obtain ⟨σ',H',I,q⟩:=h;exact ⟨σ',H',I.unwish,q⟩
 | cont=>obtain ⟨σ',H',I,q⟩:=h;exact ⟨σ',H',I.unwish,q⟩
 | ret u=>obtain ⟨v,σ',H',I,r,q⟩:=h;exact ⟨v,σ',H',I.unwish,r,q⟩
theorem PSs.nox {st:List Stmt} {t:TS} (h:PSs X.nox st t):PSs X st t:=fun pins s σ H D I hw=>
 wpAny_mono (h pins s σ H D (I.wish _) hw) (fun _ _ q=>q.unwish) fun _ _ z=>False.elim z
end
section
variable {X:Cx} {st:Stmt} {rest:List Stmt} {t u:TS} {e:Expr} {te:TE} {pos:Pos}
def tNext:TS:=fun D σ H=>D.nx σ H
def tSeq (t u:TS):TS:=fun D σ H=>t { D with nx:=u D } σ H
theorem pss_nil:PSs X [] tNext:=fun _ _ σ H _ I h=>wpAny_execs_nil ⟨σ,H,I,h⟩
theorem pss_cons (h1:PS X st t) (h2:PSs X rest u):PSs X (st::rest) (tSeq t u):= by
 intro pins s σ H D I h
 refine wpAny_execs_cons (thn (h1 pins s σ H { D with nx:=u D } I h) fun f s1 q=>?_)
 cases f with
 | next=>
  obtain ⟨σ',H',I',q⟩:=q
  exact h2 pins s1 σ' H' D I' q
 | ret v=>exact q
 | brk=>exact q
 | cont=>exact q
theorem pss_one (h1:PS X st t):PSs X [st] t:= by
 intro pins s σ H D I h
 refine wpAny_execs_cons (thn (h1 pins s σ H D I h) fun f s1 q=>?_)
 cases f with
 | next=>exact wpAny_execs_nil q
 | ret v=>exact q
 | brk=>exact q
 | cont=>exact q
def tBreak:TS:=fun D σ H=>D.bk σ H
theorem ps_break:PS X (.Break pos) tBreak:=fun _ _ σ H _ I h=>wpAny_Break ⟨σ,H,I,h⟩
theorem Inv.quiet {pins:List (Addr × Obj)} {σ:St} {H:Hp} {s:Shared} (I:Inv X pins σ H s):interactive X.env=false:=by simp [interactive,I.ok.kind]
def tDrop (te:TE):TS:=fun D σ H=>te σ H fun _ H1=>D.nx σ H1
theorem ps_expr (he:PE X e te) (hs:swapsWith e none pos.line X.env=pure false:=by rfl):PS X (.Expr e pos) (tDrop te):= by
 intro pins s σ H D I h
 exact wpAny_Expr_any (thn (he pins s σ H _ I h) fun v s1 ⟨x,H1,I1,r1,q1⟩=>⟨σ,H1,I1,q1⟩) I.quiet hs
def tRet (te:TE):TS:=fun D σ H=>te σ H D.rt
theorem ps_ret (he:PE X e te):PS X (.Return (some e) pos) (tRet te):= by
 intro pins s σ H D I h
 exact wpAny_Return_some (thn (he pins s σ H _ I h) fun v s1 ⟨x,H1,I1,r1,q1⟩=>⟨x,σ,H1,I1,r1,q1⟩)
def tRetN:TS:=fun D _ H=>D.rt .non H
theorem ps_retN:PS X (.Return none pos) tRetN:=fun _ _ σ H _ I h=>wpAny_Return_none ⟨.non,σ,H,I,rfl,h⟩
def tIfS (c:TT) (t u:TS):TS:=fun D σ H=>c σ H fun b H1=>if b=true then t D σ H1 else u D σ H1
theorem ps_if {c:Expr} {a b:List Stmt} {tc:TT} (hc:PT X c tc) (ha:PSs X a t) (hb:PSs X b u):PS X (.If c a b pos) (tIfS tc t u):= by
 intro pins s σ H D I h
 refine wpAny_If (thn (hc pins s σ H _ I h) fun d s1 ⟨H1,I1,q1⟩=>?_)
 cases d with
 | true=>exact ha pins s1 σ H1 D I1 q1
 | false=>exact hb pins s1 σ H1 D I1 q1
def tNever:TS:=fun _ _ _=>False
theorem ps_never:PS X st tNever:=fun _ _ _ _ _ _ h=>h.elim
end
abbrev TG:=V->St->Hp->(St->Hp->Prop)->Prop
abbrev TGs:=List V->St->Hp->(St->Hp->Prop)->Prop
def PG (X:Cx) (target:Expr) (t:TG):Prop:=
 ∀ (pins:List (Addr × Obj)) (s:Shared) (σ:St) (H:Hp) (v:V) (u:Value) (Q:St->Hp->Prop),Inv X pins σ H s->RelV v u->t v σ H Q ->
  wpAny (model X.prog X.w) X.A (assign target X.env u) (fun _ s'=>∃ σ' H',Inv X pins σ' H' s'/\Q σ' H') X.xe s
def PGs (X:Cx) (ts:List Expr) (t:TGs):Prop:=
 ∀ (pins:List (Addr × Obj)) (s:Shared) (σ:St) (H:Hp) (vs:List V) (us:List Value) (Q:St->Hp->Prop),Inv X pins σ H s->Vals vs us->t vs σ H Q ->
  wpAny (model X.prog X.w) X.A (assignInOrder ((assignEach ts X.env).map (·.2)) us) (fun _ s'=>∃ σ' H',Inv X pins σ' H' s'/\Q σ' H') X.xe s
section
variable {X:Cx} {pos:Pos}
def gName (i:Nat):TG:=fun v σ H Q=>Q (σ.set i (some v)) H
theorem pg_name {i:Nat} {x:Str} (hN:X.N.Nodup) (hi:X.N[i]?=some x) (hx:Loc X.env.scope x) (hf:X.fn x=true\/X.env.scope.names.lookup x=some .local:=by first | exact .inl rfl | exact .inr rfl | assumption):PG X (.Name x pos) (gName i):= by
 intro pins s σ H v u Q I r h
 exact wpAny_assign_Name (store_ok I hN hi hx r (fun s' I'=>⟨_,H,I',h⟩) hf)
def gNil:TGs:=fun vs σ H Q=>vs=[]/\Q σ H
def gCons (t:TG) (u:TGs):TGs:=fun vs σ H Q=>∃ v r,vs=v::r/\t v σ H fun σ' H'=>u r σ' H' Q
theorem pgs_nil:PGs X [] gNil:= by
 intro pins s σ H vs us Q I r h
 obtain ⟨e,h⟩:=h
 subst e
 cases r
 exact assignInOrder_nil ⟨σ,H,I,h⟩
theorem pgs_cons {e:Expr} {es:List Expr} {t:TG} {u:TGs} (h1:PG X e t) (h2:PGs X es u)
  (hs:(assignEach (e::es) X.env).map (·.2)=assign e X.env::(assignEach es X.env).map (·.2):=by rfl):PGs X (e::es) (gCons t u):= by
 intro pins s σ H vs us Q I r h
 obtain ⟨v,vr,e1,h⟩:=h
 subst e1
 cases r with
 | cons r rr=>
  rw[hs]
  refine assignInOrder_cons (thn (h1 pins s σ H _ _ _ I r h) fun _ s1 ⟨σ1,H1,I1,q1⟩=>?_)
  exact h2 pins s1 σ1 H1 _ _ Q I1 rr q1
def gTup (K:PySem.W.Frag) (n:Nat) (t:TGs):TG:=fun v σ H Q=>∃ a xs,v = .ref a/\SqT K H a xs/\xs.length=n/\t xs σ H Q
theorem pg_tup {es:List Expr} {k:Nat} {t:TGs} {n:Nat} (hc:X.calm=true) (h:PGs X es t)
  (hn:(assignEach es X.env).length=n:=by rfl) (hst:(assignEach es X.env).findIdx? (·.1)=none:=by rfl):PG X (.Tuple es k pos) (gTup X.K n t):= by
 intro pins s σ H v u Q I r hw
 obtain ⟨a,xs,e1,hq,hl,hw⟩:=hw
 subst e1
 cases r
 obtain ⟨its,rv,ht,hz⟩:=I.tuple hq
 refine assign_Tuple_tuple (I.ok.hd hc) ht (by simp [hn,<- hl,rv.length]) hst fun h' hx=>?_
 have I1:Inv X pins σ H { s with heap:=h' }:=I.kept (t':=s.toks) fun b o e=>hx b o (Nat.ne_of_lt (Heap.lt_size e)) e
 exact h pins _ σ H xs _ Q I1 (by simpa using rv) hw
def tAsg (te:TE) (g:TG):TS:=fun D σ H=>te σ H fun x H1=>g x σ H1 D.nx
theorem ps_asg {tg e:Expr} {te:TE} {g:TG} (he:PE X e te) (hg:PG X tg g) (hs:swapsWithSole [tg] e pos.line X.env=pure false:=by rfl) (hw:swappedStores [tg] e X.env=pure none:=by rfl)
  (h1:(assignEach [tg] X.env).map (·.2)=[assign tg X.env]:=by rfl):PS X (.Assign [tg] e pos) (tAsg te g):= by
 intro pins s σ H D I h
 refine wpAny_Assign_stores (thn (he pins s σ H _ I h) fun v s1 ⟨x,H1,I1,r1,q1⟩=>?_) hs hw
 rw[h1]
 exact thn (hg pins s1 σ H1 x v _ I1 r1 q1) fun _ s2 q=>q
theorem ps_set {i:Nat} {x:Str} {e:Expr} {te:TE} {pos':Pos} (hN:X.N.Nodup) (hi:X.N[i]?=some x) (hx:Loc X.env.scope x) (he:PE X e te) (hs:swapsWith e (some (.Name x pos')) pos.line X.env=pure false:=by rfl) (hf:X.fn x=true\/X.env.scope.names.lookup x=some .local:=by first | exact .inl rfl | exact .inr rfl | assumption) :
  PS X (.Assign [.Name x pos'] e pos) (tAsg te (gName i)):= by
 intro pins s σ H D I h
 refine wpAny_Assign_Name (thn (he pins s σ H _ I h) fun v s1 ⟨y,H1,I1,r1,q1⟩=>?_) hs
 exact store_ok I1 hN hi hx r1 (fun s2 I2=>⟨_,H1,I2,q1⟩) hf
end
section
variable {X:Cx} {pos:Pos}
end
structure It where
 go:Nat->Hp->Prop
 yld:Nat->Hp->V->Hp->Prop
 stop:Nat->Hp->Prop
def FpOk (X:Cx) (pins:List (Addr × Obj)) (H:Hp) (b:Addr):Prop:=
 H b=none/\b≠X.env.locals/\b ∉ X.fs/\(b ∈ X.ex\/X.s₀.heap.objs.size<=b)/\(∀ x c,X.env.cells.lookup x=some c->c≠b) /\ ∀ p ∈ X.pn++pins,p.1≠b
theorem Inv.fpOk {X:Cx} {pins:List (Addr × Obj)} {σ:St} {H H':Hp} {s:Shared} {b:Addr} (I:Inv X pins σ H s) (hb:s.heap.objs.size<=b) (hn:H' b=none):FpOk X pins H' b:= by
 refine ⟨hn,Nat.ne_of_gt (Nat.lt_of_lt_of_le I.lt hb),I.nofs hb,.inr (Nat.le_trans I.sz hb),fun x c e z=>?_,fun p hp z=>?_⟩
 ·obtain ⟨v,q⟩:=I.cell x c e
  exact absurd (Nat.lt_of_lt_of_le q.lt (by rw[z];exact hb)) (Nat.lt_irrefl _)
 ·exact absurd (Nat.lt_of_lt_of_le (Heap.lt_size (I.pin p hp).1) (by rw[z];exact hb)) (Nat.lt_irrefl _)
structure Turn (P:Program) (w:World) (K:PySem.W.Frag) (tg:Expr) (J:It) (fp:List Addr) (it:Addr) (tn:Nat->Heap->Prop):Prop where
 mem:it ∈ fp
 obj : ∀ i h,tn i h -> ∀ b ∈ fp,∃ o,h.get? b=some o /\ ∀ v,o.data ≠ .cell v
 keep : ∀ i h h',tn i h->(∀ b ∈ fp,∀ o,h.get? b=some o->h'.get? b=some o)->tn i h'
 item : ∀ (X:Cx),X.prog=P->X.w=w->X.K=K->X.calm=true -> ∀ (i:Nat) (pins:List (Addr × Obj)) (s:Shared) (σ:St) (H:Hp) (E:Value->Shared->Prop),Inv X pins σ H s->(∀ b ∈ fp,FpOk X pins H b)->tn i s.heap->J.go i H ->
  wpAny (model P w) X.A (pyNext (.ref it)) (fun r s1=>∃ u,r=some u /\
   wpAny (model P w) X.A (letOwnedTupleGo tg (.ref it) u) (fun _ s2=>∃ x H',Inv X pins σ H' s2/\RelV x u/\J.yld i H x H'/\tn (i+1) s2.heap /\ ∀ b ∈ fp,H' b=none) E s1) E s
 done : ∀ (X:Cx),X.prog=P->X.w=w->X.K=K->X.calm=true -> ∀ (i:Nat) (pins:List (Addr × Obj)) (s:Shared) (σ:St) (H:Hp) (E:Value->Shared->Prop),Inv X pins σ H s->(∀ b ∈ fp,FpOk X pins H b)->tn i s.heap->J.stop i H ->
  wpAny (model P w) X.A (pyNext (.ref it)) (fun r s1=>r=none/\Inv X pins σ H s1) E s
 self : ∀ (A:Around) (i:Nat) (s:Shared) (Q:Value->Shared->Prop) (E:Value->Shared->Prop),tn i s.heap->Q (.ref it) s->wpAny (model P w) A (pyIter (.ref it)) Q E s
abbrev TI:=St->Hp->(It->Hp->Prop)->Prop
def PIE (X:Cx) (pins:List (Addr × Obj)) (σ:St) (tg:Expr) (R:It->Hp->Prop) (itv:Value) (s2:Shared):Prop:=
 ∃ (it:Addr) (fp:List Addr) (tn:Nat->Heap->Prop) (J:It) (H':Hp),itv = .ref it/\Inv X pins σ H' s2/\Turn X.prog X.w X.K tg J fp it tn/\tn 0 s2.heap/\(∀ b ∈ fp,FpOk X pins H' b)/\R J H'
def PI (X:Cx) (tg iter:Expr) (wi:TI):Prop:=
 ∀ (pins:List (Addr × Obj)) (s:Shared) (σ:St) (H:Hp) (R:It->Hp->Prop),Inv X pins σ H s->wi σ H R ->
  wpAny (model X.prog X.w) X.A (eval iter X.env) (fun v s1=>wpAny (model X.prog X.w) X.A (pyIter v) (PIE X pins σ tg R) X.xe s1) X.xe s
theorem go_of {M:Model} {A:Around} {E:Value->Shared->Prop} {s:Shared} {tg:Expr} {it:Addr} {u:Value} {o:Obj} {n:String} {vs:Array Value} {Q:Unit->Shared->Prop} (ho:s.heap.get? it=some o) (hc:o.cls = .type n) (hd:o.data = .fields vs)
    (hn : ["enumerate","zip","dict_itemiterator","dict_reverseitemiterator","odict_iterator","itertools.zip_longest","itertools.pairwise"].contains n = false) (hQ : Q () s) : wpAny M A (letOwnedTupleGo tg (.ref it) u) Q E s:= by
  unfold letOwnedTupleGo
  cases tg <;> first
    | exact wpAny_pure hQ
    | (cases u <;> first
        | exact wpAny_pure hQ
        | (refine wpAny_bind (wpAny_load ho ?_)
           rw[hc,hd]
           show wpAny M A (if (["enumerate","zip","dict_itemiterator","dict_reverseitemiterator","odict_iterator","itertools.zip_longest","itertools.pairwise"].contains n && vs[0]? == some (rawInt _)) = true then _ else _) Q E s
           rw[if_neg (by intro h;rw[hn,Bool.false_and] at h;cases h)]
           exact wpAny_pure hQ))
def Itl (K:PySem.W.Frag) (a:Addr):It:=
 ⟨fun i H=>∃ xs x,SqL K H a xs/\xs[i]?=some x,fun i H x H'=>H'=H /\ ∀ xs,SqL K H a xs->xs[i]?=some x,fun i H=>∃ xs,SqL K H a xs/\xs.length<=i⟩
def Itt (K:PySem.W.Frag) (a:Addr):It:=
 ⟨fun i H=>∃ xs x,SqT K H a xs/\xs[i]?=some x,fun i H x H'=>H'=H /\ ∀ xs,SqT K H a xs->xs[i]?=some x,fun i H=>∃ xs,SqT K H a xs/\xs.length<=i⟩
def Itr (lo:Int) (n:Nat):It:=⟨fun i _=>i<n,fun i H x H'=>H'=H/\x = .int (lo+i),fun i _=>n<=i⟩
theorem turn_list {P:Program} {w:World} {K:PySem.W.Frag} {tg:Expr} (a it:Addr):Turn P w K tg (Itl K a) [it] it (fun i h=>h.IsListIter it a i) where
 mem:=by simp
 obj:=fun i h st b hb=>by
  have e:b=it:=by simpa using hb
  subst e
  obtain ⟨o,e,c,d⟩:=st
  exact ⟨o,e,fun v z=>by rw[d] at z;cases z⟩
 keep:=fun i h h' st k=>st.at fun o e=>k it (by simp) o e
 item:= by
  intro X hP hw hK hc i pins s σ H E I hf st hg
  subst hP hw hK
  obtain ⟨xs,x,hq,hx⟩:=hg
  obtain ⟨its,rv,p,hz⟩:=I.list hq
  obtain ⟨u,hu,ru⟩:=rv.get hx
  obtain ⟨f0,f1,f2,f3,f4,f5⟩:=hf it (by simp)
  refine wpAny_pyNext_list_item st p.isList (x:=u) (by simpa using hu) fun h' st' sb=>?_
  have I1:Inv X pins σ H { s with heap:=h' }:=I.turned (t':=s.toks) (fun b o hb e=>(sb.2 b hb).trans e) f0 f1 f3 f4 f5
  obtain ⟨o,e,c,d⟩:=id st'
  exact ⟨u,rfl,go_of (s:={ s with heap:=h' }) e c d (by decide) ⟨x,H,I1,ru,⟨rfl,fun ys hy=>by rw[I.list_inj hy hq];exact hx⟩,st',fun b hb=>(hf b hb).1⟩⟩
 done:= by
  intro X hP hw hK hc i pins s σ H E I hf st hg
  subst hP hw hK
  obtain ⟨xs,hq,hx⟩:=hg
  obtain ⟨its,rv,p,hz⟩:=I.list hq
  obtain ⟨f0,f1,f2,f3,f4,f5⟩:=hf it (by simp)
  have hl:=rv.length
  exact wpAny_pyNext_list_end (I.ok.hd hc) st p.isList (by simp;omega) fun h' eb=>⟨rfl,I.turned (t':=s.toks) (fun b o hb e=>eb b o hb e) f0 f1 f3 f4 f5⟩
 self:=fun _ _ _ _ _ st h=>wpAny_pyIter_listiter st h
theorem turn_tuple {P:Program} {w:World} {K:PySem.W.Frag} {tg:Expr} (a it:Addr):Turn P w K tg (Itt K a) [it] it (fun i h=>h.IsTupleIter it a i) where
 mem:=by simp
 obj:=fun i h st b hb=>by
  have e:b=it:=by simpa using hb
  subst e
  obtain ⟨o,e,c,d⟩:=st
  exact ⟨o,e,fun v z=>by rw[d] at z;cases z⟩
 keep:=fun i h h' st k=>st.at fun o e=>k it (by simp) o e
 item:= by
  intro X hP hw hK hc i pins s σ H E I hf st hg
  subst hP hw hK
  obtain ⟨xs,x,hq,hx⟩:=hg
  obtain ⟨its,rv,p,hz⟩:=I.tuple hq
  obtain ⟨u,hu,ru⟩:=rv.get hx
  obtain ⟨f0,f1,f2,f3,f4,f5⟩:=hf it (by simp)
  refine wpAny_pyNext_tuple_item st (show s.heap.IsTuple a its.toArray from p) (x:=u) (by simpa using hu) fun h' st' sb=>?_
  have I1:Inv X pins σ H { s with heap:=h' }:=I.turned (t':=s.toks) (fun b o hb e=>(sb.2 b hb).trans e) f0 f1 f3 f4 f5
  obtain ⟨o,e,c,d⟩:=id st'
  exact ⟨u,rfl,go_of (s:={ s with heap:=h' }) e c d (by decide) ⟨x,H,I1,ru,⟨rfl,fun ys hy=>by rw[I.tuple_inj hy hq];exact hx⟩,st',fun b hb=>(hf b hb).1⟩⟩
 done:= by
  intro X hP hw hK hc i pins s σ H E I hf st hg
  subst hP hw hK
  obtain ⟨xs,hq,hx⟩:=hg
  obtain ⟨its,rv,p,hz⟩:=I.tuple hq
  obtain ⟨f0,f1,f2,f3,f4,f5⟩:=hf it (by simp)
  have hl:=rv.length
  exact wpAny_pyNext_tuple_end (I.ok.hd hc) st (show s.heap.IsTuple a its.toArray from p) (by simp;omega) fun h' eb=>⟨rfl,I.turned (t':=s.toks) (fun b o hb e=>eb b o hb e) f0 f1 f3 f4 f5⟩
 self:=fun _ _ _ _ _ st h=>wpAny_pyIter_tupleiter st h
theorem turn_range {P:Program} {w:World} {K:PySem.W.Frag} {tg:Expr} (it:Addr) (lo:Int) (n:Nat):Turn P w K tg (Itr lo n) [it] it (fun i h=>IsRangeIter h it (lo+(i:Nat)*1) ((n:Int)-(i:Nat)) 1) where
 mem:=by simp
 obj:=fun i h st b hb=>by
  have e:b=it:=by simpa using hb
  subst e
  exact ⟨_,st,fun v z=>by
   have z':Data.fields _=Data.cell v:=z
   cases z'⟩
 keep:=fun i h h' st k=>k it (by simp) _ st
 item:= by
  intro X hP hw hK hc i pins s σ H E I hf st hg
  subst hP hw hK
  obtain ⟨f0,f1,f2,f3,f4,f5⟩:=hf it (by simp)
  have W:=Walks.range (prog:=X.prog) (w:=X.w) (I.ok.hd hc) it lo 1 n
  refine W.item i s _ _ hg st fun v h' tk hv st' kk=>?_
  obtain ⟨t,rfl⟩:=hv
  have I1:Inv X pins σ H { s with heap:=h',toks:=tk }:=I.turned (fun b o hb e=>kk b o (by simpa using hb) e) f0 f1 f3 f4 f5
  refine ⟨_,rfl,go_of (s:={ s with heap:=h',toks:=tk }) (n:="range_iterator") st' rfl rfl (by decide) ⟨.int (lo + i),H,I1,⟨t,?_⟩,⟨rfl,rfl⟩,st',fun b hb=>(hf b hb).1⟩⟩
  rw[Int.mul_one]
 done:= by
  intro X hP hw hK hc i pins s σ H E I hf st hg
  subst hP hw hK
  obtain ⟨f0,f1,f2,f3,f4,f5⟩:=hf it (by simp)
  exact wpAny_pyNext_range_end (I.ok.hd hc) st (by have:n<=i:=hg;omega) fun h' eb=>⟨rfl,I.turned (t':=s.toks) (fun b o hb e=>eb b o hb e) f0 f1 f3 f4 f5⟩
 self:=fun _ _ _ _ _ st h=>wpAny_pyIter_rangeiter st h
end L2
namespace L2
open PySem PySem.Spec PyProof.Rows
section
variable {X:Cx} {tg:Expr}
def iList (K:PySem.W.Frag) (tl:TE):TI:=fun σ H R=>tl σ H fun x H1=>∃ a,x = .ref a/\(∃ xs,SqL K H1 a xs)/\R (Itl K a) H1
def iTup (K:PySem.W.Frag) (tl:TE):TI:=fun σ H R=>tl σ H fun x H1=>∃ a,x = .ref a/\(∃ xs,SqT K H1 a xs)/\R (Itt K a) H1
theorem pi_list {l:Expr} {tl:TE} (hl:PE X l tl):PI X tg l (iList X.K tl):= by
 intro pins s σ H R I h
 refine thn (hl pins s σ H _ I h) fun v s1 ⟨x,H1,I1,r1,q1⟩=>?_
 obtain ⟨a,e,⟨xs,hq⟩,q⟩:=q1
 subst e
 cases r1
 obtain ⟨its,rv,p,hz⟩:=I1.list hq
 refine wpAny_pyIter_list p.isList ?_
 refine ⟨s1.heap.objs.size,[s1.heap.objs.size],_,_,H1,rfl,I1.kept (t':=s1.toks) fun b o e=>Heap.get?_push_of_some _ e,turn_list a _,⟨_,Heap.get?_push_size _ rfl,rfl,rfl⟩,fun b hb=>?_,q⟩
 have e:b=s1.heap.objs.size:=by simpa using hb
 subst e
 exact I1.fpOk (Nat.le_refl _) (I1.hok.fresh (Nat.le_refl _))
theorem pi_tup {l:Expr} {tl:TE} (hl:PE X l tl):PI X tg l (iTup X.K tl):= by
 intro pins s σ H R I h
 refine thn (hl pins s σ H _ I h) fun v s1 ⟨x,H1,I1,r1,q1⟩=>?_
 obtain ⟨a,e,⟨xs,hq⟩,q⟩:=q1
 subst e
 cases r1
 obtain ⟨its,rv,p,hz⟩:=I1.tuple hq
 refine wpAny_pyIter_tuple (show s1.heap.IsTuple a its.toArray from p) ?_
 refine ⟨s1.heap.objs.size,[s1.heap.objs.size],_,_,H1,rfl,I1.kept (t':=s1.toks) fun b o e=>Heap.get?_push_of_some _ e,turn_tuple a _,⟨_,Heap.get?_push_size _ rfl,rfl,rfl⟩,fun b hb=>?_,q⟩
 have e:b=s1.heap.objs.size:=by simpa using hb
 subst e
 exact I1.fpOk (Nat.le_refl _) (I1.hok.fresh (Nat.le_refl _))
theorem range_it {pins:List (Addr × Obj)} {σ:St} {H:Hp} {s:Shared} {R:It->Hp->Prop} {E:Value->Shared->Prop} {lo hi:Int} {t u v:Tok} {tk:Nat} (I:Inv X pins σ H s) (h1 : -(2 ^ 62)<=lo) (h2:lo<2 ^ 62) (h3 : -(2 ^ 62)<=hi) (h4:hi<2 ^ 62)
  (q : R (Itr lo (hi - lo).toNat) H) : wpAny (model X.prog X.w) X.A (pyIter (.ref s.heap.objs.size)) (PIE X pins σ tg R) E { s with heap:=s.heap.push { cls:=.type "range",data:=.fields #[.int lo t,.int hi u,.int 1 v] },toks:=tk }:= by
 refine wpAny_pyIter_range (IsRange.new ..) (small_one h1 h2 h3 h4) ?_
 have I1 : Inv X pins σ H { s with heap:=s.heap.push { cls:=.type "range",data:=.fields #[.int lo t,.int hi u,.int 1 v] },toks:=tk }:=I.kept fun b o e=>Heap.get?_push_of_some _ e
 refine ⟨(s.heap.push { cls:=.type "range",data:=.fields #[.int lo t,.int hi u,.int 1 v] }).objs.size,[(s.heap.push { cls:=.type "range",data:=.fields #[.int lo t,.int hi u,.int 1 v] }).objs.size],_,_,H,rfl,
  I1.kept (t':=tk) fun b o e=>Heap.get?_push_of_some _ e,turn_range _ lo (hi-lo).toNat,?_,fun b hb=>?_,q⟩
 ·have e1:lo+((0:Nat):Int)*1=lo:=by simp
  have e2:(((hi-lo).toNat:Nat):Int)-((0:Nat):Int)=Builtin.Range.rangeSize lo hi 1:=by rw[rangeSize_one];split <;> omega
  show IsRangeIter _ _ (lo+((0:Nat):Int)*1) ((((hi-lo).toNat:Nat):Int)-((0:Nat):Int)) 1
  rw[e1,e2]
  exact Heap.get?_push_size _ rfl
 ·have e : b = (s.heap.push { cls:=.type "range",data:=.fields #[.int lo t,.int hi u,.int 1 v] }).objs.size:=by simpa using hb
  subst e
  exact I1.fpOk (Nat.le_refl _) (I1.hok.fresh (Nat.le_refl _))
def iRng1 (ta:TA):TI:=fun σ H R=>ta σ H fun vs H1=>∃ j:Int,vs=[.int j] /\ -(2 ^ 62)<=j/\j<2 ^ 62/\R (Itr 0 j.toNat) H1
def iRng2 (ta:TA):TI:=fun σ H R=>ta σ H fun vs H1=>∃ i j:Int,vs=[.int i,.int j]/\(-(2 ^ 62)<=i/\i<2 ^ 62 /\ -(2 ^ 62)<=j/\j<2 ^ 62)/\R (Itr i (j-i).toNat) H1
theorem pi_range1 {a : Expr} {ta : TA} {p pos : Pos} (hg : Gl X "range") (hm : X.mg "range" = none) (ha : PA X [a] ta) (hs : starEach [a] X.env = [(false,eval a X.env)]:=by rfl) : PI X tg (.Call (.Name "range" p) [a] [] pos) (iRng1 ta):= by
 intro pins s σ H R I h
 refine Call_ (ld_blt I hg hm boot_range (PyProof.Rows.callWith_type1 (thn (ha pos pins s σ H _ I h) fun us s1 ⟨vs,H1,I1,r1,q1⟩=>?_) hs rfl))
 obtain ⟨j,e,q1,q2,q⟩:=q1
 subst e
 cases r1 with
 | cons r rr=>
  cases rr
  obtain ⟨t,rfl⟩:=r
  exact call_range_1 (range_it I1 (by omega) (by omega) q1 q2 (by simpa using q))
theorem pi_range2 {a b : Expr} {ta : TA} {p pos : Pos} (hg : Gl X "range") (hm : X.mg "range" = none) (ha : PA X [a,b] ta) (hs : starEach [a,b] X.env = [(false,eval a X.env),(false,eval b X.env)]:=by rfl) (hs2 : starEach [b] X.env = [(false,eval b X.env)]:=by rfl) :
  PI X tg (.Call (.Name "range" p) [a,b] [] pos) (iRng2 ta):= by
 intro pins s σ H R I h
 refine Call_ (ld_blt I hg hm boot_range (PyProof.Rows.callWith_type1 (thn (ha pos pins s σ H _ I h) fun us s1 ⟨vs,H1,I1,r1,q1⟩=>?_) (by rw[hs,hs2]) (by rw[hs2];rfl)))
 obtain ⟨i,j,e,⟨q1,q2,q3,q4⟩,q⟩:=q1
 subst e
 cases r1 with
 | cons r rr=>
  cases rr with
  | cons r' rr=>
   cases rr
   obtain ⟨t,rfl⟩:=r
   obtain ⟨t',rfl⟩:=r'
   exact call_range_2 (range_it I1 q1 q2 q3 q4 q)
def tFor (wi:TI) (g:TG) (tb:TS):TS:=fun D σ H=>wi σ H fun J H1=>∃ W:Nat->Nat->St->Hp->Prop,(∃ m,W 0 m σ H1) /\ ∀ i m σ H,W i m σ H ->
 (J.stop i H/\D.nx σ H)\/(J.go i H /\ ∃ N:St->Hp->Prop,(∀ σ' H',N σ' H' -> ∃ m',m'<m/\W (i+1) m' σ' H') /\ ∀ x H',J.yld i H x H'->g x σ H' fun σ2 H2=>tb { D with nx:=N,ct:=N,bk:=D.nx } σ2 H2)
def pinsAt (fp:List Addr) (h:Heap):List (Addr × Obj):=fp.filterMap fun b=>(h.get? b).map fun o=>(b,o)
theorem mem_pinsAt {fp:List Addr} {h:Heap} {b:Addr} {o:Obj} (hb:b ∈ fp) (e:h.get? b=some o):(b,o) ∈ pinsAt fp h:=List.mem_filterMap.mpr ⟨b,hb,by rw[e];rfl⟩
theorem of_pinsAt {fp:List Addr} {h:Heap} {p:Addr × Obj} (hp:p ∈ pinsAt fp h):p.1 ∈ fp/\h.get? p.1=some p.2:= by
 obtain ⟨b,hb,e⟩:=List.mem_filterMap.mp hp
 cases q:h.get? b with
 | none=>rw[q] at e;cases e
 | some o=>
  rw[q] at e
  have e':(b,o)=p:=Option.some.inj e
  subst e'
  exact ⟨hb,q⟩
theorem Inv.pinned {pins:List (Addr × Obj)} {σ:St} {H:Hp} {s:Shared} {fp:List Addr} (I:Inv X pins σ H s) (hf : ∀ b ∈ fp,FpOk X pins H b) (ho : ∀ b ∈ fp,∃ o,s.heap.get? b=some o /\ ∀ v,o.data ≠ .cell v):Inv X (pins++pinsAt fp s.heap) σ H s:=
 I.pins_of fun p hp=>(List.mem_append.mp hp).elim (fun z=>I.pin p (List.mem_append_right _ z)) fun z=>by
  obtain ⟨hb,e⟩:=of_pinsAt z
  obtain ⟨f0,f1,f2,_⟩:=hf p.1 hb
  obtain ⟨o,e',d⟩:=ho p.1 hb
  rw[e] at e';cases e'
  exact ⟨e,f0,f1,f2,d⟩
theorem Inv.unpinned {pins pl:List (Addr × Obj)} {σ:St} {H:Hp} {s:Shared} (I:Inv X (pins++pl) σ H s):Inv X pins σ H s:=I.pins_of fun p hp=>I.pin p (List.mem_append_right _ (List.mem_append_left _ hp))
theorem ps_for {iter:Expr} {body:List Stmt} {wi:TI} {g:TG} {tb:TS} {pos:Pos} (hp:PassesOwn (model X.prog X.w) X.A X.env X.xe) (hc:X.calm=true) (hi:PI X tg iter wi) (hg:PG X tg g) (hb:PSs X body tb)
  (hs : ∀ x,foldedSetIterable iter X.env x=pure x:=by intro _;rfl):PS X (.For tg iter body [] pos) (tFor wi g tb):= by
 intro pins s σ H D I h
 refine wpAny_For (thn (hi pins s σ H _ I h) fun v s1 h1=>thn h1 fun itv s2 h2=>?_) hs
 obtain ⟨it,fp,tn,J,H2,e,I2,T,st2,f2,W,⟨m0,w0⟩,turn⟩:=h2
 subst e
 have stat : ∀ {H':Hp},(∀ b ∈ fp,H' b=none) -> ∀ b ∈ fp,FpOk X pins H' b:=fun hn b hb=>⟨hn b hb,(f2 b hb).2⟩
 refine codeAny_forLoop_any (fun n s'=>∃ i σ' H',Inv X pins σ' H' s'/\tn i s'.heap/\(∀ b ∈ fp,H' b=none)/\W i n σ' H') ?_ m0 ⟨0,σ,H2,I2,st2,fun b hb=>(f2 b hb).1,w0⟩
 rintro n s3 ⟨i,σ3,H3,I3,st3,fr3,w3⟩
 rcases turn i n σ3 H3 w3 with ⟨stop,qn⟩ | ⟨go,N,hN,step⟩
 ·refine wpAny_passesOwn hp (thn (T.done X rfl rfl rfl hc i pins s3 σ3 H3 X.xe I3 (stat fr3) st3 stop) fun r s4 ⟨hr,I4⟩=>?_)
  subst hr
  exact wpAny_execs_nil ⟨σ3,H3,I4,qn⟩
 ·refine wpAny_passesOwn hp (thn (T.item X rfl rfl rfl hc i pins s3 σ3 H3 X.xe I3 (stat fr3) st3 go) fun r s4 ⟨u,hr,h4⟩=>?_)
  subst hr
  refine wpAny_passesOwn hp (thn h4 fun _ s5 ⟨x,H5,I5,r5,y5,st5,fr5⟩=>?_)
  have I5':=I5.pinned (stat fr5) (T.obj _ _ st5)
  refine wpAny_passesOwn hp (thn (hg _ s5 σ3 H5 x u _ I5' r5 (step x H5 y5)) fun _ s6 ⟨σ6,H6,I6,q6⟩=>?_)
  refine wpAny_passesOwn hp (thn (hb _ s6 σ6 H6 _ I6 q6) fun f s7 q7=>?_)
  have again : ∀ {σ7:St} {H7:Hp},Inv X (pins++pinsAt fp s5.heap) σ7 H7 s7->N σ7 H7 -> ∃ m,m<n /\ ∃ i σ' H',Inv X pins σ' H' s7/\tn i s7.heap/\(∀ b ∈ fp,H' b=none)/\W i m σ' H':=fun {σ7 H7} I7 n7=>by
   obtain ⟨m',hm,w7⟩:=hN σ7 H7 n7
   refine ⟨m',hm,i+1,σ7,H7,I7.unpinned,T.keep _ _ _ st5 fun b hb o e=>(I7.pin (b,o) (List.mem_append_right _ (List.mem_append_right _ (mem_pinsAt hb e)))).1,fun b hb=>?_,w7⟩
   obtain ⟨o,e,d⟩:=T.obj _ _ st5 b hb
   exact (I7.pin (b,o) (List.mem_append_right _ (List.mem_append_right _ (mem_pinsAt hb e)))).2.1
  cases f with
  | next=>obtain ⟨σ7,H7,I7,n7⟩:=q7;exact again I7 n7
  | cont=>obtain ⟨σ7,H7,I7,n7⟩:=q7;exact again I7 n7
  | brk=>obtain ⟨σ7,H7,I7,q7⟩:=q7;exact ⟨σ7,H7,I7.unpinned,q7⟩
  | ret v=>obtain ⟨x7,σ7,H7,I7,r7,q7⟩:=q7;exact ⟨x7,σ7,H7,I7.unpinned,r7,q7⟩
end
theorem for_list {K:PySem.W.Frag} {a:Addr} {xs:List V} {g:TG} {tb:TS} {D:Ends} {σ:St} {H:Hp} (Pv:Nat->St->Hp->Prop) (h0:Pv 0 σ H) (hl : ∀ i σ H,i<=xs.length->Pv i σ H->SqL K H a xs)
  (hs : ∀ i x σ H,xs[i]?=some x->Pv i σ H->g x σ H fun σ2 H2=>tb { D with nx:=Pv (i+1),ct:=Pv (i+1),bk:=D.nx } σ2 H2) (hd : ∀ σ H,Pv xs.length σ H->D.nx σ H) :
  ∃ W:Nat->Nat->St->Hp->Prop,(∃ m,W 0 m σ H) /\ ∀ i m σ H,W i m σ H ->
   ((Itl K a).stop i H/\D.nx σ H)\/((Itl K a).go i H /\ ∃ N:St->Hp->Prop,(∀ σ' H',N σ' H' -> ∃ m',m'<m/\W (i+1) m' σ' H') /\ ∀ x H',(Itl K a).yld i H x H'->g x σ H' fun σ2 H2=>tb { D with nx:=N,ct:=N,bk:=D.nx } σ2 H2):= by
 refine ⟨fun i m σ H=>m=xs.length-i/\i<=xs.length/\Pv i σ H,⟨xs.length,by simp,Nat.zero_le _,h0⟩,?_⟩
 rintro i m σ H ⟨rfl,hi,p⟩
 have q:=hl i σ H hi p
 by_cases hlt:i<xs.length
 ·refine .inr ⟨⟨xs,xs[i],q,by simp [hlt]⟩,Pv (i+1),fun σ' H' p'=>⟨xs.length-(i+1),by omega,rfl,hlt,p'⟩,fun x H' y=>?_⟩
  obtain ⟨e,y⟩:=y
  subst e
  exact hs i x σ _ (y xs q) p
 ·have e:i=xs.length:=by omega
  subst e
  exact .inl ⟨⟨xs,q,Nat.le_refl _⟩,hd σ H p⟩
theorem for_range {lo:Int} {n:Nat} {g:TG} {tb:TS} {D:Ends} {σ:St} {H:Hp} (Pv:Nat->St->Hp->Prop) (h0:Pv 0 σ H)
  (hs : ∀ i σ H,i<n->Pv i σ H->g (.int (lo+i)) σ H fun σ2 H2=>tb { D with nx:=Pv (i+1),ct:=Pv (i+1),bk:=D.nx } σ2 H2) (hd : ∀ σ H,Pv n σ H->D.nx σ H) :
  ∃ W:Nat->Nat->St->Hp->Prop,(∃ m,W 0 m σ H) /\ ∀ i m σ H,W i m σ H ->
   ((Itr lo n).stop i H/\D.nx σ H)\/((Itr lo n).go i H /\ ∃ N:St->Hp->Prop,(∀ σ' H',N σ' H' -> ∃ m',m'<m/\W (i+1) m' σ' H') /\ ∀ x H',(Itr lo n).yld i H x H'->g x σ H' fun σ2 H2=>tb { D with nx:=N,ct:=N,bk:=D.nx } σ2 H2):= by
 refine ⟨fun i m σ H=>m=n-i/\i<=n/\Pv i σ H,⟨n,by simp,Nat.zero_le _,h0⟩,?_⟩
 rintro i m σ H ⟨rfl,hi,p⟩
 by_cases hlt:i<n
 ·refine .inr ⟨hlt,Pv (i+1),fun σ' H' p'=>⟨n-(i+1),by omega,rfl,hlt,p'⟩,fun x H' y=>?_⟩
  obtain ⟨e,y⟩:=y
  subst e y
  exact hs i σ _ hlt p
 ·have e:i=n:=by omega
  subst e
  exact .inl ⟨Nat.le_refl _,hd σ H p⟩
end L2
namespace L2
open PySem PySem.Spec PyProof.Rows
abbrev R2:=V->V->Hp->VK->Prop
def OpR (X:Cx) (f:Value->Value->Sem Value) (r:R2):Prop:=
 ∀ (pins:List (Addr × Obj)) (s:Shared) (σ:St) (H:Hp) (x y:V) (v u:Value) (Q:VK),Inv X pins σ H s->RelV x v->RelV y u->r x y H Q ->
  wpAny (model X.prog X.w) X.A (f v u) (EP X pins σ Q) X.xe s
def CallR (X:Cx) (f:Value) (r:List V->Hp->VK->Prop):Prop:=
 ∀ (pins:List (Addr × Obj)) (s:Shared) (σ:St) (H:Hp) (xs:List V) (us:List Value) (Q:VK),Inv X pins σ H s->Vals xs us->r xs H Q ->
  wpAny (model X.prog X.w) X.A (call f us) (EP X pins σ Q) X.xe s
def tOp (r:R2) (ta tb:TE):TE:=fun σ H Q=>ta σ H fun x H1=>tb σ H1 fun y H2=>r x y H2 Q
def rI (C:Int->Int->Prop) (g:Int->Int->V):R2:=fun x y H Q=>∃ i j,x = .int i/\y = .int j/\C i j/\Q (g i j) H
def rI0 (g:Int->Int->V):R2:=fun x y H Q=>∃ i j,x = .int i/\y = .int j/\Q (g i j) H
section
variable {X:Cx} {a b c:Expr} {ta tb tc:TE} {pos:Pos}
theorem binT (ha:PE X a ta) (hb:PE X b tb) {pins:List (Addr × Obj)} {s:Shared} {σ:St} {H:Hp} {R:V->V->Hp->Prop} (I:Inv X pins σ H s)
  (h:ta σ H fun x H1=>tb σ H1 fun y H2=>R x y H2) {Q:Value->Shared->Prop} {f:Value->Value->Sem Value}
  (hf : ∀ v u s2 x y H2,Inv X pins σ H2 s2->RelV x v->RelV y u->R x y H2->wpAny (model X.prog X.w) X.A (f v u) Q X.xe s2) :
  wpAny (model X.prog X.w) X.A (eval a X.env) (fun v s₁=>wpAny (model X.prog X.w) X.A (eval b X.env) (fun u s₂=>wpAny (model X.prog X.w) X.A (f v u) Q X.xe s₂) X.xe s₁) X.xe s:= by
 refine thn (ha pins s σ H _ I h) fun v s1 ⟨x,H1,I1,r1,q1⟩=>?_
 refine thn (hb pins s1 σ H1 _ I1 q1) fun u s2 ⟨y,H2,I2,r2,q2⟩=>?_
 exact hf v u s2 x y H2 I2 r1 r2 q2
theorem pe_op {op:Operator} {r:R2} (ho:OpR X (binaryOp op) r) (ha:PE X a ta) (hb:PE X b tb):PE X (.BinOp a op b pos) (tOp r ta tb):= by
 intro pins s σ H Q I h
 exact wpAny_BinOp (binT ha hb I h fun v u s2 x y H2 I2 rx ry q=>ho pins s2 σ H2 x y v u Q I2 rx ry q)
theorem opI {f:Value->Value->Sem Value} {C:Int->Int->Prop} {g:Int->Int->Int}
  (rule : ∀ (i j:Int) (t u:Tok) (s:Shared) (Q:Value->Shared->Prop) (E:Value->Shared->Prop),C i j->Q (.int (g i j) s.toks) { s with toks:=s.toks+1 }->wpAny (model X.prog X.w) X.A (f (.int i t) (.int j u)) Q E s) :
  OpR X f (rI C fun i j=>.int (g i j)):= by
 intro pins s σ H x y v u Q I rx ry h
 obtain ⟨i,j,rfl,rfl,hc,q⟩:=h
 obtain ⟨t,rfl⟩:=rx
 obtain ⟨t',rfl⟩:=ry
 exact rule i j t t' s _ _ hc ⟨.int (g i j),H,I.tok _,⟨_,rfl⟩,q⟩
theorem opI0 {f:Value->Value->Sem Value} {g:Int->Int->Int}
  (rule : ∀ (i j:Int) (t u:Tok) (s:Shared) (Q:Value->Shared->Prop) (E:Value->Shared->Prop),Q (.int (g i j) s.toks) { s with toks:=s.toks+1 }->wpAny (model X.prog X.w) X.A (f (.int i t) (.int j u)) Q E s) :
  OpR X f (rI0 fun i j=>.int (g i j)):= by
 intro pins s σ H x y v u Q I rx ry h
 obtain ⟨i,j,rfl,rfl,q⟩:=h
 obtain ⟨t,rfl⟩:=rx
 obtain ⟨t',rfl⟩:=ry
 exact rule i j t t' s _ _ ⟨.int (g i j),H,I.tok _,⟨_,rfl⟩,q⟩
theorem opB0 {f:Value->Value->Sem Value} {g:Int->Int->Bool}
  (rule : ∀ (i j:Int) (t u:Tok) (s:Shared) (Q:Value->Shared->Prop) (E:Value->Shared->Prop),Q (.bool (g i j)) s->wpAny (model X.prog X.w) X.A (f (.int i t) (.int j u)) Q E s) :
  OpR X f (rI0 fun i j=>.bl (g i j)):= by
 intro pins s σ H x y v u Q I rx ry h
 obtain ⟨i,j,rfl,rfl,q⟩:=h
 obtain ⟨t,rfl⟩:=rx
 obtain ⟨t',rfl⟩:=ry
 exact rule i j t t' s _ _ ⟨.bl (g i j),H,I,rfl,q⟩
def CPow (i j:Int):Prop:=0<=j/\j<=1000000/\i.natAbs<2 ^ 64
def CMul (i j:Int):Prop:=(-(2 ^ 64)<i/\i<2 ^ 64)\/(-(2 ^ 64)<j/\j<2 ^ 64)
theorem CMul.ok {i j:Int} (h:CMul i j):IntMulOk i j:= by
 rcases h with ⟨h1,h2⟩ | ⟨h1,h2⟩
 ·exact .of_left (intBits_le_64 h1 h2)
 ·exact .of_right (intBits_le_64 h1 h2)
theorem op_add:OpR X (binaryOp .Add) (rI0 fun i j=>.int (i+j)):=opI0 fun _ _ _ _ _ _ _ q=>add_int q
theorem op_sub:OpR X (binaryOp .Sub) (rI0 fun i j=>.int (i-j)):=opI0 fun _ _ _ _ _ _ _ q=>sub_int q
theorem op_mod:OpR X (binaryOp .Mod) (rI (fun _ j=>0<j) fun i j=>.int (i % j)):=opI fun i j _ _ _ _ _ hc q=>by
 have h1:(0:Int)<j:=hc
 exact mod_int' (by omega) (by rw[Int.fmod_eq_emod_of_nonneg i (by omega)];exact q)
theorem op_pow:OpR X (binaryOp .Pow) (rI CPow fun i j=>.int (i ^ j.toNat)):=opI fun _ _ _ _ _ _ _ hc q=>pow_int_small hc.1 hc.2.1 hc.2.2 q
end
def scal:V->V->Bool
 | .non,.non=>true | .non,.int _=>true | .int _,.non=>true | .non,.bl _=>true | .bl _,.non=>true | .non,.str _=>true | .str _,.non=>true
 | .int _,.int _=>true | .bl _,.bl _=>true | .str _,.str _=>true | .byt _,.byt _=>true
 | .int _,.str _=>true | .str _,.int _=>true | .bl _,.str _=>true | .str _,.bl _=>true
 | _,_=>false
def rEq:R2:=fun x y H Q=>scal x y=true/\Q (.bl (decide (x=y))) H
def rNe:R2:=fun x y H Q=>scal x y=true/\Q (.bl (!decide (x=y))) H
theorem dec_int {i j:Int}:decide (V.int i=V.int j)=(i==j):= by
 rw[Bool.eq_iff_iff]
 simp
theorem dec_bl {i j:Bool}:decide (V.bl i=V.bl j)=(i==j):= by
 rw[Bool.eq_iff_iff]
 simp
theorem dec_str {i j:Str}:decide (V.str i=V.str j)=(i==j):= by
 rw[Bool.eq_iff_iff]
 simp
theorem dec_byt {i j:Array UInt8}:decide (V.byt i=V.byt j)=(i.toList==j.toList):= by
 rw[Bool.eq_iff_iff]
 cases i
 cases j
 simp
section
variable {X:Cx} {a b c:Expr} {ta tb tc:TE} {pos:Pos}
theorem fin_bl {pins:List (Addr × Obj)} {σ:St} {H:Hp} {s:Shared} {Q:VK} {k k':Bool} (I:Inv X pins σ H s) (q:Q (.bl k) H) (e:k=k'):EP X pins σ Q (.bool k') s:= by
 subst e
 exact ⟨.bl k,H,I,rfl,q⟩
theorem op_eq:OpR X (compareOp .Eq) rEq:= by
 intro pins s σ H x y v u Q I rx ry h
 obtain ⟨hs,q⟩:=h
 cases x with
 | non=>
  cases rx
  cases y with
  | non=>cases ry;exact PySem.EqNone.eq_none_none (fin_bl I q (by simp))
  | bl j=>cases ry;exact PySem.EqNone.eq_none_bool (fin_bl I q (by simp))
  | int j=>obtain ⟨t',rfl⟩:=ry;exact PySem.EqNone.eq_none_int (fin_bl I q (by simp))
  | str j=>obtain ⟨t',rfl⟩:=ry;exact PySem.EqNone.eq_none_str (fin_bl I q (by simp))
  | _=>exact absurd (show false=true from hs) Bool.false_ne_true
 | bl i=>
  cases rx
  cases y with
  | non=>cases ry;exact PySem.EqNone.eq_bool_none (fin_bl I q (by simp))
  | bl j=>cases ry;exact eq_bool (fin_bl I q dec_bl)
  | str j=>obtain ⟨t',rfl⟩:=ry;exact PySem.EqMixed.eq_bool_str (fin_bl I q (by simp))
  | _=>exact absurd (show false=true from hs) Bool.false_ne_true
 | int i=>
  obtain ⟨t,rfl⟩:=rx
  cases y with
  | non=>cases ry;exact PySem.EqNone.eq_int_none (fin_bl I q (by simp))
  | int j=>obtain ⟨t',rfl⟩:=ry;exact eq_int (fin_bl I q dec_int)
  | str j=>obtain ⟨t',rfl⟩:=ry;exact PySem.EqMixed.eq_int_str (fin_bl I q (by simp))
  | _=>exact absurd (show false=true from hs) Bool.false_ne_true
 | str i=>
  obtain ⟨t,rfl⟩:=rx
  cases y with
  | non=>cases ry;exact PySem.EqNone.eq_str_none (fin_bl I q (by simp))
  | bl j=>cases ry;exact PySem.EqMixed.eq_str_bool (fin_bl I q (by simp))
  | int j=>obtain ⟨t',rfl⟩:=ry;exact PySem.EqMixed.eq_str_int (fin_bl I q (by simp))
  | str j=>obtain ⟨t',rfl⟩:=ry;exact eq_str (fin_bl I q dec_str)
  | _=>exact absurd (show false=true from hs) Bool.false_ne_true
 | byt i=>
  obtain ⟨t,rfl⟩:=rx
  cases y with
  | byt j=>obtain ⟨t',rfl⟩:=ry;exact PySem.W.eq_bytes (fin_bl I q dec_byt)
  | _=>exact absurd (show false=true from hs) Bool.false_ne_true
 | _=>cases y <;> exact absurd (show false=true from hs) Bool.false_ne_true
theorem op_ne:OpR X (compareOp .NotEq) rNe:= by
 intro pins s σ H x y v u Q I rx ry h
 obtain ⟨hs,q⟩:=h
 cases x with
 | non=>
  cases rx
  cases y with
  | non=>cases ry;exact PySem.EqNone.ne_none_none (fin_bl I q (by simp))
  | bl j=>cases ry;exact PySem.EqNone.ne_none_bool (fin_bl I q (by simp))
  | int j=>obtain ⟨t',rfl⟩:=ry;exact PySem.EqNone.ne_none_int (fin_bl I q (by simp))
  | str j=>obtain ⟨t',rfl⟩:=ry;exact PySem.EqNone.ne_none_str (fin_bl I q (by simp))
  | _=>exact absurd (show false=true from hs) Bool.false_ne_true
 | bl i=>
  cases rx
  cases y with
  | non=>cases ry;exact PySem.EqNone.ne_bool_none (fin_bl I q (by simp))
  | bl j=>cases ry;exact ne_bool (fin_bl I q (congrArg not dec_bl))
  | str j=>obtain ⟨t',rfl⟩:=ry;exact PySem.EqMixed.ne_bool_str (fin_bl I q (by simp))
  | _=>exact absurd (show false=true from hs) Bool.false_ne_true
 | int i=>
  obtain ⟨t,rfl⟩:=rx
  cases y with
  | non=>cases ry;exact PySem.EqNone.ne_int_none (fin_bl I q (by simp))
  | int j=>obtain ⟨t',rfl⟩:=ry;exact ne_int (fin_bl I q (congrArg not dec_int))
  | str j=>obtain ⟨t',rfl⟩:=ry;exact PySem.EqMixed.ne_int_str (fin_bl I q (by simp))
  | _=>exact absurd (show false=true from hs) Bool.false_ne_true
 | str i=>
  obtain ⟨t,rfl⟩:=rx
  cases y with
  | non=>cases ry;exact PySem.EqNone.ne_str_none (fin_bl I q (by simp))
  | bl j=>cases ry;exact PySem.EqMixed.ne_str_bool (fin_bl I q (by simp))
  | int j=>obtain ⟨t',rfl⟩:=ry;exact PySem.EqMixed.ne_str_int (fin_bl I q (by simp))
  | str j=>obtain ⟨t',rfl⟩:=ry;exact ne_str (fin_bl I q (congrArg not dec_str))
  | _=>exact absurd (show false=true from hs) Bool.false_ne_true
 | byt i=>
  obtain ⟨t,rfl⟩:=rx
  cases y with
  | byt j=>obtain ⟨t',rfl⟩:=ry;exact PySem.W.ne_bytes (fin_bl I q (congrArg not dec_byt))
  | _=>exact absurd (show false=true from hs) Bool.false_ne_true
 | _=>cases y <;> exact absurd (show false=true from hs) Bool.false_ne_true
theorem op_lt:OpR X (compareOp .Lt) (rI0 fun i j=>.bl (decide (i<j))):=opB0 fun _ _ _ _ _ _ _ q=>lt_int q
theorem op_le:OpR X (compareOp .LtE) (rI0 fun i j=>.bl (decide (i<=j))):=opB0 fun _ _ _ _ _ _ _ q=>le_int q
theorem op_gt:OpR X (compareOp .Gt) (rI0 fun i j=>.bl (decide (j<i))):=opB0 fun _ _ _ _ _ _ _ q=>gt_int q
theorem op_ge:OpR X (compareOp .GtE) (rI0 fun i j=>.bl (decide (j<=i))):=opB0 fun _ _ _ _ _ _ _ q=>ge_int q
theorem op_notN:OpR X (compareOp .IsNot) (fun x y H Q=>y = .non/\Q (.bl (!decide (x = .non))) H):= by
 intro pins s σ H x y v u Q I rx ry h
 obtain ⟨rfl,q⟩:=h
 cases ry
 refine isnot_none_gen (fin_bl I q ?_)
 cases x <;> first
  | (cases rx;rfl)
  | (obtain ⟨t,rfl⟩:=rx;rfl)
theorem nomark (b:Expr) {op:CmpOp} (h:op ≠ .In:=by decide) (h2:op ≠ .NotIn:=by decide):behindInMarks op b=false:= by
 have e1:(op==CmpOp.In)=false:=by cases op <;> first | rfl | exact absurd rfl h
 have e2:(op==CmpOp.NotIn)=false:=by cases op <;> first | rfl | exact absurd rfl h2
 cases b <;> simp [behindInMarks,e1,e2]
theorem pe_cmpR {op:CmpOp} {r:R2} (ho:OpR X (compareOp op) r) (ha:PE X a ta) (hb:PE X b tb) (hm:behindInMarks op b=false):PE X (.Compare a [op] [b] pos) (tOp r ta tb):= by
 intro pins s σ H Q I h
 exact wpAny_Compare1 (binT ha hb I h fun v u s2 x y H2 I2 rx ry q=>ho pins s2 σ H2 x y v u Q I2 rx ry q) hm
def tTest (t:TE):TT:=fun σ H Q=>t σ H fun x H'=>∃ k,x = .bl k/\Q k H'
theorem pt_cmpR {op:CmpOp} {r:R2} (ho:OpR X (compareOp op) r) (ha:PE X a ta) (hb:PE X b tb) (hm:behindInMarks op b=false):PT X (.Compare a [op] [b] pos) (tTest (tOp r ta tb)):= by
 intro pins s σ H Q I h
 refine wpAny_isTrue_Compare1 (thn (ha pins s σ H _ I h) fun v s1 ⟨x,H1,I1,r1,q1⟩=>thn (hb pins s1 σ H1 _ I1 q1) fun u s2 ⟨y,H2,I2,r2,q2⟩=>
  thn (ho pins s2 σ H2 x y v u _ I2 r1 r2 q2) fun c s3 ⟨z,H3,I3,r3,k,e,q3⟩=>?_) hm
 subst e
 cases r3
 exact wpAny_truthy_bool ⟨H3,I3,q3⟩
def tChain (r r':R2) (ta tb tc:TE):TE:=fun σ H Q=>ta σ H fun x H1=>tb σ H1 fun y H2=>r x y H2 fun z H3=>∃ k,z = .bl k /\
 (if k=true then tc σ H3 fun w' H4=>r' y w' H4 Q else Q (.bl false) H3)
theorem pe_chain {op op':CmpOp} {r r':R2} (ho:OpR X (compareOp op) r) (ho':OpR X (compareOp op') r') (ha:PE X a ta) (hb:PE X b tb) (hc:PE X c tc)
  (hm:lastMarks [op,op'] [b,c]=false:=by with_unfolding_all rfl):PE X (.Compare a [op,op'] [b,c] pos) (tChain r r' ta tb tc):= by
 intro pins s σ H Q I h
 refine Compare_chain (thn (ha pins s σ H _ I h) fun v s1 ⟨x,H1,I1,r1,q1⟩=>chain_link (thn (hb pins s1 σ H1 _ I1 q1) fun u s2 ⟨y,H2,I2,r2,q2⟩=>
  thn (ho pins s2 σ H2 x y v u _ I2 r1 r2 q2) fun d s3 ⟨z,H3,I3,r3,k,e,q3⟩=>?_)) hm
 subst e
 cases r3
 refine wpAny_truthy_bool ?_
 cases k with
 | false=>exact ite_ff ⟨.bl false,H3,I3,rfl,q3⟩
 | true=>exact ite_tt (chain_last (thn (hc pins s3 σ H3 _ I3 q3) fun w' s4 ⟨z',H4,I4,r4,q4⟩=>ho' pins s4 σ H4 y z' u w' Q I4 r2 r4 q4))
theorem pt_chain {op op':CmpOp} {r r':R2} (ho:OpR X (compareOp op) r) (ho':OpR X (compareOp op') r') (ha:PE X a ta) (hb:PE X b tb) (hc:PE X c tc)
  (hm:lastMarks [op,op'] [b,c]=false:=by with_unfolding_all rfl):PT X (.Compare a [op,op'] [b,c] pos) (tTest (tChain r r' ta tb tc)):= by
 intro pins s σ H Q I h
 refine isTrue_chain (thn (ha pins s σ H _ I h) fun v s1 ⟨x,H1,I1,r1,q1⟩=>test_link (thn (hb pins s1 σ H1 _ I1 q1) fun u s2 ⟨y,H2,I2,r2,q2⟩=>
  thn (ho pins s2 σ H2 x y v u _ I2 r1 r2 q2) fun d s3 ⟨z,H3,I3,r3,k,e,q3⟩=>?_)) hm
 subst e
 cases r3
 refine wpAny_truthy_bool ?_
 cases k with
 | false=>
  obtain ⟨k',e',q'⟩:=q3
  cases e'
  exact ite_ff ⟨H3,I3,q'⟩
 | true=>
  refine ite_tt (test_last (thn (hc pins s3 σ H3 _ I3 q3) fun w' s4 ⟨z',H4,I4,r4,q4⟩=>thn (ho' pins s4 σ H4 y z' u w' _ I4 r2 r4 q4) fun d' s5 ⟨z2,H5,I5,r5,k2,e2,q5⟩=>?_))
  subst e2
  cases r5
  exact wpAny_truthy_bool ⟨H5,I5,q5⟩
theorem line63:(sizeLine:Nat)<2 ^ 63:=by rw[sizeLine_eq];decide
theorem vals1 {x:V} {us:List Value} (r:Vals [x] us) : ∃ u,us=[u]/\RelV x u:= by
 cases r with
 | cons r1 r2=>cases r2;exact ⟨_,rfl,r1⟩
theorem vals2 {x y:V} {us:List Value} (r:Vals [x,y] us) : ∃ u w',us=[u,w']/\RelV x u/\RelV y w':= by
 cases r with
 | cons r1 r2=>
  cases r2 with
  | cons r3 r4=>cases r4;exact ⟨_,_,rfl,r1,r3⟩
theorem call_max2 (hc : X.calm = true) : CallR X (.builtin "max") (fun xs H Q=>∃ i j,xs = [.int i,.int j] /\ Q (.int (if j > i then j else i)) H):= by
 intro pins s σ H xs us Q I r h
 obtain ⟨i,j,rfl,q⟩:=h
 obtain ⟨u,w',rfl,⟨t,rfl⟩,⟨t',rfl⟩⟩:=vals2 r
 refine max_two_ints (I.ok.hd hc) fun h' tk k=>⟨_,H,I.kept k,?_,q⟩
 by_cases hj:j > i
 ·rw[if_pos hj,if_pos hj];exact ⟨_,rfl⟩
 ·rw[if_neg hj,if_neg hj];exact ⟨_,rfl⟩
theorem call_min2 (hc : X.calm = true) : CallR X (.builtin "min") (fun xs H Q=>∃ i j,xs = [.int i,.int j] /\ Q (.int (if j < i then j else i)) H):= by
 intro pins s σ H xs us Q I r h
 obtain ⟨i,j,rfl,q⟩:=h
 obtain ⟨u,w',rfl,⟨t,rfl⟩,⟨t',rfl⟩⟩:=vals2 r
 refine min_two_ints (I.ok.hd hc) fun h' tk k=>⟨_,H,I.kept k,?_,q⟩
 by_cases hj:j<i
 ·rw[if_pos hj,if_pos hj];exact ⟨_,rfl⟩
 ·rw[if_neg hj,if_neg hj];exact ⟨_,rfl⟩
end
end L2
namespace L2
open PySem PySem.Spec PyProof.Rows
structure ObjM (h:Heap) (x dx C:Addr) (mA:Str->Option Value):Prop where
 obj:h.get? x=some (PySem.W.instObj C dx)
 ns:h.Ns1 dx mA
 ne:dx≠x
theorem lookIn_ns {h:Heap} {dx:Addr} {mA:Str->Option Value} (n:h.Ns1 dx mA) : ∃ od,h.get? dx=some od /\ ∀ name,PySem.W.lookIn name od=some (mA name):= by
 obtain ⟨o,es,ep,ho,hd,hk,_,hm⟩:=n
 refine ⟨o,ho,fun name=>?_⟩
 have e:=hm name
 unfold nsFind findBy at e
 rw[<- Array.find?_toList] at e
 unfold PySem.W.lookIn
 rw[hd]
 dsimp only
 split
 ·rename_i y q
  rw[q] at e
  exact congrArg some e
 ·rename_i q
  rw[q] at e
  have a:es.toList.any (·.refKey)=false:= by
   rw[List.any_eq_false]
   intro y hy
   obtain ⟨z,t,hkey⟩:=hk y (Array.mem_toList_iff.mp hy)
   simp [DictEntry.refKey,hkey]
  have a' : ¬ es.toList.any (·.refKey)=true:=by rw[a];exact Bool.false_ne_true
  rw[if_neg a']
  exact congrArg some e
theorem ObjM.look {h:Heap} {x dx C:Addr} {mA:Str->Option Value} (I:ObjM h x dx C mA) : ∃ od,PySem.W.InstAt h x (PySem.W.instObj C dx) C (some od) /\ ∀ name,PySem.W.lookIn name od=some (mA name):=
 let ⟨od,ho,hl⟩:=lookIn_ns I.ns
 ⟨od,⟨I.obj,rfl,rfl,ho⟩,hl⟩
section
variable {prog:Program} {w:World} {A:Around} {E:Value->Shared->Prop} {s:Shared} {K:PySem.W.Frag} {x dx C f:Addr} {mA:Str->Option Value} {name:Str} {v:Value}
theorem get_map {expr:Bool} {Q:Value->Shared->Prop} (X:K.In s.heap) (I:ObjM s.heap x dx C mA) (hg:PySem.W.plainGet K C name=true) (hh:PySem.W.hasDictIn K C=true)
  (ha:PySem.W.findIn K (.ref C) name=some none) (hv:mA name=some v) (hv':PySem.W.handedIn v=true) (h:Q v { s with toks:=s.toks+1 }) :
  wpAny (model prog w) A (getAttr (.ref x) name expr) Q E s:= by
 obtain ⟨od,J,hl⟩:=I.look
 exact PySem.W.get_value X J (PySem.W.plainGet_of hg).1 (PySem.W.findObj_own hh ha rfl (by rw[hl,hv])) hv' h
theorem get_meth {pl:Sem Bool} {Q:Value × List Value->Shared->Prop} (X:K.In s.heap) (I:ObjM s.heap x dx C mA) (hg:PySem.W.plainGet K C name=true)
  (hf:PySem.W.findIn K (.ref C) name=some (some (.ref f))) (ht:PySem.W.isFn K (.ref f)=true) (hv:mA name=none) (h:Q (.ref f,[.ref x]) s) :
  wpAny (model prog w) A (getMethod (.ref x) name pl) Q E s:= by
 obtain ⟨od,J,hl⟩:=I.look
 exact PySem.W.method_fn X J (PySem.W.plainGet_of hg).1 (PySem.W.plainGet_of hg).2 hf (beq_iff_eq.mp ht) (by show (PySem.W.lookIn name od).map (·.isSome)=some false;rw[hl,hv];rfl) h
theorem set_map {ns:List Str} {Q:Unit->Shared->Prop} (X:K.In s.heap) (I:ObjM s.heap x dx C mA)
  (hs : PySem.W.findIn K (.ref C) "__setattr__" = some (some (.builtin "object.__setattr__"))) (hp : PySem.W.plainOver K C = true) (ht : PySem.W.takerIn K C name = some none) (hh : PySem.W.hasDictIn K C = true)
  (hw:PySem.Within mA ns) (hsz:ns.length<=sizeLine)
  (h : ∀ h',ObjM h' x dx C (fun y=>if y=name then some v else mA y)->Heap.SameBut dx s.heap h'->Q () { s with heap:=h',toks:=s.toks+2 }) :
  wpAny (model prog w) A (setAttr (.ref x) name v) Q E s:= by
 obtain ⟨od,J,hl⟩:=I.look
 refine PySem.W.set_plain X J hs (PySem.W.osa_open (s:={ s with toks:=s.toks+1 }) (r:=none) X J hp ht fun b=>?_)
 obtain ⟨cd,hc,hd'⟩:=PySem.W.any_some hh
 have hx:s.heap.get? x=some ⟨.ref C,some dx,.plain,#[]⟩:=I.obj
 refine wpAny_bind (wpAny_pure (wpAny_bind (wpAny_bind (wpAny_loadPart hx (wpAny_bind (PySem.W.Looks.here (s:={ s with toks:=s.toks+1 }) (PySem.W.looks_clsIn X hc) ?_))))))
 rw[hd']
 refine wpAny_pure (a:=some dx) (wpAny_bind (wpAny_pure (wpAny_bind ?_)))
 refine wpAny_nsSet1 (s:={ s with toks:=s.toks+1 }) I.ns fun h' hn2 hs2=>?_
 obtain ⟨oD,esD,epD,hoD,hdD,hcD⟩:=hn2.count (PySem.Within.cons name v hw)
 refine wpAny_bind (wpAny_lookBehind hoD (by rw[hdD];exact pastItsLine_dict (Nat.le_trans hcD (by rw[List.length_cons];omega))) ?_)
 exact wpAny_pure (h _ ⟨(hs2.2 _ (Ne.symm I.ne)).trans I.obj,hn2,I.ne⟩ hs2)
theorem make_map {R:Result->Shared->Prop} {vs:List Value} {kw:List (Str × Value)} (X:K.In s.heap) (hm:PySem.W.makesIn K C=true)
  (hi : PySem.W.findIn K (.ref C) "__init__" = some (some (.ref f))) (hf : PySem.W.typeIn K (.ref f) = some (.type "function"))
  (h : codeAny (model prog w) (A.under (.builtin "type.__call__" ⟨.ref C :: vs,kw⟩)) (.call (.ref f) ⟨.ref (s.heap.objs.size + 1) :: vs,kw⟩) (PySem.W.InitBack (s.heap.objs.size + 1) R)
   { s with heap:=(s.heap.push PySem.W.emptyDict).push (PySem.W.instObj C s.heap.objs.size) }) :
  codeAny (model prog w) A (.call (.ref C) ⟨vs,kw⟩) R s:= by
 obtain ⟨hh,g,d,t,os⟩:=s
 exact PySem.W.make_core (PySem.W.makes_of X hm) (PySem.W.looks_findIn X hi) (fun self=>PySem.W.bind_fn X self hf) (.inl rfl) h
end
def putF (f:Str) (v:V):List (Str × V)->List (Str × V)
 | []=>[(f,v)]
 | (g,x)::r=>if g=f then (g,v)::r else (g,x)::putF f v r
theorem lookup_putF (f g:Str) (v:V) : ∀ fs:List (Str × V),(putF f v fs).lookup g=if g=f then some v else fs.lookup g
 | []=>by
  show List.lookup g [(f,v)]=_
  by_cases h:g=f
  ·have hb:(g==f)=true:=beq_iff_eq.mpr h
   simp only [List.lookup,hb,if_pos h]
  ·have hb:(g==f)=false:=beq_eq_false_iff_ne.mpr h
   simp only [List.lookup,hb,if_neg h]
 | (k,x)::r=>by
  have ih:=lookup_putF f g v r
  rw[show putF f v ((k,x)::r)=(if k=f then (k,v)::r else (k,x)::putF f v r) from rfl]
  by_cases hk:k=f
  ·rw[if_pos hk]
   by_cases h:g=k
   ·have hb:(g==k)=true:=beq_iff_eq.mpr h
    simp only [List.lookup,hb,if_pos (h.trans hk)]
   ·have hb:(g==k)=false:=beq_eq_false_iff_ne.mpr h
    simp only [List.lookup,hb,if_neg (fun e:g=f=>h (e.trans hk.symm))]
  ·rw[if_neg hk]
   by_cases h:g=k
   ·have hb:(g==k)=true:=beq_iff_eq.mpr h
    simp only [List.lookup,hb,if_neg (fun e:g=f=>hk (h.symm.trans e))]
   ·have hb:(g==k)=false:=beq_eq_false_iff_ne.mpr h
    simp only [List.lookup,hb]
    exact ih
theorem keys_putF (f:Str) (v:V) : ∀ fs:List (Str × V),f ∈ (putF f v fs).map (·.1) /\ ∀ g,g ∈ fs.map (·.1)->g ∈ (putF f v fs).map (·.1)
 | []=>⟨by simp [putF],fun g h=>by simp at h⟩
 | (k,x)::r=>by
  obtain ⟨i1,i2⟩:=keys_putF f v r
  rw[show putF f v ((k,x)::r)=(if k=f then (k,v)::r else (k,x)::putF f v r) from rfl]
  by_cases hk:k=f
  ·rw[if_pos hk]
   subst hk
   exact ⟨by simp,fun g h=>by simpa using h⟩
  ·rw[if_neg hk]
   refine ⟨?_,fun g h=>?_⟩
   ·rw[List.map_cons]
    exact List.mem_cons_of_mem _ i1
   ·rw[List.map_cons] at h ⊢
    rcases List.mem_cons.mp h with e | e
    ·exact List.mem_cons.mpr (.inl e)
    ·exact List.mem_cons_of_mem _ (i2 g e)
theorem length_putF (f:Str) (v:V) : ∀ fs:List (Str × V),(putF f v fs).length<=fs.length+1
 | []=>by simp [putF]
 | (k,x)::r=>by
  have ih:=length_putF f v r
  rw[show putF f v ((k,x)::r)=(if k=f then (k,v)::r else (k,x)::putF f v r) from rfl]
  by_cases hk:k=f
  ·rw[if_pos hk,List.length_cons,List.length_cons];omega
  ·rw[if_neg hk,List.length_cons,List.length_cons];omega
theorem RelO.some_of {v:V} {o:Option Value} (r:RelO (some v) o) : ∃ u,o=some u/\RelV v u:= by
 cases o with
 | none=>exact (show False from r).elim
 | some u=>exact ⟨u,rfl,r⟩
theorem RelO.none_of {o:Option Value} (r:RelO none o):o=none:= by
 cases o with
 | none=>rfl
 | some u=>exact (show False from r).elim
theorem handed_of {v:V} {u:Value} (r:RelV v u):PySem.W.handedIn u=true:= by
 cases v with
 | non=>cases (show u=Value.none from r);rfl
 | bl b=>cases (show u=Value.bool b from r);rfl
 | int i=>obtain ⟨t,e⟩:=(show ∃ t,u=Value.int i t from r);cases e;rfl
 | str x=>obtain ⟨t,e⟩:=(show ∃ t,u=Value.str x t from r);cases e;rfl
 | byt b=>obtain ⟨t,e⟩:=(show ∃ t,u=Value.bytes b t from r);cases e;rfl
 | flt b=>obtain ⟨t,e⟩:=(show ∃ t,u=Value.float b t from r);cases e;rfl
 | ref a=>cases (show u=Value.ref a from r);rfl
 | ty n=>cases (show u=Value.type n from r);rfl
section
variable {P:Program} {w:World} {H H':Hp} {h h':Heap} {a C dx:Addr} {fs fs':List (Str × V)}
theorem ins_get (hok:HOk P w H h) (e:H a=some (.ins C dx fs)) : ∃ mA,ObjM h a dx C mA/\(∀ f,RelO (fs.lookup f) (mA f))/\PySem.Within mA (fs.map (·.1))/\fs.length<=1000/\H dx=some (.own a):= by
 obtain ⟨d,z,ne,ob,mA,n,r,q⟩:=(show ObjOk P w H h a (.ins C dx fs) from hok a _ e)
 exact ⟨mA,⟨ob,n,ne⟩,r,q,z,d⟩
end
structure Cls (K:PySem.W.Frag) (C:Addr):Prop where
 pg:PySem.W.plainGet K C Str.empty=true
 hd:PySem.W.hasDictIn K C=true
 po:PySem.W.plainOver K C=true
 sa : PySem.W.findIn K (.ref C) "__setattr__" = some (some (.builtin "object.__setattr__"))
theorem Cls.get {K:PySem.W.Frag} {C:Addr} (c:Cls K C) (f:Str):PySem.W.plainGet K C f=true:=c.pg
def NoAttr (K:PySem.W.Frag) (C:Addr) (f:Str):Prop:=PySem.W.findIn K (.ref C) f=some none
theorem NoAttr.taker {K:PySem.W.Frag} {C:Addr} {f:Str} (n:NoAttr K C f):PySem.W.takerIn K C f=some none:= by
 unfold PySem.W.takerIn
 rw[show PySem.W.findIn K (.ref C) f=some none from n]
 rfl
structure Meth (K:PySem.W.Frag) (C:Addr) (m:Str) (f:Addr):Prop where
 at_:PySem.W.findIn K (.ref C) m=some (some (.ref f))
 fn:PySem.W.isFn K (.ref f)=true
 kp:PySem.W.keepIn K (.ref f)=true
section
variable {X:Cx} {pins:List (Addr × Obj)} {σ:St} {H:Hp} {s:Shared} {a C dx:Addr} {fs:List (Str × V)} {f:Str} {v:V} {A:Around} {E:Value->Shared->Prop}
theorem getattr_ok {b:Bool} {Q:Value->Shared->Prop} (I:Inv X pins σ H s) (e:H a=some (.ins C dx fs)) (c:Cls X.K C) (n:NoAttr X.K C f) (l:fs.lookup f=some v)
  (h : ∀ u s',Inv X pins σ H s'->RelV v u->Q u s'):wpAny (model X.prog X.w) A (getAttr (.ref a) f b) Q E s:= by
 obtain ⟨mA,O,r,_,_,_⟩:=ins_get I.hok e
 obtain ⟨u,hu,ru⟩:=RelO.some_of (v:=v) (o:=mA f) (by rw[<- l];exact r f)
 exact get_map I.kIn O (c.get f) c.hd n hu (handed_of ru) (h u _ (I.tok _) ru)
theorem getmeth_ok {m:Str} {g:Addr} {pl:Sem Bool} {Q:Value × List Value->Shared->Prop} (I:Inv X pins σ H s) (e:H a=some (.ins C dx fs)) (c:Cls X.K C) (k:Meth X.K C m g) (l:fs.lookup m=none)
  (h:Q (.ref g,[.ref a]) s):wpAny (model X.prog X.w) A (getMethod (.ref a) m pl) Q E s:= by
 obtain ⟨mA,O,r,_,_,_⟩:=ins_get I.hok e
 have hn:mA m=none:=RelO.none_of (by rw[<- l];exact r m)
 exact get_meth I.kIn O (c.get m) k.at_ k.fn hn h
theorem setattr_ok {y:V} {u:Value} {Q:Unit->Shared->Prop} (I:Inv X pins σ H s) (e:H a=some (.ins C dx fs)) (c:Cls X.K C) (n:NoAttr X.K C f) (hl:fs.length<1000) (ry:RelV y u)
  (h : ∀ s',Inv X pins σ (upd H a (.ins C dx (putF f y fs))) s'->Q () s'):wpAny (model X.prog X.w) A (setAttr (.ref a) f u) Q E s:= by
 obtain ⟨mA,O,r,wi,_,ho⟩:=ins_get I.hok e
 have hz:(fs.map (·.1)).length<=sizeLine:=by rw[List.length_map,sizeLine_eq];omega
 refine set_map I.kIn O c.sa c.po n.taker c.hd wi hz fun h' O' sb=>h _ ?_
 have hd : ∃ o,h'.get? dx=some o:=let ⟨o,_,_,e',_⟩:=O'.ns;⟨o,e'⟩
 refine I.write (x:=a) (e:=dx) (by rw[e];exact True.intro) (.inr ho) (fun b q hb z=>(sb.2 b hb).trans z) hd ?_
 refine ⟨by rw[upd_ne O.ne];exact ho,?_,O.ne,O'.obj,_,O'.ns,fun g=>?_,fun g hg=>?_⟩
 ·have:=length_putF f y fs;omega
 ·show RelO ((putF f y fs).lookup g) (if g=f then some u else mA g)
  rw[lookup_putF]
  by_cases q:g=f
  ·rw[if_pos q,if_pos q];exact ry
  ·rw[if_neg q,if_neg q];exact r g
 ·by_cases q:g=f
  ·rw[q];exact (keys_putF f y fs).1
  ·refine (keys_putF f y fs).2 g (wi g fun z=>hg ?_)
   show (if g=f then some u else mA g)=none
   rw[if_neg q];exact z
theorem Inv.made (I:Inv X pins σ H s):Inv X pins σ (upd (upd H s.heap.objs.size (.own (s.heap.objs.size+1))) (s.heap.objs.size+1) (.ins C s.heap.objs.size []))
  { s with heap:=(s.heap.push PySem.W.emptyDict).push (PySem.W.instObj C s.heap.objs.size) }:= by
 have e1:(s.heap.push PySem.W.emptyDict).get? s.heap.objs.size=some PySem.W.emptyDict:=Heap.get?_push_size s.heap rfl
 have e2:((s.heap.push PySem.W.emptyDict).push (PySem.W.instObj C s.heap.objs.size)).get? (s.heap.objs.size+1)=some (PySem.W.instObj C s.heap.objs.size):= by
  have:=Heap.get?_push_size (s.heap.push PySem.W.emptyDict) (o:=PySem.W.instObj C s.heap.objs.size) rfl
  rwa [Heap.size_push] at this
 have e3:(s.heap.push PySem.W.emptyDict).Ns s.heap.objs.size (fun _=>none):=⟨PySem.W.emptyDict,#[],_,e1,rfl,(fun e he=>absurd he (by simp)),fun _=>rfl⟩
 have I1:=I.laid (a:=s.heap.objs.size) (o:=.own (s.heap.objs.size+1)) (h':=s.heap.push PySem.W.emptyDict) (t':=s.toks) (fun b u q=>Heap.get?_push_of_some _ q) (Nat.le_refl _) ⟨_,e1⟩
 refine I1.laid (a:=s.heap.objs.size+1) (o:=.ins C s.heap.objs.size []) (t':=s.toks) (fun b u q=>Heap.get?_push_of_some _ q) (Nat.le_of_eq (Heap.size_push _ _)) ?_
 have ne:s.heap.objs.size≠s.heap.objs.size+1:=Nat.ne_of_lt (Nat.lt_succ_self _)
 refine ⟨by rw[upd_ne ne,upd_same],Nat.zero_le _,ne,e2,fun _=>none,(Heap.Ns1.of_empty e3).at fun o q=>Heap.get?_push_of_some _ q,fun _=>True.intro,fun y hy=>absurd rfl hy⟩
theorem attr_of {prog:Program} {w:World} {env:Env} {e:Expr} {f:Str} {pos:Pos} {s:Shared} {Q:Value->Shared->Prop} (hb:attributeBase e f env (eval e env)=eval e env)
  (h:wpAny (model prog w) A (eval e env) (fun o s₁=>wpAny (model prog w) A (getAttr o f true) Q E s₁) E s):wpAny (model prog w) A (eval (.Attribute e f pos) env) Q E s:=
 Attribute_any_ h (by rw[arm_eval_Attribute,hb])
end
def tFld (K:PySem.W.Frag) (ta:TE) (f:Str):TE:=fun σ H Q=>ta σ H fun x H1=>∃ a C dx fs v,x = .ref a/\H1 a=some (.ins C dx fs)/\Cls K C/\NoAttr K C f/\fs.lookup f=some v/\Q v H1
def sFld (K:PySem.W.Frag) (ta tv:TE) (f:Str):TS:=fun D σ H=>tv σ H fun y H1=>ta σ H1 fun x H2=>∃ a C dx fs,x = .ref a/\H2 a=some (.ins C dx fs)/\Cls K C/\NoAttr K C f/\fs.length<1000 /\
 D.nx σ (upd H2 a (.ins C dx (putF f y fs)))
section
variable {X:Cx} {o e value:Expr} {f:Str} {pos pos' tpos:Pos} {ta tv:TE}
theorem pe_fld (he:PE X e ta) (hb:attributeBase e f X.env (eval e X.env)=eval e X.env):PE X (.Attribute e f pos) (tFld X.K ta f):= by
 intro pins s σ H Q I h
 refine attr_of hb (thn (he pins s σ H _ I h) fun u s1 ⟨x,H1,I1,rx,a,C,dx,fs,v,ex,ea,c,n,l,q⟩=>?_)
 subst ex
 obtain rfl:u=Value.ref a:=rx
 exact getattr_ok I1 ea c n l fun u' s2 I2 ru=>⟨v,H1,I2,ru,q⟩
theorem ps_fld (ha:PE X o ta) (hv:PE X value tv) (hs:swapsWith value (some (.Attribute o f pos')) pos.line X.env=pure false):PS X (.Assign [.Attribute o f pos'] value pos) (sFld X.K ta tv f):= by
 intro pins s σ H D I h
 refine plainObj_wpAny_Assign_Attribute (thn (hv pins s σ H _ I h) fun u s1 ⟨y,H1,I1,ry,q⟩=>thn (ha pins s1 σ H1 _ I1 q) fun ov s2 ⟨x,H2,I2,rx,a,C,dx,fs,ex,ea,c,n,l,q2⟩=>?_) hs
 subst ex
 obtain rfl:ov=Value.ref a:=rx
 exact setattr_ok I2 ea c n l ry fun s3 I3=>⟨σ,_,I3,q2⟩
theorem methcall_of {pl:Sem Bool} {m:Str} {apos:Pos} {args:List Expr} {pins:List (Addr × Obj)} {s:Shared} {σ:St} {H:Hp} {Q:Value->Shared->Prop} {te:TE} (he:PE X e te) (I:Inv X pins σ H s)
  (h:te σ H fun x H1=>∃ a C dx fs g,x = .ref a/\H1 a=some (.ins C dx fs)/\Cls X.K C/\Meth X.K C m g/\fs.lookup m=none /\
   ∀ s1,Inv X pins σ H1 s1->wpAny (model X.prog X.w) X.A (callWith pos (.ref g) [.ref a] (backTo pos (starEach args X.env)) (backToKw pos (keywordEach [] X.env))) Q X.xe s1)
  (ht:eval (.Call (.Attribute e m apos) args [] pos) X.env=(do
   let ov <- eval e X.env
   standAt apos.atName
   let (f,first) <- holding [ov] (getMethod ov m pl)
   callWith pos f first (backTo pos (starEach args X.env)) (backToKw pos (keywordEach [] X.env)))) :
  wpAny (model X.prog X.w) X.A (eval (.Call (.Attribute e m apos) args [] pos) X.env) Q X.xe s:= by
 refine PySem.W.methodCall_KW (pl:=pl) (thn (he pins s σ H _ I h) fun u s1 ⟨x,H1,I1,rx,a,C,dx,fs,g,ex,ea,c,k,l,q⟩=>?_) ht
 subst ex
 obtain rfl:u=Value.ref a:=rx
 exact getmeth_ok I1 ea c k l (q s1 I1)
end
section
variable {X:Cx} {pins:List (Addr × Obj)} {σ:St} {H:Hp} {s:Shared} {A:Around} {E:Value->Shared->Prop} {Q:Value->Shared->Prop} {c:Value} {b:Bool}
inductive TyOf (K:PySem.W.Frag) (H:Hp):V->Value->Prop where
 | non : TyOf K H .non (.type "NoneType")
 | bl (x : Bool) : TyOf K H (.bl x) (.type "bool")
 | int (i : Int) : TyOf K H (.int i) (.type "int")
 | str (x : Str) : TyOf K H (.str x) (.type "str")
 | flt (x : UInt64) : TyOf K H (.flt x) (.type "float")
 | lst {a : Addr} {xs : List V} (e : H a = some (.lst xs)) : TyOf K H (.ref a) (.type "list")
 | frz {a : Addr} {o : Obj} {xs : List V} (e : H a = some (.frz o (.lst xs))) : TyOf K H (.ref a) (.type "list")
 | tup {a : Addr} {xs : List V} (e : H a = some (.tup xs)) : TyOf K H (.ref a) (.type "tuple")
 | dK {a : Addr} {kvs : List (Key × V)} (e : H a = some (.dK kvs)) : TyOf K H (.ref a) (.type "dict")
 | dT {a : Addr} {kvs : List (List Key × V)} (e : H a = some (.dT kvs)) : TyOf K H (.ref a) (.type "dict")
 | ins {a C dx : Addr} {fs : List (Str × V)} (e : H a = some (.ins C dx fs)) (cl : Cls K C) (ha : PySem.W.findIn K (.ref C) "__class__" = some (some (.builtin "object.__class__")))
   (hn : PySem.W.specialIn K (.builtin "object.__class__") "__get__" = some (some (.builtin "getset_descriptor.__get__"))) (htk : PySem.W.takesIn K (.builtin "object.__class__") = some true)
   (hm : PySem.W.mroIn K C (.type "object") = some true) : TyOf K H (.ref a) (.ref C)
theorem isinst_ok {x:V} {u t:Value} (I:Inv X pins σ H s) (rx:RelV x u) (ty:TyOf X.K H x t) (e:PySem.W.kitOne X.K t c=some b) (h : ∀ tk,Q (.bool b) { s with toks:=tk }) :
  wpAny (model X.prog X.w) A (call (.builtin "isinstance") [u,c]) Q E s:= by
 cases ty with
 | non=>cases (show u=Value.none from rx);exact PySem.W.kia_one PySem.W.kitx_none I.kIn True.intro e (fun z=>nomatch z) h
 | bl y=>cases (show u=Value.bool y from rx);exact PySem.W.kia_one PySem.W.kitx_bool I.kIn True.intro e (fun z=>nomatch z) h
 | int i=>obtain ⟨t,q⟩:=(show ∃ t,u=Value.int i t from rx);cases q;exact PySem.W.kia_one PySem.W.kitx_int I.kIn True.intro e (fun z=>nomatch z) h
 | str y=>obtain ⟨t,q⟩:=(show ∃ t,u=Value.str y t from rx);cases q;exact PySem.W.kia_one PySem.W.kitx_str I.kIn True.intro e (fun z=>nomatch z) h
 | flt y=>obtain ⟨t,q⟩:=(show ∃ t,u=Value.float y t from rx);cases q;exact PySem.W.kia_one PySem.W.kitx_float I.kIn True.intro e (fun z=>nomatch z) h
 | @lst a xs ea=>
  cases (show u=Value.ref a from rx)
  obtain ⟨_,_,n,_,h1⟩:=(show ObjOk X.prog X.w H s.heap a (.lst xs) from I.hok a _ ea)
  exact PySem.W.kia_one PySem.W.kitx_list I.kIn ⟨_,h1,rfl⟩ e (fun z=>nomatch z) h
 | @frz a ob xs ea=>
  cases (show u=Value.ref a from rx)
  obtain ⟨_,_,_,n,_,h1⟩:=(show ObjOk X.prog X.w H s.heap a (.frz ob (.lst xs)) from I.hok a _ ea)
  exact PySem.W.kia_one PySem.W.kitx_list I.kIn ⟨_,h1,rfl⟩ e (fun z=>nomatch z) h
 | @tup a xs ea=>
  cases (show u=Value.ref a from rx)
  obtain ⟨_,_,_,p⟩:=(show ObjOk X.prog X.w H s.heap a (.tup xs) from I.hok a _ ea)
  obtain ⟨o,h1,h2,_⟩:=p
  exact PySem.W.kia_one PySem.W.kitx_tuple I.kIn ⟨o,h1,h2⟩ e (fun z=>nomatch z) h
 | @dK a kvs ea=>
  cases (show u=Value.ref a from rx)
  obtain ⟨_,_,vs,_,p⟩:=(show ObjOk X.prog X.w H s.heap a (.dK kvs) from I.hok a _ ea)
  obtain ⟨o,es,ep,h1,h2,_⟩:=p
  exact PySem.W.kia_one PySem.W.kitx_dict I.kIn ⟨o,h1,h2.1⟩ e (fun z=>nomatch z) h
 | @dT a kvs ea=>
  cases (show u=Value.ref a from rx)
  obtain ⟨_,_,xs,_,o,es,ep,h1,h2,_⟩:=(show ObjOk X.prog X.w H s.heap a (.dT kvs) from I.hok a _ ea)
  exact PySem.W.kia_one PySem.W.kitx_dict I.kIn ⟨o,h1,h2.1⟩ e (fun z=>nomatch z) h
 | @ins a C dx fs ea cl ha hn htk hm=>
  cases (show u=Value.ref a from rx)
  obtain ⟨mA,O,_⟩:=ins_get I.hok ea
  obtain ⟨od,J,_⟩:=O.look
  exact PySem.W.kia_one (PySem.W.kitx_own (cl.get _) cl.hd ha hn htk hm) I.kIn J e (fun z=>nomatch z) h
end
end L2
namespace L2
open PySem PySem.Spec PyProof.Rows
structure Room (k:Nat) (A:Around):Prop where
 hd:A.handled=none
 dp:A.depth+3*k+5<recursionLimit
 un:A.units+16*k+200<cLine
theorem Room.mono {j k:Nat} {A:Around} (r:Room k A) (h:j<=k):Room j A:=⟨r.hd,by have:=r.dp;omega,by have:=r.un;omega⟩
theorem Room.deeper {k:Nat} {A:Around} (r:Room (k+1) A) (env:Env):Room k (A.deeper env):=
 ⟨r.hd,by have:=r.dp;show A.depth+1+3*k+5<_;omega,by have:=r.un;show A.units+3+16*k+200<_;omega⟩
theorem Room.in1 {k:Nat} {A:Around} (r:Room (k+1) A):Room k A.in1:=
 ⟨r.hd,by have:=r.dp;show A.depth+3*k+5<_;omega,by have:=r.un;show A.units+1+16*k+200<_;omega⟩
theorem make_depth {A : Around} {C : Addr} {us : List Value} {kw : List (Str × Value)} : (A.under (.builtin "type.__call__" ⟨.ref C :: us,kw⟩)).depth = A.depth + 1:= by
 first | rfl | simp [Around.under,Code.weight,Code.isCreation,Code.isGuard,Code.isCaller,Code.frames,Code.isFrame,guardIds]
theorem make_units {A : Around} {C : Addr} {us : List Value} {kw : List (Str × Value)} : (A.under (.builtin "type.__call__" ⟨.ref C :: us,kw⟩)).units = A.units + 1:= by
 first | rfl | simp [Around.under,Code.cUnits,Code.frames,Code.isFrame]
theorem Room.make {k : Nat} {A : Around} (r : Room (k + 1) A) (C : Addr) (us : List Value) (kw : List (Str × Value)) : Room k (A.under (.builtin "type.__call__" ⟨.ref C :: us,kw⟩)):=
 ⟨r.hd,by have:=r.dp;rw[make_depth];omega,by have:=r.un;rw[make_units];omega⟩
theorem Room.depth {k:Nat} {A:Around} (r:Room k A):A.depth<recursionLimit:=by have:=r.dp;omega
theorem Room.units {k:Nat} {A:Around} (r:Room k A):A.units+64<cLine:=by have:=r.un;omega
def tNil:TA:=fun _ H Q=>Q [] H
def tCons (ta:TE) (tr:TA):TA:=fun σ H Q=>ta σ H fun x H1=>tr σ H1 fun xs H2=>Q (x::xs) H2
section
variable {X:Cx} {e:Expr} {es:List Expr} {te:TE} {t:TA} {pos:Pos}
theorem pa_nil:PA X [] tNil:=fun _ _ _ _ H Q I h=>Calls.spliced_nil ⟨[],H,I,.nil,h⟩
theorem pa_cons (ha:PE X e te) (hr:PA X es t) (hs:starEach (e::es) X.env=(false,eval e X.env)::starEach es X.env:=by rfl):PA X (e::es) (tCons te t):= by
 intro pos pins s σ H Q I h
 rw[hs]
 show wpAny _ _ (spliced ((false,eval e X.env)::backTo pos (starEach es X.env))) _ _ s
 refine Calls.spliced_cons (thn (ha pins s σ H _ I h) fun u s1 ⟨x,H1,I1,r1,q1⟩=>?_)
 exact thn (hr pos pins s1 σ H1 _ I1 q1) fun us s2 ⟨xs,H2,I2,r2,q2⟩=>⟨x::xs,H2,I2,.cons r1 r2,q2⟩
def tTup (t:TA):TE:=fun σ H Q=>t σ H fun xs H1=>xs.length<=sizeLine /\ ∀ p,H1 p=none->Q (.ref p) (upd H1 p (.tup xs))
def tLst (t:TA):TE:=fun σ H Q=>t σ H fun xs H1=>xs.length<=sizeLine /\ ∀ p,H1 p=none->Q (.ref p) (upd H1 p (.lst xs))
theorem pe_tup {x1} (h:PA X es t):PE X (.Tuple es x1 pos) (tTup t):= by
 intro pins s σ H Q I hq
 refine wpAny_Tuple_spliced (thn (h pos pins s σ H _ I hq) fun us s1 ⟨xs,H1,I1,r,z,q⟩=>⟨by rw[<- r.length];exact z,?_⟩)
 have hf:H1 s1.heap.objs.size=none:=I1.hok.fresh (Nat.le_refl _)
 refine ⟨.ref s1.heap.objs.size,upd H1 s1.heap.objs.size (.tup xs),I1.laid (t':=s1.toks) (fun b u e=>Heap.get?_push_of_some _ e) (Nat.le_refl _) ?_,rfl,q _ hf⟩
 exact ⟨z,us,r,⟨_,Heap.get?_push_size _ rfl,rfl,_,rfl⟩⟩
theorem pe_lst (h:PA X es t):PE X (.List es pos) (tLst t):= by
 intro pins s σ H Q I hq
 refine wpAny_List_spliced (thn (h pos pins s σ H _ I hq) fun us s1 ⟨xs,H1,I1,r,z,q⟩=>⟨by rw[<- r.length];exact z,?_⟩)
 have hf:H1 s1.heap.objs.size=none:=I1.hok.fresh (Nat.le_refl _)
 refine ⟨.ref s1.heap.objs.size,upd H1 s1.heap.objs.size (.lst xs),I1.laid (t':=s1.toks) (fun b u e=>Heap.get?_push_of_some _ e) (Nat.le_refl _) ?_,rfl,q _ hf⟩
 exact ⟨z,us,0,r,Heap.get?_push_size _ rfl⟩
end
abbrev Sp:=List V->Hp->VK->XK->Prop
abbrev CXT:=List Env->Hp->Shared->XK->Value->Shared->Prop
structure Env0 (P:Program) (w:World) (K:PySem.W.Frag) (mg:Str->Option Value) (base:Heap) (A:Around) (outer:List Env) (s:Shared) (H:Hp):Prop where
 frames:A.frames=some outer
 mod:Mod K mg base
 bs : ∀ b o,base.get? b=some o->s.heap.get? b=some o/\H b=none
 bsz:base.objs.size<=s.heap.objs.size
 funs:s.heap.FunFrames base outer
 frf : ∀ b ∈ frs outer,H b=none
 hok:HOk P w H s.heap
 bare:AllBare s.gens
def CE (outer:List Env) (P:Program) (w:World) (H:Hp) (s:Shared) (Q:VK) (u:Value) (s':Shared):Prop:=
 ∃ v H',s'.os=s.os/\AllBare s'.gens/\Un (frs outer) [] H H' s.heap s'.heap/\HOk P w H' s'.heap/\RelV v u/\Q v H'
def CR (CX:CXT) (outer:List Env) (P:Program) (w:World) (H:Hp) (s:Shared) (Q:VK) (E:XK) (r:Result) (s':Shared):Prop:=
 match r with
 | .ok (.ret u)=>CE outer P w H s Q u s'
 | .ok _=>False
 | .error e=>CX outer H s E e s'
structure FnOk (P:Program) (w:World) (K:PySem.W.Frag) (mg:Str->Option Value) (base:Heap) (CX:CXT) (k:Nat) (f:Addr) (fd:FuncData) (ps:List Str) (sp:Sp):Prop where
 len : ∀ vs H Q E,sp vs H Q E->vs.length=ps.length
 run : ∀ (A:Around) (outer:List Env) (s:Shared) (H:Hp) (args:Args) (us:List Value) (vs:List V) (Q:VK) (E:XK),Room k A->Env0 P w K mg base A outer s H->BindsTo s fd args (ps.zip us)->Vals vs us->sp vs H Q E ->
  codeAny (model P w) A (.call (.ref f) args) (CR CX outer P w H s Q E) s
theorem Env0.make {P:Program} {w:World} {K:PySem.W.Frag} {mg:Str->Option Value} {base:Heap} {A:Around} {outer:List Env} {s:Shared} {H:Hp} (e:Env0 P w K mg base A outer s H) (C:Addr) (us:List Value) (kw:List (Str × Value)) :
  Env0 P w K mg base (A.under (.builtin "type.__call__" ⟨.ref C :: us,kw⟩)) outer s H:=⟨by first | exact e.frames | (simpa [Around.under,Code.envs,Code.isFrame,pushEnvs] using e.frames),e.mod,e.bs,e.bsz,e.funs,e.frf,e.hok,e.bare⟩
theorem Env0.in1 {P:Program} {w:World} {K:PySem.W.Frag} {mg:Str->Option Value} {base:Heap} {A:Around} {outer:List Env} {s:Shared} {H:Hp} (e:Env0 P w K mg base A outer s H) :
  Env0 P w K mg base A.in1 outer s H:=⟨e.frames,e.mod,e.bs,e.bsz,e.funs,e.frf,e.hok,e.bare⟩
section
variable {X:Cx} {pins:List (Addr × Obj)} {σ:St} {H:Hp} {s s':Shared}
theorem Inv.env0 (I:Inv X pins σ H s):Env0 X.prog X.w X.K X.mg X.base X.A X.stack s H:=
 ⟨I.ok.frames,I.ok.mod,I.bs,Nat.le_trans I.ok.bsz I.sz,I.stack,I.stkFree,I.hok,I.bare⟩
theorem Inv.after {Q:VK} {u:Value} (I:Inv X pins σ H s) (h:CE X.stack X.prog X.w H s Q u s'):EP X pins σ Q u s':= by
 obtain ⟨v,H',os,bare,un,hok,r,q⟩:=h
 obtain ⟨hh,g,d,t,os'⟩:=s'
 obtain rfl:os'=s.os:=os
 exact ⟨v,H',I.call (h':=hh) (g':=g) (d':=d) (t':=t) (ch:=[]) un hok bare (fun b z=>absurd z (by simp)),r,q⟩
end
def tCall (sp:Sp) (dvs:List V) (E:XK) (t:TA):TE:=fun σ H Q=>t σ H fun vs H1=>sp (vs++dvs) H1 Q E
def tMeth (C:Addr) (m:Str) (sp:Sp) (dvs:List V) (E:XK) (ta:TE) (t:TA):TE:=fun σ H Q=>ta σ H fun x H1=>∃ a dx fs,x = .ref a/\H1 a=some (.ins C dx fs)/\fs.lookup m=none /\
 t σ H1 fun vs H2=>sp (x::(vs++dvs)) H2 Q E
def tMake (C:Addr) (sp:Sp) (dvs:List V) (E:XK) (t:TA):TE:=fun σ H Q=>t σ H fun vs H1=>∀ x dx,H1 x=none->H1 dx=none->dx≠x ->
 sp (.ref x::(vs++dvs)) (upd (upd H1 dx (.own x)) x (.ins C dx [])) (fun v H2=>v = .non/\Q (.ref x) H2) E
def Binds (K:PySem.W.Frag) (fd:FuncData) (ps:List Str) (ds:List Value):Prop:=
 ∀ (s:Shared) (us:List Value),K.In s.heap->(us++ds).length=ps.length->BindsTo s fd ⟨us,[]⟩ (ps.zip (us++ds))
theorem Binds.all {K:PySem.W.Frag} {fd:FuncData} {ps:List Str} (h : ∀ us:List Value,us.length=ps.length->bindArgs fd ⟨us,[]⟩=pure (ps.zip us)):Binds K fd ps []:=fun s us _ hl=>by
 rw[List.append_nil] at hl ⊢
 exact .of_eq (h us hl)
def Passes (CX:CXT) (X:Cx) (E:XK):Prop:=∀ (pins:List (Addr × Obj)) (σ:St) (H:Hp) (s:Shared) (e:Value) (s':Shared),Inv X pins σ H s->CX X.stack H s E e s'->X.xe e s'
section
variable {X:Cx} {CX:CXT} {k:Nat} {f C:Addr} {fd:FuncData} {ps:List Str} {sp:Sp} {dvs:List V} {ds:List Value} {E:XK} {x m:Str} {p pos apos:Pos} {e o:Expr} {es:List Expr} {ta:TE} {t:TA}
theorem run_fn {pins:List (Addr × Obj)} {σ:St} {H:Hp} {s:Shared} {Q:VK} {us:List Value} {vs:List V} (F:FnOk X.prog X.w X.K X.mg X.base CX k f fd ps sp) (hr:Room k X.A) (hb:Binds X.K fd ps ds) (hd:Vals dvs ds) (hx:Passes CX X E)
  (I:Inv X pins σ H s) (r:Vals vs us) (h:sp (vs++dvs) H Q E):wpAny (model X.prog X.w) X.A (call (.ref f) us) (EP X pins σ Q) X.xe s:= by
 have r2:Vals (vs++dvs) (us++ds):=r.append hd
 have hl:(us++ds).length=ps.length:=by rw[<- r2.length];exact F.len _ _ _ _ h
 refine wpAny_call (codeAny_mono (F.run X.A X.stack s H ⟨us,[]⟩ (us++ds) (vs++dvs) Q E hr I.env0 (hb s us I.kIn hl) r2 h) fun r s' hq=>?_)
 cases r with
 | error e=>exact hx pins σ H s e s' I hq
 | ok fl=>
  cases fl with
  | ret u=>exact I.after hq
  | next=>exact False.elim hq
  | brk=>exact False.elim hq
  | cont=>exact False.elim hq
theorem pe_call (F:FnOk X.prog X.w X.K X.mg X.base CX k f fd ps sp) (hr:Room k X.A) (hg:Gl X x) (hm:X.mg x=some (.ref f)) (hk:PySem.W.keepIn X.K (.ref f)=true) (hb:Binds X.K fd ps ds) (hd:Vals dvs ds) (hx:Passes CX X E)
  (ha : PA X (e :: es) t) (hdb : (x == ("__debug__" : Str)) = false:=by decide) (he : starEach (e :: es) X.env = (false,eval e X.env) :: starEach es X.env:=by rfl) (hpl : (backTo pos (starEach es X.env)).any (·.1) = false:=by rfl) :
  PE X (.Call (.Name x p) (e::es) [] pos) (tCall sp dvs E t):= by
 intro pins s σ H Q I h
 refine wpAny_Call_Name_kw (ld_glob I hg hm ?_ hdb)
 refine PySem.W.callWith_K (h₀:=X.base) I.ok.mod.kin hk (thn (ha pos pins s σ H _ I h) fun us s1 ⟨vs,H1,I1,r,q⟩=>⟨I1.kIn,?_⟩) he hpl
 exact run_fn F hr hb hd hx I1 r q
theorem pe_meth {pl:Sem Bool} (he:PE X o ta) (c:Cls X.K C) (hm:Meth X.K C m f) (F:FnOk X.prog X.w X.K X.mg X.base CX k f fd ps sp) (hr:Room k X.A) (hb:Binds X.K fd ps ds) (hd:Vals dvs ds) (hx:Passes CX X E) (ha:PA X (e::es) t)
  (hst:starEach (e::es) X.env=(false,eval e X.env)::starEach es X.env:=by rfl) (hpl:(backTo pos (starEach es X.env)).any (·.1)=false:=by rfl)
  (ht:eval (.Call (.Attribute o m apos) (e::es) [] pos) X.env=(do
   let ov <- eval o X.env
   standAt apos.atName
   let (f,first) <- holding [ov] (getMethod ov m pl)
   callWith pos f first (backTo pos (starEach (e::es) X.env)) (backToKw pos (keywordEach [] X.env))):=by rfl) :
  PE X (.Call (.Attribute o m apos) (e::es) [] pos) (tMeth C m sp dvs E ta t):= by
 intro pins s σ H Q I h
 refine PySem.W.methodCall_KW (pl:=pl) (thn (he pins s σ H _ I h) fun u s1 ⟨x,H1,I1,rx,a,dx,fs,ex,ea,l,q⟩=>?_) ht
 subst ex
 obtain rfl:u=Value.ref a:=rx
 refine getmeth_ok I1 ea c hm l ?_
 refine PySem.W.callWith_K (first:=[.ref a]) (h₀:=X.base) I.ok.mod.kin hm.kp (thn (ha pos pins s1 σ H1 _ I1 q) fun us s2 ⟨vs,H2,I2,r,q2⟩=>⟨I2.kIn,?_⟩) hst hpl
 exact run_fn (us:=.ref a::us) (vs:=.ref a::vs) F hr hb hd hx I2 (.cons rfl r) q2
theorem pe_meth0 {pl:Sem Bool} (he:PE X o ta) (c:Cls X.K C) (hm:Meth X.K C m f) (F:FnOk X.prog X.w X.K X.mg X.base CX k f fd ps sp) (hr:Room k X.A) (hb:Binds X.K fd ps ds) (hd:Vals dvs ds) (hx:Passes CX X E)
  (ht:eval (.Call (.Attribute o m apos) [] [] pos) X.env=(do
   let ov <- eval o X.env
   standAt apos.atName
   let (f,first) <- holding [ov] (getMethod ov m pl)
   callWith pos f first (backTo pos (starEach [] X.env)) (backToKw pos (keywordEach [] X.env))):=by rfl) :
  PE X (.Call (.Attribute o m apos) [] [] pos) (tMeth C m sp dvs E ta tNil):= by
 intro pins s σ H Q I h
 refine PySem.W.methodCall_KW (pl:=pl) (thn (he pins s σ H _ I h) fun u s1 ⟨x,H1,I1,rx,a,dx,fs,ex,ea,l,q⟩=>?_) ht
 subst ex
 obtain rfl:u=Value.ref a:=rx
 refine getmeth_ok I1 ea c hm l ?_
 exact PySem.W.callWith_K0 (first:=[.ref a]) I1.kIn hm.kp (run_fn (us:=[.ref a]) (vs:=[.ref a]) F hr hb hd hx I1 (.cons rfl .nil) q)
structure Mk (K:PySem.W.Frag) (C f:Addr):Prop where
 makes:PySem.W.makesIn K C=true
 init : PySem.W.findIn K (.ref C) "__init__" = some (some (.ref f))
 fn:PySem.W.isFn K (.ref f)=true
 kp:PySem.W.keepIn K (.ref C)=true
theorem run_make {pins:List (Addr × Obj)} {σ:St} {H:Hp} {s:Shared} {Q:VK} {us:List Value} {vs:List V} (M:Mk X.K C f) (F:FnOk X.prog X.w X.K X.mg X.base CX k f fd ps sp) (hr:Room (k+1) X.A) (hb:Binds X.K fd ps ds) (hd:Vals dvs ds)
  (hx:Passes CX X E) (I:Inv X pins σ H s) (r:Vals vs us)
  (h : ∀ x dx,H x=none->H dx=none->dx≠x->sp (.ref x::(vs++dvs)) (upd (upd H dx (.own x)) x (.ins C dx [])) (fun v H2=>v = .non/\Q (.ref x) H2) E) :
  wpAny (model X.prog X.w) X.A (call (.ref C) us) (EP X pins σ Q) X.xe s:= by
 have hq:=h (s.heap.objs.size+1) s.heap.objs.size (I.hok.fresh (Nat.le_succ _)) (I.hok.fresh (Nat.le_refl _)) (Nat.ne_of_lt (Nat.lt_succ_self _))
 have I2:=Inv.made (C:=C) I
 have r2:Vals (V.ref (s.heap.objs.size+1)::(vs++dvs)) (Value.ref (s.heap.objs.size+1)::(us++ds)):=.cons rfl (r.append hd)
 have hl:(Value.ref (s.heap.objs.size+1)::us++ds).length=ps.length:= by
  have e:=r2.length
  rw[F.len _ _ _ _ hq] at e
  exact e.symm
 refine wpAny_call (make_map (f:=f) I.kIn M.makes M.init (beq_iff_eq.mp M.fn) (codeAny_mono (F.run _ X.stack _ _ ⟨Value.ref (s.heap.objs.size+1)::us,[]⟩ (Value.ref (s.heap.objs.size+1)::(us++ds)) _ _ E (hr.make C us [])
  (I2.env0.make C us []) (hb _ (Value.ref (s.heap.objs.size+1)::us) I2.kIn hl) r2 hq) fun r s' hq'=>?_))
 cases r with
 | error e=>exact hx pins σ _ _ e s' I2 hq'
 | ok fl=>
  cases fl with
  | ret u=>
   obtain ⟨v,H',I3,rv,ev,q3⟩:=I2.after hq'
   subst ev
   exact ⟨rv,⟨V.ref (s.heap.objs.size+1),H',I3,rfl,q3⟩⟩
  | next=>exact False.elim hq'
  | brk=>exact False.elim hq'
  | cont=>exact False.elim hq'
theorem pe_make (M:Mk X.K C f) (F:FnOk X.prog X.w X.K X.mg X.base CX k f fd ps sp) (hr:Room (k+1) X.A) (hg:Gl X x) (hm:X.mg x=some (.ref C)) (hb:Binds X.K fd ps ds) (hd:Vals dvs ds) (hx:Passes CX X E)
  (ha : PA X (e :: es) t) (hdb : (x == ("__debug__" : Str)) = false:=by decide) (he : starEach (e :: es) X.env = (false,eval e X.env) :: starEach es X.env:=by rfl) (hpl : (backTo pos (starEach es X.env)).any (·.1) = false:=by rfl) :
  PE X (.Call (.Name x p) (e::es) [] pos) (tMake C sp dvs E t):= by
 intro pins s σ H Q I h
 refine wpAny_Call_Name_kw (ld_glob I hg hm ?_ hdb)
 refine PySem.W.callWith_K (h₀:=X.base) I.ok.mod.kin M.kp (thn (ha pos pins s σ H _ I h) fun us s1 ⟨vs,H1,I1,r,q⟩=>⟨I1.kIn,?_⟩) he hpl
 exact run_make M F hr hb hd hx I1 r q
end
section
variable {X:Cx} {CX:CXT} {k:Nat} {f C:Addr} {fd:FuncData} {ps ks:List Str} {sp:Sp} {E:XK} {x m:Str} {p pos apos kpos:Pos} {e o:Expr} {es:List Expr} {kws:List Keyword} {te ta:TE} {t tk:TA} {nm:Option Str}
variable {g:List Value->List Value->List Value} {gV:List V->List V->List V}
end
structure FnScope (N P:List Str) (sc:Scope):Prop where
 kind:sc.kind = .function
 co:sc.isCoroutine=false
 gen:sc.isGenerator=false
 nd:N.Nodup
 pre:N.take P.length=P
 par : ∀ x ∈ P,sc.names.lookup x=some .local\/sc.names.lookup x=some .cell
 nofree : ∀ y ∈ sc.names,y.2 ≠ .free
theorem bindL_out {kindOf:Str->Option NameKind} {x:Str} : ∀ {binds:List (Str × Value)} {m:Str->Option Value},(∀ v,(x,v) ∉ binds)->bindL kindOf binds m x=m x
 | [],_,_=>rfl
 | (n,v)::r,m,h=>by
  unfold bindL
  rw[bindL_out fun w hw=>h w (List.mem_cons_of_mem _ hw)]
  split
  ·have:x≠n:=by rintro rfl;exact h v List.mem_cons_self
   simp [this]
  ·rfl
theorem bindC_out {kindOf:Str->Option NameKind} {x:Str} : ∀ {binds:List (Str × Value)} {m:Str->Option Value},(∀ v,(x,v) ∉ binds)->bindC kindOf binds m x=m x
 | [],_,_=>rfl
 | (n,v)::r,m,h=>by
  unfold bindC
  rw[bindC_out fun w hw=>h w (List.mem_cons_of_mem _ hw)]
  split
  ·rfl
  ·have:x≠n:=by rintro rfl;exact h v List.mem_cons_self
   simp [this]
theorem bindL_get {kindOf:Str->Option NameKind} {x:Str} {v:Value} : ∀ {P:List Str} {vs:List Value} {i:Nat} {m:Str->Option Value},P.Nodup->P[i]?=some x->vs[i]?=some v->kindOf x=some .local ->
  bindL kindOf (P.zip vs) m x=some v
 | [],_,_,_,_,h,_,_=>by simp at h
 | _::_,[],_,_,_,_,h,_=>by simp at h
 | p::P,w::vs,0,m,nd,h1,h2,hk=>by
  simp at h1 h2;subst h1;subst h2
  show bindL kindOf ((p,w)::P.zip vs) m p=_
  unfold bindL
  rw[bindL_out fun v hv=>(List.nodup_cons.mp nd).1 (List.of_mem_zip hv).1,if_pos hk]
  simp
 | p::P,w::vs,i+1,m,nd,h1,h2,hk=>by
  show bindL kindOf ((p,w)::P.zip vs) m x=_
  unfold bindL
  exact bindL_get (i:=i) (List.nodup_cons.mp nd).2 (by simpa using h1) (by simpa using h2) hk
theorem bindC_get {kindOf:Str->Option NameKind} {x:Str} {v:Value} : ∀ {P:List Str} {vs:List Value} {i:Nat} {m:Str->Option Value},P.Nodup->P[i]?=some x->vs[i]?=some v->kindOf x≠some .local ->
  bindC kindOf (P.zip vs) m x=some v
 | [],_,_,_,_,h,_,_=>by simp at h
 | _::_,[],_,_,_,_,h,_=>by simp at h
 | p::P,w::vs,0,m,nd,h1,h2,hk=>by
  simp at h1 h2;subst h1;subst h2
  show bindC kindOf ((p,w)::P.zip vs) m p=_
  unfold bindC
  rw[bindC_out fun v hv=>(List.nodup_cons.mp nd).1 (List.of_mem_zip hv).1,if_neg hk]
  simp
 | p::P,w::vs,i+1,m,nd,h1,h2,hk=>by
  show bindC kindOf ((p,w)::P.zip vs) m x=_
  unfold bindC
  exact bindC_get (i:=i) (List.nodup_cons.mp nd).2 (by simpa using h1) (by simpa using h2) hk
def start (N:List Str) (vs:List V):St:=vs.map some++List.replicate (N.length-vs.length) none
def cxOf (CX:CXT) (P:Program) (w:World) (K:PySem.W.Frag) (mg:Str->Option Value) (base:Heap) (N:List Str) (qual:Str) (scope:Scope) (f:Addr) (cd:Value) (A:Around) (outer:List Env) (s:Shared) (H:Hp) (E:XK):Cx where
 prog:=P
 w:=w
 K:=K
 mg:=mg
 base:=base
 A:=A.deeper (envOfC qual scope s.heap.objs.size f cd)
 N:=N
 s₀:=s
 H₀:=H
 env:=envOfC qual scope s.heap.objs.size f cd
 outer:=outer
 stack:=envOfC qual scope s.heap.objs.size f cd::outer
 ex:=[]
 calm:=true
 fn:=fun _=>true
 pn:=[]
 xe:=fun e s'=>wpAny (model P w) (A.deeper (envOfC qual scope s.heap.objs.size f cd)) (leaving (envOfC qual scope s.heap.objs.size f cd) e) (fun _ s''=>CX outer H s E e s'') (fun e' s''=>CX outer H s E e' s'') s'
theorem cell_has {sc:Scope} {n:Nat} {x:Str} (h:sc.names.lookup x=some .cell) : ∃ c,(cellsFrom n sc.names []).lookup x=some c:= by
 have q:=PySem.W.cellsFrom_some sc.names n [] (.inl h)
 exact Option.isSome_iff_exists.mp q
theorem inv_start {CX:CXT} {P:Program} {w:World} {K:PySem.W.Frag} {mg:Str->Option Value} {base:Heap} {N ps:List Str} {qual:Str} {scope:Scope} {f:Addr} {cd:Value} {A:Around} {outer:List Env} {s s1:Shared} {H:Hp} {E:XK} {us:List Value} {vs:List V}
  (S:FnScope N ps scope) (hd:A.handled=none) (e0:Env0 P w K mg base A outer s H) (hl:vs.length=ps.length) (r:Vals vs us)
  (x:InCallC s s.heap.objs.size (bindL (envOfC qual scope s.heap.objs.size f cd).kindOf (ps.zip us) fun _=>none) (cellsFrom (s.heap.objs.size+1) scope.names []) (bindC (envOfC qual scope s.heap.objs.size f cd).kindOf (ps.zip us) fun _=>none) s1) :
  Inv (cxOf CX P w K mg base N qual scope f cd A outer s H E) [] (start N vs) H s1:= by
 have hpl:ps.length<=N.length:=by have:=congrArg List.length S.pre;rw[List.length_take] at this;omega
 obtain ⟨h1,tk,rfl,hk⟩:=x.done
 have noA : ∀ b:Addr,b ∉ (cxOf CX P w K mg base N qual scope f cd A outer s H E).ex:=fun b z=>absurd (show b ∈ ([]:List Addr) from z) (by simp)
 refine ⟨⟨e0.mod,S.kind,rfl,rfl,Nat.le_refl _,fun y z c h1 h2=>?_,fun y hy=>?_,fun y c _ h=>?_,fun _=>hd,Around.frames_deeper e0.frames,.inr ⟨rfl,rfl⟩,fun b z=>absurd z (noA b),e0.bs,e0.bsz,fun b _ _=>noA b,fun b z=>absurd z (noA b),e0.funs,e0.frf⟩,
  rfl,e0.bare,Un.kept hk,⟨_,x.toInCall.ns,fun i y v h1 h2 h3=>?_⟩,fun y c h=>⟨_,x.cell y c h⟩,e0.hok.fresh (Nat.le_refl _),fun y c h=>?_,fun p hp=>absurd (show p ∈ ([]:List (Addr × Obj)) from hp) (by simp),e0.hok.kept hk,?_⟩
 ·exact name_of_addr x.apart (PySem.mem_of_lookup h1) (PySem.mem_of_lookup h2)
 ·have hy:scope.names.lookup y=some .cell\/scope.names.lookup y=some .free:=hy
  rcases hy with hy | hy
  ·exact cell_has hy
  ·exact absurd rfl (S.nofree _ (PySem.mem_of_lookup hy))
 ·exact Nat.le_of_lt (x.above y c (PySem.mem_of_lookup h))
 ·have hi:i<vs.length:= by
   unfold start at h2
   by_cases hi:i<vs.length
   ·exact hi
   ·rw[List.getElem?_append_right (by simpa using hi)] at h2
    rw[List.getElem?_replicate] at h2
    split at h2 <;> cases h2
  have ha:vs[i]?=some v:= by
   unfold start at h2
   rw[List.getElem?_append_left (by simpa using hi),List.getElem?_map] at h2
   cases e:vs[i]? with
   | none=>rw[e] at h2;cases h2
   | some a=>rw[e] at h2;cases h2;rfl
  obtain ⟨u,hu,rv⟩:=r.get ha
  have hp:ps[i]?=some y:= by
   rw[<- S.pre,List.getElem?_take_of_lt (by omega)];exact h1
  have ndP:ps.Nodup:=by rw[<- S.pre];exact S.nd.sublist (List.take_sublist _ _)
  refine ⟨u,rv,?_⟩
  rcases S.par y (List.mem_of_getElem? hp) with k | k
  ·exact .inl ⟨k,bindL_get ndP hp hu k⟩
  ·obtain ⟨c,e⟩:=cell_has (n:=s.heap.objs.size+1) k
   refine .inr ⟨.inl k,c,e,?_⟩
   have q:=x.cell y c e
   rw[bindC_get ndP hp hu (by show scope.names.lookup y≠_;rw[k];decide)] at q
   exact q
 ·exact e0.hok.fresh (Nat.le_of_lt (x.above y c (PySem.mem_of_lookup h)))
 ·unfold start
  show _=N.length
  rw[List.length_append,List.length_map,List.length_replicate]
  omega
theorem fn_of {CX:CXT} {P:Program} {w:World} {K:PySem.W.Frag} {mg:Str->Option Value} {base:Heap} {k:Nat} {f:Addr} {name qual:Str} {params:Arguments} {body:List Stmt} {scope:Scope} {dV kV doc pm cdv ct oc:Value} {an od:Option Addr}
  {osl:Array (Option Value)} {N ps:List Str} {sp:Sp} (lk:K.lookup f=some ⟨oc,od,.func (PySem.W.fnOf name qual params body scope dV kV doc pm an cdv ct),osl⟩) (hcd:PySem.W.codeIn K cdv qual=true) (S:FnScope N ps scope)
  (len : ∀ vs H Q E,sp vs H Q E->vs.length=ps.length)
  (hbody : ∀ (A:Around) (outer:List Env) (s:Shared) (H:Hp) (vs:List V) (Q:VK) (E:XK),Room k (A.deeper (envOfC qual scope s.heap.objs.size f cdv))->sp vs H Q E ->
   ∃ t,PSs (cxOf CX P w K mg base N qual scope f cdv A outer s H E) body t/\t { nx:=fun _ H'=>Q .non H',rt:=Q } (start N vs) H) :
  FnOk P w K mg base CX (k+1) f (PySem.W.fnOf name qual params body scope dV kV doc pm an cdv ct) ps sp:= by
 refine ⟨len,fun A outer s H args us vs Q E hr e0 hb r hsp=>?_⟩
 have hl:=len _ _ _ _ hsp
 have KX:K.In s.heap:=e0.mod.kin.keeps fun b o e=>(e0.bs b o e).1
 have lim:s.heap.NoLimit:=e0.mod.nolimit.keeps fun b o e=>(e0.bs b o e).1
 have hkind : ∀ y ∈ ps.zip us,scope.names.lookup y.1=some .local\/(scope.names.lookup y.1=some .cell/\((cellsFrom (s.heap.objs.size+1) scope.names []).lookup y.1).isSome=true):=fun ⟨n,v⟩ hy=>by
  rcases S.par n (List.of_mem_zip hy).1 with q | q
  ·exact .inl q
  ·exact .inr ⟨q,PySem.W.cellsFrom_some _ _ _ (.inl q)⟩
 refine codeAny_call_function hr.depth (KX _ _ lk) rfl S.co S.gen rfl (PySem.W.codeRec_of KX hcd) (hb _ _ _ _ ?_)
 refine wpAny_newFunctionEnv_cells S.kind hkind fun env he s1 x=>?_
 subst he
 refine ⟨lim.keeps x.toInCall.keep,codeAny_func ?_⟩
 obtain ⟨t,ht,hq⟩:=hbody A outer s H vs Q E (hr.deeper _) hsp
 have I:Inv (cxOf CX P w K mg base N qual scope f cdv A outer s H E) [] (start N vs) H s1:=inv_start S hr.hd e0 hl r x
 refine wpAny_mono (ht [] s1 (start N vs) H _ I hq) (fun fl s' hs=>?_) fun e s' hs=>hs
 have fin : ∀ {σ':St} {H':Hp} {v:V} {u:Value},Inv (cxOf CX P w K mg base N qual scope f cdv A outer s H E) [] σ' H' s'->RelV v u->Q v H'->CE outer P w H s Q u s':=
  fun {σ' H' v u} J rv q=>⟨v,H',J.os,J.bare,J.base,J.hok,rv,q⟩
 cases fl with
 | ret u=>
  obtain ⟨v,σ',H',J,rv,q⟩:=hs
  exact fin J rv q
 | next=>
  obtain ⟨σ',H',J,q⟩:=hs
  exact fin (v:=V.non) (u:=Value.none) J rfl q
 | brk=>
  obtain ⟨_,_,_,q⟩:=hs
  exact False.elim q
 | cont=>
  obtain ⟨_,_,_,q⟩:=hs
  exact False.elim q
end L2
namespace L2
open PySem PySem.Spec PyProof.Rows
section
variable {X:Cx} {x:Str} {p pos:Pos} {e:Expr} {es:List Expr} {t:TA} {id T:String} {r:List V->Hp->VK->Prop}
def tCB (r:List V->Hp->VK->Prop) (t:TA):TE:=fun σ H Q=>t σ H fun vs H1=>r vs H1 Q
theorem pe_callB (hc : CallR X (.builtin id) r) (hg : Gl X x) (hm : X.mg x = none) (hv : bootBuiltins x = some (.builtin id)) (ha : PA X (e :: es) t) (hn : x ≠ "__name__":=by decide) (hdb : (x == ("__debug__" : Str)) = false:=by decide)
  (he:starEach (e::es) X.env=(false,eval e X.env)::starEach es X.env:=by rfl) (hpl:(backTo pos (starEach es X.env)).any (·.1)=false:=by rfl):PE X (.Call (.Name x p) (e::es) [] pos) (tCB r t):= by
 intro pins s σ H Q I h
 refine wpAny_Call_Name_kw (ld_blt I hg hm hv ?_ hn hdb)
 exact PyProof.Rows.callWith_builtin1 (thn (ha pos pins s σ H _ I h) fun us s1 ⟨vs,H1,I1,r1,q1⟩=>hc pins s1 σ H1 vs us Q I1 r1 q1) he hpl
theorem pe_callTy (hc : CallR X (.type T) r) (hg : Gl X x) (hm : X.mg x = none) (hv : bootBuiltins x = some (.type T)) (ha : PA X (e :: es) t) (hn : x ≠ "__name__":=by decide) (hdb : (x == ("__debug__" : Str)) = false:=by decide)
  (he:starEach (e::es) X.env=(false,eval e X.env)::starEach es X.env:=by rfl) (hpl:(backTo pos (starEach es X.env)).any (·.1)=false:=by rfl):PE X (.Call (.Name x p) (e::es) [] pos) (tCB r t):= by
 intro pins s σ H Q I h
 refine wpAny_Call_Name_kw (ld_blt I hg hm hv ?_ hn hdb)
 exact PyProof.Rows.callWith_type1 (thn (ha pos pins s σ H _ I h) fun us s1 ⟨vs,H1,I1,r1,q1⟩=>hc pins s1 σ H1 vs us Q I1 r1 q1) he hpl
end
end L2
namespace HT
open PySem PyProof.Rows
section
open PySem.SeqAt
open PySem.AutoSeq1 (wpAny_loadPart')
open PySem.MeetsSeq PySem.MeetsSeq2 PySem.MeetsSeq3
end
section
variable {prog:Program} {w:World} {A:Around} {E:Value->Shared->Prop} {s:Shared}
def sIx (n d:Nat):Option Int->Nat
 | none=>d
 | some v=>if v<0 then (v+(n:Int)).toNat else min v.toNat n
theorem sIx_none (n d:Nat):sIx n d none=d:=rfl
theorem sIx_nat (n d k:Nat):sIx n d (some (k:Int))=min k n:= by
 show (if (k:Int)<0 then ((k:Int)+(n:Int)).toNat else min (k:Int).toNat n)=min k n
 rw[if_neg (by omega),Int.toNat_natCast]
theorem sIx_le (n d:Nat) (hd:d<=n) (o:Option Int):sIx n d o<=n:= by
 cases o with
 | none=>exact hd
 | some v=>
  show (if v<0 then (v+(n:Int)).toNat else min v.toNat n)<=n
  by_cases hv:v<0
  ·rw[if_pos hv];omega
  ·rw[if_neg hv];exact Nat.min_le_right _ _
theorem clip_eq (v:Int) (n d:Nat):(if v<0 then max (v+(n:Int)) 0 else min v (n:Int))=((sIx n d (some v):Nat):Int):= by
 show (if v<0 then max (v+(n:Int)) 0 else min v (n:Int))=(((if v<0 then (v+(n:Int)).toNat else min v.toNat n):Nat):Int)
 by_cases hv:v<0
 ·simp only [if_pos hv];omega
 ·simp only [if_neg hv];omega
theorem adjust_gen (lo hi:Option Int) (n:Nat):Builtin.Slice.sliceAdjust lo hi 1 (n:Int)=(((sIx n 0 lo:Nat):Int),((sIx n n hi:Nat):Int)):= by
 have h1 : ¬ ((1:Int)<0):=by omega
 unfold Builtin.Slice.sliceAdjust
 simp only [h1,if_false]
 refine Prod.ext ?_ ?_
 ·cases lo with
  | none=>rfl
  | some v=>exact clip_eq v n 0
 ·cases hi with
  | none=>rfl
  | some v=>exact clip_eq v n n
theorem places_gen (i j:Nat):Builtin.Slice.slicePlaces (i:Int) (j:Int) 1=j-i:= by
 unfold Builtin.Slice.slicePlaces
 have h1:(1:Int) > 0:=by omega
 simp only [h1,if_true,Int.ediv_one]
 split <;> omega
theorem slicePart_ {v:Value} {o:Option Int} {Q:Option Int->Shared->Prop} (p:IsPart v o) (h:Q o s):wpAny (model prog w) A (Builtin.Slice.slicePartIndex v) Q E s:= by
 cases p with
 | none=>exact slicePart_none h
 | int i t=>exact slicePart_int h
theorem sliceApplied_gen {sl:Addr} {vl vu:Value} {lo hi:Option Int} {n:Nat} {Q:Int × Int × Nat->Shared->Prop} (hs:s.heap.IsSliceOf sl vl vu .none) (pl:IsPart vl lo) (pu:IsPart vu hi)
  (h:Q (((sIx n 0 lo:Nat):Int),1,sIx n n hi-sIx n 0 lo) s):wpAny (model prog w) A (Builtin.Slice.sliceApplied (.ref sl) (pure (n:Int))) Q E s:= by
 obtain ⟨os,hos,hcs,hds⟩:=id hs
 unfold Builtin.Slice.sliceApplied Builtin.Slice.sliceFields
 refine wpAny_bind (wpAny_bind (wpAny_field hos hds (x:=vl) rfl (wpAny_bind (wpAny_field hos hds (x:=vu) rfl (wpAny_bind (wpAny_field hos hds (x:=.none) rfl (wpAny_pure ?_)))))))
 refine wpAny_bind (slicePart_none ?_)
 show wpAny _ _ (if ((1:Int)==0)=true then _ else _) _ _ s
 rw[if_neg (by decide)]
 refine wpAny_bind (slicePart_ pl (wpAny_bind (slicePart_ pu (wpAny_bind (wpAny_pure ?_)))))
 show wpAny _ _ (match Builtin.Slice.sliceAdjust lo hi 1 (n:Int) with | (lo,hi)=>pure (lo,(1:Int),Builtin.Slice.slicePlaces lo hi 1)) _ _ s
 rw[adjust_gen lo hi n]
 show wpAny _ _ (pure (((sIx n 0 lo:Nat):Int),(1:Int),Builtin.Slice.slicePlaces ((sIx n 0 lo:Nat):Int) ((sIx n n hi:Nat):Int) 1)) _ _ s
 rw[places_gen]
 exact wpAny_pure h
theorem pick_gen (xs:Array Value) (i k:Nat):((List.range k).filterMap fun (m:Nat)=>xs[((i:Int)+(m:Int)*1).toNat]?).toArray=((xs.toList.drop i).take k).toArray:= by
 have e:(fun (m:Nat)=>xs[((i:Int)+(m:Int)*1).toNat]?)=fun m=>xs[i+m]?:= by
  funext m
  have:((i:Int)+(m:Int)*1).toNat=i+m:=by omega
  rw[this]
 rw[e]
 have:=pick_run xs i k
 rw[List.filterMap_map] at this
 have e2:((fun x=>xs[x]?)∘fun x=>i+x)=fun m=>xs[i+m]?:=rfl
 rw[e2] at this
 rw[this]
theorem getItem_tuple_cut {t sl:Addr} {items:Array Value} {vl vu:Value} {lo hi:Option Int} {Q:Value->Shared->Prop} (ht:IsTup s.heap t items) (hs:s.heap.IsSliceOf sl vl vu .none) (pl:IsPart vl lo) (pu:IsPart vu hi)
  (hw : ¬ (sIx items.size 0 lo=0/\sIx items.size items.size hi=items.size))
  (h : Q (.ref s.heap.objs.size) { s with heap:=s.heap.push { cls:=.type "tuple",data:=.seq ((items.toList.drop (sIx items.size 0 lo)).take (sIx items.size items.size hi - sIx items.size 0 lo)).toArray } })
  (hsz:items.size<=sizeLine):wpAny (model prog w) A (getItem (.ref t) (.ref sl)) Q E s:= by
 have htake:sizeOk (.seq ((items.toList.drop (sIx items.size 0 lo)).take (sIx items.size items.size hi-sIx items.size 0 lo)).toArray):= by
  show ((items.toList.drop (sIx items.size 0 lo)).take (sIx items.size items.size hi-sIx items.size 0 lo)).toArray.size<=sizeLine
  rw[List.size_toArray,List.length_take,List.length_drop,Array.length_toList]
  omega
 have hj:sIx items.size items.size hi<=items.size:=sIx_le _ _ (Nat.le_refl _) hi
 obtain ⟨os,hos,hcs,hds⟩:=id hs
 have hTs : s.TypeIs (.ref sl) "slice":=⟨os,hos,hcs⟩
 unfold getItem
 try with_reducible refine wpAny_holding ?_
 first | refine wpAny_bind (wpAny_pure ?_) | skip
 refine wpAny_bind (wpAny_sequenceKey ht.typeIs (by decide) ?_)
 refine wpAny_bind (wpAny_callSpecial?_slot (name:=Str.ofString "__getitem__") ht.typeIs PyProof.Rows.slot_tuple_getitem
  (wpAny_call_entry PyProof.Rows.slot_tuple_getitem ht.typeIs entry_tuple_getitem ?_ (args_tuple_getitem _ _)))
 show wpAny _ _ (Builtin.Tuple.tupleItemsOf (.ref t) >>= _) _ _ s
 refine wpAny_bind (tupleItemsOf_ ht ?_)
 refine wpAny_bind (wpAny_typeOf hTs ?_)
 rw[if_pos (by decide)]
 refine wpAny_bind (sliceApplied_gen hs pl pu ?_)
 have hno : ¬ ((((sIx items.size 0 lo:Nat):Int)==0&&(1:Int)==1&&(sIx items.size items.size hi-sIx items.size 0 lo)==items.size)=true):= by
  intro q
  rw[Bool.and_eq_true,Bool.and_eq_true] at q
  have q1:((sIx items.size 0 lo:Nat):Int)=0:=eq_of_beq q.1.1
  have q2:sIx items.size items.size hi-sIx items.size 0 lo=items.size:=eq_of_beq q.2
  exact hw ⟨by omega,by omega⟩
 show wpAny _ _ (if (((sIx items.size 0 lo:Nat):Int)==0&&(1:Int)==1&&(sIx items.size items.size hi-sIx items.size 0 lo)==items.size)=true then _ else _) _ _ s
 rw[if_neg hno,pick_gen]
 first
  | exact wpAny_bind (m:=Builtin.Tuple.tupleExact _) (wpAny_newObj_type (wpAny_pure ⟨_,rfl,wpAny_pure h⟩) htake)
  | exact wpAny_bind (m:=Builtin.Tuple.tupleExact _) (wpAny_newObj_type (wpAny_bind (wpAny_pure (wpAny_pure ⟨_,rfl,wpAny_pure h⟩))) htake)
  | exact wpAny_bind (wpAny_bind (m:=Builtin.Tuple.tupleExact _) (wpAny_newObj_type (wpAny_pure (wpAny_pure ⟨_,rfl,wpAny_pure h⟩)) htake))
  | exact wpAny_bind (wpAny_bind (m:=Builtin.Tuple.tupleExact _) (wpAny_newObj_type (wpAny_pure ⟨_,rfl,wpAny_pure h⟩) htake))
end
end HT
namespace L2
open PySem PySem.Spec PyProof.Rows
abbrev TO:=St->Hp->(Option Int->Hp->Prop)->Prop
def PO (X:Cx) (e:Option Expr) (t:TO):Prop:=
 ∀ (pins:List (Addr × Obj)) (s:Shared) (σ:St) (H:Hp) (Q:Option Int->Hp->Prop),Inv X pins σ H s->t σ H Q ->
  wpAny (model X.prog X.w) X.A (evalPart e X.env) (fun u s'=>∃ o H',Inv X pins σ H' s'/\IsPart u o/\Q o H') X.xe s
def tNoPart:TO:=fun _ H Q=>Q none H
def tPart (t:TE):TO:=fun σ H Q=>t σ H fun x H1=>∃ i,x = .int i/\Q (some i) H1
theorem intsAre_of {ns:List Int} : ∀ {us:List Value},Vals (ns.map V.int) us->IntsAre us ns:= by
 induction ns with
 | nil=>intro us r;rw[List.map_nil] at r;cases r;exact .nil
 | cons n ns ih=>
  intro us r
  rw[List.map_cons] at r
  cases r with
  | cons r1 r2=>
   obtain ⟨t,e⟩:=r1
   subst e
   exact .cons n t (ih r2)
section
variable {X:Cx} {e:Expr} {te:TE} {lo hi:Option Expr} {tl th:TO} {pos p2:Pos}
theorem po_none:PO X none tNoPart:= by
 intro pins s σ H Q I h
 rw[evalPart_none]
 exact wpAny_pure ⟨none,H,I,.none,h⟩
theorem po_some (h:PE X e te):PO X (some e) (tPart te):= by
 intro pins s σ H Q I hw
 rw[evalPart_some]
 refine thn (h pins s σ H _ I hw) fun u s1 ⟨x,H1,I1,r1,q1⟩=>?_
 obtain ⟨i,rfl,q⟩:=q1
 obtain ⟨t,rfl⟩:=r1
 exact ⟨some i,H1,I1,.int i t,q⟩
def SlR (X:Cx) (r:V->Option Int->Option Int->Hp->VK->Prop):Prop:=
 ∀ (pins:List (Addr × Obj)) (s:Shared) (σ:St) (H:Hp) (x:V) (v vl vu:Value) (lo hi:Option Int) (sl:Addr) (Q:VK),Inv X pins σ H s->RelV x v->s.heap.IsSliceOf sl vl vu .none->IsPart vl lo->IsPart vu hi->r x lo hi H Q ->
  ∃ T id,typeLookup (.type T) "__getitem__" = pure (some (.builtin id)) /\ s.TypeIs v T /\ wpAny (model X.prog X.w) X.A (getItem v (.ref sl)) (EP X pins σ Q) X.xe s
def tSl (r:V->Option Int->Option Int->Hp->VK->Prop) (te:TE) (tl th:TO):TE:=fun σ H Q=>te σ H fun x H1=>tl σ H1 fun l H2=>th σ H2 fun u H3=>r x l u H3 Q
theorem pe_slice {r:V->Option Int->Option Int->Hp->VK->Prop} (hr:SlR X r) (he:PE X e te) (hl:PO X lo tl) (hu:PO X hi th):PE X (.Subscript e (.Slice lo hi none p2) pos) (tSl r te tl th):= by
 intro pins s σ H Q I h
 refine Subscript_ (thn (he pins s σ H _ I h) fun v s1 ⟨x,H1,I1,r1,q1⟩=>?_)
 refine wpAny_Slice (thn (hl pins s1 σ H1 _ I1 q1) fun vl s2 ⟨l,H2,I2,pl,q2⟩=>thn (hu pins s2 σ H2 _ I2 q2) fun vu s3 ⟨u,H3,I3,pu,q3⟩=>?_)
 rw[evalPart_none]
 refine wpAny_pure ?_
 have I4 : Inv X pins σ H3 { s3 with heap:=s3.heap.push { cls:=.type "slice",data:=.fields #[vl,vu,.none] } }:=I3.kept (t':=s3.toks) fun b ob q=>Heap.get?_push_of_some _ q
 obtain ⟨T,id,hT,ht,hg⟩:=hr pins { s3 with heap:=s3.heap.push { cls:=.type "slice",data:=.fields #[vl,vu,.none] } } σ H3 x v vl vu l u s3.heap.objs.size Q I4 r1 (Heap.IsSliceOf.new ..) pl pu q3
 show wpAny (model X.prog X.w) X.A (subscriptTail e (.Slice lo hi none p2) v (.ref s3.heap.objs.size)) (EP X pins σ Q) X.xe { s3 with heap:=s3.heap.push { cls:=.type "slice",data:=.fields #[vl,vu,.none] } }
 exact tail_any (ops:=[.ref s3.heap.objs.size,v]) ht hT hg (by with_unfolding_all rfl)
def cutV (xs:List V) (lo hi:Option Int):List V:=(xs.drop (HT.sIx xs.length 0 lo)).take (HT.sIx xs.length xs.length hi-HT.sIx xs.length 0 lo)
theorem cutV_length (xs:List V) (lo hi:Option Int):(cutV xs lo hi).length<=xs.length:= by
 unfold cutV
 rw[List.length_take,List.length_drop]
 omega
def rSlT (K:PySem.W.Frag):V->Option Int->Option Int->Hp->VK->Prop:=fun x lo hi H Q=>∃ a xs,x = .ref a/\SqT K H a xs /\
 ¬ (HT.sIx xs.length 0 lo=0/\HT.sIx xs.length xs.length hi=xs.length) /\ ∀ p,H p=none->Q (.ref p) (upd H p (.tup (cutV xs lo hi)))
theorem sl_tup:SlR X (rSlT X.K):= by
 intro pins s σ H x v vl vu lo hi sl Q I rx hs pl pu h
 obtain ⟨a,xs,rfl,hx,hw,q⟩:=h
 cases rx
 obtain ⟨its,r,ht,hz⟩:=I.tuple hx
 have hlen:its.toArray.size=xs.length:=by rw[List.size_toArray];exact r.length.symm
 refine ⟨"tuple",_,PyProof.Rows.slot_tuple_getitem.lookup,ht.typeIs,?_⟩
 refine HT.getItem_tuple_cut ht hs pl pu (by rw[hlen];exact hw) ?_ (by rw[hlen];exact hz)
 rw[hlen]
 refine ⟨.ref s.heap.objs.size,_,I.laid (t':=s.toks) (o:=.tup (cutV xs lo hi)) (fun b ob q=>Heap.get?_push_of_some _ q) (Nat.le_refl _) ?_,rfl,q _ (I.hok.fresh (Nat.le_refl _))⟩
 exact ⟨Nat.le_trans (cutV_length xs lo hi) hz,_,(r.drop (HT.sIx xs.length 0 lo)).take (HT.sIx xs.length xs.length hi-HT.sIx xs.length 0 lo),IsTup.new _ _⟩
end
end L2
namespace L2
open PySem PySem.Spec PyProof.Rows
def ixN (n:Nat) (i:Int):Option Nat:=if 0<=i then (if i<n then some i.toNat else none) else if -(n:Int)<=i then some (i+n).toNat else none
def atI {α:Type} (xs:List α) (i:Int):Option α:=(ixN xs.length i).bind fun j=>xs[j]?
theorem ixN_seq {n:Nat} {i:Int} {j:Nat} (h:ixN n i=some j):seqIndex? i n=some j/\j<n /\ -(n:Int)<=i/\i<n:= by
 unfold ixN at h
 by_cases h0:0<=i
 ·rw[if_pos h0] at h
  by_cases h1:i<n
  ·rw[if_pos h1] at h
   have e:i.toNat=j:=Option.some.inj h
   exact ⟨by rw[seqIndex_of h0 h1,e],by omega,by omega,h1⟩
  ·rw[if_neg h1] at h;cases h
 ·rw[if_neg h0] at h
  by_cases h1 : -(n:Int)<=i
  ·rw[if_pos h1] at h
   have e:(i+n).toNat=j:=Option.some.inj h
   exact ⟨by rw[seqIndex_neg (by omega) h1,e],by omega,h1,by omega⟩
  ·rw[if_neg h1] at h;cases h
theorem atI_get {α:Type} {xs:List α} {i:Int} {v:α} (h:atI xs i=some v) : ∃ j,seqIndex? i xs.length=some j/\xs[j]?=some v/\j<xs.length /\ -(xs.length:Int)<=i/\i<xs.length:= by
 unfold atI at h
 cases e:ixN xs.length i with
 | none=>rw[e] at h;cases h
 | some j=>
  rw[e] at h
  obtain ⟨h1,h2,h3,h4⟩:=ixN_seq e
  exact ⟨j,h1,h,h2,h3,h4⟩
theorem atI_nat {α:Type} {xs:List α} {j:Nat} {v:α} (h:xs[j]?=some v):atI xs (j:Int)=some v:= by
 have hj:j<xs.length:=(List.getElem?_eq_some_iff.mp h).1
 have e:ixN xs.length (j:Int)=some j:= by
  unfold ixN
  rw[if_pos (by omega),if_pos (by omega)];simp
 unfold atI;rw[e];exact h
def PlainIx (b:Expr):Prop:=∀ o i,subscripted b false o i=operate [o,i] (getItem o i)
def IxR (X:Cx) (r:R2):Prop:=
 ∀ (value slice:Expr) (pins:List (Addr × Obj)) (s:Shared) (σ:St) (H:Hp) (x y:V) (v u:Value) (Q:VK),Inv X pins σ H s->RelV x v->RelV y u->r x y H Q ->
  subscripted slice false v u=operate [v,u] (getItem v u)->wpAny (model X.prog X.w) X.A (subscriptTail value slice v u) (EP X pins σ Q) X.xe s
def MtR (X:Cx) (id:String) (r:V->List V->Hp->VK->Prop):Prop:=
 ∀ (pins:List (Addr × Obj)) (s:Shared) (σ:St) (H:Hp) (x:V) (xs:List V) (v:Value) (us:List Value) (Q:VK),Inv X pins σ H s->RelV x v->Vals xs us->r x xs H Q ->
  wpAny (model X.prog X.w) X.A (call (.builtin id) (v::us)) (EP X pins σ Q) X.xe s
section
variable {X:Cx} {a b:Expr} {ta tb:TE} {pos:Pos}
theorem pe_ix {r:R2} (hr:IxR X r) (ha:PE X a ta) (hb:PE X b tb) (hs:PlainIx b):PE X (.Subscript a b pos) (tOp r ta tb):= by
 intro pins s σ H Q I h
 exact Subscript_ (binT ha hb I h fun v u s2 x y H2 I2 rx ry q=>hr a b pins s2 σ H2 x y v u Q I2 rx ry q (hs _ _))
def rIxL (K:PySem.W.Frag):R2:=fun x y H Q=>∃ p xs i v,x = .ref p/\y = .int i/\SqL K H p xs/\atI xs i=some v/\Q v H
def rIxT (K:PySem.W.Frag):R2:=fun x y H Q=>∃ p xs i v,x = .ref p/\y = .int i/\SqT K H p xs/\atI xs i=some v/\Q v H
theorem ix_list:IxR X (rIxL X.K):= by
 intro value slice pins s σ H x y v u Q I rx ry h hs
 obtain ⟨p,xs,i,z,rfl,rfl,hq,he,q⟩:=h
 cases rx
 obtain ⟨t,rfl⟩:=ry
 obtain ⟨its,r,pl,hz⟩:=I.list hq
 obtain ⟨j,h1,h2,h3,h4,h5⟩:=atI_get he
 obtain ⟨w,ew,rw'⟩:=r.get h2
 have hl:=r.length
 have hn:=line63
 have fin:EP X pins σ Q w s:=⟨z,H,I,rw',q⟩
 by_cases h0:0<=i
 ·have hj:i.toNat=j:= by
   rw[seqIndex_of h0 h5] at h1
   exact Option.some.inj h1
  exact item_listR pl.isList h0 (by omega) (by rw[hj];simpa using ew) fin hs
 ·have hj:(i+(its.toArray.size:Int)).toNat=j:= by
   rw[seqIndex_neg (by omega) h4] at h1
   rw[List.size_toArray,<- hl]
   exact Option.some.inj h1
  exact subscriptTail_builtinR (x:=w) pl.isList.typeIs slot_list_getitem.lookup
   (wpAny_getItem_list_neg (Q:=fun r s'=>r=w/\EP X pins σ Q r s') pl.isList (by omega) (by rw[List.size_toArray] <;> omega) (by omega) (by rw[hj];simpa using ew) ⟨rfl,fin⟩) hs
theorem ix_tup:IxR X (rIxT X.K):= by
 intro value slice pins s σ H x y v u Q I rx ry h hs
 obtain ⟨p,xs,i,z,rfl,rfl,hq,he,q⟩:=h
 cases rx
 obtain ⟨t,rfl⟩:=ry
 obtain ⟨its,r,pl,hz⟩:=I.tuple hq
 obtain ⟨j,h1,h2,h3,h4,h5⟩:=atI_get he
 obtain ⟨w,ew,rw'⟩:=r.get h2
 have hl:=r.length
 have hn:=line63
 have fin:EP X pins σ Q w s:=⟨z,H,I,rw',q⟩
 exact subscriptTail_builtinR (x:=w) pl.typeIs slot_tuple_getitem.lookup
  (getItem_tuple (j:=j) (Q:=fun r s'=>r=w/\EP X pins σ Q r s') pl (by omega) (by omega) (by rw[List.size_toArray,<- hl];exact h1) (by simpa using ew) ⟨rfl,fin⟩) hs
theorem slice_bounds (lo hi:Option Int) (n:Nat):(sliceBounds lo hi none n).1=((HT.sIx n 0 lo:Nat):Int)/\(sliceBounds lo hi none n).2.1=((HT.sIx n n hi:Nat):Int)/\(sliceBounds lo hi none n).2.2=1:= by
 refine ⟨?_,?_,rfl⟩
 ·cases lo with
  | none=>simp [sliceBounds,HT.sIx]
  | some i=>
   simp only [sliceBounds,HT.sIx,Option.getD_none,show (1:Int) > 0 by decide,if_true]
   by_cases h:i<0
   ·simp only [h,if_true] <;> omega
   ·simp only [h,if_false] <;> omega
 ·cases hi with
  | none=>simp [sliceBounds,HT.sIx]
  | some i=>
   simp only [sliceBounds,HT.sIx,Option.getD_none,show (1:Int) > 0 by decide,if_true]
   by_cases h:i<0
   ·simp only [h,if_true] <;> omega
   ·simp only [h,if_false] <;> omega
theorem slicePick_cut (its:List Value) (lo hi:Option Int):slicePick its.toArray lo hi none=((its.drop (HT.sIx its.length 0 lo)).take (HT.sIx its.length its.length hi-HT.sIx its.length 0 lo)).toArray:= by
 obtain ⟨h1,h2,h3⟩:=slice_bounds lo hi its.toArray.size
 unfold slicePick
 rw[h1,h2,h3]
 simp only [sliceRange_one,pick_run,List.size_toArray] <;> rfl
def rSlL (K:PySem.W.Frag):V->Option Int->Option Int->Hp->VK->Prop:=fun x lo hi H Q=>∃ a xs,x = .ref a/\SqL K H a xs /\ ∀ p,H p=none->Q (.ref p) (upd H p (.lst (cutV xs lo hi)))
theorem sl_list:SlR X (rSlL X.K):= by
 intro pins s σ H x v vl vu lo hi sl Q I rx hs pl pu h
 obtain ⟨a,xs,rfl,hx,q⟩:=h
 cases rx
 obtain ⟨its,r,ht,hz⟩:=I.list hx
 have hlen:=r.length
 refine ⟨"list",_,slot_list_getitem.lookup,ht.isList.typeIs,?_⟩
 refine wpAny_getItem_list_slice ht.isList hs pl pu .none (by simp) ?_ (by rw[List.size_toArray] <;> omega)
 rw[slicePick_cut,<- hlen]
 refine ⟨.ref s.heap.objs.size,_,I.laid (t':=s.toks) (o:=.lst (cutV xs lo hi)) (fun b ob q=>Heap.get?_push_of_some _ q) (Nat.le_refl _) ?_,rfl,q _ (I.hok.fresh (Nat.le_refl _))⟩
 exact ⟨Nat.le_trans (cutV_length xs lo hi) hz,_,0,(r.drop (HT.sIx xs.length 0 lo)).take (HT.sIx xs.length xs.length hi-HT.sIx xs.length 0 lo),Heap.get?_push_size _ rfl⟩
def flatV:V->Bool
 | .non=>true
 | .bl _=>true
 | .int _=>true
 | .str _=>true
 | _=>false
def eqV:V->V->Bool
 | .non,.non=>true
 | .bl a,.bl b=>a==b
 | .bl a,.int b=>(if a then 1 else 0)==b
 | .int a,.bl b=>a==(if b then 1 else 0)
 | .int a,.int b=>a==b
 | .str a,.str b=>a==b
 | _,_=>false
theorem eqAt_V {A:Around} {s:Shared} {y x:V} {u v:Value} (ry:RelV y u) (rx:RelV x v) (fy:flatV y=true) (fx:flatV x=true):SeqAt.EqAt A s u v (eqV y x):= by
 cases y with
 | non=>
  cases ry
  cases x with
  | non=>cases rx;exact SeqAt.EqAt.same _
  | bl b=>cases rx;exact SeqAt.EqAt.none_bool b
  | int b=>obtain ⟨t,rfl⟩:=rx;exact SeqAt.EqAt.none_int b t
  | str b=>obtain ⟨t,rfl⟩:=rx;exact SeqAt.EqAt.none_str b t
  | _=>exact absurd (show false=true from fx) Bool.false_ne_true
 | bl a=>
  cases ry
  cases x with
  | non=>cases rx;exact SeqAt.EqAt.bool_none a
  | bl b=>cases rx;exact SeqAt.EqAt.bool_bool a b
  | int b=>obtain ⟨t,rfl⟩:=rx;exact SeqAt.EqAt.bool_int a b t
  | str b=>obtain ⟨t,rfl⟩:=rx;exact SeqAt.EqAt.bool_str a b t
  | _=>exact absurd (show false=true from fx) Bool.false_ne_true
 | int a=>
  obtain ⟨t',rfl⟩:=ry
  cases x with
  | non=>cases rx;exact SeqAt.EqAt.int_none a t'
  | bl b=>cases rx;exact SeqAt.EqAt.int_bool a t' b
  | int b=>obtain ⟨t,rfl⟩:=rx;exact SeqAt.EqAt.int_int a t' b t
  | str b=>obtain ⟨t,rfl⟩:=rx;exact SeqAt.EqAt.int_str a t' b t
  | _=>exact absurd (show false=true from fx) Bool.false_ne_true
 | str a=>
  obtain ⟨t',rfl⟩:=ry
  cases x with
  | non=>cases rx;exact SeqAt.EqAt.str_none a t'
  | bl b=>cases rx;exact SeqAt.EqAt.str_bool a t' b
  | int b=>obtain ⟨t,rfl⟩:=rx;exact SeqAt.EqAt.str_int a t' b t
  | str b=>obtain ⟨t,rfl⟩:=rx;exact SeqAt.EqAt.str_str a t' b t
  | _=>exact absurd (show false=true from fx) Bool.false_ne_true
 | _=>exact absurd (show false=true from fy) Bool.false_ne_true
def eqU (x:V) (u:Value):Bool:=match u with
 | .none=>eqV .non x
 | .bool b=>eqV (.bl b) x
 | .int i _=>eqV (.int i) x
 | .str z _=>eqV (.str z) x
 | _=>false
theorem eqU_of {x y:V} {u:Value} (r:RelV y u) (f:flatV y=true):eqU x u=eqV y x:= by
 cases y with
 | non=>cases r;rfl
 | bl b=>cases r;rfl
 | int i=>obtain ⟨t,rfl⟩:=r;rfl
 | str z=>obtain ⟨t,rfl⟩:=r;rfl
 | _=>exact absurd (show false=true from f) Bool.false_ne_true
theorem any_eqU {x:V} : ∀ {xs:List V} {us:List Value},Vals xs us->xs.all flatV=true->us.any (eqU x)=xs.any fun y=>eqV y x
 | _,_,.nil,_=>rfl
 | y::xs,u::us,.cons r t,f=>by
  rw[List.all_cons,Bool.and_eq_true] at f
  rw[List.any_cons,List.any_cons,eqU_of r f.1,any_eqU t f.2]
theorem mem_eqAt {A:Around} {s:Shared} {x:V} {v:Value} (rx:RelV x v) (fx:flatV x=true) : ∀ {xs:List V} {us:List Value},Vals xs us->xs.all flatV=true -> ∀ u ∈ us,SeqAt.EqAt A s u v (eqU x u)
 | _,_,.nil,_=>fun u hu=>by cases hu
 | y::xs,u::us,.cons r t,f=>fun u' hu=>by
  rw[List.all_cons,Bool.and_eq_true] at f
  rcases List.mem_cons.mp hu with rfl | hu
  ·rw[eqU_of r f.1];exact eqAt_V r rx f.1 fx
  ·exact mem_eqAt rx fx t f.2 u' hu
def inV (x:V) (xs:List V):Bool:=xs.any fun y=>eqV y x
def rIn (K:PySem.W.Frag) (neg:Bool):R2:=fun x y H Q=>∃ p xs,y = .ref p/\(SqL K H p xs\/SqT K H p xs)/\flatV x=true/\xs.all flatV=true/\Q (.bl (if neg then !inV x xs else inV x xs)) H
theorem op_notIn_seq:OpR X (compareOp .NotIn) (rIn X.K true):= by
 intro pins s σ H x y v u Q I rx ry h
 obtain ⟨p,xs,rfl,hq,fx,fs,q⟩:=h
 cases ry
 rcases hq with hq | hq
 ·obtain ⟨its,r,pl,hz⟩:=I.list hq
  refine SeqAt.notIn_listAt (eqU x) pl.isList (fun w hw=>mem_eqAt rx fx r fs w (by simpa using hw)) ⟨.bl _,H,I,rfl,?_⟩
  rw[show its.toArray.any (eqU x)=its.any (eqU x) by simp,any_eqU r fs]
  exact q
 ·obtain ⟨its,r,pl,hz⟩:=I.tuple hq
  refine SeqAt.notIn_tupleAt (eqU x) pl (fun w hw=>mem_eqAt rx fx r fs w (by simpa using hw)) ⟨.bl _,H,I,rfl,?_⟩
  rw[show its.toArray.any (eqU x)=its.any (eqU x) by simp,any_eqU r fs]
  exact q
theorem call_len_seq : CallR X (.builtin "len") (fun xs H Q=>∃ p ys,xs = [.ref p] /\ (SqL X.K H p ys \/ SqT X.K H p ys) /\ Q (.int ys.length) H):= by
 intro pins s σ H xs us Q I r h
 obtain ⟨p,ys,rfl,hq,q⟩:=h
 obtain ⟨u,rfl,rx⟩:=vals1 r
 cases rx
 have hn:=line63
 rcases hq with hq | hq
 ·obtain ⟨its,r',pl,hz⟩:=I.list hq
  have hlen:=r'.length
  exact Calls.call_len_list pl.isList (by simp only [List.size_toArray] <;> omega) ⟨.int ys.length,H,I.tok _,⟨s.toks+1,by rw[List.size_toArray,hlen]⟩,q⟩
 ·obtain ⟨its,r',pl,hz⟩:=I.tuple hq
  have hlen:=r'.length
  exact len_tuple pl (by simp only [List.size_toArray] <;> omega) ⟨.int ys.length,H,I.tok _,⟨s.toks+1,by rw[List.size_toArray,hlen]⟩,q⟩
theorem call_list_of : CallR X (.type "list") (fun xs H Q=>∃ p ys,xs = [.ref p] /\ (SqL X.K H p ys \/ SqT X.K H p ys) /\ ∀ l,H l = none -> Q (.ref l) (upd H l (.lst ys))):= by
 intro pins s σ H xs us Q I r h
 obtain ⟨p,ys,rfl,hq,q⟩:=h
 obtain ⟨u,rfl,rx⟩:=vals1 r
 cases rx
 have fin : ∀ (its:List Value),Vals ys its->ys.length<=sizeLine -> ∀ (h':Heap) (c':Nat),(∀ b o',s.heap.get? b=some o'->h'.get? b=some o') ->
   h'.get? s.heap.objs.size = some { cls:=.type "list",dict:=none,data:=.seq its.toArray c',slots:=#[] } -> EP X pins σ Q (.ref s.heap.objs.size) { s with heap:=h' }:=fun its r' hz h' c' kp e=>
  ⟨.ref s.heap.objs.size,_,I.laid (t':=s.toks) kp (Nat.le_refl _) (show ObjOk X.prog X.w _ h' _ (.lst ys) from ⟨hz,its,c',r',e⟩),rfl,q _ (I.hok.fresh (Nat.le_refl _))⟩
 rcases hq with hq | hq
 ·obtain ⟨its,r',pl,hz⟩:=I.list hq
  have hlen:=r'.length
  obtain ⟨o,ho,hc,n,hd⟩:=pl.isList
  exact call_list_seq p (.inl rfl) ho hc hd (fun h' c' kp e=>fin its r' hz h' c' kp e) (by simp only [List.size_toArray] <;> omega)
 ·obtain ⟨its,r',pl,hz⟩:=I.tuple hq
  have hlen:=r'.length
  obtain ⟨o,ho,hc,n,hd⟩:=pl
  exact call_list_seq p (.inr rfl) ho hc hd (fun h' c' kp e=>fin its r' hz h' c' kp e) (by simp only [List.size_toArray] <;> omega)
theorem call_tuple_of : CallR X (.type "tuple") (fun xs H Q=>∃ p ys,xs = [.ref p] /\ ((SqL X.K H p ys /\ ∀ l,H l = none -> Q (.ref l) (upd H l (.tup ys))) \/ (SqT X.K H p ys /\ Q (.ref p) H))):= by
 intro pins s σ H xs us Q I r h
 obtain ⟨p,ys,rfl,h⟩:=h
 obtain ⟨u,rfl,rx⟩:=vals1 r
 cases rx
 rcases h with ⟨hq,q⟩ | ⟨hq,q⟩
 ·obtain ⟨its,r',pl,hz⟩:=I.list hq
  have hlen:=r'.length
  refine call_tuple_list pl.isList (fun h' kp=>?_) (by simp only [List.size_toArray] <;> omega)
  have I1:Inv X pins σ H { s with heap:=h' }:=I.kept (t':=s.toks) kp
  have I2 : Inv X pins σ (upd H h'.objs.size (.tup ys)) { s with heap:=h'.push { cls:=.type "tuple",data:=.seq its.toArray } }:=
   I1.laid (t':=s.toks) (fun b o e=>Heap.get?_push_of_some _ e) (Nat.le_refl _) (show ObjOk X.prog X.w _ _ _ (.tup ys) from ⟨hz,its,r',IsTup.new _ _⟩)
  exact ⟨.ref h'.objs.size,_,I2,rfl,q _ (I1.hok.fresh (Nat.le_refl _))⟩
 ·obtain ⟨its,r',pl,hz⟩:=I.tuple hq
  exact call_tuple_same pl ⟨.ref p,H,I,rfl,q⟩
def tyV (K:PySem.W.Frag) (T:String) (x:V) (H:Hp):Prop:=match x with
 | .str _=>T = "str"
 | .int _=>T = "int"
 | .ref p=>(T = "list" /\ ∃ xs,SqL K H p xs) \/ (T = "tuple" /\ ∃ o,K.lookup p = some o /\ o.cls = .type "tuple" /\ o.dict = none) \/
   (T = "dict" /\ ((∃ kvs,H p = some (.dK kvs)) \/ ∃ kvs,H p = some (.dT kvs))) \/ (T = "set" /\ ∃ S n,H p = some (.set S n))
 | _=>False
theorem tyV_is {pins:List (Addr × Obj)} {σ:St} {H:Hp} {s:Shared} {T:String} {x:V} {v:Value} (I:Inv X pins σ H s) (r:RelV x v) (ty:tyV X.K T x H) :
  s.TypeIs v T /\ ∀ a,v = .ref a -> ∃ ob,s.heap.get? a=some ob/\ob.dict=none:= by
 cases x with
 | str z=>
  obtain ⟨t,rfl⟩:=r
  cases (show T = "str" from ty)
  exact ⟨typeIs_str s z t,fun _ e=>nomatch e⟩
 | int i=>
  obtain ⟨t,rfl⟩:=r
  cases (show T = "int" from ty)
  exact ⟨typeIs_int s i t,fun _ e=>nomatch e⟩
 | ref p=>
  cases r
  rcases ty with ⟨rfl,xs,hq⟩ | ⟨rfl,o,hk,hc,hd⟩ | ⟨rfl,hk⟩ | ⟨rfl,S,n,hk⟩
  ·obtain ⟨its,_,pl,_⟩:=I.list hq
   refine ⟨pl.isList.typeIs,fun a e=>?_⟩
   cases e
   obtain ⟨o,n,e,c,hd,_⟩:=pl
   exact ⟨o,e,hd⟩
  ·refine ⟨⟨o,I.kIn p o hk,hc⟩,fun a e=>?_⟩
   cases e
   exact ⟨o,I.kIn _ o hk,hd⟩
  ·have z : ∃ o,s.heap.get? p=some o/\o.ExactDict:= by
    rcases hk with ⟨kvs,hk⟩ | ⟨kvs,hk⟩
    ·obtain ⟨_,_,_,_,o,_,_,e,ex,_⟩:=I.hok p _ hk
     exact ⟨o,e,ex⟩
    ·obtain ⟨_,_,_,_,o,_,_,e,ex,_⟩:=I.hok p _ hk
     exact ⟨o,e,ex⟩
   obtain ⟨o,e,ex⟩:=z
   refine ⟨⟨o,e,ex.1⟩,fun a e2=>?_⟩
   cases e2
   exact ⟨o,e,ex.2.1⟩
  ·obtain ⟨o,_,_,_,e,ex,_⟩:=I.hok p _ hk
   refine ⟨⟨o,e,ex.1⟩,fun a e2=>?_⟩
   cases e2
   exact ⟨o,e,ex.2.1⟩
 | _=>exact False.elim ty
def tBM (K:PySem.W.Frag) (T:String) (r:V->List V->Hp->VK->Prop) (to:TE) (t:TA):TE:=fun σ H Q=>to σ H fun x H1=>tyV K T x H1/\t σ H1 fun xs H2=>r x xs H2 Q
variable {o e:Expr} {es:List Expr} {to:TE} {t:TA} {name:Str} {apos cpos:Pos} {T id:String} {r:V->List V->Hp->VK->Prop}
theorem pe_bm (pa : PlainAttrs T) (slot : Slot T name id) (hty : typeOf (.builtin id) = pure (.type "method_descriptor")) (hm : MtR X id r) (ho : PE X o to) (ha : PA X (e :: es) t)
  (hbase:attributeBase o name X.env (eval o X.env)=eval o X.env:=by rfl)
  (hfew:((backTo cpos (starEach (e::es) X.env)).all (fun x=>!x.1)&&(backToKw cpos (keywordEach [] X.env)).all (fun x=>x.1.isSome)
   && decide ((e::es).length+([]:List Keyword).length+(if ([]:List Keyword).isEmpty then 0 else 1)<30))=true:=by rfl)
  (hline:(apos.endLine==cpos.line)=true:=by rfl) (hs:starEach (e::es) X.env=(false,eval e X.env)::starEach es X.env:=by rfl) (hplain:(backTo cpos (starEach es X.env)).any (·.1)=false:=by rfl) :
  PE X (.Call (.Attribute o name apos) (e::es) [] cpos) (tBM X.K T r to t):= by
 intro pins s σ H Q I h
 refine wpAny_Call_method_late hbase hfew hline rfl (thn (ho pins s σ H _ I h) fun v s1 ⟨x,H1,I1,r1,ty,q1⟩=>?_)
 obtain ⟨h1,h2⟩:=tyV_is I1 r1 ty
 refine ⟨T,id,pa,slot,hty,h1,h2,?_⟩
 have hA:=ha cpos pins s1 σ H1 _ I1 q1
 rw[hs] at hA ⊢
 refine Calls.callWith_builtin (by show (false||(backTo cpos (starEach es X.env)).any (·.1))=false;rw[hplain] <;> rfl) (Calls.evalArgs_plain ?_)
 exact thn hA fun us s2 ⟨vs,H2,I2,r2,q2⟩=>hm pins s2 σ H2 x vs v us Q I2 r1 r2 q2
end
end L2
namespace L2
open PySem PySem.Spec PyProof.Rows
def MtM (X:Cx) (id:String) (r:V->List V->Hp->VK->Prop):Prop:=
 ∀ (pins:List (Addr × Obj)) (s:Shared) (σ:St) (H:Hp) (x:V) (xs:List V) (v:Value) (us:List Value) (Q:VK),Inv X pins σ H s->RelV x v->Vals xs us->r x xs H Q ->
  wpAny (model X.prog X.w) X.A (call (.builtin id) (v::us)) (EP X pins σ Q) X.xe s
theorem Vals.one : ∀ {x:V} {us:List Value},Vals [x] us -> ∃ u,us=[u]/\RelV x u
 | _,_,.cons r .nil=>⟨_,rfl,r⟩
section
variable {X:Cx} {pins:List (Addr × Obj)} {σ:St} {H:Hp} {s:Shared} {l b:Addr} {xs ys zs:List V}
theorem Inv.lset {its its':List Value} {n:Nat} {f:Array Value->Array Value} {t':Nat} (I:Inv X pins σ H s) (hH:H l=some (.lst xs))
  (e : s.heap.get? l = some { cls:=.type "list",data:=.seq its.toArray n }) (hf : f its.toArray = its'.toArray) (hv : Vals ys its') (hz : ys.length <= sizeLine) :
  Inv X pins σ (upd H l (.lst ys)) { s with heap:=s.heap.update l (Obj.mapSeq f),toks:=t' }:= by
 have q:=PySem.IsL.update e f
 rw[hf] at q
 refine I.write (x:=l) (e:=l) (by rw[hH];exact trivial) (.inl rfl) (fun b' u hb hu=>(Heap.get?_update_other s.heap (Obj.mapSeq f) (Ne.symm hb)).trans hu) ⟨_,q⟩ ?_
 exact ⟨hz,its',_,hv,q⟩
theorem Inv.lnew {its:List Value} {t':Nat} (I:Inv X pins σ H s) (hv:Vals ys its) (hz:ys.length<=sizeLine) :
  Inv X pins σ (upd H s.heap.objs.size (.lst ys)) { s with heap:=s.heap.push { cls:=.type "list",data:=.seq its.toArray },toks:=t' }:=
 I.laid (fun _ _ q=>Heap.get?_push_of_some _ q) (Nat.le_refl _) ⟨hz,its,0,hv,Heap.get?_push_size _ rfl⟩
theorem Inv.fresh (I:Inv X pins σ H s):H s.heap.objs.size=none:=I.hok.fresh (Nat.le_refl _)
theorem Inv.lstM (I : Inv X pins σ H s) (hH : H l = some (.lst xs)) : xs.length <= sizeLine /\ ∃ (its : List Value) (n : Nat),Vals xs its /\ xs.length = its.length /\ s.heap.get? l = some { cls:=.type "list",data:=.seq its.toArray n }:= by
 obtain ⟨z,its,n,r,e⟩:=I.hok l _ hH
 exact ⟨z,its,n,r,r.length,e⟩
theorem notLongL {n:Nat} (h:n<=sizeLine):Builtin.List.listTooLong n=false:= by
 unfold Builtin.List.listTooLong
 exact decide_eq_false (by omega)
end
section
variable {X:Cx}
def rAppend:V->List V->Hp->VK->Prop:=fun x vs H Q=>∃ l xs y,x = .ref l/\vs=[y]/\H l=some (.lst xs)/\xs.length<sizeLine/\Q .non (upd H l (.lst (xs++[y])))
theorem mt_append : MtM X "list.append" rAppend:= by
 intro pins s σ H x vs v us Q I rx rv h
 obtain ⟨l,xs,y,rfl,rfl,hH,hz,q⟩:=h
 cases rx
 obtain ⟨u,rfl,ru⟩:=rv.one
 obtain ⟨z,its,n,r,hl,e⟩:=I.lstM hH
 refine call_meets F.slot_list_append ⟨_,e,rfl⟩ F.entry_list_append (F.args_list_append_2 _ _) (PySem.list_append l its.toArray n u (by rw[List.size_toArray];omega)) ⟨e,?_⟩
 refine ⟨.non,_,I.lset (its':=its++[u]) hH e (by simp) (r.append (.cons ru .nil)) ?_,rfl,q⟩
 rw[List.length_append,List.length_singleton]
 omega
def rExtend:V->List V->Hp->VK->Prop:=fun x vs H Q=>∃ l b xs zs,x = .ref l/\vs=[.ref b]/\H l=some (.lst xs)/\H b=some (.lst zs)/\xs.length+zs.length<=sizeLine/\Q .non (upd H l (.lst (xs++zs)))
theorem mt_extend : MtM X "list.extend" rExtend:= by
 intro pins s σ H x vs v us Q I rx rv h
 obtain ⟨l,b,xs,zs,rfl,rfl,hH,hB,hz,q⟩:=h
 cases rx
 obtain ⟨u,rfl,ru⟩:=rv.one
 cases ru
 obtain ⟨z,its,n,r,hl,e⟩:=I.lstM hH
 obtain ⟨z2,its2,n2,r2,hl2,e2⟩:=I.lstM hB
 have hsz:its.toArray.size+its2.toArray.size<=sizeLine:=by rw[List.size_toArray,List.size_toArray];omega
 have hlong : ¬ (!its.toArray.isEmpty&&Builtin.List.listTooLong (its.toArray.size+its2.toArray.size))=true:= by
  rw[notLongL hsz,Bool.and_false]
  exact Bool.false_ne_true
 refine call_meets F.slot_list_extend ⟨_,e,rfl⟩ F.entry_list_extend (F.args_list_extend_2 _ _)
  (AutoSeq1.list_extend_list_list_0 l its.toArray n b its2.toArray n2 hlong (by rw[List.size_toArray];omega) (by omega)) ⟨e,e2,?_⟩
 refine ⟨.non,_,I.lset (its':=its++its2) hH e (by simp) (r.append r2) ?_,rfl,q⟩
 rw[List.length_append]
 omega
def rCat:R2:=fun x y H Q=>∃ l b xs zs,x = .ref l/\y = .ref b/\H l=some (.lst xs)/\H b=some (.lst zs)/\xs.length+zs.length<=sizeLine /\ ∀ p,H p=none->Q (.ref p) (upd H p (.lst (xs++zs)))
theorem op_cat:OpR X (binaryOp .Add) rCat:= by
 intro pins s σ H x y v u Q I rx ry h
 obtain ⟨l,b,xs,zs,rfl,rfl,hH,hB,hz,q⟩:=h
 cases rx
 cases ry
 obtain ⟨z,its,n,r,hl,e⟩:=I.lstM hH
 obtain ⟨z2,its2,n2,r2,hl2,e2⟩:=I.lstM hB
 refine PySem.P.add_list e e2 ?_ (by rw[List.size_toArray,List.size_toArray];omega)
 have ea:its.toArray++its2.toArray=(its++its2).toArray:=by simp
 rw[ea]
 exact ⟨.ref _,_,I.lnew (t':=s.toks) (r.append r2) (by rw[List.length_append];omega),rfl,q _ I.fresh⟩
end
section
variable {prog:Program} {w:World} {A:Around} {E:Value->Shared->Prop} {s:Shared}
end
section
variable {X:Cx}
end
end L2
namespace Att
open PySem PySem.W PySem.Calls PyProof.Rows
theorem ints_of_wellAll {P:Params} {h:Heap} : ∀ (ns:List Int) (vs:List Value),WellAll P h vs (ns.map WData.int)->IntsAre vs ns:= by
 intro ns
 induction ns with
 | nil=>
  intro vs w
  rw[List.map_nil] at w
  cases w
  exact .nil
 | cons n ns ih=>
  intro vs w
  rw[List.map_cons] at w
  cases w with
  | cons a b=>
   cases a
   exact .cons _ _ (ih _ b)
theorem script_of {l:OpenLaw} {n:Nat} (hn:l.most=some n) {P:Params} {h:Heap} {args:List WData} {vals:List Value}
  (hpre:l.row.toRowW.claim.pre args=true) (hwl:WellAll P h vals args) :
  ∃ a vs ns,vals = [Value.ref a] /\ args = [WData.list (ns.map WData.int)] /\ h.get? a = some { cls:=.type "list",data:=.seq vs.toArray } /\ IntsAre vs ns /\ ns.length <= n:= by
 have hsh:WShape.hasAll [] args [.list .int]=true:=(pre_splitW hpre).1
 have hc:l.pre.holds [] { args:=args }=true:=(pre_splitW hpre).2
 obtain ⟨d,r,rfl,h1,h2⟩:=hasAllW_cons hsh
 obtain rfl:=hasAllW_nil h2
 obtain ⟨xs,rfl,h3⟩:=hasW_list h1
 obtain ⟨ns,rfl⟩:=items_int h3
 have hlen:ns.length<=n:= by
  unfold OpenLaw.pre at hc
  have h4:(WTm.not (.lt (.lit (.int (n:Int))) (.len (.arg 0)))).holds [] { args:=[.list (ns.map .int)] }=true:= by
   have h4:=(holds_andW hc).1
   rw[hn] at h4
   exact h4
  have h5:=condW_of h4 (w_not (w_lt w_lit (w_len_list (w_arg rfl))))
  rw[List.length_map] at h5
  refine Nat.le_of_not_lt fun q=>?_
  have q':(n:Int)<((ns.length:Nat):Int):=by omega
  first
   | (rw[decide_eq_true q'] at h5;exact absurd h5 (by decide))
   | (simp at h5;omega)
 cases hwl with
 | cons w1 w2=>
  cases w2
  cases w1 with
  | list ho hall=>exact ⟨_,_,ns,rfl,rfl,ho,ints_of_wellAll ns _ hall,hlen⟩
theorem post_true (l:OpenLaw) (args:List WData):l.row.toRowW.claim.post args (.bool true) args=true:=
 postW_of (r:=l.row.toRowW) (X:=(true==true))
  (show WShape.has [] (.bool true) .bool=true by first | rfl | decide | simp [WShape.has,WShape.arms,WShape.armsAll])
  (show (WTm.eq .res (.lit (.bool true))).value [] { args:=args,res:=some (.bool true),after:=args }=some (.bool (true==true)) from w_eq_bool (w_res rfl) w_lit) rfl
theorem attach_call {l:OpenLaw} {n:Nat} {q:Program} {loose:List Str} {XP:(Str->Option Value)->Heap->Prop} {YP:World->Heap->Prop} {d:DefRec}
  (hn:l.most=some n) (hdf:d.params.defaults=[])
  (call : ∀ (w:World) (s₀ s₁:Shared) (mg mb:Str->Option Value) (fa:Addr) (o:Obj) (pm cd doc:Value) (a:Addr) (vs:List Value) (ns:List Int),
   Ground q loose [] XP w s₀ mg mb s₁.heap->YP w s₁.heap ->
   s₁.heap.get? fa=some o->o.data = .func (docDef d.name d.params d.body d.scope pm cd doc)->s₁.heap.CodeRec cd d.name->mg d.name=some (.ref fa) ->
   s₁.heap.get? a = some { cls:=.type "list",data:=.seq vs.toArray } -> IntsAre vs ns -> ns.length <= n -> s₁.gens = #[] ->
   codeAny (model l.prog w) callerA (.call (.ref fa) ⟨[.ref a],[]⟩) (fun r s'=>r = .ok (.ret (.bool true))/\OldK s₁.heap s'.heap/\s'.os=s₁.os/\AllBare s'.gens) s₁) :
  WalkO q loose XP YP l.row.toRowW d [] (fun f vs=>PySem.call f vs):= by
 intro w s₀ s₁ mg mb G Y fa o pm cd doc dV kV ho hd hcd hD hmg hg args vals as hpre hlay hrd hwl hlo
 obtain rfl:dV = .none:=Dflts.none hD hdf
 obtain rfl:kV = .none:=Dflts.noKw hD
 obtain ⟨a,vs,ns,rfl,rfl,hobj,hints,hlen⟩:=script_of hn hpre hwl
 refine enter_call (codeAny_mono (call w s₀ s₁ mg mb fa o pm cd doc a vs ns G Y ho (fd_plain hd) hcd hmg hobj hints hlen hg) fun r s' hq=>?_)
 obtain ⟨rfl,h2,h3,h4⟩:=hq
 exact ⟨.inl ⟨.bool true,.bool true,[],rfl,fun _=>rfl,.bool true,post_true l _,fun _=>⟨List.Pairwise.nil,fun _ hm=>(nomatch hm)⟩⟩,h2,h3,h4⟩
section
variable {prog:Program} {w:World} {A:Around} {E:Value->Shared->Prop} {s:Shared} {K:Frag}
end
end Att
namespace L2
open PySem PySem.Spec PyProof.Rows
theorem vals_ints : ∀ {vs:List Value} {ns:List Int},IntsAre vs ns->Vals (ns.map V.int) vs
 | _,_,.nil=>.nil
 | _,_,.cons n t h=>.cons ⟨t,rfl⟩ (vals_ints h)
end L2
namespace L2
open PySem PySem.Spec PyProof.Rows
end L2
namespace L2
open PySem PySem.Spec PyProof.Rows
def inClass (s:Stmt) (j:Nat):Stmt:=match s with
 | .ClassDef _ _ _ body _ _ _ _ _ _ _=>body.getD j (.Pass ⟨0,0,0,0⟩)
 | _=>.Pass ⟨0,0,0,0⟩
def defArgs (s:Stmt):Arguments:=match s with
 | .FunctionDef _ a _ _ _ _ _ _ _ _=>a
 | _=>{ posonlyargs:=[],args:=[],vararg:=none,kwonlyargs:=[],kw_defaults:=[],kwarg:=none,defaults:=[] }
def defBody (s:Stmt):List Stmt:=match s with
 | .FunctionDef _ _ b _ _ _ _ _ _ _=>b
 | _=>[]
def defScope (s:Stmt):Scope:=match s with
 | .FunctionDef _ _ _ _ _ _ sc _ _ _=>sc
 | _=>{ kind:=.function,names:=[],isGenerator:=false,isCoroutine:=false }
abbrev CX0:CXT:=fun _ _ _ _ _ _=>False
abbrev E0:XK:=fun _ _ _=>False
theorem pass0 {X:Cx}:Passes CX0 X E0:=fun _ _ _ _ _ _ _ h=>h.elim
structure Fun (K:PySem.W.Frag) (x qual:Str) (st:Stmt) (f:Addr) (fd:FuncData):Prop where
 ex : ∃ (oc:Value) (od:Option Addr) (kV doc pm:Value) (an:Option Addr) (cdv ct:Value) (osl:Array (Option Value)),
  fd=PySem.W.fnOf x qual (defArgs st) (defBody st) (defScope st) .none kV doc pm an cdv ct/\K.lookup f=some ⟨oc,od,.func fd,osl⟩/\PySem.W.codeIn K cdv qual=true
 kp:PySem.W.keepIn K (.ref f)=true
section
variable {P:Program} {w:World} {K:PySem.W.Frag} {mg:Str->Option Value} {base:Heap}
theorem Fun.ok {x qual:Str} {st:Stmt} {f:Addr} {fd:FuncData} {N ps:List Str} {k:Nat} {sp:Sp} (F:Fun K x qual st f fd) (S:FnScope N ps (defScope st)) (len : ∀ vs H Q E,sp vs H Q E->vs.length=ps.length)
  (hbody : ∀ (cdv:Value) (A:Around) (outer:List Env) (s:Shared) (H:Hp) (vs:List V) (Q:VK) (E:XK),Room k (A.deeper (envOfC qual (defScope st) s.heap.objs.size f cdv))->sp vs H Q E ->
   ∃ t,PSs (cxOf CX0 P w K mg base N qual (defScope st) f cdv A outer s H E).nox (defBody st) t/\t { nx:=fun _ H'=>Q .non H',rt:=Q } (start N vs) H):FnOk P w K mg base CX0 (k+1) f fd ps sp:= by
 obtain ⟨oc,od,kV,doc,pm,an,cdv,ct,osl,rfl,lk,hcd⟩:=F.ex
 refine fn_of lk hcd S len fun A outer s H vs Q E hr hsp=>?_
 obtain ⟨t,h,q⟩:=hbody cdv A outer s H vs Q E hr hsp
 exact ⟨t,h.nox,q⟩
theorem Fun.binds {x qual:Str} {st:Stmt} {f:Addr} {fd:FuncData} {ps:List Str} (F:Fun K x qual st f fd)
  (h : ∀ (kV doc pm:Value) (an:Option Addr) (cdv ct:Value) (us:List Value),us.length=ps.length->bindArgs (PySem.W.fnOf x qual (defArgs st) (defBody st) (defScope st) .none kV doc pm an cdv ct) ⟨us,[]⟩=pure (ps.zip us)):Binds K fd ps []:= by
 obtain ⟨oc,od,kV,doc,pm,an,cdv,ct,osl,rfl,lk,hcd⟩:=F.ex
 exact .all (h kV doc pm an cdv ct)
theorem fun_mk {x qual:Str} {st:Stmt} {f:Addr} {oc:Value} {od an:Option Addr} {osl:Array (Option Value)} {kV doc pm cdv ct:Value} (l:K.lookup f=some ⟨oc,od,.func (PySem.W.fnOf x qual (defArgs st) (defBody st) (defScope st) .none kV doc pm an cdv ct),osl⟩)
  (c:PySem.W.codeIn K cdv qual=true) (k:PySem.W.keepIn K (.ref f)=true):Fun K x qual st f (PySem.W.fnOf x qual (defArgs st) (defBody st) (defScope st) .none kV doc pm an cdv ct):=⟨⟨oc,od,kV,doc,pm,an,cdv,ct,osl,rfl,l,c⟩,k⟩
end
theorem hu_of {A:Around} {k:Nat} (hr:Room k A):A.units+1<cLine:=Nat.lt_of_le_of_lt (Nat.add_le_add_left (by decide:1<=64) _) hr.units
section
variable {X:Cx}
theorem pv (i : Nat) {x : Str} {pos : Pos} (hN : X.N[i]? = some x:=by rfl) (hv : Vis X.env.scope x:=by first | exact Or.inl rfl | exact Or.inr (Or.inl rfl) | exact Or.inr (Or.inr rfl)) (hd : (x == ("__debug__" : Str)) = false:=by decide)
  (hcd : (x == ("__classdict__" : Str)) = false:=by decide) : PE X (.Name x pos) (tVar i):=pe_var hN hv hd hcd
end
theorem iteF {A B:Prop} (h:B):if false=true then A else B:= by
 rw[if_neg Bool.false_ne_true]
 exact h
theorem iteT {A B:Prop} (h:A):if true=true then A else B:= by
 rw[if_pos rfl]
 exact h
theorem ite2 {c A B:Prop} [Decidable c] (h1:c->A) (h2 : ¬ c->B):if c then A else B:= by
 by_cases h:c
 ·rw[if_pos h]
  exact h1 h
 ·rw[if_neg h]
  exact h2 h
theorem iteNS {c A B:Prop} [Decidable c] (hc:c) (h:B):if (!decide c)=true then A else B:= by
 rw[decide_eq_true hc]
 exact iteF h
def Same (H H':Hp):Prop:=∀ b o,H b=some o->H' b=some o
theorem Same.refl (H:Hp):Same H H:=fun _ _ h=>h
theorem Same.trans {H H1 H2:Hp} (a:Same H H1) (b:Same H1 H2):Same H H2:=fun c o h=>b c o (a c o h)
theorem Same.free {H H':Hp} (e:Same H H') {l:Addr} (h:H' l=Option.none):H l=Option.none:= by
 cases q:H l with
 | none=>rfl
 | some o=>
  rw[e l o q] at h
  cases h
theorem Same.seq {K:PySem.W.Frag} {H H':Hp} {a:Addr} {xs:List V} (e:Same H H') (h:SqL K H a xs):SqL K H' a xs:= by
 rcases h with (h | ⟨o,h⟩) | h
 ·exact .inl (.inl (e _ _ h))
 ·exact .inl (.inr ⟨o,e _ _ h⟩)
 ·exact .inr h
end L2
namespace L2
open PySem PySem.Spec PyProof.Rows
theorem relabel_some {env:Env} : ∀ {names:List (Str × NameKind)} {x:Str} {k:NameKind},names.lookup x=some k ->
  ∃ k',(names.map fun (n,k)=>if (k==NameKind.free&&env.scope.kind == .function&&env.kindOf n==some .cell) then (n,NameKind.cell) else (n,k)).lookup x=some k'/\(k'=k\/(k = .free/\k' = .cell))
 | [],_,_,h=>by simp at h
 | (n,k0)::r,x,k,h=>by
  have ih:=@relabel_some env r x k
  show ∃ k',List.lookup x ((if (k0==NameKind.free&&env.scope.kind == .function&&env.kindOf n==some .cell)=true then (n,NameKind.cell) else (n,k0))::_)=some k'/\_
  cases hx:x==n with
  | true=>
   simp only [List.lookup_cons,hx] at h
   cases h
   by_cases hc:(k0==NameKind.free&&env.scope.kind == .function&&env.kindOf n==some .cell)=true
   ·rw[if_pos hc]
    refine ⟨.cell,by simp only [List.lookup_cons,hx],.inr ⟨?_,rfl⟩⟩
    have q:(k0==NameKind.free)=true:= by
     rw[Bool.and_eq_true,Bool.and_eq_true] at hc
     exact hc.1.1
    cases k0 <;> first | rfl | exact absurd q (by decide)
   ·rw[if_neg hc]
    exact ⟨k0,by simp only [List.lookup_cons,hx],.inl rfl⟩
  | false=>
   simp only [List.lookup_cons,hx] at h
   obtain ⟨k',e,q⟩:=ih h
   by_cases hc:(k0==NameKind.free&&env.scope.kind == .function&&env.kindOf n==some .cell)=true
   ·rw[if_pos hc];exact ⟨k',by simp only [List.lookup_cons,hx];exact e,q⟩
   ·rw[if_neg hc];exact ⟨k',by simp only [List.lookup_cons,hx];exact e,q⟩
theorem relabel_none {env:Env} : ∀ {names:List (Str × NameKind)} {x:Str},names.lookup x=none ->
  (names.map fun (n,k)=>if (k==NameKind.free&&env.scope.kind == .function&&env.kindOf n==some .cell) then (n,NameKind.cell) else (n,k)).lookup x=none
 | [],_,_=>rfl
 | (n,k0)::r,x,h=>by
  have ih:=@relabel_none env r x
  show List.lookup x ((if (k0==NameKind.free&&env.scope.kind == .function&&env.kindOf n==some .cell)=true then (n,NameKind.cell) else (n,k0))::_)=none
  cases hx:x==n with
  | true=>simp only [List.lookup_cons,hx] at h;cases h
  | false=>
   simp only [List.lookup_cons,hx] at h
   by_cases hc:(k0==NameKind.free&&env.scope.kind == .function&&env.kindOf n==some .cell)=true
   ·rw[if_pos hc];simp only [List.lookup_cons,hx];exact ih h
   ·rw[if_neg hc];simp only [List.lookup_cons,hx];exact ih h
theorem closure_go {env:Env} : ∀ (names:List (Str × NameKind)) (cs:List (Str × Addr)),(∀ y ∈ names,y.2=NameKind.free -> ∃ c,env.cells.lookup y.1=some c) ->
  (∀ y c,cs.lookup y=some c->env.cells.lookup y=some c) ->
  ∃ cl,(forIn names cs fun x r=>(match x with
   | (name,kind)=>if (kind==NameKind.free)=true then (do let a <- cellOf env name;pure (ForInStep.yield ((name,a)::r))) else pure (ForInStep.yield r)):Sem (List (Str × Addr)))=pure cl /\
   (∀ y c,cl.lookup y=some c->env.cells.lookup y=some c)/\(∀ y,((∃ c,cs.lookup y=some c)\/(y,NameKind.free) ∈ names) -> ∃ c,cl.lookup y=some c)
 | [],cs,_,h=>⟨cs,by simp,h,fun y q=>q.elim id fun z=>absurd z (by simp)⟩
 | (n,k)::r,cs,hf,h=>by
  by_cases hk:(k==NameKind.free)=true
  ·have hk':k=NameKind.free:=by cases k <;> first | rfl | exact absurd hk (by decide)
   obtain ⟨c,hc⟩:=hf (n,k) List.mem_cons_self hk'
   have h' : ∀ y c',((n,c)::cs).lookup y=some c'->env.cells.lookup y=some c':=fun y c' e=>by
    cases hy:y==n with
    | true=>
     simp only [List.lookup_cons,hy] at e
     cases e
     have:y=n:=by simpa using hy
     rw[this];exact hc
    | false=>
     simp only [List.lookup_cons,hy] at e
     exact h y c' e
   obtain ⟨cl,e,q1,q2⟩:=closure_go r ((n,c)::cs) (fun y hy=>hf y (List.mem_cons_of_mem _ hy)) h'
   refine ⟨cl,?_,q1,fun y q=>q2 y ?_⟩
   ·rw[List.forIn_cons]
    have ec:cellOf env n=pure c:=by unfold cellOf;rw[hc]
    simp only [hk,if_true,ec,pure_bind]
    exact e
   ·rcases q with ⟨c',q⟩ | q
    ·left
     cases hy:y==n with
     | true=>exact ⟨c,by simp only [List.lookup_cons,hy]⟩
     | false=>exact ⟨c',by simp only [List.lookup_cons,hy];exact q⟩
    ·rcases List.mem_cons.mp q with z | z
     ·cases z
      left
      exact ⟨c,by simp [List.lookup_cons]⟩
     ·exact .inr z
  ·obtain ⟨cl,e,q1,q2⟩:=closure_go r cs (fun y hy=>hf y (List.mem_cons_of_mem _ hy)) h
   refine ⟨cl,?_,q1,fun y q=>q2 y ?_⟩
   ·rw[List.forIn_cons]
    simp only [hk,if_false,pure_bind]
    exact e
   ·rcases q with q | q
    ·exact .inl q
    ·rcases List.mem_cons.mp q with z | z
     ·cases z
      exact absurd rfl hk
     ·exact .inr z
theorem closure_of {scope:Scope} {env:Env} (h : ∀ y ∈ scope.names,y.2=NameKind.free -> ∃ c,env.cells.lookup y.1=some c) :
  ∃ cl,closureFor scope env=pure cl/\(∀ y c,cl.lookup y=some c->env.cells.lookup y=some c)/\(∀ y,(y,NameKind.free) ∈ scope.names -> ∃ c,cl.lookup y=some c):= by
 obtain ⟨cl,e,q1,q2⟩:=closure_go (env:=env) scope.names [] h (fun y c e=>by simp at e)
 refine ⟨cl,?_,q1,fun y hy=>q2 y (.inr hy)⟩
 unfold closureFor
 dsimp only
 rw[show (forIn scope.names ([]:List (Str × Addr)) fun x r=>(match x with
   | (name,kind)=>if (kind==NameKind.free)=true then (do let a <- cellOf env name;pure (ForInStep.yield ((name,a)::r))) else pure (ForInStep.yield r)):Sem (List (Str × Addr)))=pure cl from e]
 rfl
end L2
namespace L2
open PySem PySem.Spec PyProof.Rows
section
variable {prog:Program} {w:World} {A:Around} {R:Result->Shared->Prop} {s:Shared}
theorem compLoop_gen {elt target iter:Expr} {ifs:List Expr} {scope:Scope} {pos:Pos} {it acc:Value} {env:Env} (Iv:Nat->Shared->Prop)
  (turn : ∀ n s,Iv n s->wpAny (model prog w) A (pyNext it) (fun r s₁=>match r with
   | none=>R (.ok .next) s₁
   | some v=>wpAny (model prog w) A (letOwnedTupleGo target it v) (fun _ s₁'=>wpAny (model prog w) A (assign target env v) (fun _ s₂=>
     wpAny (model prog w) A (forIn ifs true fun c r=>if r=true then do let ok <- isTrue c env (eval c env);pure (ForInStep.yield ok) else pure (ForInStep.yield r)) (fun ok s₃=>
      if ok=true then wpAny (model prog w) A (eval elt env) (fun x s₄=>
       wpAny (model prog w) A (call (.builtin "list.append") [acc,x]) (fun _ s₅=>∃ m,m < n /\ Iv m s₅) (fun _ _=>False) s₄) (fun _ _=>False) s₃
      else ∃ m,m<n/\Iv m s₃) (fun _ _=>False) s₂) (fun _ _=>False) s₁') (fun _ _=>False) s₁) (fun _ _=>False) s)
  (n:Nat) (h:Iv n s) :
  codeAny (model prog w) A (.compLoop (.ListComp elt [⟨target,iter,ifs,0⟩] scope pos) 0 it acc env) R s:= by
 refine codeAny_loop rfl Iv (fun n s hI=>?_) n h
 show wpAny _ A ((compTurn (.ListComp elt [⟨target,iter,ifs,0⟩] scope pos) 0 it acc env).onRaise (fun x=>do noteFrame x env;theTreesLotGoes x)) _ _ s
 refine wpAny_noted ?_
 rw[compTurn_list]
 refine wpAny_bind (wpAny_standAt (wpAny_bind (wpAny_mono (turn n s hI) (fun r s₁ h₁=>?_) fun _ _ z=>z.elim)))
 cases r with
 | none=>exact wpAny_pure h₁
 | some v=>
  refine wpAny_bind (wpAny_mono h₁ (fun _ s₁' h₁'=>?_) fun _ _ z=>z.elim)
  refine wpAny_bind (wpAny_mono h₁' (fun _ s₂ h₂=>wpAny_bind (wpAny_mono h₂ (fun ok s₃ h₃=>?_) fun _ _ z=>z.elim)) fun _ _ z=>z.elim)
  cases ok with
  | false=>exact wpAny_pure ⟨rfl,h₃⟩
  | true=>
   exact wpAny_bind (wpAny_bind (wpAny_mono h₃ (fun x s₄ h₄=>wpAny_bind (wpAny_mono h₄ (fun _ s₅ h₅=>wpAny_pure (wpAny_pure ⟨rfl,h₅⟩)) fun _ _ z=>z.elim)) fun _ _ z=>z.elim))
end
def inSt (M:List (Option Nat)) (σ:St):St:=M.map fun o=>o.bind fun j=>(σ[j]?).join
theorem inSt_length (M:List (Option Nat)) (σ:St):(inSt M σ).length=M.length:=by unfold inSt;rw[List.length_map]
theorem inSt_get {M:List (Option Nat)} {σ:St} {i:Nat} {v:V} (h:(inSt M σ)[i]?=some (some v)) : ∃ j,M[i]?=some (some j)/\σ[j]?=some (some v):= by
 unfold inSt at h
 rw[List.getElem?_map] at h
 cases e:M[i]? with
 | none=>rw[e] at h;cases h
 | some o=>
  rw[e] at h
  cases o with
  | none=>cases h
  | some j=>
   refine ⟨j,rfl,?_⟩
   have h':(σ[j]?).join=some v:=Option.some.inj h
   cases q:σ[j]? with
   | none=>rw[q] at h';cases h'
   | some o2=>rw[q] at h';cases o2 with
    | none=>cases h'
    | some v2=>cases h';rfl
def cxLc (X:Cx) (N':List Str) (scope:Scope) (cl:List (Str × Addr)) (C:Addr) (s:Shared) (H:Hp) (fp:List Addr):Cx:=
 { X with N:=N',s₀:=s,H₀:=H,env:=compEnvC scope cl C X.env,outer:=X.stack,stack:=X.stack,ex:=fp,fn:=fun _=>false,pn:=[],xe:=fun _ _=>False }
structure LcSc (N N':List Str) (M:List (Option Nat)) (sc osc:Scope):Prop where
 kind:sc.kind = .function
 len:N'.length=M.length
 cell : ∀ y ∈ sc.names,y.2≠NameKind.cell
 own : ∀ y ∈ sc.names,y.2=NameKind.local->sc.names.lookup y.1=some NameKind.local
 fre : ∀ y ∈ sc.names,y.2=NameKind.free->osc.names.lookup y.1=some NameKind.cell\/osc.names.lookup y.1=some NameKind.free
 at_ : ∀ (i j:Nat),M[i]?=some (some j) -> ∃ y,N'[i]?=some y/\N[j]?=some y/\sc.names.lookup y=some NameKind.free
def Frm (M:List (Option Nat)) (g:TG):Prop:=∀ v σ H Q,g v σ H Q->g v σ H fun σ' H'=>Q σ' H'/\σ'.length=σ.length /\ ∀ (i j:Nat),M[i]?=some (some j)->σ'[i]?=σ[i]?
theorem frm_name {M:List (Option Nat)} {i:Nat} (h:M[i]?=some none):Frm M (gName i):=fun v σ H Q q=>by
 refine ⟨q,List.length_set ..,fun k j e=>?_⟩
 have:i≠k:=by rintro rfl;rw[h] at e;cases e
 exact List.getElem?_set_ne this
def PTs (X:Cx) (ifs:List Expr) (t:TT):Prop:=
 ∀ (pins:List (Addr × Obj)) (s:Shared) (σ:St) (H:Hp) (Q:Bool->Hp->Prop),Inv X pins σ H s->t σ H Q ->
  wpAny (model X.prog X.w) X.A (forIn ifs true fun c r=>if r=true then do let ok <- isTrue c X.env (eval c X.env);pure (ForInStep.yield ok) else pure (ForInStep.yield r)) (TP X pins σ Q) X.xe s
def tYes:TT:=fun _ H Q=>Q true H
theorem pts_nil {X:Cx}:PTs X [] tYes:=fun pins s σ H Q I h=>wpAny_tests_nil ⟨H,I,h⟩
theorem pts_one {X:Cx} {c:Expr} {t:TT} (h:PT X c t):PTs X [c] t:=fun pins s σ H Q I q=>wpAny_tests_one (h pins s σ H Q I q)
def tLc (wi:TI) (M:List (Option Nat)) (g:TG) (tc:TT) (te:TE) (σ:St) (H:Hp) (F:List V->Hp->Prop):Prop:=wi σ H fun J H1=>
 ∃ W:Nat->Nat->List V->Hp->Prop,(∃ m,W 0 m [] H1) /\ ∀ i m ys H,W i m ys H->ys.length<=sizeLine /\
  ((J.stop i H/\F ys H)\/(J.go i H/\ys.length<sizeLine /\ ∃ N:List V->Hp->Prop,(∀ ys' H',N ys' H' -> ∃ m',m'<m/\W (i+1) m' ys' H') /\ ∀ x H',J.yld i H x H'->g x (inSt M σ) H' fun σ2 H2=>tc σ2 H2 fun b H3=>
   if b=true then te σ2 H3 fun v H4=>N (ys++[v]) H4 else N ys H3))
theorem lc_block {X:Cx} {N':List Str} {M:List (Option Nat)} {scope:Scope} {cl:List (Str × Addr)} {tg elt iter:Expr} {ifs:List Expr} {pos:Pos} {g:TG} {tc:TT} {te:TE} {pins:List (Addr × Obj)} {σ:St} {H2:Hp} {s2:Shared}
  {it:Addr} {fp:List Addr} {tn:Nat->Heap->Prop} {J:It} {F:List V->Hp->Prop} {RR:Value->Addr->Result->Shared->Prop} {E:Value->Shared->Prop}
  (S:LcSc X.N N' M scope X.env.scope) (hc:X.calm=true) (q1 : ∀ y c,cl.lookup y=some c->X.env.cells.lookup y=some c) (q2 : ∀ y,(y,NameKind.free) ∈ scope.names -> ∃ c,cl.lookup y=some c)
  (hg : ∀ C s H fp,PG (cxLc X N' scope cl C s H fp) tg g) (hf:Frm M g) (ht : ∀ C s H fp,PTs (cxLc X N' scope cl C s H fp) ifs tc) (he : ∀ C s H fp,PE (cxLc X N' scope cl C s H fp) elt te)
  (I2:Inv X pins σ H2 s2) (T:Turn X.prog X.w X.K tg J fp it tn) (st2:tn 0 s2.heap) (f2 : ∀ b ∈ fp,FpOk X pins H2 b)
  (hw : ∃ W:Nat->Nat->List V->Hp->Prop,(∃ m,W 0 m [] H2) /\ ∀ i m ys H,W i m ys H->ys.length<=sizeLine /\
   ((J.stop i H/\F ys H)\/(J.go i H/\ys.length<sizeLine /\ ∃ N:List V->Hp->Prop,(∀ ys' H',N ys' H' -> ∃ m',m'<m/\W (i+1) m' ys' H') /\ ∀ x H',J.yld i H x H'->g x (inSt M σ) H' fun σ2 H2=>tc σ2 H2 fun b H3=>
    if b=true then te σ2 H3 fun v H4=>N (ys++[v]) H4 else N ys H3)))
  (hend : ∀ (D C:Addr) (s':Shared) (H':Hp) (ys:List V),Inv X pins σ (upd H' D (.lst ys)) s'->H' D=none->s2.heap.objs.size<=D->s2.heap.objs.size<C->(∃ m,s'.heap.Ns C m)->(upd H' D (.lst ys)) C=none->F ys H'->RR (.ref D) C (.ok .next) s') :
  wpAny (model X.prog X.w) X.A (newList []) (fun acc s₃=>wpAny (model X.prog X.w) X.A (newFunctionEnv scope X.env.globals cl [] X.env.qual none .none (some X.env)) (fun cenv s₄=>
   codeAny (model X.prog X.w) X.A (.compStart (.ListComp elt [⟨tg,iter,ifs,0⟩] scope pos) 0 (.ref it) acc { cenv with scope:=relabel scope X.env }) (RR acc cenv.locals) s₄) E s₃) E s2:= by
 obtain ⟨W,⟨m0,w0⟩,turn⟩:=hw
 refine wpAny_newObj_type (wpAny_newFunctionEnv S.cell (by intro y hy;simp at hy) (fun h₁ hns₁ hsb₁=>?_) S.kind)
 dsimp only at hns₁ hsb₁ ⊢
 generalize hG : s2.heap.push { cls:=.type "list",dict:=none,data:=.seq ([] : List Value).toArray } = G at hns₁ hsb₁ ⊢
 generalize hD:s2.heap.objs.size=D at *
 have hC:G.objs.size=D+1:=by rw[<- hG,Heap.size_push,hD]
 generalize hCC:G.objs.size=C at *
 have DC:D<C:=by rw[hC];exact Nat.lt_succ_self _
 have lo : ∀ b o,s2.heap.get? b=some o->b<D:=fun b o e=>hD ▸ Heap.lt_size e
 have old : ∀ b o,s2.heap.get? b=some o->h₁.get? b=some o:=fun b o e=>by
  have hb:=lo b o e
  exact hsb₁.extBut b o (Nat.ne_of_lt (Nat.lt_trans hb DC)) (Heap.get?_push_of_some _ (hG ▸ Heap.get?_push_of_some _ e))
 have hacc : h₁.get? D = some { cls:=.type "list",data:=.seq ([] : List Value).toArray }:=
  hsb₁.extBut _ _ (Nat.ne_of_lt DC) (Heap.get?_push_of_some _ (by rw[<- hG,<- hD];exact Heap.get?_push_size _ rfl))
 have fpl : ∀ b ∈ fp,b<D:=fun b hb=>by
  obtain ⟨o,e,_⟩:=T.obj _ _ st2 b hb
  exact lo b o e
 have cel : ∀ y c,cl.lookup y=some c->c<D:=fun y c e=>by
  obtain ⟨v,z⟩:=I2.cell y c (q1 y c e)
  exact hD ▸ z.lt
 generalize hX':cxLc X N' scope cl C s2 H2 fp=X'
 have envE:X'.env=compEnvC scope cl C X.env:=by rw[<- hX'];rfl
 have locE:X'.env.locals=C:=by rw[envE];rfl
 have fsE:X'.fs=frs X.stack:=by rw[<- hX'];rfl
 have fsl : ∀ b ∈ frs X.stack,b<D:=fun b hb=>by
  rcases List.mem_cons.mp (I2.stkSub b hb) with z | z
  ·rw[z];exact hD ▸ I2.lt
  ·exact Nat.lt_of_not_le fun q=>I2.nofs (hD ▸ q) z
 have relS : ∀ x k,scope.names.lookup x=some k -> ∃ k',X'.env.kindOf x=some k'/\(k'=k\/(k = .free/\k' = .cell)):=fun x k e=>by
  obtain ⟨k',e',q⟩:=relabel_some (env:=X.env) e
  exact ⟨k',by rw[envE];exact e',q⟩
 have relN : ∀ x,scope.names.lookup x=none->X'.env.kindOf x=none:=fun x e=>by
  rw[envE];exact relabel_none (env:=X.env) e
 have cellsE:X'.env.cells=cl:=by rw[envE];rfl
 have ok':X'.Ok:= by
  refine ⟨?mod,?kind,?glob,?blt,?above,?inj,?has,?cab,?hd,?frames,?stk,?exf,?bs,?bsz,?noex,?exfs,?funs,?frf⟩
  case mod=>rw[<- hX'];exact I2.ok.mod
  case kind=>rw[envE];exact S.kind
  case glob=>rw[envE];exact I2.ok.glob
  case blt=>rw[envE];exact I2.ok.blt
  case above=>rw[locE,<- hX'];show s2.heap.objs.size<=C;rw[hD];exact Nat.le_of_lt DC
  case inj=>intro x y c e1 e2;rw[cellsE] at e1 e2;exact I2.ok.inj x y c (q1 x c e1) (q1 y c e2)
  case has=>
   intro x hx
   rw[cellsE]
   cases e:scope.names.lookup x with
   | none=>rw[relN x e] at hx;rcases hx with z | z <;> cases z
   | some k=>
    obtain ⟨k',e',q⟩:=relS x k e
    rw[e'] at hx
    have kf:k = .free:= by
     rcases q with q | q
     ·rcases hx with z | z
      ·cases z;exact absurd q.symm (S.cell _ (PySem.mem_of_lookup e))
      ·cases z;exact q.symm
     ·exact q.1
    subst kf
    exact q2 x (PySem.mem_of_lookup e)
  case cab=>intro x c h;rw[<- hX'] at h;exact absurd h (by show ¬ (false=true);decide)
  case hd=>rw[<- hX'];exact I2.ok.hd
  case frames=>rw[<- hX'];exact I2.ok.frames
  case stk=>rw[<- hX'];exact .inl rfl
  case exf=>
   intro b hb
   have hb':b ∈ fp:=by rw[<- hX'] at hb;exact hb
   refine ⟨by rw[locE];exact Nat.ne_of_lt (Nat.lt_trans (fpl b hb') DC),fun x c e=>?_⟩
   rw[cellsE] at e
   exact (f2 b hb').2.2.2.2.1 x c (q1 x c e)
  case bs=>rw[<- hX'];exact I2.bs
  case bsz=>rw[<- hX'];exact Nat.le_trans I2.ok.bsz I2.sz
  case noex=>
   intro b o e hb
   have hb':b ∈ fp:=by rw[<- hX'] at hb;exact hb
   have e':X.base.get? b=some o:=by rw[<- hX'] at e;exact e
   rcases (f2 b hb').2.2.2.1 with z | z
   ·exact I2.ok.noex b o e' z
   ·exact absurd (Nat.lt_of_lt_of_le (Heap.lt_size e') (Nat.le_trans I2.ok.bsz z)) (Nat.lt_irrefl _)
  case exfs=>
   intro b hb
   have hb':b ∈ fp:=by rw[<- hX'] at hb;exact hb
   rw[fsE]
   intro z
   rcases List.mem_cons.mp (I2.stkSub b z) with q | q
   ·exact (f2 b hb').2.1 q
   ·exact (f2 b hb').2.2.1 q
  case funs=>rw[<- hX'];exact I2.stack
  case frf=>rw[fsE,<- hX'];exact I2.stkFree
 have c0:H2 C=none:=I2.hok.fresh (by rw[hD];exact Nat.le_of_lt DC)
 have d0:H2 D=none:=I2.hok.fresh (by rw[hD];exact Nat.le_refl _)
 have I3:Inv X' [] (inSt M σ) H2 { s2 with heap:=h₁,toks:=s2.toks+([]:List (Str × Value)).length }:= by
  refine ⟨ok',?os,?bare,?base,?loc,?cell,?free,?freeC,?pin,?hok,?len⟩
  case os=>rw[<- hX'];rfl
  case bare=>exact I2.bare
  case base=>rw[fsE,<- hX'];exact Un.kept old
  case loc=>
   refine ⟨_,by rw[locE];exact hns₁,fun i x v e1 e2 _=>?_⟩
   obtain ⟨j,eM,eσ⟩:=inSt_get e2
   obtain ⟨y,n1,n2,n3⟩:=S.at_ i j eM
   have e1':N'[i]?=some x:=by rw[<- hX'] at e1;exact e1
   rw[n1] at e1';cases e1'
   have hyf:(x,NameKind.free) ∈ scope.names:=PySem.mem_of_lookup n3
   have kd:=S.fre _ hyf rfl
   obtain ⟨m,hn,hl⟩:=id I2.loc
   obtain ⟨u,ru,lk⟩:=hl j x v n2 eσ (kd.elim (fun z=>.inr (.inl z)) fun z=>.inr (.inr z))
   refine ⟨u,ru,?_⟩
   rcases lk with ⟨k,_⟩ | ⟨k,c,ec,z⟩
   ·have k':X.env.scope.names.lookup x=some NameKind.local:=k
    rcases kd with q | q <;> (rw[k'] at q;cases q)
   ·obtain ⟨c',ec'⟩:=q2 x hyf
    have hcc:=q1 x c' ec'
    rw[ec] at hcc;cases hcc
    obtain ⟨k',e',q⟩:=relS x _ n3
    refine .inr ⟨?_,c,by rw[cellsE];exact ec',?_⟩
    ·rw[e'];rcases q with q | q
     ·right;rw[q]
     ·left;rw[q.2]
    ·obtain ⟨o,ho,hd'⟩:=z
     exact ⟨o,old _ _ ho,hd'⟩
  case cell=>
   intro x c e
   rw[cellsE] at e
   obtain ⟨v,o,ho,hd'⟩:=I2.cell x c (q1 x c e)
   exact ⟨v,o,old _ _ ho,hd'⟩
  case free=>rw[locE];exact c0
  case freeC=>intro x c e;rw[cellsE] at e;exact I2.freeC x c (q1 x c e)
  case pin=>intro p hp;rw[<- hX'] at hp;exact absurd (show p ∈ ([]:List (Addr × Obj)) from hp) (by simp)
  case hok=>rw[<- hX'];exact I2.hok.kept old
  case len=>rw[inSt_length,<- hX'];exact S.len.symm
 have xE : ∀ (e:Value) (s':Shared),¬ X'.xe e s':=fun e s' z=>by rw[<- hX'] at z;exact z
 have progE:X'.prog=X.prog:=by rw[<- hX'];rfl
 have wE:X'.w=X.w:=by rw[<- hX'];rfl
 have KE':X'.K=X.K:=by rw[<- hX'];rfl
 have AE:X'.A=X.A:=by rw[<- hX'];rfl
 have cE:X'.calm=true:=by rw[<- hX'];exact hc
 have exE:X'.ex=fp:=by rw[<- hX'];rfl
 have s0E:X'.s₀=s2:=by rw[<- hX'];rfl
 have pnE:X'.pn=[]:=by rw[<- hX'];rfl
 have hgX:PG X' tg g:=by rw[<- hX'];exact hg C s2 H2 fp
 have htX:PTs X' ifs tc:=by rw[<- hX'];exact ht C s2 H2 fp
 have heX:PE X' elt te:=by rw[<- hX'];exact he C s2 H2 fp
 have Dfp:D ∉ fp:=fun z=>Nat.lt_irrefl _ (fpl D z)
 have Dcl : ∀ x c,X'.env.cells.lookup x=some c->c≠D:=fun x c e=>by rw[cellsE] at e;exact Nat.ne_of_lt (cel x c e)
 have Dloc:D≠X'.env.locals:=by rw[locE];exact Nat.ne_of_lt DC
 have Dfs:D ∉ X'.fs:=by rw[fsE];exact fun z=>Nat.lt_irrefl _ (fsl D z)
 have D0:D ∈ X'.ex\/X'.s₀.heap.objs.size<=D:=.inr (by rw[s0E,hD];exact Nat.le_refl _)
 have stat : ∀ {pl:List (Addr × Obj)} {H':Hp},(∀ p ∈ pl,p.1=D)->(∀ b ∈ fp,H' b=none) -> ∀ b ∈ fp,FpOk X' pl H' b:=fun {pl H'} hpl hn b hb=>by
  refine ⟨hn b hb,by rw[locE];exact Nat.ne_of_lt (Nat.lt_trans (fpl b hb) DC),?_,.inl (by rw[exE];exact hb),fun x c e=>?_,fun p hp=>?_⟩
  ·exact ok'.exfs b (by rw[exE];exact hb)
  ·rw[cellsE] at e;exact (f2 b hb).2.2.2.2.1 x c (q1 x c e)
  ·rw[pnE,List.nil_append] at hp
   rw[hpl p hp];exact (Nat.ne_of_lt (fpl b hb)).symm
 have loop:codeAny (model X.prog X.w) X.A (.compLoop (.ListComp elt [⟨tg,iter,ifs,0⟩] scope pos) 0 (.ref it) (.ref D) X'.env) (RR (.ref D) C) { s2 with heap:=h₁,toks:=s2.toks+([]:List (Str × Value)).length }:= by
  refine compLoop_gen (fun n s'=>∃ i ys H',Inv X' [] (inSt M σ) H' s' /\ tn i s'.heap /\ (∀ b ∈ fp,H' b = none) /\ (∃ (its : List Value) (k : Nat),Vals ys its /\ s'.heap.get? D = some { cls:=.type "list",data:=.seq its.toArray k }) /\ H' D = none /\ W i n ys H') ?_ m0
   ⟨0,[],H2,I3,T.keep _ _ _ st2 fun b hb o e=>old b o e,fun b hb=>(f2 b hb).1,⟨[],0,.nil,hacc⟩,d0,w0⟩
  rintro n s3 ⟨i,ys,H3,J3,st3,fr3,⟨its,k,rv,hDs⟩,dn,w3⟩
  obtain ⟨hsz,hcase⟩:=turn i n ys H3 w3
  have J3' : Inv X' [(D,{ cls:=.type "list",data:=.seq its.toArray k })] (inSt M σ) H3 s3:=J3.pins_of fun p hp=>by
   have e : p = (D,{ cls:=.type "list",data:=.seq its.toArray k }):=by simpa using hp
   subst e
   exact ⟨hDs,dn,Dloc,Dfs,fun v z=>by cases z⟩
  have hpl : ∀ p ∈ [((D,{ cls:=.type "list",data:=.seq its.toArray k }) : Addr × Obj)],p.1 = D:=fun p hp=>by
   have e : p = (D,{ cls:=.type "list",data:=.seq its.toArray k }):=by simpa using hp
   rw[e]
  rcases hcase with ⟨stop,qF⟩ | ⟨go,hlt,N,hN,step⟩
  ·have q:=T.done X' progE wE KE' cE i _ s3 _ H3 (fun _ _=>False) J3' (stat hpl fr3) st3 stop
   rw[AE] at q
   refine thn q fun r s4 ⟨hr,J4⟩=>?_
   subst hr
   have hD4 : s4.heap.get? D = some { cls:=.type "list",data:=.seq its.toArray k }:=(J4.pin _ (List.mem_append_right _ (List.mem_singleton.mpr rfl))).1
   obtain ⟨mC,hnC,_⟩:=id J4.loc
   rw[locE] at hnC
   have b4:=J4.base
   rw[fsE,exE,s0E,show X'.H₀=H2 by rw[<- hX'];rfl] at b4
   refine hend D C s4 H3 ys ?_ dn (Nat.le_refl _) DC ⟨mC,hnC⟩ (by rw[upd_ne (Nat.ne_of_gt DC)];have:=J4.free;rw[locE] at this;exact this) qF
   have hok4:=J4.hok
   rw[progE,wE] at hok4
   refine I2.call' (ch:=fp) (H':=upd H3 D (.lst ys)) (by rw[J4.os,s0E]) ⟨b4.keep,b4.slot,fun b o e nn hb=>?_,b4.there,fun b xs e=>?_,fun b o u e=>?_,fun b ps e=>?_⟩ ?_ J4.bare fun b hb=>?_
   ·rw[upd_ne (Nat.ne_of_lt (lo b o e))];exact b4.free b o e nn hb
   ·rw[upd_ne (ne_of_none (b4.tups b xs e) dn)];exact b4.tups b xs e
   ·rw[upd_ne (ne_of_none (b4.frzs b o u e) dn)];exact b4.frzs b o u e
   ·obtain ⟨more,e'⟩:=b4.tbls b ps e
    exact ⟨more,by rw[upd_ne (ne_of_none e' dn)];exact e'⟩
   ·intro b u e
    by_cases hb:b=D
    ·subst hb
     rw[upd_same] at e;cases e
     exact ⟨hsz,its,k,rv,hD4⟩
    ·rw[upd_ne hb] at e
     exact (hok4 b u e).stay (fun c v _ q=>q) (fun c q=>by rw[upd_ne (ne_of_none q dn)];exact q) fun c xs q=>by rw[upd_ne (ne_of_none q dn)];exact q
   ·obtain ⟨f0,f1,f3,f4,f5,f6⟩:=f2 b hb
    exact ⟨f4,f1,f5,f6⟩
  ·have q:=T.item X' progE wE KE' cE i _ s3 _ H3 (fun _ _=>False) J3' (stat hpl fr3) st3 go
   rw[AE] at q
   refine thn q fun r s4 ⟨u,hr,h4⟩=>?_
   subst hr
   dsimp only
   refine thn h4 fun _ s5 ⟨x,H5,J5,r5,y5,st5,fr5⟩=>?_
   have J5':=J5.pinned (stat hpl fr5) (T.obj _ _ st5)
   have qg:=hgX _ s5 (inSt M σ) H5 x u _ J5' r5 (hf _ _ _ _ (step x H5 y5))
   rw[progE,wE,AE] at qg
   refine wpAny_mono qg (fun _ s6 h6=>?_) fun e s' z=>xE e s' z
   obtain ⟨σ6,H6,J6,q6,l6,k6⟩:=h6
   have qt:=htX _ s6 σ6 H6 _ J6 q6
   rw[progE,wE,AE] at qt
   refine wpAny_mono qt (fun b s7 h7=>?_) fun e s' z=>xE e s' z
   obtain ⟨H7,J7,q7⟩:=h7
   have fin : ∀ {ys' : List V} {σ8 : St} {H8 : Hp} {s8 : Shared},σ8 = σ6 -> Inv X' ([(D,{ cls:=.type "list",data:=.seq its.toArray k })] ++ pinsAt fp s5.heap) σ8 H8 s8 ->
     s8.heap.get? D = some { cls:=.type "list",data:=.seq its.toArray k } /\ H8 D = none /\ tn (i + 1) s8.heap /\ (∀ b ∈ fp,H8 b = none) /\ Inv X' [] (inSt M σ) H8 s8:=fun {ys' σ8 H8 s8} e8 J8=>by
    subst e8
    obtain ⟨p1,p2,_⟩:=J8.pin _ (List.mem_append_right _ (List.mem_append_left _ (List.mem_singleton.mpr rfl)))
    refine ⟨p1,p2,T.keep _ _ _ st5 fun b hb o e=>(J8.pin (b,o) (List.mem_append_right _ (List.mem_append_right _ (mem_pinsAt hb e)))).1,fun b hb=>?_,?_⟩
    ·obtain ⟨o,e,d⟩:=T.obj _ _ st5 b hb
     exact (J8.pin (b,o) (List.mem_append_right _ (List.mem_append_right _ (mem_pinsAt hb e)))).2.1
    ·have J9:Inv X' [] σ8 H8 s8:=J8.pins_of fun p hp=>absurd hp (by simp)
     refine J9.weak (l6.symm) fun a v e=>?_
     obtain ⟨j,eM,_⟩:=inSt_get e
     rw[k6 a j eM];exact e
   cases b with
   | false=>
    rw[if_neg (by decide)] at q7
    rw[if_neg (by decide)]
    obtain ⟨m',hm,w7⟩:=hN _ _ q7
    obtain ⟨a1,a2,a3,a4,a5⟩:=fin (ys':=ys) rfl J7
    exact ⟨m',hm,i+1,ys,H7,a5,a3,a4,⟨its,k,rv,a1⟩,a2,w7⟩
   | true=>
    rw[if_pos rfl] at q7
    rw[if_pos rfl]
    have qe:=heX _ s7 σ6 H7 _ J7 q7
    rw[progE,wE,AE] at qe
    refine wpAny_mono qe (fun v8 s8 h8=>?_) fun e s' z=>xE e s' z
    obtain ⟨y8,H8,J8,r8,n8⟩:=h8
    obtain ⟨m',hm,w8⟩:=hN _ _ n8
    obtain ⟨a1,a2,a3,a4,a5⟩:=fin (ys':=ys) rfl J8
    refine wpAny_list_append_plain (items:=its.toArray) ⟨k,a1⟩ (fun h9 hl9 hs9=>?_) (by have:=rv.length;rw[List.size_toArray,<- this];exact hsz)
    have J9:Inv X' [] (inSt M σ) H8 { s8 with heap:=h9 }:=a5.turned (t':=s8.toks) (fun b o hb e=>(hs9.2 b hb).trans e) a2 Dloc D0 Dcl fun p hp=>by rw[pnE] at hp;exact absurd hp (by simp)
    obtain ⟨k9,e9⟩:=hl9
    refine ⟨m',hm,i+1,ys++[y8],H8,J9,T.keep _ _ _ a3 fun b hb o e=>(hs9.2 b (fun z=>Dfp (z ▸ hb))).trans e,a4,⟨its++[v8],k9,rv.append (.cons r8 .nil),?_⟩,a2,w8⟩
    rw[show (its++[v8]).toArray=its.toArray.push v8 by simp]
    exact e9
 have loop':codeAny (model X.prog X.w) X.A (.compLoop (.ListComp elt [⟨tg,iter,ifs,0⟩] scope pos) 0 (.ref it) (.ref D) (compEnvC scope cl C X.env)) (RR (.ref D) C) { s2 with heap:=h₁,toks:=s2.toks+([]:List (Str × Value)).length }:=envE ▸ loop
 exact codeAny_compStart_list loop' (T.self _ 0 _ _ _ (T.keep _ _ _ st2 fun b hb o e=>old b o e) loop')
end L2
namespace L2
open PySem PySem.Spec PyProof.Rows
section
variable {X:Cx} {N':List Str} {M:List (Option Nat)} {scope:Scope} {tg elt iter:Expr} {ifs:List Expr} {pos:Pos} {g:TG} {tc:TT} {te:TE} {wi:TI}
theorem lc_clos {pins:List (Addr × Obj)} {σ:St} {H:Hp} {s:Shared} (S:LcSc X.N N' M scope X.env.scope) (I:Inv X pins σ H s) :
  ∃ cl,closureFor scope X.env=pure cl/\(∀ y c,cl.lookup y=some c->X.env.cells.lookup y=some c)/\(∀ y,(y,NameKind.free) ∈ scope.names -> ∃ c,cl.lookup y=some c):=
 closure_of fun y hy hk=>I.ok.has y.1 (S.fre y hy hk)
theorem Inv.gone {pins:List (Addr × Obj)} {σ:St} {H:Hp} {s s':Shared} {C:Addr} {h':Heap} (I:Inv X pins σ H s) (hs:Heap.SameBut C s.heap h') (hn:H C=none) (hC:C≠X.env.locals) (h1:X.s₀.heap.objs.size<=C)
  (h2 : ∀ x c,X.env.cells.lookup x=some c->c≠C) (h3 : ∀ p ∈ X.pn++pins,p.1≠C):Inv X pins σ H { s with heap:=h' }:=
 I.turned (t':=s.toks) (fun b o hb e=>(hs.2 b hb).trans e) hn hC (.inr h1) h2 h3
theorem Inv.young {pins:List (Addr × Obj)} {σ:St} {H:Hp} {s:Shared} {C:Addr} (I:Inv X pins σ H s) (h:s.heap.objs.size<=C) :
  C≠X.env.locals/\X.s₀.heap.objs.size<=C/\(∀ x c,X.env.cells.lookup x=some c->c≠C) /\ ∀ p ∈ X.pn++pins,p.1≠C:= by
 refine ⟨(Nat.ne_of_lt (Nat.lt_of_lt_of_le I.lt h)).symm,Nat.le_trans I.sz h,fun x c e=>?_,fun p hp=>?_⟩
 ·obtain ⟨v,z⟩:=I.cell x c e
  exact Nat.ne_of_lt (Nat.lt_of_lt_of_le z.lt h)
 ·exact Nat.ne_of_lt (Nat.lt_of_lt_of_le (Heap.lt_size (I.pin p hp).1) h)
theorem pe_lc (S:LcSc X.N N' M scope X.env.scope) (hc:X.calm=true) (hi:PI X tg iter wi) (hg : ∀ cl C s H fp,PG (cxLc X N' scope cl C s H fp) tg g) (hf:Frm M g)
  (ht : ∀ cl C s H fp,PTs (cxLc X N' scope cl C s H fp) ifs tc) (he : ∀ cl C s H fp,PE (cxLc X N' scope cl C s H fp) elt te)
  (hs : ∀ x,foldedSetIterable iter X.env x=pure x:=by intro _;rfl) :
  PE X (.ListComp elt [⟨tg,iter,ifs,0⟩] scope pos) (fun σ H Q=>tLc wi M g tc te σ H fun ys H'=>∀ p,H' p=none->Q (.ref p) (upd H' p (.lst ys))):= by
 intro pins s σ H Q I h
 obtain ⟨cl,hclos,q1,q2⟩:=lc_clos S I
 rw[eval_ListComp]
 refine wpAny_comprehension_free (use:=none) rfl hs hclos S.kind S.own (thn (hi pins s σ H _ I h) fun v s1 h1=>thn h1 fun itv s2 h2=>?_)
 obtain ⟨it,fp,tn,J,H2,e,I2,T,st2,f2,hw⟩:=h2
 subst e
 refine lc_block (RR:=fun acc C=>compPost (model X.prog X.w) X.A X.xe none (EP X pins σ Q) acc C) S hc q1 q2 (hg cl) hf (ht cl) (he cl) I2 T st2 f2 hw ?_
 intro D C s' H' ys I' dn hD hC ⟨m,hn⟩ hCn q
 obtain ⟨y1,y2,y3,y4⟩:=I2.young (Nat.le_of_lt hC)
 exact ⟨m,hn,fun h' hs'=>⟨.ref D,_,I'.gone (s':=s') hs' hCn y1 y2 y3 y4,rfl,q D dn⟩⟩
theorem ps_lc {i:Nat} {x:Str} {pos' spos:Pos} (hN:X.N.Nodup) (hi:X.N[i]?=some x) (hx:X.env.scope.names.lookup x=some NameKind.local)
  (S:LcSc X.N N' M scope X.env.scope) (hc:X.calm=true) (hit:PI X tg iter wi) (hg : ∀ cl C s H fp,PG (cxLc X N' scope cl C s H fp) tg g) (hf:Frm M g)
  (ht : ∀ cl C s H fp,PTs (cxLc X N' scope cl C s H fp) ifs tc) (he : ∀ cl C s H fp,PE (cxLc X N' scope cl C s H fp) elt te)
  (hsw:swapsWith (.ListComp elt [⟨tg,iter,ifs,0⟩] scope pos) (some (.Name x pos')) spos.line X.env=pure true:=by rfl)
  (hs : ∀ x,foldedSetIterable iter X.env x=pure x:=by intro _;rfl) :
  PS X (.Assign [.Name x pos'] (.ListComp elt [⟨tg,iter,ifs,0⟩] scope pos) spos) (fun D σ H=>tLc wi M g tc te σ H fun ys H'=>∀ p,H' p=none->D.nx (σ.set i (some (.ref p))) (upd H' p (.lst ys))):= by
 intro pins s σ H Dn I h
 obtain ⟨cl,hclos,q1,q2⟩:=lc_clos S I
 rw[exec_Assign_Name_used _ _ _ _ hsw]
 refine wpAny_bind (wpAny_standAt (wpAny_bind ?_))
 show wpAny _ X.A (do let _ <- comprehension (.ListComp elt [⟨tg,iter,ifs,0⟩] scope pos) scope X.env _ (newList []) false (eval iter X.env) (some (assign (.Name x pos') X.env))) _ _ s
 refine wpAny_bind (wpAny_mono (wpAny_comprehension_free (use:=some (assign (.Name x pos') X.env)) (Q:=fun _ s'=>SP X pins Dn .next s') rfl hs hclos S.kind S.own
  (thn (hit pins s σ H _ I h) fun v s1 h1=>thn h1 fun itv s2 h2=>?_)) (fun _ s' hq=>wpAny_pure (wpAny_pure hq)) fun _ _ e=>e)
 obtain ⟨it,fp,tn,J,H2,e,I2,T,st2,f2,hw⟩:=h2
 subst e
 refine lc_block (RR:=fun acc C=>compPost (model X.prog X.w) X.A X.xe (some (assign (.Name x pos') X.env)) (fun _ s'=>SP X pins Dn .next s') acc C) S hc q1 q2 (hg cl) hf (ht cl) (he cl) I2 T st2 f2 hw ?_
 intro D C s' H' ys I' dn hD hC ⟨m,hn⟩ hCn q
 obtain ⟨y1,y2,y3,y4⟩:=I2.young (Nat.le_of_lt hC)
 show wpAny _ X.A (assign (.Name x pos') X.env (.ref D)) _ _ s'
 refine wpAny_assign_Name (store_ok2 I' hN hi (.inl hx) (v:=.ref D) rfl (fun s'' I'' ⟨a,hsb,ha⟩=>?_) (.inr hx))
 have hCa:C≠a:= by
  rcases ha with z | z
  ·rw[z];exact y1
  ·exact (y3 x a z).symm
 exact ⟨m,hn.sameBut hsb hCa,fun h' hs'=>⟨_,_,I''.gone (s':=s'') hs' hCn y1 y2 y3 y4,q D dn⟩⟩
end
end L2
namespace L2
open PySem PySem.Spec PyProof.Rows
theorem Same.seqT {K:PySem.W.Frag} {H H':Hp} {a:Addr} {xs:List V} (e:Same H H') (h:SqT K H a xs):SqT K H' a xs:= by
 rcases h with (h | ⟨o,h⟩) | h
 ·exact .inl (.inl (e _ _ h))
 ·exact .inl (.inr ⟨o,e _ _ h⟩)
 ·exact .inr h
theorem Same.new {H:Hp} {p:Addr} {o:HO} (h:H p=none):Same H (upd H p o):=fun b u e=>by rw[upd_ne (ne_of_none e h)];exact e
theorem Same.new2 {H H1:Hp} {p:Addr} {o:HO} (e:Same H H1) (h:H1 p=none):Same H (upd H1 p o):=e.trans (Same.new h)
theorem Same.put {H H1:Hp} {p:Addr} {o:HO} (e:Same H H1) (h:H p=none):Same H (upd H1 p o):=fun b u q=>by rw[upd_ne (ne_of_none q h)];exact e b u q
section
variable {X:Cx}
theorem op_mulW:OpR X (binaryOp .Mult) (rI IntMulOk fun i j=>.int (i*j)):=opI fun _ _ _ _ _ _ _ hc q=>mul_int q hc
def CDivW (i j:Int):Prop:=0<j/\j.natAbs.log2<9000
theorem op_fdivW:OpR X (binaryOp .FloorDiv) (rI CDivW fun i j=>.int (i / j)):=opI fun i j _ _ _ _ _ hc q=>by
 have e:i.fdiv j=i / j:=Int.fdiv_eq_ediv_of_nonneg i (Int.le_of_lt hc.1)
 exact floordiv_int (Int.ne_of_gt hc.1) (by rw[e];exact q) (.inl (PyProof.noPylong_of_log2 hc.2))
theorem mulOk_r {a b:Int} (h : -(2 ^ 64)<b/\b<2 ^ 64):IntMulOk a b:=CMul.ok (.inr h)
theorem old_keptT {s : Shared} {l : Addr} {h' : Heap} (hk : ∀ b o,b ∉ [s.heap.objs.size] -> (s.heap.push { cls:=.type "tuple_iterator",data:=.fields #[.ref l,.int 0 0] }).get? b = some o -> h'.get? b = some o) :
  ∀ b o,s.heap.get? b=some o->h'.get? b=some o:=fun b o e=>hk b o (fun hm=>absurd (Heap.lt_size e) (by rw[List.mem_singleton.mp hm];exact Nat.lt_irrefl _)) (Heap.get?_push_of_some _ e)
theorem seq_walk {pins:List (Addr × Obj)} {σ:St} {H:Hp} {s:Shared} {a:Addr} {xs:List V} {A:Around} {E:Value->Shared->Prop} {Q:Value->Shared->Prop} (I:Inv X pins σ H s) (hh:A.handled=none) (hq:SqL X.K H a xs\/SqT X.K H a xs)
  (h : ∀ (its:List Value) (I':Addr) (fp wr:List Addr) (St':Nat->Heap->Prop) (s2:Shared),Vals xs its->Walks X.prog X.w A I' fp wr its.toArray.size (fun i v=>its.toArray[i]?=some v) St'->St' 0 s2.heap->(∀ b ∈ fp,b<s2.heap.objs.size) ->
   s2.toks=s.toks->s2.os=s.os->s2.gens=s.gens->s2.drawn=s.drawn->(∀ h' tk,(∀ b o,b ∉ wr->s2.heap.get? b=some o->h'.get? b=some o)->Inv X pins σ H { s2 with heap:=h',toks:=tk })->Q (.ref I') s2) :
  wpAny (model X.prog X.w) A (pyIter (.ref a)) Q E s:= by
 rcases hq with hq | hq
 ·obtain ⟨its,rv,p,hz⟩:=I.list hq
  obtain ⟨o,ho,_⟩:=id p.isList
  have hlt:=Heap.lt_size ho
  refine wpAny_pyIter_list p.isList (h its s.heap.objs.size [s.heap.objs.size,a] [s.heap.objs.size] _ _ rv (Walks.list hh _ a (Nat.ne_of_lt hlt) its.toArray) ⟨⟨_,Heap.get?_push_size _ rfl,rfl,rfl⟩,p.isList.push _⟩ (fun b hb=>?_) rfl rfl rfl rfl fun h' tk hk=>?_)
  ·show b<(s.heap.push _).objs.size
   rw[Heap.size_push]
   rcases List.mem_cons.mp hb with rfl | hb
   ·exact Nat.lt_succ_self _
   ·rw[List.mem_singleton.mp hb];exact Nat.lt_succ_of_lt hlt
  ·exact I.kept (t':=tk) (old_kept hk)
 ·obtain ⟨its,rv,p,hz⟩:=I.tuple hq
  obtain ⟨o,ho,_⟩:=id p
  have hlt:=Heap.lt_size ho
  have p':s.heap.IsTuple a its.toArray:=p
  refine wpAny_pyIter_tuple p' (h its s.heap.objs.size [s.heap.objs.size,a] [s.heap.objs.size] _ _ rv (Walks.tuple hh _ a (Nat.ne_of_lt hlt) its.toArray) ⟨⟨_,Heap.get?_push_size _ rfl,rfl,rfl⟩,p'.push _⟩ (fun b hb=>?_) rfl rfl rfl rfl fun h' tk hk=>?_)
  ·show b<(s.heap.push _).objs.size
   rw[Heap.size_push]
   rcases List.mem_cons.mp hb with rfl | hb
   ·exact Nat.lt_succ_self _
   ·rw[List.mem_singleton.mp hb];exact Nat.lt_succ_of_lt hlt
  ·exact I.kept (t':=tk) (old_keptT hk)
theorem vals_int_at {ns:List Int} {its:List Value} (r:Vals (ns.map V.int) its) {i:Nat} {v:Value} (h:its.toArray[i]?=some v) : ∃ t,v = .int (ns.getD i 0) t/\i<ns.length:= by
 have h':its[i]?=some v:=by simpa using h
 have hl:=r.length
 rw[List.length_map] at hl
 have hi:i<ns.length:=by rw[hl];exact (List.getElem?_eq_some_iff.mp h').1
 obtain ⟨u,hu,ru⟩:=r.get (i:=i) (x:=V.int (ns[i])) (by rw[List.getElem?_map,List.getElem?_eq_getElem hi];rfl)
 rw[hu] at h';cases h'
 obtain ⟨t,rfl⟩:=ru
 exact ⟨t,by rw[List.getD_eq_getElem?_getD,List.getElem?_eq_getElem hi];rfl,hi⟩
def IsMax (ns:List Int) (m:Int):Prop:=m ∈ ns /\ ∀ a ∈ ns,a<=m
def IsMin (ns:List Int) (m:Int):Prop:=m ∈ ns /\ ∀ a ∈ ns,m<=a
theorem getD_mem' {ns:List Int} {i:Nat} (h:i<ns.length):ns.getD i 0 ∈ ns:= by
 rw[List.getD_eq_getElem?_getD,List.getElem?_eq_getElem h];exact List.getElem_mem h
theorem mem_getD' {ns:List Int} {a:Int} (h:a ∈ ns) : ∃ i,i<ns.length/\ns.getD i 0=a:= by
 obtain ⟨i,hi,e⟩:=List.mem_iff_getElem.mp h
 exact ⟨i,hi,by rw[List.getD_eq_getElem?_getD,List.getElem?_eq_getElem hi];exact e⟩
theorem call_maxL (hc : X.calm = true) : CallR X (.builtin "max") (fun xs H Q=>∃ (a : Addr) (ns : List Int),xs = [.ref a] /\ (SqL X.K H a (ns.map V.int) \/ SqT X.K H a (ns.map V.int)) /\ ns ≠ [] /\ ∀ m,IsMax ns m -> Q (.int m) H):= by
 intro pins s σ H xs us Q I r h
 obtain ⟨a,ns,rfl,hq,hne,q⟩:=h
 obtain ⟨u,rfl,ru⟩:=vals1 r
 cases ru
 refine call_max_walk (seq_walk I (A:=X.A.in1) (I.ok.hd hc) hq fun its I' fp wr St' s2 rv W st hfp _ _ _ _ hI=>?_)
 have hlen:its.toArray.size=ns.length:=by rw[List.size_toArray,<- rv.length,List.length_map]
 have hpos:0<ns.length:=List.length_pos_iff.mpr hne
 refine ⟨_,_,_,_,_,_,_,rfl,W,st,hfp,by rw[hlen];exact hpos,CmpOf.ints_gt (fun i=>ns.getD i 0) (fun i v hv=>(vals_int_at rv hv).imp fun t e=>e.1),fun v h' tk hP hk=>?_⟩
 obtain ⟨t,rfl,hi⟩:=vals_int_at rv hP
 obtain ⟨h1,h2⟩:=argBest_gt (fun i=>ns.getD i 0) (its.toArray.size-1)
 refine ⟨.int _,H,hI h' tk hk,⟨t,rfl⟩,q _ ⟨getD_mem' hi,fun b hb=>?_⟩⟩
 obtain ⟨j,hj,rfl⟩:=mem_getD' hb
 exact h2 j (by omega)
theorem call_sumL (hc : X.calm = true) : CallR X (.builtin "sum") (fun xs H Q=>∃ (a : Addr) (ns : List Int),xs = [.ref a] /\ (SqL X.K H a (ns.map V.int) \/ SqT X.K H a (ns.map V.int)) /\ Q (.int ns.sum) H):= by
 intro pins s σ H xs us Q I r h
 obtain ⟨a,ns,rfl,hq,q⟩:=h
 obtain ⟨u,rfl,ru⟩:=vals1 r
 cases ru
 refine call_sum_walkG (seq_walk I (A:=X.A.in1) (I.ok.hd hc) hq fun its I' fp wr St' s2 rv W st hfp _ _ _ _ hI=>?_)
 refine ⟨_,_,_,_,_,_,fun i=>ns.getD i 0,rfl,W,st,hfp,(fun i v hv=>(vals_int_at rv hv).imp fun t e=>e.1),fun h' tk t' hk=>?_⟩
 have hlen:its.toArray.size=ns.length:=by rw[List.size_toArray,<- rv.length,List.length_map]
 refine ⟨.int _,H,hI h' tk hk,⟨t',rfl⟩,?_⟩
 have e:preSum (fun i=>ns.getD i 0) its.toArray.size=ns.sum:= by
  rw[hlen]
  have gen : ∀ n,n<=ns.length->preSum (fun i=>ns.getD i 0) n=(ns.take n).sum:= by
   intro n
   induction n with
   | zero=>intro _;rfl
   | succ n ih=>
    intro hn
    have e1:preSum (fun i=>ns.getD i 0) (n+1)=preSum (fun i=>ns.getD i 0) n+ns.getD n 0:=rfl
    have hn':n<ns.length:=hn
    have e2:ns.take (n+1)=ns.take n++[ns[n]]:=by simp
    rw[e1,ih (by omega),e2,List.getD_eq_getElem?_getD,List.getElem?_eq_getElem hn',List.sum_append]
    simp
  rw[gen _ (Nat.le_refl _),List.take_length]
 rw[e];exact q
theorem vals_bl_at {bs:List Bool} {its:List Value} (r:Vals (bs.map V.bl) its) {i:Nat} {v:Value} (h:its.toArray[i]?=some v):v = .bool (bs.getD i true)/\i<bs.length:= by
 have h':its[i]?=some v:=by simpa using h
 have hl:=r.length
 rw[List.length_map] at hl
 have hi:i<bs.length:=by rw[hl];exact (List.getElem?_eq_some_iff.mp h').1
 obtain ⟨u,hu,ru⟩:=r.get (i:=i) (x:=V.bl (bs[i])) (by rw[List.getElem?_map,List.getElem?_eq_getElem hi];rfl)
 rw[hu] at h';cases h'
 cases (show v=Value.bool (bs[i]) from ru)
 exact ⟨by rw[List.getD_eq_getElem?_getD,List.getElem?_eq_getElem hi];rfl,hi⟩
theorem range_all (bs:List Bool) (d:Bool):(List.range bs.length).all (fun i=>bs.getD i d)=bs.all id:= by
 rw[Bool.eq_iff_iff,List.all_eq_true,List.all_eq_true]
 constructor
 ·intro h b hb
  obtain ⟨i,hi,e⟩:=List.mem_iff_getElem.mp hb
  have:=h i (List.mem_range.mpr hi)
  rw[List.getD_eq_getElem?_getD,List.getElem?_eq_getElem hi] at this
  rw[<- e];exact this
 ·intro h i hi
  have hi:=List.mem_range.mp hi
  rw[List.getD_eq_getElem?_getD,List.getElem?_eq_getElem hi]
  exact h _ (List.getElem_mem hi)
theorem call_allL (hc : X.calm = true) : CallR X (.builtin "all") (fun xs H Q=>∃ (a : Addr) (bs : List Bool),xs = [.ref a] /\ (SqL X.K H a (bs.map V.bl) \/ SqT X.K H a (bs.map V.bl)) /\ Q (.bl (bs.all id)) H):= by
 intro pins s σ H xs us Q I r h
 obtain ⟨a,bs,rfl,hq,q⟩:=h
 obtain ⟨u,rfl,ru⟩:=vals1 r
 cases ru
 refine call_all_walk (seq_walk I (A:=X.A.in1) (I.ok.hd hc) hq fun its I' fp wr St' s2 rv W st hfp _ _ _ _ hI=>?_)
 refine ⟨_,_,_,_,_,_,fun i=>bs.getD i true,rfl,W,st,(fun i v s Q E hv hQ=>by rw[(vals_bl_at rv hv).1];exact wpAny_truthy_bool hQ),fun h' tk hk=>?_⟩
 have hlen:its.toArray.size=bs.length:=by rw[List.size_toArray,<- rv.length,List.length_map]
 rw[hlen,range_all]
 exact ⟨.bl _,H,hI h' tk hk,rfl,q⟩
theorem call_isi : CallR X (.builtin "isinstance") (fun xs H Q=>∃ x n t b,xs = [x,.ty n] /\ TyOf X.K H x t /\ PySem.W.kitOne X.K t (.type n) = some b /\ Q (.bl b) H):= by
 intro pins s σ H xs us Q I r h
 obtain ⟨x,n,t,b,rfl,ty,e,q⟩:=h
 obtain ⟨u,w',rfl,rx,ru⟩:=vals2 r
 cases (show w'=Value.type n from ru)
 exact isinst_ok I rx ty e fun tk=>⟨.bl b,H,I.tok tk,rfl,q⟩
end
end L2
namespace L2
open PySem PySem.Spec PyProof.Rows
section
variable {prog:Program} {w:World} {A:Around} {E:Value->Shared->Prop} {s:Shared}
theorem isExact_tup {t:Addr} {items:Array Value} {Q:Bool->Shared->Prop} (ht:IsTup s.heap t items) (h:Q true s):wpAny (model prog w) A (Builtin.Tuple.tupleIsExact (.ref t)) Q E s:= by
 unfold Builtin.Tuple.tupleIsExact
 exact wpAny_bind (wpAny_typeOf ht.typeIs (wpAny_pure h))
theorem getItem_tuple_all {t sl:Addr} {items:Array Value} {vl vu:Value} {lo hi:Option Int} {Q:Value->Shared->Prop} (ht:IsTup s.heap t items) (hs:s.heap.IsSliceOf sl vl vu .none) (pl:IsPart vl lo) (pu:IsPart vu hi)
  (hw:HT.sIx items.size 0 lo=0/\HT.sIx items.size items.size hi=items.size) (h:Q (.ref t) s):wpAny (model prog w) A (getItem (.ref t) (.ref sl)) Q E s:= by
 obtain ⟨os,hos,hcs,hds⟩:=id hs
 have hTs : s.TypeIs (.ref sl) "slice":=⟨os,hos,hcs⟩
 unfold getItem
 try with_reducible refine wpAny_holding ?_
 first | refine wpAny_bind (wpAny_pure ?_) | skip
 refine wpAny_bind (wpAny_sequenceKey ht.typeIs (by decide) ?_)
 refine wpAny_bind (wpAny_callSpecial?_slot (name:=Str.ofString "__getitem__") ht.typeIs PyProof.Rows.slot_tuple_getitem
  (wpAny_call_entry PyProof.Rows.slot_tuple_getitem ht.typeIs entry_tuple_getitem ?_ (args_tuple_getitem _ _)))
 show wpAny _ _ (Builtin.Tuple.tupleItemsOf (.ref t) >>= _) _ _ s
 refine wpAny_bind (tupleItemsOf_ ht ?_)
 refine wpAny_bind (wpAny_typeOf hTs ?_)
 rw[if_pos (by decide)]
 refine wpAny_bind (HT.sliceApplied_gen hs pl pu ?_)
 have hyes:((((HT.sIx items.size 0 lo:Nat):Int)==0&&(1:Int)==1&&(HT.sIx items.size items.size hi-HT.sIx items.size 0 lo)==items.size)=true):= by
  rw[hw.1,hw.2];simp
 show wpAny _ _ (if (((HT.sIx items.size 0 lo:Nat):Int)==0&&(1:Int)==1&&(HT.sIx items.size items.size hi-HT.sIx items.size 0 lo)==items.size)=true then _ else _) _ _ s
 rw[if_pos hyes]
 refine wpAny_bind (isExact_tup ht ?_)
 rw[if_pos rfl]
 exact wpAny_bind (wpAny_rule (wpAny_bind (wpAny_pure (wpAny_pure ⟨_,rfl,wpAny_pure h⟩))))
end
section
variable {X:Cx}
theorem sl_tupA:SlR X (fun x lo hi H Q=>∃ a xs,x = .ref a/\SqT X.K H a xs /\ ∀ p H',Same H H'->SqT X.K H' p (cutV xs lo hi)->Q (.ref p) H'):= by
 intro pins s σ H x v vl vu lo hi sl Q I rx hs pl pu h
 obtain ⟨a,xs,rfl,hx,q⟩:=h
 by_cases hw:HT.sIx xs.length 0 lo=0/\HT.sIx xs.length xs.length hi=xs.length
 ·cases rx
  obtain ⟨its,r,ht,hz⟩:=I.tuple hx
  have hlen:its.toArray.size=xs.length:=by rw[List.size_toArray];exact r.length.symm
  refine ⟨"tuple",_,PyProof.Rows.slot_tuple_getitem.lookup,ht.typeIs,?_⟩
  refine getItem_tuple_all ht hs pl pu (by rw[hlen];exact hw) ⟨.ref a,H,I,rfl,q a H (Same.refl H) ?_⟩
  have e:cutV xs lo hi=xs:=by unfold cutV;rw[hw.1,hw.2];simp
  rw[e];exact hx
 ·exact sl_tup pins s σ H _ v vl vu lo hi sl Q I rx hs pl pu ⟨a,xs,rfl,hx,hw,fun p hp=>q p _ (Same.new hp) (SqT.of upd_same)⟩
end
section
variable {X:Cx}
theorem draw_list {prog:Program} {w:World} {A:Around} {E:Value->Shared->Prop} {it t:Addr} {items:Array Value} (hne:t≠it) : ∀ (n i:Nat) (s:Shared) (Q:List Value->Shared->Prop),s.heap.IsListIter it t i->s.heap.IsList t items->i+n<=items.size ->
  (∀ h',h'.IsListIter it t (i+n)->Heap.SameBut it s.heap h'->Q ((items.toList.drop i).take n) { s with heap:=h' })->wpAny (model prog w) A (draw (.ref it) n) Q E s
 | 0,i,s,Q,hit,_,_,hQ=>by
  show wpAny _ _ (pure []) Q E s
  exact wpAny_pure (by simpa using hQ s.heap hit (Heap.SameBut.refl ..))
 | n+1,i,s,Q,hit,ht,hle,hQ=>by
  have hlt:i<items.size:=by omega
  show wpAny _ _ (pyNext (.ref it) >>= _) Q E s
  refine wpAny_bind (wpAny_pyNext_list_item hit ht (x:=items[i]) (by simp [hlt]) fun h₁ hit₁ hs₁=>?_)
  refine wpAny_bind (wpAny_holding (draw_list hne n (i+1) _ _ hit₁ (ht.extBut hs₁.extBut hne) (by omega) fun h₂ hit₂ hs₂=>wpAny_pure ?_))
  have hd:items.toList.drop i=items[i]::items.toList.drop (i+1):=by simp [List.drop_eq_getElem_cons,hlt]
  have:=hQ h₂ (by rw[show i+(n+1)=i+1+n by omega];exact hit₂) (hs₁.trans hs₂)
  rw[hd,List.take_succ_cons] at this
  exact this
theorem unpackItems_list {prog:Program} {w:World} {A:Around} {E:Value->Shared->Prop} {s:Shared} {t:Addr} {items:Array Value} {Q:List Value->Shared->Prop} (hh:A.handled=none) (ht:s.heap.IsList t items)
  (hQ : ∀ h',Heap.ExtBut s.heap.objs.size s.heap h'->Q items.toList { s with heap:=h' }):wpAny (model prog w) A (unpackItems (.ref t) items.size none) Q E s:= by
 have hlt:t≠s.heap.objs.size:=by obtain ⟨o,ho,_⟩:=ht;exact Nat.ne_of_lt (Heap.lt_size ho)
 unfold unpackItems
 refine wpAny_bind ?_
 unfold notIterableAtAll
 refine wpAny_bind (wpAny_specialOf ht.typeIs slot_list_iter.lookup ?_)
 refine wpAny_pure ?_
 simp only [Bool.false_eq_true,if_false]
 refine wpAny_bind (wpAny_holding (wpAny_pyIter_list ht ?_))
 refine wpAny_bind (wpAny_holding (draw_list hlt items.size 0 _ _ ⟨_,Heap.get?_push_size _ rfl,rfl,rfl⟩ (ht.push _) (by omega) fun h₁ hit₁ hs₁=>?_))
 have hall:List.take items.size (List.drop 0 items.toList)=items.toList:= by
  rw[List.drop_zero];exact List.take_of_length_le (by simp)
 rw[hall]
 rw[if_neg (by simp)]
 have ht₁:h₁.IsList t items:=(ht.push _).extBut hs₁.extBut hlt
 refine wpAny_bind (wpAny_holding (wpAny_pyNext_list_end hh hit₁ ht₁ (by simp) fun h₂ he₂=>?_))
 simp only [Option.isSome_none,Bool.false_eq_true,if_false]
 refine wpAny_pure (hQ h₂ fun b o hb e=>he₂ b o hb (hs₁.extBut b o hb (Heap.get?_push_of_some _ e)))
def gLst (K:PySem.W.Frag) (n:Nat) (t:TGs):TG:=fun v σ H Q=>∃ a xs,v = .ref a/\SqL K H a xs/\xs.length=n/\t xs σ H Q
theorem pg_lst {es:List Expr} {k:Nat} {t:TGs} {n:Nat} {pos:Pos} (hc:X.calm=true) (h:PGs X es t)
  (hn:(assignEach es X.env).length=n:=by rfl) (hst:(assignEach es X.env).findIdx? (·.1)=none:=by rfl):PG X (.Tuple es k pos) (gLst X.K n t):= by
 intro pins s σ H v u Q I r hw
 obtain ⟨a,xs,e1,hq,hl,hw⟩:=hw
 subst e1
 cases r
 obtain ⟨its,rv,ht,hz⟩:=I.list hq
 rw[assign_Tuple]
 refine wpAny_bind (wpAny_standAt ?_)
 unfold unpack
 rw[show (assignEach es X.env).length=its.toArray.size by rw[hn,<- hl,rv.length,List.size_toArray],hst]
 refine wpAny_bind (wpAny_holding (unpackItems_list (I.ok.hd hc) ht.isList fun h' hx=>?_))
 have I1:Inv X pins σ H { s with heap:=h' }:=I.kept (t':=s.toks) fun b o e=>hx b o (Nat.ne_of_lt (Heap.lt_size e)) e
 exact h pins _ σ H xs _ Q I1 (by simpa using rv) hw
end
end L2
namespace L2
open PySem PySem.Spec PyProof.Rows
def lcChk (N N':List Str) (M:List (Option Nat)) (sc osc:Scope):Bool:=
 (sc.kind == .function)&&(N'.length==M.length)&&(sc.names.all fun y=>y.2 != NameKind.cell)&&(sc.names.all fun y=>y.2 != NameKind.local||sc.names.lookup y.1==some NameKind.local) &&
 (sc.names.all fun y=>y.2 != NameKind.free||(osc.names.lookup y.1==some NameKind.cell||osc.names.lookup y.1==some NameKind.free)) &&
 ((N'.zip M).all fun p=>match p.2 with | none=>true | some j=>N[j]?==some p.1&&sc.names.lookup p.1==some NameKind.free)
theorem nk_eq {a b:NameKind} (h:(a==b)=true):a=b:= by
 cases a <;> cases b <;> first | rfl | exact absurd h (by decide)
theorem nko_eq {a:Option NameKind} {b:NameKind} (h:(a==some b)=true):a=some b:= by
 cases a with
 | none=>exact absurd h (by cases b <;> decide)
 | some x=>rw[nk_eq (show (x==b)=true from h)]
theorem nk_ne {a b:NameKind} (h:(a != b)=true):a≠b:= by
 cases a <;> cases b <;> first | (intro z;cases z;done) | exact absurd h (by decide)
theorem lcSc_of {N N':List Str} {M:List (Option Nat)} {sc osc:Scope} (h:lcChk N N' M sc osc=true):LcSc N N' M sc osc:= by
 unfold lcChk at h
 simp only [Bool.and_eq_true] at h
 obtain ⟨⟨⟨⟨⟨h1,h2⟩,h3⟩,h4⟩,h5⟩,h6⟩:=h
 have hl:N'.length=M.length:=by simpa using h2
 refine ⟨?_,hl,fun y hy=>nk_ne (List.all_eq_true.mp h3 y hy),fun y hy hk=>?_,fun y hy hk=>?_,fun i j e=>?_⟩
 ·revert h1;cases sc.kind <;> intro h1 <;> first | rfl | exact absurd h1 (by decide)
 ·have q:=List.all_eq_true.mp h4 y hy
  rw[Bool.or_eq_true] at q
  rcases q with q | q
  ·exact absurd hk (nk_ne q)
  ·exact nko_eq q
 ·have q:=List.all_eq_true.mp h5 y hy
  rw[Bool.or_eq_true,Bool.or_eq_true] at q
  rcases q with q | q | q
  ·exact absurd hk (nk_ne q)
  ·exact .inl (nko_eq q)
  ·exact .inr (nko_eq q)
 ·have hi:i<M.length:=(List.getElem?_eq_some_iff.mp e).1
  have hi':i<N'.length:=by rw[hl];exact hi
  have em:(N'[i],some j) ∈ N'.zip M:= by
   refine List.mem_iff_getElem?.mpr ⟨i,?_⟩
   rw[List.getElem?_zip_eq_some]
   exact ⟨List.getElem?_eq_getElem hi',e⟩
  have q:=List.all_eq_true.mp h6 _ em
  simp only [Bool.and_eq_true] at q
  exact ⟨N'[i],List.getElem?_eq_getElem hi',by simpa using q.1,nko_eq q.2⟩
section
variable {K:PySem.W.Frag} {a:Addr} {xs:List V} {M:List (Option Nat)} {σ:St} {g:TG} {tc:TT} {te:TE} {F:List V->Hp->Prop} {H:Hp}
abbrev LcGoal (J:It) (M:List (Option Nat)) (σ:St) (g:TG) (tc:TT) (te:TE) (F:List V->Hp->Prop) (H1:Hp):Prop:=
 ∃ W:Nat->Nat->List V->Hp->Prop,(∃ m,W 0 m [] H1) /\ ∀ i m ys H,W i m ys H->ys.length<=sizeLine /\
  ((J.stop i H/\F ys H)\/(J.go i H/\ys.length<sizeLine /\ ∃ N:List V->Hp->Prop,(∀ ys' H',N ys' H' -> ∃ m',m'<m/\W (i+1) m' ys' H') /\ ∀ x H',J.yld i H x H'->g x (inSt M σ) H' fun σ2 H2=>tc σ2 H2 fun b H3=>
   if b=true then te σ2 H3 fun v H4=>N (ys++[v]) H4 else N ys H3))
theorem lc_list (Pv:Nat->List V->Hp->Prop) (hz:xs.length<=sizeLine) (h0:Pv 0 [] H) (hl : ∀ i ys H,i<=xs.length->Pv i ys H->SqL K H a xs/\ys.length<=i)
  (hs : ∀ i x ys H,xs[i]?=some x->Pv i ys H->g x (inSt M σ) H fun σ2 H2=>tc σ2 H2 fun b H3=>if b=true then te σ2 H3 fun v H4=>Pv (i+1) (ys++[v]) H4 else Pv (i+1) ys H3)
  (hd : ∀ ys H,Pv xs.length ys H->F ys H):LcGoal (Itl K a) M σ g tc te F H:= by
 refine ⟨fun i m ys H=>m=xs.length-i/\i<=xs.length/\Pv i ys H,⟨xs.length,by simp,Nat.zero_le _,h0⟩,?_⟩
 rintro i m ys H ⟨rfl,hi,p⟩
 obtain ⟨q,hy⟩:=hl i ys H hi p
 refine ⟨by omega,?_⟩
 by_cases hlt:i<xs.length
 ·refine .inr ⟨⟨xs,xs[i],q,by simp [hlt]⟩,by omega,Pv (i+1),fun ys' H' p'=>⟨xs.length-(i+1),by omega,rfl,hlt,p'⟩,fun x H' y=>?_⟩
  obtain ⟨e,y⟩:=y
  subst e
  exact hs i x ys _ (y xs q) p
 ·have e:i=xs.length:=by omega
  subst e
  exact .inl ⟨⟨xs,q,Nat.le_refl _⟩,hd ys H p⟩
theorem lc_tup (Pv:Nat->List V->Hp->Prop) (hz:xs.length<=sizeLine) (h0:Pv 0 [] H) (hl : ∀ i ys H,i<=xs.length->Pv i ys H->SqT K H a xs/\ys.length<=i)
  (hs : ∀ i x ys H,xs[i]?=some x->Pv i ys H->g x (inSt M σ) H fun σ2 H2=>tc σ2 H2 fun b H3=>if b=true then te σ2 H3 fun v H4=>Pv (i+1) (ys++[v]) H4 else Pv (i+1) ys H3)
  (hd : ∀ ys H,Pv xs.length ys H->F ys H):LcGoal (Itt K a) M σ g tc te F H:= by
 refine ⟨fun i m ys H=>m=xs.length-i/\i<=xs.length/\Pv i ys H,⟨xs.length,by simp,Nat.zero_le _,h0⟩,?_⟩
 rintro i m ys H ⟨rfl,hi,p⟩
 obtain ⟨q,hy⟩:=hl i ys H hi p
 refine ⟨by omega,?_⟩
 by_cases hlt:i<xs.length
 ·refine .inr ⟨⟨xs,xs[i],q,by simp [hlt]⟩,by omega,Pv (i+1),fun ys' H' p'=>⟨xs.length-(i+1),by omega,rfl,hlt,p'⟩,fun x H' y=>?_⟩
  obtain ⟨e,y⟩:=y
  subst e
  exact hs i x ys _ (y xs q) p
 ·have e:i=xs.length:=by omega
  subst e
  exact .inl ⟨⟨xs,q,Nat.le_refl _⟩,hd ys H p⟩
theorem lc_range {lo:Int} {n:Nat} (Pv:Nat->List V->Hp->Prop) (hz:n<=sizeLine) (h0:Pv 0 [] H) (hl : ∀ i ys H,i<=n->Pv i ys H->ys.length<=i)
  (hs : ∀ i ys H,i<n->Pv i ys H->g (.int (lo+i)) (inSt M σ) H fun σ2 H2=>tc σ2 H2 fun b H3=>if b=true then te σ2 H3 fun v H4=>Pv (i+1) (ys++[v]) H4 else Pv (i+1) ys H3)
  (hd : ∀ ys H,Pv n ys H->F ys H):LcGoal (Itr lo n) M σ g tc te F H:= by
 refine ⟨fun i m ys H=>m=n-i/\i<=n/\Pv i ys H,⟨n,by simp,Nat.zero_le _,h0⟩,?_⟩
 rintro i m ys H ⟨rfl,hi,p⟩
 have hy:=hl i ys H hi p
 refine ⟨by omega,?_⟩
 by_cases hlt:i<n
 ·refine .inr ⟨hlt,by omega,Pv (i+1),fun ys' H' p'=>⟨n-(i+1),by omega,rfl,hlt,p'⟩,fun x H' y=>?_⟩
  obtain ⟨e,y⟩:=y
  subst e y
  exact hs i ys _ hlt p
 ·have e:i=n:=by omega
  subst e
  exact .inl ⟨Nat.le_refl _,hd ys H p⟩
theorem map_snoc {α:Type} (f:Nat->α) (i:Nat):(List.range i).map f++[f i]=(List.range (i+1)).map f:=by rw[List.range_succ,List.map_append];rfl
end
structure Cal (P:Program) (w:World) (K:PySem.W.Frag) (mg:Str->Option Value) (base:Heap) (k:Nat) (x:Str) (dvs:List V) (sp:Sp):Prop where
 ex : ∃ f fd ps ds,FnOk P w K mg base CX0 k f fd ps sp/\mg x=some (.ref f)/\PySem.W.keepIn K (.ref f)=true/\Binds K fd ps ds/\Vals dvs ds
theorem pe_cal {X : Cx} {k : Nat} {x : Str} {dvs : List V} {sp : Sp} {e : Expr} {es : List Expr} {t : TA} {p pos : Pos} (c : Cal X.prog X.w X.K X.mg X.base k x dvs sp) (hr : Room k X.A) (hg : Gl X x) (ha : PA X (e :: es) t) (hd : (x == ("__debug__" : Str)) = false:=by decide)
  (he:starEach (e::es) X.env=(false,eval e X.env)::starEach es X.env:=by rfl) (hpl:(backTo pos (starEach es X.env)).any (·.1)=false:=by rfl) :
  PE X (.Call (.Name x p) (e::es) [] pos) (tCall sp dvs E0 t):= by
 obtain ⟨f,fd,ps,ds,F,hm,hk,hb,hv⟩:=c.ex
 exact pe_call F hr hg hm hk hb hv pass0 ha hd he hpl
end L2
namespace L2
open PySem
abbrev Drawn':List Int->List Int->Prop:=Paired fun l r=>0<=r/\r<l
def LimOk (l:Int):Prop:=0<l/\l.natAbs.log2<9000
def spDraw (K:PySem.W.Frag):Sp:=fun vs H Q _=>∃ (c:Int) (a:Addr) (ls:List Int),vs=[.int c,.ref a]/\SqL K H a (ls.map V.int)/\(∀ l ∈ ls,LimOk l)/\ls.length<=1000 /\
 ∀ (p:Addr) (rs:List Int) (H':Hp),H p=none->Same H H'->H' p=some (.lst (rs.map V.int))->Drawn' ls rs->Q (.ref p) H'
def spCell (K:PySem.W.Frag):Sp:=fun vs H Q _=>∃ (a:Addr) (ns:List Int) (k:Int),vs=[.ref a,.int k]/\SqL K H a (ns.map V.int)/\0<=k/\k<=1000/\ns.length<=1000 /\ ∀ z,Q (.int z) H
def spMany (K:PySem.W.Frag):Sp:=fun vs H Q _=>∃ (a:Addr) (ns:List Int) (f:Int),vs=[.ref a,.int f]/\SqL K H a (ns.map V.int) /\ ∀ z,f<=z->(z<=63\/z=f)->Q (.int z) H
def wayGo:Int->List Int->Bool
 | _,[]=>true
 | f,w::r=>decide (0<=w)&&decide (w<=f)&&wayGo (if w=f then f+1 else f) r
def isWay (ns:List Int):Bool:=decide (1<=ns.length)&&decide (ns.length<=9)&&wayGo 0 ns
theorem getI {ns:List Int} {i:Nat} {y:V} (h:(ns.map V.int)[i]?=some y) : ∃ z,y=V.int z/\ns[i]?=some z/\i<ns.length:= by
 rw[List.getElem?_map] at h
 cases e:ns[i]? with
 | none=>rw[e] at h;cases h
 | some z=>rw[e] at h;exact ⟨z,(Option.some.inj h).symm,rfl,(List.getElem?_eq_some_iff.mp e).1⟩
theorem mapV {ns:List Int} {z:Int}:ns.map V.int++[V.int z]=(ns++[z]).map V.int:=by rw[List.map_append];rfl
theorem nn63:(sizeLine:Nat)=16777216:=by decide
theorem le_line {n:Nat} (h:n<=16777216):n<=sizeLine:=by rw[nn63];exact h
theorem lt_line {n:Nat} (h:n<16777216):n<sizeLine:=by rw[nn63];exact h
theorem ltm (l:List Int):(l.map V.int).length=l.length:=List.length_map ..
theorem drawn_snoc {ls rs:List Int} {l r:Int} (h:Drawn' ls rs) (h1:0<=r) (h2:r<l):Drawn' (ls++[l]) (rs++[r]):=Paired.snoc h ⟨h1,h2⟩
theorem take_snoc {α:Type} {l:List α} {i:Nat} {x:α} (h:l[i]?=some x):l.take (i+1)=l.take i++[x]:= by
 rw[List.take_add_one,h];rfl
theorem modB (z:Int) {l:Int} (h:0<l):0<=z % l/\z % l<l:=⟨Int.emod_nonneg _ (Int.ne_of_gt h),Int.emod_lt_of_pos _ h⟩
theorem p0 {n:Nat}:(0:Int)<((n+1:Nat):Int):=Int.natCast_pos.mpr (Nat.succ_pos n)
theorem ite_P {c:Prop} [Decidable c] {ta tb:TE} {σ:St} {H:Hp} {Q:VK} (P:Int->Prop) (h : ∀ r,P r->Q (.int r) H) (ha : ∀ Q':VK,(∀ r,P r->Q' (.int r) H)->ta σ H Q') (hb : ∀ Q':VK,(∀ r,P r->Q' (.int r) H)->tb σ H Q'):if c then ta σ H Q else tb σ H Q:= by
 split
 ·exact ha _ h
 ·exact hb _ h
end L2
namespace L2
open PySem PySem.Spec PyProof.Rows
section
variable {P:Program} {w:World} {K:PySem.W.Frag} {mg:Str->Option Value} {base:Heap}
theorem Fun.cal {x:Str} {qual:Str} {st:Stmt} {f:Addr} {fd:FuncData} {ps:List Str} {k:Nat} {sp:Sp} (F:Fun K x qual st f fd) (G:FnOk P w K mg base CX0 k f fd ps sp) (hm:mg x=some (.ref f))
  (h : ∀ (kV doc pm:Value) (an:Option Addr) (cdv ct:Value) (us:List Value),us.length=ps.length->bindArgs (PySem.W.fnOf x qual (defArgs st) (defBody st) (defScope st) .none kV doc pm an cdv ct) ⟨us,[]⟩=pure (ps.zip us)):Cal P w K mg base k x [] sp:=
 ⟨f,fd,ps,[],G,hm,F.kp,F.binds h,.nil⟩
end
end L2
namespace L2
open PySem
theorem IsMax.uniq {l:List Int} {m n:Int} (h:IsMax l m) (h':IsMax l n):m=n:=Int.le_antisymm (h'.2 m h.1) (h.2 n h'.1)
def maxL:List Int->Int
 | []=>0
 | a::r=>r.foldl max a
theorem foldl_max : ∀ (r:List Int) (a:Int),IsMax (a::r) (r.foldl max a)
 | [],a=>⟨List.mem_cons_self,fun b hb=>by rw[List.mem_singleton.mp hb];exact Int.le_refl _⟩
 | b::r,a=>by
  obtain ⟨h1,h2⟩:=foldl_max r (max a b)
  refine ⟨?_,fun c hc=>?_⟩
  ·show r.foldl max (max a b) ∈ a::b::r
   rcases List.mem_cons.mp h1 with e | e
   ·rw[e]
    by_cases q:a<=b
    ·rw[Int.max_eq_right q];exact List.mem_cons_of_mem _ List.mem_cons_self
    ·rw[Int.max_eq_left (by omega)];exact List.mem_cons_self
   ·exact List.mem_cons_of_mem _ (List.mem_cons_of_mem _ e)
  ·show c<=r.foldl max (max a b)
   have q:=h2 (max a b) List.mem_cons_self
   rcases List.mem_cons.mp hc with e | e
   ·rw[e];have:=Int.le_max_left a b;omega
   ·rcases List.mem_cons.mp e with e | e
    ·rw[e];have:=Int.le_max_right a b;omega
    ·exact h2 c (List.mem_cons_of_mem _ e)
theorem maxL_is {l:List Int} (h:l≠[]):IsMax l (maxL l):= by
 cases l with
 | nil=>exact absurd rfl h
 | cons a r=>exact foldl_max r a
theorem IsMax.eq {l:List Int} {m:Int} (h:IsMax l m):m=maxL l:=h.uniq (maxL_is (by rintro rfl;exact absurd h.1 (by simp)))
def fresh (f:Int) (xs:List Int):Int:=xs.foldl (fun f w=>if w=f then f+1 else f) f
theorem fresh_snoc (f:Int) (xs:List Int) (z:Int):fresh f (xs++[z])=if z=fresh f xs then fresh f xs+1 else fresh f xs:= by
 unfold fresh;rw[List.foldl_append];rfl
theorem wayGo_snoc : ∀ (xs:List Int) (f z:Int),wayGo f (xs++[z])=(wayGo f xs&&(decide (0<=z)&&decide (z<=fresh f xs)))
 | [],f,z=>by
  show (decide (0<=z)&&decide (z<=f)&&true)=(true&&_)
  rw[Bool.and_true,Bool.true_and];rfl
 | w::r,f,z=>by
  show (decide (0<=w)&&decide (w<=f)&&wayGo (if w=f then f+1 else f) (r++[z]))=((decide (0<=w)&&decide (w<=f)&&wayGo (if w=f then f+1 else f) r)&&_)
  rw[wayGo_snoc r,Bool.and_assoc,Bool.and_assoc,Bool.and_assoc];rfl
theorem snoc_ind {α:Type} {P:List α->Prop} (h0:P []) (h1 : ∀ xs z,P xs->P (xs++[z])) (l:List α):P l:= by
 have : ∀ n (l:List α),l.length=n->P l:= by
  intro n
  induction n with
  | zero=>intro l e;rw[List.length_eq_zero_iff.mp e];exact h0
  | succ n ih=>
   intro l e
   have hl:l≠[]:=by rintro rfl;simp at e
   rw[<- List.dropLast_concat_getLast hl]
   exact h1 _ _ (ih _ (by rw[List.length_dropLast,e];rfl))
 exact this _ l rfl
theorem fresh_max (xs:List Int):wayGo 0 xs=true->IsMax (-1::xs) (fresh 0 xs-1):= by
 refine snoc_ind (P:=fun xs=>wayGo 0 xs=true->IsMax (-1::xs) (fresh 0 xs-1)) ?_ ?_ xs
 ·intro _
  exact ⟨by simp [fresh],fun a ha=>by simp at ha;simp [fresh,ha]⟩
 ·intro xs z ih h
  rw[wayGo_snoc,Bool.and_eq_true,Bool.and_eq_true] at h
  obtain ⟨h1,h2,h3⟩:=h
  have h2:=of_decide_eq_true h2
  have h3:=of_decide_eq_true h3
  obtain ⟨i1,i2⟩:=ih h1
  rw[fresh_snoc]
  by_cases e:z=fresh 0 xs
  ·rw[if_pos e]
   refine ⟨by rw[e];simp,fun a ha=>?_⟩
   rcases List.mem_cons.mp ha with q | q
   ·omega
   ·rcases List.mem_append.mp q with q | q
    ·have:=i2 a (List.mem_cons_of_mem _ q);omega
    ·rw[List.mem_singleton.mp q];omega
  ·rw[if_neg e]
   refine ⟨?_,fun a ha=>?_⟩
   ·rcases List.mem_cons.mp i1 with q | q
    ·rw[q];exact List.mem_cons_self
    ·exact List.mem_cons_of_mem _ (List.mem_append_left _ q)
   ·rcases List.mem_cons.mp ha with q | q
    ·rw[q];exact i2 _ List.mem_cons_self
    ·rcases List.mem_append.mp q with q | q
     ·exact i2 a (List.mem_cons_of_mem _ q)
     ·rw[List.mem_singleton.mp q];omega
theorem fresh_pos {xs:List Int} (h:wayGo 0 xs=true) (hne:xs≠[]):1<=fresh 0 xs/\IsMax xs (fresh 0 xs-1):= by
 obtain ⟨i1,i2⟩:=fresh_max xs h
 cases xs with
 | nil=>exact absurd rfl hne
 | cons w r=>
  have hw:0<=w:= by
   have h':(decide (0<=w)&&decide (w<=0)&&wayGo (if w=0 then 0+1 else 0) r)=true:=h
   rw[Bool.and_eq_true,Bool.and_eq_true] at h'
   exact of_decide_eq_true h'.1.1
  have:=i2 w (by simp)
  refine ⟨by omega,?_,fun a ha=>i2 a (List.mem_cons_of_mem _ ha)⟩
  rcases List.mem_cons.mp i1 with q | q
  ·omega
  ·exact q
def rowAll (ns:List Int):Bool:=(List.range (ns.length-1)).all fun i=>decide (0<=ns.getD (i+1) 0)&&decide (ns.getD (i+1) 0<=maxL (ns.take (i+1))+1)
def rowOk (ns:List Int):Bool:=decide (1<=ns.length)&&decide (ns.length<=9)&&decide (ns.getD 0 1=0)&&rowAll ns
theorem rowAll_snoc {xs:List Int} (h:xs≠[]) (z:Int):rowAll (xs++[z])=(rowAll xs&&(decide (0<=z)&&decide (z<=maxL xs+1))):= by
 unfold rowAll
 have hp:0<xs.length:=List.length_pos_iff.mpr h
 have e1:(xs++[z]).length-1=(xs.length-1)+1:=by rw[List.length_append];simp;omega
 rw[e1,List.range_succ,List.all_append]
 congr 1
 ·rw[Bool.eq_iff_iff,List.all_eq_true,List.all_eq_true]
  constructor
  ·intro q i hi
   have q:=q i hi
   have hi:=List.mem_range.mp hi
   rw[List.getD_eq_getElem?_getD,List.getElem?_append_left (by omega),<- List.getD_eq_getElem?_getD,List.take_append_of_le_length (by omega)] at q
   exact q
  ·intro q i hi
   have q:=q i hi
   have hi:=List.mem_range.mp hi
   rw[List.getD_eq_getElem?_getD,List.getElem?_append_left (by omega),<- List.getD_eq_getElem?_getD,List.take_append_of_le_length (by omega)]
   exact q
 ·have e2:xs.length-1+1=xs.length:=by omega
  simp only [List.all_cons,List.all_nil,Bool.and_true]
  rw[e2,List.getD_eq_getElem?_getD,List.getElem?_append_right (Nat.le_refl _),Nat.sub_self,List.take_append_of_le_length (Nat.le_refl _),List.take_length]
  rfl
theorem way_row (xs:List Int):xs≠[]->wayGo 0 xs=(decide (xs.getD 0 1=0)&&rowAll xs):= by
 refine snoc_ind (P:=fun xs=>xs≠[]->wayGo 0 xs=(decide (xs.getD 0 1=0)&&rowAll xs)) (fun h=>absurd rfl h) ?_ xs
 intro xs z ih _
 by_cases hx:xs=[]
 ·subst hx
  show (decide (0<=z)&&decide (z<=0)&&true)=(decide (z=0)&&true)
  rw[Bool.and_true,Bool.and_true,Bool.eq_iff_iff,Bool.and_eq_true,decide_eq_true_iff,decide_eq_true_iff,decide_eq_true_iff]
  omega
 ·have e0:(xs++[z]).getD 0 1=xs.getD 0 1:= by
   rw[List.getD_eq_getElem?_getD,List.getElem?_append_left (List.length_pos_iff.mpr hx),<- List.getD_eq_getElem?_getD]
  rw[wayGo_snoc,rowAll_snoc hx,e0,ih hx,<- Bool.and_assoc (decide (xs.getD 0 1=0))]
  cases e:(decide (xs.getD 0 1=0)&&rowAll xs) with
  | false=>simp
  | true=>
   rw[Bool.true_and,Bool.true_and]
   have q:=(fresh_pos (by rw[ih hx];exact e) hx).2.eq
   rw[show fresh 0 xs=maxL xs+1 by omega]
theorem way_rowOk (ns:List Int):isWay ns=rowOk ns:= by
 unfold isWay rowOk
 by_cases h:ns=[]
 ·subst h;rfl
 ·rw[way_row ns h,<- Bool.and_assoc]
end L2
namespace L2
open PySem
theorem cut_take (xs:List V) (k:Nat):cutV xs none (some (k:Int))=xs.take k:= by
 unfold cutV
 rw[HT.sIx_none,HT.sIx_nat,List.drop_zero,Nat.sub_zero]
 by_cases h:k<=xs.length
 ·rw[Nat.min_eq_left h]
 ·rw[Nat.min_eq_right (by omega),List.take_of_length_le (Nat.le_refl _),List.take_of_length_le (by omega)]
theorem cut_drop (xs:List V) (k:Nat):cutV xs (some (k:Int)) none=xs.drop k:= by
 unfold cutV
 rw[HT.sIx_none,HT.sIx_nat]
 by_cases h:k<=xs.length
 ·rw[Nat.min_eq_left h,List.take_of_length_le (by rw[List.length_drop];exact Nat.le_refl _)]
 ·rw[Nat.min_eq_right (by omega),List.drop_of_length_le (Nat.le_refl _),List.drop_of_length_le (by omega)]
  simp
theorem cut_take_int (ns:List Int) (k:Nat):cutV (ns.map V.int) none (some (k:Int))=(ns.take k).map V.int:=by rw[cut_take,List.map_take]
theorem cut_drop_int (ns:List Int) (k:Nat):cutV (ns.map V.int) (some (k:Int)) none=(ns.drop k).map V.int:=by rw[cut_drop,List.map_drop]
theorem atI_int {ns:List Int} {i:Int} {z:Int} (h0:0<=i) (h:ns[i.toNat]?=some z):atI (ns.map V.int) i=some (V.int z):= by
 have:=atI_nat (xs:=ns.map V.int) (j:=i.toNat) (v:=V.int z) (by rw[List.getElem?_map,h];rfl)
 rw[Int.toNat_of_nonneg h0] at this
 exact this
theorem atI_lt {ns:List Int} {i:Int} (h0:0<=i) (h1:i<ns.length):atI (ns.map V.int) i=some (V.int (ns.getD i.toNat 0)):= by
 refine atI_int h0 ?_
 have:i.toNat<ns.length:=by omega
 rw[List.getElem?_eq_getElem this,List.getD_eq_getElem?_getD,List.getElem?_eq_getElem this];rfl
theorem mapB2 (f:Nat->Bool) (n:Nat):((List.range n).map fun j=>V.bl (f j))=((List.range n).map f).map V.bl:=by rw[List.map_map];rfl
theorem Drawn'.uncons {l:Int} {ls rs:List Int} (h:Drawn' (l::ls) rs) : ∃ r rs',rs=r::rs'/\0<=r/\r<l/\Drawn' ls rs':= by
 cases h with
 | cons h t=>exact ⟨_,_,rfl,h.1,h.2,t⟩
theorem limOk_small {l:Int} (h0:0<l) (h1:l<1000000):LimOk l:= by
 refine ⟨h0,?_⟩
 by_cases h:l.natAbs=0
 ·omega
 ·exact Nat.lt_of_lt_of_le (Nat.log2_lt h |>.mpr (show l.natAbs<2 ^ 20 by omega)) (by decide)
end L2
namespace L2
open PySem PySem.Spec PyProof.Rows
section
variable {X:Cx} {K:PySem.W.Frag}
theorem kix_list (h:X.K=K:=by rfl):IxR X (rIxL K):=by subst h;exact ix_list
theorem kix_tup (h:X.K=K:=by rfl):IxR X (rIxT K):=by subst h;exact ix_tup
theorem ksl_list (h:X.K=K:=by rfl):SlR X (rSlL K):=by subst h;exact sl_list
theorem ksl_tup (h:X.K=K:=by rfl):SlR X (fun x lo hi H Q=>∃ a xs,x = .ref a/\SqT K H a xs /\ ∀ p H',Same H H'->SqT K H' p (cutV xs lo hi)->Q (.ref p) H'):=by subst h;exact sl_tupA
theorem kop_notIn (h:X.K=K:=by rfl):OpR X (compareOp .NotIn) (rIn K true):=by subst h;exact op_notIn_seq
theorem kc_len (h : X.K = K:=by rfl) : CallR X (.builtin "len") (fun xs H Q=>∃ p ys,xs = [.ref p] /\ (SqL K H p ys \/ SqT K H p ys) /\ Q (.int ys.length) H):=by subst h; exact call_len_seq
theorem kc_max (hc : X.calm = true:=by rfl) (h : X.K = K:=by rfl) : CallR X (.builtin "max") (fun xs H Q=>∃ (a : Addr) (ns : List Int),xs = [.ref a] /\ (SqL K H a (ns.map V.int) \/ SqT K H a (ns.map V.int)) /\ ns ≠ [] /\ ∀ m,IsMax ns m -> Q (.int m) H):=by subst h; exact call_maxL hc
theorem kc_sum (hc : X.calm = true:=by rfl) (h : X.K = K:=by rfl) : CallR X (.builtin "sum") (fun xs H Q=>∃ (a : Addr) (ns : List Int),xs = [.ref a] /\ (SqL K H a (ns.map V.int) \/ SqT K H a (ns.map V.int)) /\ Q (.int ns.sum) H):=by subst h; exact call_sumL hc
theorem kc_all (hc : X.calm = true:=by rfl) (h : X.K = K:=by rfl) : CallR X (.builtin "all") (fun xs H Q=>∃ (a : Addr) (bs : List Bool),xs = [.ref a] /\ (SqL K H a (bs.map V.bl) \/ SqT K H a (bs.map V.bl)) /\ Q (.bl (bs.all id)) H):=by subst h; exact call_allL hc
theorem kc_isi (h : X.K = K:=by rfl) : CallR X (.builtin "isinstance") (fun xs H Q=>∃ x n t b,xs = [x,.ty n] /\ TyOf K H x t /\ PySem.W.kitOne K t (.type n) = some b /\ Q (.bl b) H):=by subst h; exact call_isi
theorem kc_tuple (h : X.K = K:=by rfl) : CallR X (.type "tuple") (fun xs H Q=>∃ p ys,xs = [.ref p] /\ ((SqL K H p ys /\ ∀ l,H l = none -> Q (.ref l) (upd H l (.tup ys))) \/ (SqT K H p ys /\ Q (.ref p) H))):=by subst h; exact call_tuple_of
theorem kc_list (h : X.K = K:=by rfl) : CallR X (.type "list") (fun xs H Q=>∃ p ys,xs = [.ref p] /\ (SqL K H p ys \/ SqT K H p ys) /\ ∀ l,H l = none -> Q (.ref l) (upd H l (.lst ys))):=by subst h; exact call_list_of
theorem kc_max2 (hc : X.calm = true:=by rfl) : CallR X (.builtin "max") (fun xs H Q=>∃ i j,xs = [.int i,.int j] /\ Q (.int (if j > i then j else i)) H):=call_max2 hc
theorem kc_min2 (hc : X.calm = true:=by rfl) : CallR X (.builtin "min") (fun xs H Q=>∃ i j,xs = [.int i,.int j] /\ Q (.int (if j < i then j else i)) H):=call_min2 hc
theorem kpi_list {tg l:Expr} {tl:TE} (hl:PE X l tl) (h:X.K=K:=by rfl):PI X tg l (iList K tl):=by subst h;exact pi_list hl
theorem kpi_tup {tg l:Expr} {tl:TE} (hl:PE X l tl) (h:X.K=K:=by rfl):PI X tg l (iTup K tl):=by subst h;exact pi_tup hl
end
theorem lcN {i:Nat} {x:V} {te:TE} {σ:St} {H:Hp} {N:V->Hp->Prop} {N':Hp->Prop} (h:te (σ.set i (some x)) H N):gName i x σ H fun σ2 H2=>tYes σ2 H2 fun b H3=>if b=true then te σ2 H3 N else N' H3:= by
 show if true=true then te (σ.set i (some x)) H N else N' H
 rw[if_pos rfl];exact h
end L2
namespace L2
open PySem PySem.Spec PyProof.Rows
section
variable {X:Cx} {pins:List (Addr × Obj)} {σ:St} {H:Hp} {s:Shared}
end
section
variable {P:Program} {w:World} {K:PySem.W.Frag} {mg:Str->Option Value} {base:Heap}
end
end L2
namespace L2
open PySem PySem.Spec PyProof.Rows
section
variable {κ:Type} [DecidableEq κ]
def valV (kvs:List (κ × V)) (k:κ):Option V:=(kvs.find? fun kv=>decide (kv.1=k)).map (·.2)
def putK (kvs:List (κ × V)) (k:κ) (v:V):List (κ × V):=
 if (kvs.any fun kv=>decide (kv.1=k))=true then kvs.map (fun kv=>if kv.1=k then (kv.1,v) else kv) else kvs++[(k,v)]
theorem valV_nil {k:κ}:valV ([]:List (κ × V)) k=none:=rfl
theorem valV_pos {p:κ × V} {r:List (κ × V)} {k:κ} (e:p.1=k):valV (p::r) k=some p.2:=by simp [valV,List.find?_cons,e]
theorem valV_neg {p:κ × V} {r:List (κ × V)} {k:κ} (e : ¬ p.1=k):valV (p::r) k=valV r k:=by simp [valV,List.find?_cons,e]
theorem valV_any (k:κ) : ∀ kvs:List (κ × V),(kvs.any fun kv=>decide (kv.1=k))=(valV kvs k).isSome
 | []=>rfl
 | p::r=>by
  rw[List.any_cons]
  by_cases e:p.1=k
  ·simp only [valV_pos e,decide_eq_true e,Bool.true_or,Option.isSome_some]
  ·rw[valV_neg e,decide_eq_false e,Bool.false_or];exact valV_any k r
theorem length_putK (kvs:List (κ × V)) (k:κ) (v:V):(putK kvs k v).length<=kvs.length+1:= by
 unfold putK
 split
 ·rw[List.length_map];omega
 ·rw[List.length_append,List.length_cons,List.length_nil];omega
theorem putK_new {kvs:List (κ × V)} {k:κ} (v:V) (h:valV kvs k=none):putK kvs k v=kvs++[(k,v)]:= by
 unfold putK
 rw[valV_any,h]
 exact if_neg (by decide)
theorem RelO.isSome_eq {o:Option V} {u:Option Value} (r:RelO o u):o.isSome=u.isSome:= by
 cases o with
 | none=>cases u with
  | none=>rfl
  | some _=>exact (show False from r).elim
 | some _=>cases u with
  | none=>exact (show False from r).elim
  | some _=>rfl
theorem RelO.getD {o:Option V} {u:Option Value} {d:V} {d':Value} (r:RelO o u) (rd:RelV d d'):RelV (o.getD d) (u.getD d'):= by
 cases o with
 | none=>cases u with
  | none=>exact rd
  | some _=>exact (show False from r).elim
 | some _=>cases u with
  | none=>exact (show False from r).elim
  | some _=>exact r
theorem KV.val {kvs:List (κ × V)} {vs:List (κ × Value)} (r:KV kvs vs) (k:κ):RelO (valV kvs k) (valueAt vs k):= by
 unfold KV at r
 induction r with
 | nil=>exact True.intro
 | @cons p q ps qs h t ih=>
  obtain ⟨h1,h2⟩:=h
  by_cases e:p.1=k
  ·have e':q.1=k:=h1.symm.trans e
   have b:valueAt (q::qs) k=some q.2:=by simp [valueAt,List.find?_cons,e']
   rw[valV_pos e,b];exact h2
  ·have e' : ¬ q.1=k:=fun z=>e (h1.trans z)
   have b:valueAt (q::qs) k=valueAt qs k:=by simp [valueAt,List.find?_cons,e']
   rw[valV_neg e,b];exact ih
theorem KV.any {kvs:List (κ × V)} {vs:List (κ × Value)} (r:KV kvs vs) (k:κ):(kvs.any fun kv=>decide (kv.1=k))=vs.any fun kv=>decide (kv.1=k):= by
 unfold KV at r
 induction r with
 | nil=>rfl
 | cons h t ih=>rw[List.any_cons,List.any_cons,ih,h.1]
theorem KV.repl {kvs:List (κ × V)} {vs:List (κ × Value)} (r:KV kvs vs) (k:κ) {y:V} {u:Value} (ry:RelV y u) :
  KV (kvs.map fun kv=>if kv.1=k then (kv.1,y) else kv) (vs.map fun kv=>if kv.1=k then (kv.1,u) else kv):= by
 unfold KV at r ⊢
 induction r with
 | nil=>exact .nil
 | @cons p q ps qs h t ih=>
  rw[List.map_cons,List.map_cons]
  refine .cons ?_ ih
  obtain ⟨h1,h2⟩:=h
  by_cases e:p.1=k
  ·rw[if_pos e,if_pos (h1.symm.trans e)];exact ⟨h1,ry⟩
  ·rw[if_neg e,if_neg (fun z=>e (h1.trans z))];exact ⟨h1,h2⟩
theorem KV.put {kvs:List (κ × V)} {vs:List (κ × Value)} (r:KV kvs vs) (k:κ) {y:V} {u:Value} (ry:RelV y u):KV (putK kvs k y) (stored vs k u):= by
 unfold putK stored
 rw[r.any k]
 by_cases e:(vs.any fun kv=>decide (kv.1=k))=true
 ·rw[if_pos e,if_pos e];exact r.repl k ry
 ·rw[if_neg e,if_neg e];exact Paired.snoc r ⟨rfl,ry⟩
theorem KV.length {kvs:List (κ × V)} {vs:List (κ × Value)} (r:KV kvs vs):kvs.length=vs.length:=Paired.length r
end
theorem kV_is {P:Program} {w:World} {k:Key} {u:Value} (r:RelV (kV k) u):(mixKind P w).is k u=true:= by
 cases k with
 | inl i=>obtain ⟨t,e⟩:=(show ∃ t,u=Value.int i t from r);subst e;exact mixKind_int P w i t
 | inr x=>obtain ⟨t,e⟩:=(show ∃ t,u=Value.str x t from r);subst e;exact mixKind_str P w x t
theorem items_are {P:Program} {w:World} : ∀ {ks:List Key} {us:List Value},Vals (ks.map kV) us->ItemsAre (mixKind P w) ks us
 | [],_,r=>by rw[List.map_nil] at r;cases r;exact .nil
 | k::ks,_,r=>by
  rw[List.map_cons] at r
  cases r with
  | cons h t=>exact .cons (kV_is h) (items_are t)
abbrev KT (H:Hp):List (List Key × V)->List (List Key × Addr × Value)->Prop:=Paired fun p q=>p.1=q.1/\H q.2.1=some (.tup (p.1.map kV))/\RelV p.2 q.2.2
theorem KT.val {H:Hp} {kvs:List (List Key × V)} {xs:List (List Key × Addr × Value)} (r:KT H kvs xs) (k:List Key):RelO (valV kvs k) ((atKey xs k).map (·.2)):= by
 induction r with
 | nil=>exact True.intro
 | @cons p q ps qs h t ih=>
  obtain ⟨h1,_,h2⟩:=h
  by_cases e:p.1=k
  ·have e':q.1=k:=h1.symm.trans e
   have b:atKey (q::qs) k=some q.2:=by simp [atKey,List.find?_cons,e']
   rw[valV_pos e,b];exact h2
  ·have e' : ¬ q.1=k:=fun z=>e (h1.trans z)
   have b:atKey (q::qs) k=atKey qs k:=by simp [atKey,List.find?_cons,e']
   rw[valV_neg e,b];exact ih
theorem KT.repl {H:Hp} {kvs:List (List Key × V)} {xs:List (List Key × Addr × Value)} (r:KT H kvs xs) (k:List Key) {y:V} {u:Value} (ry:RelV y u) :
  KT H (kvs.map fun kv=>if kv.1=k then (kv.1,y) else kv) (xs.map (putAt k u)):= by
 induction r with
 | nil=>exact .nil
 | @cons p q ps qs h t ih=>
  rw[List.map_cons,List.map_cons]
  refine .cons ?_ ih
  obtain ⟨h1,h2,h3⟩:=h
  unfold putAt
  by_cases e:p.1=k
  ·rw[if_pos e,if_pos (h1.symm.trans e)];exact ⟨h1,h2,ry⟩
  ·rw[if_neg e,if_neg (fun z=>e (h1.trans z))];exact ⟨h1,h2,h3⟩
theorem KT.put {H:Hp} {kvs:List (List Key × V)} {xs:List (List Key × Addr × Value)} (r:KT H kvs xs) (k:List Key) {b:Addr} {y:V} {u:Value} (hb:H b=some (.tup (k.map kV))) (ry:RelV y u) :
  KT H (putK kvs k y) (storedH xs k b u):= by
 have e:(kvs.any fun kv=>decide (kv.1=k))=(atKey xs k).isSome:= by
  rw[valV_any,(r.val k).isSome_eq,Option.isSome_map]
 unfold putK storedH
 rw[e]
 by_cases q:(atKey xs k).isSome=true
 ·rw[if_pos q,if_pos q];exact r.repl k ry
 ·rw[if_neg q,if_neg q];exact Paired.snoc r ⟨rfl,hb,ry⟩
theorem KT.keeps {H H':Hp} {kvs:List (List Key × V)} {xs:List (List Key × Addr × Value)} (r:KT H kvs xs) (ht : ∀ b ys,H b=some (.tup ys)->H' b=some (.tup ys)):KT H' kvs xs:=
 Paired.mapP r fun _ _ z=>⟨z.1,ht _ _ z.2.1,z.2.2⟩
section
variable {P:Program} {w:World} {H:Hp} {h:Heap} {a:Addr}
theorem rd_of {u:HO} (ok:HOk P w H h) (e:Rd H a u):ObjOk P w H h a u:=e.ok ok
theorem dk_rd {kvs:List (Key × V)} (ok:HOk P w H h) (e:Rd H a (.dK kvs)):kvs.length<=sizeLine/\(a==sysModules)=false /\ ∃ vs,KV kvs vs/\h.DictOf (mixKind P w) a vs:=
 show ObjOk P w H h a (.dK kvs) from rd_of ok e
theorem dk_of {kvs:List (Key × V)} (ok:HOk P w H h) (e:H a=some (.dK kvs)):kvs.length<=sizeLine/\(a==sysModules)=false /\ ∃ vs,KV kvs vs/\h.DictOf (mixKind P w) a vs:=dk_rd ok (.inl e)
theorem key_of {ks:List Key} (ok:HOk P w H h) (e:H a=some (.tup (ks.map kV))):(tupleKind (mixKind P w)).is h ks a:= by
 obtain ⟨_,its,r,o,h1,h2,n,h3⟩:=(show ObjOk P w H h a (.tup (ks.map kV)) from ok a _ e)
 exact ⟨o,its.toArray,n,h1,h2,h3,by simpa using items_are r⟩
theorem dt_rd {kvs:List (List Key × V)} (ok:HOk P w H h) (e:Rd H a (.dT kvs)):kvs.length<=sizeLine/\(a==sysModules)=false /\
  ∃ xs,KT H kvs xs/\h.DictOfH (tupleKind (mixKind P w)) a xs:= by
 obtain ⟨z,y,xs,r,o,es,ep,h1,h2,h3,h4,h5⟩:=(show ObjOk P w H h a (.dT kvs) from rd_of ok e)
 refine ⟨z,y,xs,r,o,es,ep,h1,h2,h3,h4,fun x hx=>?_,h5⟩
 have all : ∀ {l:List (List Key × V)} {m:List (List Key × Addr × Value)},KT H l m -> ∀ x ∈ m,(tupleKind (mixKind P w)).is h x.1 x.2.1:= by
  intro l m q
  induction q with
  | nil=>intro x hx;exact nomatch hx
  | @cons p q ps qs hq t ih=>
   intro x hx
   rcases List.mem_cons.mp hx with e | hx
   ·subst e
    exact key_of ok (by rw[<- hq.1];exact hq.2.1)
   ·exact ih x hx
 exact all r x hx
theorem dt_of {kvs:List (List Key × V)} (ok:HOk P w H h) (e:H a=some (.dT kvs)):kvs.length<=sizeLine/\(a==sysModules)=false /\
  ∃ xs,KT H kvs xs/\h.DictOfH (tupleKind (mixKind P w)) a xs:=dt_rd ok (.inl e)
end
def DGet (H:Hp) (a:Addr) (y:V) (r:Option V):Prop:=
 (∃ kvs k,Rd H a (.dK kvs)/\y=kV k/\r=valV kvs k) \/ ∃ kvs k b,Rd H a (.dT kvs)/\y = .ref b/\H b=some (.tup (k.map kV))/\r=valV kvs k
def DPut (H:Hp) (a:Addr) (y v:V) (H':Hp):Prop:=
 (∃ kvs k,H a=some (.dK kvs)/\y=kV k/\kvs.length<sizeLine/\H'=upd H a (.dK (putK kvs k v))) \/
 ∃ kvs k b,H a=some (.dT kvs)/\y = .ref b/\H b=some (.tup (k.map kV))/\kvs.length<sizeLine/\H'=upd H a (.dT (putK kvs k v))
theorem DGet.k {H:Hp} {a:Addr} {kvs:List (Key × V)} {k:Key} (e:H a=some (.dK kvs)):DGet H a (kV k) (valV kvs k):=.inl ⟨kvs,k,.inl e,rfl,rfl⟩
theorem DGet.t {H:Hp} {a b:Addr} {kvs:List (List Key × V)} {k:List Key} (e:H a=some (.dT kvs)) (eb:H b=some (.tup (k.map kV))):DGet H a (.ref b) (valV kvs k):=.inr ⟨kvs,k,b,.inl e,rfl,eb,rfl⟩
theorem DPut.k {H:Hp} {a:Addr} {kvs:List (Key × V)} {k:Key} {v:V} (e:H a=some (.dK kvs)) (hl:kvs.length<sizeLine):DPut H a (kV k) v (upd H a (.dK (putK kvs k v))):=.inl ⟨kvs,k,e,rfl,hl,rfl⟩
theorem DPut.t {H:Hp} {a b:Addr} {kvs:List (List Key × V)} {k:List Key} {v:V} (e:H a=some (.dT kvs)) (eb:H b=some (.tup (k.map kV))) (hl:kvs.length<sizeLine) :
  DPut H a (.ref b) v (upd H a (.dT (putK kvs k v))):=.inr ⟨kvs,k,b,e,rfl,eb,hl,rfl⟩
section
variable {X:Cx} {pins:List (Addr × Obj)} {σ:St} {H:Hp} {s:Shared} {a:Addr} {y v:V} {u r:Value} {o:Option V} {A:Around} {E:Value->Shared->Prop}
theorem Inv.big (I:Inv X pins σ H s):sysModules<s.heap.objs.size:= by
 have h:mainGlobals<s.heap.objs.size:=(I.mod.glob.keeps I.bk).lt
 exact Nat.lt_trans (by decide) h
theorem d_getItem {Q:Value->Shared->Prop} (hu:A.units+1<cLine) (I:Inv X pins σ H s) (g:DGet H a y (some v)) (ry:RelV y u) (h : ∀ w' s',Inv X pins σ H s'->RelV v w'->Q w' s') :
  wpAny (model X.prog X.w) A (getItem (.ref a) u) Q E s:= by
 rcases g with ⟨kvs,k,e,ey,l⟩ | ⟨kvs,k,b,e,ey,eb,l⟩
 ·subst ey
  obtain ⟨z,hd,vs,rel,dd⟩:=dk_rd I.hok e
  obtain ⟨w',hw,rw'⟩:=RelO.some_of (v:=v) (o:=valueAt vs k) (by rw[l];exact rel.val k)
  exact wpAny_getItem_of (kV_is ry) dd.mapOf hw (h w' _ (I.tok _) rw')
 ·subst ey
  cases (show u=Value.ref b from ry)
  obtain ⟨z,hd,xs,rel,dd⟩:=dt_rd I.hok e
  obtain ⟨w',hw,rw'⟩:=RelO.some_of (v:=v) (o:=(atKey xs k).map (·.2)) (by rw[l];exact rel.val k)
  obtain ⟨p,hp,hp2⟩:=Option.map_eq_some_iff.mp hw
  refine wpAny_getItem_heap (tupleKind_room_in1 hu) (key_of I.hok eb) dd hp ?_
  rw[hp2]
  exact h w' _ (I.tok _) rw'
theorem d_in {Q:Value->Shared->Prop} (hu:A.units+1<cLine) (I:Inv X pins σ H s) (g:DGet H a y o) (ry:RelV y u) (h : ∀ s',Inv X pins σ H s'->Q (.bool o.isSome) s') :
  wpAny (model X.prog X.w) A (compareOp .In u (.ref a)) Q E s:= by
 rcases g with ⟨kvs,k,e,ey,l⟩ | ⟨kvs,k,b,e,ey,eb,l⟩
 ·subst ey
  obtain ⟨z,hd,vs,rel,dd⟩:=dk_rd I.hok e
  refine wpAny_in_of (kV_is ry) hd dd.mapOf ?_
  rw[<- (rel.val k).isSome_eq,<- l]
  exact h _ (I.tok _)
 ·subst ey
  cases (show u=Value.ref b from ry)
  obtain ⟨z,hd,xs,rel,dd⟩:=dt_rd I.hok e
  refine wpAny_in_heap (tupleKind_room_in1 hu) (key_of I.hok eb) hd dd ?_
  have q:=(rel.val k).isSome_eq
  rw[Option.isSome_map] at q
  rw[<- q,<- l]
  exact h _ (I.tok _)
theorem d_notIn {Q:Value->Shared->Prop} (hu:A.units+1<cLine) (I:Inv X pins σ H s) (g:DGet H a y o) (ry:RelV y u) (h : ∀ s',Inv X pins σ H s'->Q (.bool (!o.isSome)) s') :
  wpAny (model X.prog X.w) A (compareOp .NotIn u (.ref a)) Q E s:= by
 rcases g with ⟨kvs,k,e,ey,l⟩ | ⟨kvs,k,b,e,ey,eb,l⟩
 ·subst ey
  obtain ⟨z,hd,vs,rel,dd⟩:=dk_rd I.hok e
  refine wpAny_notIn_of (kV_is ry) hd dd.mapOf ?_
  rw[<- (rel.val k).isSome_eq,<- l]
  exact h _ (I.tok _)
 ·subst ey
  cases (show u=Value.ref b from ry)
  obtain ⟨z,hd,xs,rel,dd⟩:=dt_rd I.hok e
  refine wpAny_notIn_heap (tupleKind_room_in1 hu) (key_of I.hok eb) hd dd ?_
  have q:=(rel.val k).isSome_eq
  rw[Option.isSome_map] at q
  rw[<- q,<- l]
  exact h _ (I.tok _)
theorem d_write {h':Heap} {t':Nat} {ob:HO} (I:Inv X pins σ H s) (mu:Mut (H a)) (hs:Heap.SameBut a s.heap h') (he : ∃ q,h'.get? a=some q) (new:ObjOk X.prog X.w (upd H a ob) h' a ob) :
  Inv X pins σ (upd H a ob) { s with heap:=h',toks:=t' }:=
 I.write (x:=a) (e:=a) mu (.inl rfl) (fun b q hb z=>(hs.2 b hb).trans z) he new
theorem dk_new {P:Program} {w:World} {H':Hp} {h':Heap} {kvs:List (Key × V)} {vs:List (Key × Value)} (z:kvs.length<=sizeLine) (hd:(a==sysModules)=false) (rel:KV kvs vs) (dd:h'.DictOf (mixKind P w) a vs) :
  ObjOk P w H' h' a (.dK kvs):=⟨z,hd,vs,rel,dd⟩
theorem d_setItem {H':Hp} {Q:Unit->Shared->Prop} (hu:A.units+1<cLine) (I:Inv X pins σ H s) (g:DPut H a y v H') (ry:RelV y u) (rv:RelV v r) (h : ∀ s',Inv X pins σ H' s'->Q () s') :
  wpAny (model X.prog X.w) A (setItem (.ref a) u r) Q E s:= by
 rcases g with ⟨kvs,k,e,ey,l,eH⟩ | ⟨kvs,k,b,e,ey,eb,l,eH⟩
 ·subst ey eH
  obtain ⟨z,hd,vs,rel,dd⟩:=dk_of I.hok e
  have hz:vs.length<=sizeLine:=by rw[<- rel.length];exact z
  have hl:(putK kvs k v).length<=sizeLine:=by have:=length_putK kvs k v;omega
  refine wpAny_setItem_pairs (hsz:=hz) (kV_is ry) dd fun h' dd' hs=>h _ ?_
  have he : ∃ q,h'.get? a=some q:=let ⟨q,_,_,hq,_⟩:=dd';⟨q,hq⟩
  exact d_write I (by rw[e];exact True.intro) hs he (dk_new hl hd (rel.put k rv) dd')
 ·subst ey eH
  cases (show u=Value.ref b from ry)
  obtain ⟨z,hd,xs,rel,dd⟩:=dt_of I.hok e
  have hz:xs.length<=sizeLine:=by rw[<- Paired.length rel];exact z
  have hl:(putK kvs k v).length<=sizeLine:=by have:=length_putK kvs k v;omega
  refine wpAny_setItem_heap (hsz:=hz) (tupleKind_room_in1 hu) (key_of I.hok eb) dd fun h' dd' hs=>h _ ?_
  obtain ⟨q,es,ep,hq,h2,h3,h4,_,h5⟩:=dd'
  refine d_write I (by rw[e];exact True.intro) hs ⟨q,hq⟩ ⟨hl,hd,_,(rel.put k eb rv).keeps fun c ys ec=>?_,q,es,ep,hq,h2,h3,h4,h5⟩
  rw[upd_ne (ne_of ec e (fun z=>nomatch z))]
  exact ec
end
section
variable {X:Cx} {pins:List (Addr × Obj)} {σ:St} {H:Hp} {s:Shared} {a:Addr} {kvs:List (Key × V)} {k:Key} {u:Value} {A:Around} {E:Value->Shared->Prop}
theorem d_len {Q : Value -> Shared -> Prop} (I : Inv X pins σ H s) (e : Rd H a (.dK kvs)) (h : ∀ t s',Inv X pins σ H s' -> Q (.int kvs.length t) s') : wpAny (model X.prog X.w) A (call (.builtin "len") [.ref a]) Q E s:= by
 obtain ⟨z,hd,vs,rel,dd⟩:=dk_rd I.hok e
 refine call_len_dict hd dd (by rw[<- rel.length];rw[sizeLine_eq] at z;omega) ?_
 rw[<- rel.length]
 exact h _ _ (I.tok _)
end
def NoSl (i:Expr):Prop:=∀ ov iv,subscripted i false ov iv=operate [ov,iv] (getItem ov iv)
theorem subD_of {prog:Program} {w:World} {A:Around} {E:Value->Shared->Prop} {s:Shared} {env:Env} {value slice:Expr} {pos:Pos} {T id:String} {Q:Value->Shared->Prop}
  (hl : typeLookup (.type T) "__getitem__" = pure (some (.builtin id))) (hs : NoSl slice)
  (h:wpAny (model prog w) A (eval value env) (fun o s₁=>wpAny (model prog w) A (eval slice env) (fun i s₂=>s₂.TypeIs o T/\wpAny (model prog w) A (getItem o i) Q E s₂) E s₁) E s) :
  wpAny (model prog w) A (eval (.Subscript value slice pos) env) Q E s:= by
 refine Subscript_ (wpAny_mono h (fun o s₁ h₁=>wpAny_mono h₁ (fun i s₂ h₂=>?_) fun _ _ x=>x) fun _ _ x=>x)
 obtain ⟨hT,h₂⟩:=h₂
 unfold subscriptTail
 refine wpAny_bind ?_
 rw[getitemInPython_of_ne hT.not_modules]
 refine wpAny_bind (wpAny_specialOf hT hl ?_)
 have fin:wpAny (model prog w) A (subscripted slice false o i) (fun r s₃=>wpAny (model prog w) A (letTemporaryGo value o r >>= fun _=>pure r) Q E s₃) E s₂:= by
  rw[hs o i]
  exact wpAny_operating (wpAny_mono h₂ (fun r s₃ h₃=>wpAny_bind (wpAny_letTemporaryGo (wpAny_pure h₃))) fun _ _ x=>x)
 first
  | exact wpAny_pure (wpAny_bind fin)
  | exact wpAny_bind (wpAny_pure (wpAny_bind fin))
  | exact wpAny_bind fin
theorem dict_typeIs {X : Cx} {pins : List (Addr × Obj)} {σ : St} {H : Hp} {s : Shared} {a : Addr} {y : V} {o : Option V} (I : Inv X pins σ H s) (g : DGet H a y o) : s.TypeIs (.ref a) "dict":= by
 rcases g with ⟨kvs,k,e,_,_⟩ | ⟨kvs,k,b,e,_,_,_⟩
 ·obtain ⟨_,_,vs,_,dd⟩:=dk_rd I.hok e
  exact dd.typeIs
 ·obtain ⟨_,_,xs,_,dd⟩:=dt_rd I.hok e
  exact dd.typeIs
def tDGet (td ty:TE):TE:=fun σ H Q=>td σ H fun x H1=>ty σ H1 fun y H2=>∃ a v,x = .ref a/\DGet H2 a y (some v)/\Q v H2
def tDIn (ty td:TE):TE:=fun σ H Q=>ty σ H fun y H1=>td σ H1 fun x H2=>∃ a o,x = .ref a/\DGet H2 a y o/\Q (.bl o.isSome) H2
def tDNotIn (ty td:TE):TE:=fun σ H Q=>ty σ H fun y H1=>td σ H1 fun x H2=>∃ a o,x = .ref a/\DGet H2 a y o/\Q (.bl (!o.isSome)) H2
def sDPut (td ty tv:TE):TS:=fun D σ H=>tv σ H fun v H1=>td σ H1 fun x H2=>ty σ H2 fun y H3=>∃ a H4,x = .ref a/\DPut H3 a y v H4/\D.nx σ H4
section
variable {X:Cx} {o i e value:Expr} {pos pos' tpos:Pos} {td ty tv:TE}
theorem pe_dget (hu:X.A.units+1<cLine) (ho:PE X o td) (hi:PE X i ty) (hs:NoSl i):PE X (.Subscript o i pos) (tDGet td ty):= by
 intro pins s σ H Q I h
 refine subD_of PySem.F.slot_dict_getitem.lookup hs (thn (ho pins s σ H _ I h) fun u s1 ⟨x,H1,I1,rx,q1⟩=>thn (hi pins s1 σ H1 _ I1 q1) fun iv s2 ⟨y,H2,I2,ry,a,v,ex,g,q2⟩=>?_)
 subst ex
 obtain rfl:u=Value.ref a:=rx
 exact ⟨dict_typeIs I2 g,d_getItem hu I2 g ry fun w' s3 I3 rw'=>⟨v,H2,I3,rw',q2⟩⟩
theorem pc_din (hu:X.A.units+1<cLine) (hi:PE X i ty) (ho:PE X o td):PC X .In i o (tDIn ty td):= by
 intro pins s σ H Q I h
 refine thn (hi pins s σ H _ I h) fun iv s1 ⟨y,H1,I1,ry,q1⟩=>thn (ho pins s1 σ H1 _ I1 q1) fun u s2 ⟨x,H2,I2,rx,a,ov,ex,g,q2⟩=>?_
 subst ex
 obtain rfl:u=Value.ref a:=rx
 exact d_in hu I2 g ry fun s3 I3=>⟨.bl ov.isSome,H2,I3,rfl,q2⟩
theorem pc_dnotin (hu:X.A.units+1<cLine) (hi:PE X i ty) (ho:PE X o td):PC X .NotIn i o (tDNotIn ty td):= by
 intro pins s σ H Q I h
 refine thn (hi pins s σ H _ I h) fun iv s1 ⟨y,H1,I1,ry,q1⟩=>thn (ho pins s1 σ H1 _ I1 q1) fun u s2 ⟨x,H2,I2,rx,a,ov,ex,g,q2⟩=>?_
 subst ex
 obtain rfl:u=Value.ref a:=rx
 exact d_notIn hu I2 g ry fun s3 I3=>⟨.bl (!ov.isSome),H2,I3,rfl,q2⟩
theorem ps_dput (hu:X.A.units+1<cLine) (ho:PE X o td) (hi:PE X i ty) (hv:PE X value tv) (hs:swapsWith value (some (.Subscript o i pos')) pos.line X.env=pure false) :
  PS X (.Assign [.Subscript o i pos'] value pos) (sDPut td ty tv):= by
 intro pins s σ H D I h
 refine wpAny_Assign_Subscript (thn (hv pins s σ H _ I h) fun r s1 ⟨v,H1,I1,rv,q1⟩=>thn (ho pins s1 σ H1 _ I1 q1) fun u s2 ⟨x,H2,I2,rx,q2⟩=>thn (hi pins s2 σ H2 _ I2 q2) fun iv s3 ⟨y,H3,I3,ry,a,H4,ex,g,q3⟩=>?_) hs
 subst ex
 obtain rfl:u=Value.ref a:=rx
 exact d_setItem hu I3 g ry rv fun s4 I4=>⟨σ,H4,I4,q3⟩
end
theorem dk_empty {P : Program} {w : World} {H : Hp} (h : Heap) (hb : sysModules < h.objs.size) : ObjOk P w H (h.push { cls:=.type "dict",data:=.dict #[] }) h.objs.size (.dK []):=
 ⟨Nat.zero_le _,beq_eq_false_iff_ne.mpr (Ne.symm (Nat.ne_of_lt hb)),[],.nil,Heap.DictOf.new h⟩
theorem dt_empty {P : Program} {w : World} {H : Hp} (h : Heap) (hb : sysModules < h.objs.size) : ObjOk P w H (h.push { cls:=.type "dict",data:=.dict #[] }) h.objs.size (.dT []):=
 ⟨Nat.zero_le _,beq_eq_false_iff_ne.mpr (Ne.symm (Nat.ne_of_lt hb)),[],.nil,_,#[],0,Heap.get?_push_size _ rfl,⟨rfl,rfl,rfl⟩,rfl,rfl,List.nodup_nil⟩
def tDNewK:TE:=fun _ H Q=>∀ p,H p=none->Q (.ref p) (upd H p (.dK []))
def tDNewT:TE:=fun _ H Q=>∀ p,H p=none->Q (.ref p) (upd H p (.dT []))
section
variable {X:Cx} {pos:Pos}
theorem pe_dnewK:PE X (.Dict [] [] pos) tDNewK:=fun pins s σ H Q I h=>
 wpAny_Dict_empty ⟨.ref s.heap.objs.size,_,I.laid (a:=s.heap.objs.size) (o:=.dK []) (t':=s.toks) (fun _ _ q=>Heap.get?_push_of_some _ q) (Nat.le_refl _) (dk_empty s.heap I.big),rfl,h _ (I.hok.fresh (Nat.le_refl _))⟩
theorem pe_dnewT:PE X (.Dict [] [] pos) tDNewT:=fun pins s σ H Q I h=>
 wpAny_Dict_empty ⟨.ref s.heap.objs.size,_,I.laid (a:=s.heap.objs.size) (o:=.dT []) (t':=s.toks) (fun _ _ q=>Heap.get?_push_of_some _ q) (Nat.le_refl _) (dt_empty s.heap I.big),rfl,h _ (I.hok.fresh (Nat.le_refl _))⟩
end
structure M1 (X:Cx) (o:Expr) (m:Str) (apos:Pos) (e:Expr) (cpos:Pos):Prop where
 base:attributeBase o m X.env (eval o X.env)=eval o X.env
 few:((backTo cpos (starEach [e] X.env)).all (fun x=>!x.1)&&(backToKw cpos (keywordEach [] X.env)).all (fun x=>x.1.isSome)
  && decide (([e]:List Expr).length+([]:List Keyword).length+(if ([]:List Keyword).isEmpty then 0 else 1)<30))=true
 line:(apos.endLine==cpos.line)=true
 trees:backTo cpos (starEach [e] X.env)=[(false,eval e X.env)]
section
variable {X:Cx} {pins:List (Addr × Obj)} {σ:St} {H:Hp} {s:Shared} {a:Addr} {y d:V} {u r:Value} {o:Option V} {A:Around} {E:Value->Shared->Prop}
end
section
variable {X:Cx} {o e f:Expr} {apos cpos:Pos} {td ty tx:TE}
end
section
variable {X:Cx} {pins:List (Addr × Obj)} {σ:St} {H:Hp} {s:Shared} {a:Addr} {kvs:List (Key × V)} {A:Around} {E:Value->Shared->Prop}
end
section
variable {X:Cx} {pins:List (Addr × Obj)} {σ:St} {H:Hp} {s:Shared} {a:Addr} {y:V} {u:Value} {A:Around} {E:Value->Shared->Prop}
end
end L2
namespace L2
open PySem PySem.Spec PyProof.Rows
section
variable {X:Cx}
theorem call_lenD : CallR X (.builtin "len") (fun xs H Q=>∃ a kvs,xs = [V.ref a] /\ H a = some (.dK kvs) /\ Q (.int kvs.length) H):= by
 intro pins s σ H xs us Q I r h
 obtain ⟨a,kvs,rfl,ha,q⟩:=h
 obtain ⟨u,rfl,ru⟩:=vals1 r
 cases ru
 exact d_len I (.inl ha) fun t s' I'=>⟨.int kvs.length,H,I',⟨t,rfl⟩,q⟩
end
section
variable {κ:Type} [DecidableEq κ]
theorem nd_snoc : ∀ {l:List κ} {k:κ},l.Nodup -> ¬ k ∈ l->(l++[k]).Nodup
 | [],k,_,_=>by simp
 | a::r,k,h,hk=>by
  obtain ⟨h1,h2⟩:=List.nodup_cons.mp h
  show (a::(r++[k])).Nodup
  refine List.nodup_cons.mpr ⟨fun m=>?_,nd_snoc h2 fun m=>hk (List.mem_cons.mpr (Or.inr m))⟩
  rcases List.mem_append.mp m with q | q
  ·exact h1 q
  ·exact hk (List.mem_cons.mpr (Or.inl (List.mem_singleton.mp q).symm))
end
end L2
namespace L2
open PySem PySem.Spec PyProof.Rows
section
variable {X:Cx} {K:PySem.W.Frag}
theorem idx_before : ∀ (ns:List Int) (z:Int) (m:Nat),m<ns.idxOf z->ns.getD m 0≠z
 | [],_,_,h=>by simp at h
 | a::r,z,m,h=>by
  rw[List.idxOf_cons] at h
  by_cases e:a=z
  ·subst e;simp at h
  ·have e':(a==z)=false:=beq_eq_false_iff_ne.mpr e
   rw[e'] at h
   cases m with
   | zero=>exact e
   | succ m=>exact idx_before r z m (by simp at h;omega)
def rIndex:V->List V->Hp->VK->Prop:=fun x vs H Q=>∃ (l:Addr) (ns:List Int) (z:Int),x = .ref l/\vs=[.int z]/\H l=some (.lst (ns.map V.int))/\z ∈ ns/\ns.length<=1000/\Q (.int (ns.idxOf z)) H
theorem mt_index : MtR X "list.index" rIndex:= by
 intro pins s σ H x vs v us Q I rx rv h
 obtain ⟨l,ns,z,rfl,rfl,hH,hz,hl,q⟩:=h
 cases rx
 obtain ⟨u,rfl,ru⟩:=rv.one
 obtain ⟨hzz,its,n,r,hlen,e⟩:=I.lstM hH
 have hj:ns.idxOf z<ns.length:=List.idxOf_lt_length_of_mem hz
 have l1:its.toArray.size=ns.length:=by rw[List.size_toArray,<- r.length,ltm]
 have at_ : ∀ m (hm:m<its.toArray.size),∃ t,its.toArray[m] = .int (ns.getD m 0) t:=fun m hm=>(vals_int_at r (i:=m) (v:=its.toArray[m]) (by simp)).imp fun t e=>e.1
 refine call_meets F.slot_list_index ⟨_,e,rfl⟩ F.entry_list_index (F.args_list_index_2 _ _) (SeqAt.list_indexAt l its.toArray n none #[] u (fun y=>match y with | .int i _=>i==z | _=>false) (ns.idxOf z) (by omega) (by omega) ?_ ?_) ⟨e,?_,?_⟩
 ·obtain ⟨t,q1⟩:=at_ (ns.idxOf z) (by omega)
  rw[q1]
  show (ns.getD (ns.idxOf z) 0==z)=true
  rw[List.getD_eq_getElem?_getD,List.getElem?_eq_getElem hj]
  simp
 ·intro m hm hmj
  obtain ⟨t,q1⟩:=at_ m hm
  rw[q1]
  show (ns.getD m 0==z)=false
  exact beq_eq_false_iff_ne.mpr (idx_before ns z m hmj)
 ·intro y hy
  obtain ⟨m,hm,rfl⟩:=Array.mem_iff_getElem.mp hy
  obtain ⟨t,q1⟩:=at_ m hm
  rw[q1]
  obtain ⟨t2,rfl⟩:=ru
  exact eqAt_V (y:=.int _) (x:=.int _) ⟨_,rfl⟩ ⟨_,rfl⟩ rfl rfl
 ·exact ⟨.int _,H,I.tok _,⟨_,rfl⟩,q⟩
end
end L2
namespace L2
open PySem
def seenP (s:List Int) (z:Int):List Int:=if z ∈ s then s else s++[z]
def seen (ns:List Int):List Int:=ns.foldl seenP []
def numRow (ns:List Int):List Int:=ns.map fun z=>((seen ns).idxOf z:Int)
theorem seen_snoc (xs:List Int) (z:Int):seen (xs++[z])=seenP (seen xs) z:=by unfold seen;rw[List.foldl_append];rfl
theorem mem_seenP {s:List Int} {z y:Int}:y ∈ seenP s z ↔ y ∈ s\/y=z:= by
 unfold seenP;split
 ·constructor
  ·exact .inl
  ·rintro (h | rfl)
   ·exact h
   ·assumption
 ·simp
theorem mem_seen (xs:List Int) : ∀ z,z ∈ seen xs ↔ z ∈ xs:= by
 refine snoc_ind (P:=fun xs=>∀ z,z ∈ seen xs ↔ z ∈ xs) (fun z=>by simp [seen]) (fun xs y ih z=>?_) xs
 rw[seen_snoc,mem_seenP,ih z];simp
theorem seenP_idx {s:List Int} {z y:Int} (h:y ∈ s):(seenP s z).idxOf y=s.idxOf y:= by
 unfold seenP;split
 ·rfl
 ·rw[List.idxOf_append,if_pos h]
theorem seenP_new {s:List Int} {z:Int} (h:z ∉ s):(seenP s z).idxOf z=s.length:= by
 unfold seenP;rw[if_neg h,List.idxOf_append,if_neg h];simp
theorem numRow_snoc (xs:List Int) (z:Int):numRow (xs++[z])=numRow xs++[((seenP (seen xs) z).idxOf z:Int)]:= by
 unfold numRow
 rw[seen_snoc,List.map_append]
 congr 1
 refine List.map_congr_left fun y hy=>?_
 rw[seenP_idx ((mem_seen xs y).mpr hy)]
theorem numRow_length (xs:List Int):(numRow xs).length=xs.length:=by unfold numRow;rw[List.length_map]
theorem seen_length (xs:List Int):(seen xs).length<=xs.length:= by
 refine snoc_ind (P:=fun xs=>(seen xs).length<=xs.length) (by simp [seen]) (fun xs z ih=>?_) xs
 rw[seen_snoc];unfold seenP;split
 ·simp;omega
 ·simp;omega
theorem numRow_way (xs:List Int):wayGo 0 (numRow xs)=true/\fresh 0 (numRow xs)=(seen xs).length:= by
 refine snoc_ind (P:=fun xs=>wayGo 0 (numRow xs)=true/\fresh 0 (numRow xs)=(seen xs).length) ⟨rfl,rfl⟩ (fun xs z ih=>?_) xs
 obtain ⟨h1,h2⟩:=ih
 rw[numRow_snoc,wayGo_snoc,fresh_snoc,h1,h2,seen_snoc]
 by_cases h:z ∈ seen xs
 ·have e:(seenP (seen xs) z).idxOf z=(seen xs).idxOf z:=seenP_idx h
  have hl:(seen xs).idxOf z<(seen xs).length:=List.idxOf_lt_length_of_mem h
  rw[e]
  refine ⟨?_,?_⟩
  ·rw[decide_eq_true (by omega),decide_eq_true (by omega)];rfl
  ·rw[if_neg (by omega)];unfold seenP;rw[if_pos h]
 ·rw[seenP_new h]
  refine ⟨?_,?_⟩
  ·rw[decide_eq_true (by omega),decide_eq_true (by omega)];rfl
  ·rw[if_pos rfl];unfold seenP;rw[if_neg h,List.length_append];simp
theorem numRow_isWay {xs:List Int} (h1:1<=xs.length) (h9:xs.length<=9):isWay (numRow xs)=true:= by
 unfold isWay
 rw[numRow_length,(numRow_way xs).1,decide_eq_true h1,decide_eq_true h9];rfl
def kvOf:List Int->Nat->List (Key × V)
 | [],_=>[]
 | z::r,n=>(Sum.inl z,V.int n)::kvOf r (n+1)
theorem kvOf_length : ∀ (s:List Int) (n:Nat),(kvOf s n).length=s.length
 | [],_=>rfl
 | _::r,n=>by show (kvOf r (n+1)).length+1=_;rw[kvOf_length r];rfl
theorem kvOf_snoc : ∀ (s:List Int) (n:Nat) (z:Int),kvOf (s++[z]) n=kvOf s n++[(Sum.inl z,V.int ((n+s.length:Nat):Int))]
 | [],n,z=>by show [(Sum.inl z,V.int n)]=_;simp [kvOf]
 | y::r,n,z=>by
  show (Sum.inl y,V.int n)::kvOf (r++[z]) (n+1)=(Sum.inl y,V.int n)::(kvOf r (n+1)++_)
  rw[kvOf_snoc r,List.length_cons]
  rw[show n+1+r.length=n+(r.length+1) by omega]
theorem valV_kvOf : ∀ (s:List Int) (n:Nat) (z:Int),valV (kvOf s n) (Sum.inl z:Key)=if z ∈ s then some (V.int ((n+s.idxOf z:Nat):Int)) else none
 | [],n,z=>by simp [kvOf,valV_nil]
 | y::r,n,z=>by
  by_cases e:y=z
  ·subst e
   rw[if_pos List.mem_cons_self]
   show valV ((Sum.inl y,V.int n)::kvOf r (n+1)) (Sum.inl y)=_
   rw[valV_pos rfl]
   simp
  ·show valV ((Sum.inl y,V.int n)::kvOf r (n+1)) (Sum.inl z)=_
   rw[valV_neg (fun q=>e (Sum.inl.inj q)),valV_kvOf r]
   have e2:(y::r).idxOf z=r.idxOf z+1:=by rw[List.idxOf_cons,beq_eq_false_iff_ne.mpr e];rfl
   rw[e2]
   by_cases h:z ∈ r
   ·rw[if_pos h,if_pos (List.mem_cons_of_mem _ h),show n+1+r.idxOf z=n+(r.idxOf z+1) by omega]
   ·rw[if_neg h,if_neg (fun q=>(List.mem_cons.mp q).elim (fun w=>e w.symm) h)]
end L2
namespace L2
open PySem
def endStep (u:Int) (cs:List Int):List Int:=(List.range (cs.length-1)).map fun (k:Nat)=>(u+(k:Int))*cs.getD k 0+cs.getD (k+1) 0
def endC (l:Nat) (u:Int):Nat->List Int
 | 0=>List.replicate (l+1) 1
 | n+1=>endStep u (endC l u n)
def endF (l:Nat) (u:Int):Int:=(endC l u l).getD 0 0
def moStep (n:Nat) (cs:List Int):List Int:=0::(List.range n).map fun (j:Nat)=>cs.getD j 0+((j:Int)+1)*cs.getD (j+1) 0
def moC (n:Nat):Nat->List Int
 | 0=>1::List.replicate n 0
 | s+1=>moStep n (moC n s)
def manyOf (n c:Int):Int:=if 1<=c/\c<=n then (moC n.toNat n.toNat).getD c.toNat 0 else 0
def stAt (w:List Int) (k:Nat):Int:=(k:Int)*w.getD k 0+(if k=0 then w.getD (w.length-1) 0 else w.getD (k-1) 0)*(if (1:Int)<(k:Int) then 1 else (k:Int))
def stStep (row:List Int):List Int:=(List.range (row.length+1)).map (stAt (row++[0]))
def stC:Nat->List Int
 | 0=>[1]
 | n+1=>stStep (stC n)
theorem chk9:((List.range 9).all fun m=>decide (endF (m+1) 0=(stC (m+1)).sum)&&((List.range (m+2)).all fun c=>decide (manyOf ((m:Int)+1) (c:Int)=(stC (m+1)).getD c 0)))=true:=by decide +kernel
theorem m9 {n:Int} (h1:1<=n) (h9:n<=9):endF n.toNat 0=(stC n.toNat).sum /\ ∀ c:Int,manyOf n c=if 0<=c/\c<=n then (stC n.toNat).getD c.toNat 0 else 0:= by
 have q:=List.all_eq_true.mp chk9 (n.toNat-1) (List.mem_range.mpr (by omega))
 rw[Bool.and_eq_true,List.all_eq_true] at q
 rw[show n.toNat-1+1=n.toNat by omega] at q
 refine ⟨of_decide_eq_true q.1,fun c=>?_⟩
 by_cases hc:0<=c/\c<=n
 ·rw[if_pos hc]
  have q2:=of_decide_eq_true (q.2 c.toNat (List.mem_range.mpr (by omega)))
  rw[show ((n.toNat-1:Nat):Int)+1=n by omega,Int.toNat_of_nonneg hc.1] at q2
  exact q2
 ·rw[if_neg hc]
  unfold manyOf
  rw[if_neg (fun z=>hc ⟨by omega,z.2⟩)]
theorem SqT.put {K:PySem.W.Frag} {H:Hp} {a l:Addr} {xs ys:List V} {o:HO} (h:SqT K H a xs) (hl:H l=some (.lst ys)):SqT K (upd H l o) a xs:= by
 rcases h with (h | ⟨u,h⟩) | h
 ·exact .inl (.inl (by rw[upd_ne (fun e=>by rw[e,hl] at h;cases h)];exact h))
 ·exact .inl (.inr ⟨u,by rw[upd_ne (fun e=>by rw[e,hl] at h;cases h)];exact h⟩)
 ·exact .inr h
end L2
namespace L2
open PySem PySem.Spec PyProof.Rows
section
variable {X:Cx} {K:PySem.W.Frag}
theorem ints_vals : ∀ {its:List Value} {ns:List Int},Vals (ns.map V.int) its->IntsAre its ns
 | [],[],_=>.nil
 | _,n::ns,.cons ⟨t,e⟩ r=>by subst e;exact .cons n t (ints_vals r)
theorem call_sorted (h : X.K = K:=by rfl) : CallR X (.builtin "sorted") (fun xs H Q=>∃ (p : Addr) (ns : List Int),xs = [.ref p] /\ SqL K H p (ns.map V.int) /\ ns.length < 64 /\ ∀ (l : Addr) (ms : List Int),ms.Perm ns -> ms.Pairwise (· <= ·) -> H l = none -> Q (.ref l) (upd H l (.lst (ms.map V.int)))):= by
 subst h
 intro pins s σ H xs us Q I r h
 obtain ⟨p,ns,rfl,hq,h64,q⟩:=h
 obtain ⟨u,rfl,ru⟩:=vals1 r
 cases ru
 obtain ⟨its,r',pl,hz⟩:=I.list hq
 have hlen:=r'.length
 rw[List.length_map] at hlen
 refine sorted_ints pl.isList (ints_vals r') (by omega) fun out ms a1 a2 a3=>?_
 obtain ⟨e,he⟩:=sortedAll_at s.heap its out
 have hml:=a2.length_eq
 have he' : (sortedAll s.heap its out).get? (s.heap.objs.size + 1) = some { cls:=.type "list",dict:=none,data:=.seq out.toList.toArray e,slots:=#[] }:=by rw[Array.toArray_toList]; exact he
 exact ⟨.ref (s.heap.objs.size+1),_,I.laid (t':=s.toks) (fun _ _=>sortedAll_old) (Nat.le_succ _) (show ObjOk X.prog X.w _ _ _ (.lst (ms.map V.int)) from ⟨le_line (by rw[List.length_map];omega),out.toList,e,vals_ints a1,he'⟩),rfl,q _ ms a2 a3 (I.hok.fresh (Nat.le_succ _))⟩
theorem call_rangeV : CallR X (.type "range") (fun xs H Q=>∃ n : Int,xs = [.int n] /\ ∀ p,H p = none -> Q (.ref p) (upd H p (.rng 0 n))):= by
 intro pins s σ H xs us Q I r h
 obtain ⟨n,rfl,q⟩:=h
 obtain ⟨u,rfl,t,rfl⟩:=vals1 r
 refine call_range_1 ⟨.ref s.heap.objs.size,_,I.laid (t':=s.toks+1+1) (fun b o e=>Heap.get?_push_of_some _ e) (Nat.le_refl _) (show ObjOk X.prog X.w _ _ _ (.rng 0 n) from ⟨_,_,_,Heap.get?_push_size _ rfl⟩),rfl,q _ (I.hok.fresh (Nat.le_refl _))⟩
theorem call_listR (hc : X.calm = true:=by rfl) : CallR X (.type "list") (fun xs H Q=>∃ (p : Addr) (n : Int),xs = [.ref p] /\ H p = some (.rng 0 n) /\ n <= 1000 /\ -1000 <= n /\ ∀ l,H l = none -> Q (.ref l) (upd H l (.lst (((List.range n.toNat).map fun (k : Nat)=>(k : Int)).map V.int)))):= by
 intro pins s σ H xs us Q I r h
 obtain ⟨p,n,rfl,hp,h1,h2,q⟩:=h
 obtain ⟨u,rfl,ru⟩:=vals1 r
 cases ru
 obtain ⟨t,u,v,e⟩ : ∃ t u v,s.heap.get? p = some { cls:=.type "range",data:=.fields #[.int 0 t,.int n u,.int 1 v] }:=I.hok p _ hp
 refine call_list_range (n:=n.toNat) (I.ok.hd hc) e (small_one (by omega) (by omega) (by omega) (by omega)) (by rw[rangeSize_one];split <;> omega) (by omega) fun h' tk acc c' hk hD hI=>?_
 have hI2:=PySem.W.kll_ints acc.toList 0 n.toNat (by rw[Array.length_toList];exact hI.1) fun j v hj=>hI.2 j v (by rw[<- hj,Array.getElem?_toList])
 have e2:PySem.W.rangeKs 0 n.toNat=(List.range n.toNat).map fun (k:Nat)=>(k:Int):= by
  unfold PySem.W.rangeKs
  exact List.map_congr_left fun k _=>by omega
 rw[e2] at hI2
 have hD' : h'.get? s.heap.objs.size = some { cls:=.type "list",dict:=none,data:=.seq acc.toList.toArray c',slots:=#[] }:=by rw[Array.toArray_toList]; exact hD
 exact ⟨.ref s.heap.objs.size,_,I.laid (t':=tk) hk (Nat.le_refl _) (show ObjOk X.prog X.w _ _ _ (.lst _) from ⟨le_line (by simp;omega),acc.toList,c',vals_ints hI2,hD'⟩),rfl,q _ (I.hok.fresh (Nat.le_refl _))⟩
end
end L2
namespace L2
open PySem PySem.Spec PyProof.Rows
def rg (n:Nat):List Int:=(List.range n).map fun (k:Nat)=>(k:Int)
theorem rg_length (n:Nat):(rg n).length=n:=by unfold rg;simp
theorem mem_rg {n:Nat} {z:Int}:z ∈ rg n ↔ 0<=z/\z<n:= by
 unfold rg
 rw[List.mem_map]
 constructor
 ·rintro ⟨k,hk,rfl⟩
  have:=List.mem_range.mp hk
  omega
 ·rintro ⟨h0,h1⟩
  exact ⟨z.toNat,List.mem_range.mpr (by omega),by omega⟩
theorem rg_get {n i:Nat} (h:i<n):(rg n)[i]?=some (i:Int):= by
 unfold rg;rw[List.getElem?_map,List.getElem?_range h];rfl
end L2
namespace PySem
open Sem (wp)
open AutoSeq1 (wpAny_loadPart')
section
variable {prog:Program} {w:World} {A:Around} {E:Value->Shared->Prop} {s:Shared}
theorem wpAny_nextOf_tuple_item {it l:Addr} {i:Nat} {items} {x:Value} {Q:Value->Shared->Prop} (hit:s.heap.IsTupleIter it l i)
  (hl:s.heap.IsTuple l items) (hx:items[i]?=some x)
  (hQ : ∀ h',h'.IsTupleIter it l (i+1)->Heap.SameBut it s.heap h'->Q x { s with heap:=h' }) :
  wpAny (model prog w) A (Builtin.SmallTypes.nextOf (.ref it)) Q E s:= by
 obtain ⟨o,ho,hc,hd⟩:=id hit
 obtain ⟨ol,hol,_,nl,hdl⟩:=hl
 unfold Builtin.SmallTypes.nextOf
 refine wpAny_bind (wpAny_callSpecial?_slot (name:=Str.ofString "__next__") hit.typeIs F.slot_tuple_iterator_next
  (wpAny_call_entry F.slot_tuple_iterator_next hit.typeIs F.entry_tuple_iterator_next ?_ (F.args_tuple_iterator_next_1 _)))
 show wpAny _ _ (field (.ref it) 0 >>= _) _ _ s
 refine wpAny_bind (wpAny_field ho hd (x:=.ref l) rfl ?_)
 show wpAny _ _ (if (Value.ref l==Value.none)=true then _ else _) _ _ s
 rw[if_neg (show ¬ ((Value.ref l==Value.none)=true) from Bool.false_ne_true)]
 show wpAny _ _ (field (.ref it) 1 >>= _) _ _ s
 refine wpAny_bind (wpAny_field ho hd (x:=.int i 0) rfl ?_)
 show wpAny _ _ (seqItems? (.ref l) >>= _) _ _ s
 refine wpAny_bind (wpAny_seqItems hol hdl ?_)
 simp only [Int.toNat_natCast,hx]
 refine wpAny_bind (wpAny_setField ho hd (by simp) (wpAny_pure ⟨x,rfl,wpAny_pure (hQ _ ?_ (Heap.SameBut.update ..))⟩))
 exact ⟨_,Heap.get?_update_self _ ho (Obj.isFreed_of_fields (Obj.data_mapFields hd _)),(Obj.cls_mapFields ..).trans hc,by
  rw[Obj.data_mapFields hd];simp [rawInt]⟩
theorem wpAny_nextOf_tuple_end {it l:Addr} {i:Nat} {items} {Q:Value->Shared->Prop} (hh:A.handled=none)
  (hit:s.heap.IsTupleIter it l i) (hl:s.heap.IsTuple l items) (hx:items[i]?=none)
  (hE : ∀ h' e,Heap.ExtBut it s.heap h' -> (∃ o,h'.get? e = some o /\ o.cls = .type "StopIteration") -> E (.ref e) { s with heap:=h' }) :
  wpAny (model prog w) A (Builtin.SmallTypes.nextOf (.ref it)) Q E s:= by
 obtain ⟨o,ho,hc,hd⟩:=id hit
 obtain ⟨ol,hol,_,nl,hdl⟩:=hl
 unfold Builtin.SmallTypes.nextOf
 refine wpAny_bind (wpAny_callSpecial?_slot (name:=Str.ofString "__next__") hit.typeIs F.slot_tuple_iterator_next
  (wpAny_call_entry F.slot_tuple_iterator_next hit.typeIs F.entry_tuple_iterator_next ?_ (F.args_tuple_iterator_next_1 _)))
 show wpAny _ _ (field (.ref it) 0 >>= _) _ _ s
 refine wpAny_bind (wpAny_field ho hd (x:=.ref l) rfl ?_)
 show wpAny _ _ (if (Value.ref l==Value.none)=true then _ else _) _ _ s
 rw[if_neg (show ¬ ((Value.ref l==Value.none)=true) from Bool.false_ne_true)]
 show wpAny _ _ (field (.ref it) 1 >>= _) _ _ s
 refine wpAny_bind (wpAny_field ho hd (x:=.int i 0) rfl ?_)
 show wpAny _ _ (seqItems? (.ref l) >>= _) _ _ s
 refine wpAny_bind (wpAny_seqItems hol hdl ?_)
 simp only [Int.toNat_natCast,hx]
 refine wpAny_bind (wpAny_rule (wpAny_bind (wpAny_setField ho hd (by simp) ?_)))
 show wpAny _ _ (newExc (.type "StopIteration") [] >>= _) _ _ _
 refine wpAny_bind ?_
 simp only [newExc,newTuple]
 refine wpAny_bind (wpAny_newObj_type ?_ (by size_fits))
 refine wpAny_bind (m:=firstArgMember _ _) (wpAny_of_eq (a:=Value.none) (by first | rfl | (simp only [firstArgMember];rfl)) ?_)
 refine wpAny_newObj_type ?_ (by size_fits)
 simp only [raiseNew]
 refine wpAny_bind (wpAny_handled ?_)
 first | rw[show A.in1.handled=none from hh] | rw[hh]
 refine wpAny_bind (wpAny_pure (wpAny_throw ?_))
 exact hE _ _ (((Heap.SameBut.update ..).extBut.push _).push _) ⟨_,Heap.get?_push_size _ rfl,rfl⟩
end
theorem Draws.tuple {prog:Program} {w:World} {A:Around} (hh:A.handled=none) (it l:Addr) (hne:l≠it) (items:Array Value) :
  Draws prog w A it [it,l] items.size (fun i v=>items[i]?=some v) (fun i h=>h.IsTupleIter it l i/\h.IsTuple l items) where
 live:=fun _ _ st=>let ⟨o,ho,_⟩:=st.1;⟨o,ho⟩
 frame:=fun _ _ _ st hk=>⟨st.1.at fun o e=>hk it (by simp) o e,st.2.at fun o e=>hk l (by simp) o e⟩
 item:=fun i s Q E hi st hQ=>by
  refine wpAny_nextOf_tuple_item st.1 st.2 (x:=items[i]) (by simp [hi]) fun h' hit' hs'=>?_
  exact hQ _ h' s.toks (by simp [hi]) ⟨hit',st.2.extBut hs'.extBut hne⟩ hs'
 done:=fun s Q E st hE=>wpAny_nextOf_tuple_end hh st.1 st.2 (by simp) hE
section
variable {prog:Program} {w:World} {A:Around} {E:Value->Shared->Prop} {s:Shared}
end
end PySem
namespace L2
open PySem PySem.Spec PyProof.Rows
theorem Inv.turnL {X:Cx} {pins:List (Addr × Obj)} {σ:St} {H:Hp} {s:Shared} {h':Heap} {t':Nat} {wr:List Addr} (I:Inv X pins σ H s) (k : ∀ b o,b ∉ wr->s.heap.get? b=some o->h'.get? b=some o) (f : ∀ b ∈ wr,FpOk X pins H b):Inv X pins σ H { s with heap:=h',toks:=t' }:= by
 have nit : ∀ b u,H b=some u->b ∉ wr:=fun b u e z=>by rw[(f b z).1] at e;cases e
 refine I.step (g':=s.gens) (d':=s.drawn) (ch:=wr) (fun b hb=>?_) (fun b o _ _ hc e _=>k b o hc e) (fun b o _ _ hc e _=>⟨o.slots,k b o hc e⟩) (fun _ _ _ _ n=>n)
  (fun b o hc e=>⟨o,k b o hc e⟩) (fun _ _ e=>e) (fun _ _ _ e=>e) (fun b ps e=>⟨#[],by rw[e];simp⟩) (fun m hm=>?_) (fun b u e=>?_) I.bare
 ·obtain ⟨_,a2,_,a4,a5,a6⟩:=f b hb
  exact ⟨a4,a2,a5,a6⟩
 ·obtain ⟨o,es,ep,ho,r⟩:=hm
  exact ⟨o,es,ep,k _ o (fun z=>(f _ z).2.1 rfl) ho,r⟩
 ·refine (I.hok b u e).stay (fun c v hc q=>k c v ?_ q) (fun _ q=>q) fun _ _ q=>q
  rcases hc with z | z
  ·rw[z];exact nit b u e
  ·exact nit c _ z
theorem Inv.turnNew {X:Cx} {pins:List (Addr × Obj)} {σ:St} {H:Hp} {s:Shared} {h':Heap} {t':Nat} {wr:List Addr} {T:Addr} {xs:List V} {its:List Value} (I:Inv X pins σ H s) (k : ∀ b o,b ∉ wr->s.heap.get? b=some o->h'.get? b=some o) (f : ∀ b ∈ wr,FpOk X pins H b)
  (hT:s.heap.objs.size<=T) (hz:xs.length<=sizeLine) (r:Vals xs its) (ht:h'.IsTuple T its.toArray):Inv X pins σ (upd H T (.tup xs)) { s with heap:=h',toks:=t' }:= by
 have hn:H T=none:=I.hok.fresh hT
 have nT : ∀ b o,s.heap.get? b=some o->b≠T:=fun b o e z=>absurd (Heap.lt_size e) (by rw[z];exact Nat.not_lt.mpr hT)
 have nit : ∀ b u,H b=some u->b ∉ wr:=fun b u e z=>by rw[(f b z).1] at e;cases e
 refine I.step (g':=s.gens) (d':=s.drawn) (ch:=wr) (fun b hb=>?_) (fun b o _ _ hc e _=>k b o hc e) (fun b o _ _ hc e _=>⟨o.slots,k b o hc e⟩) (fun b o _ e n=>by rw[upd_ne (nT b o e)];exact n)
  (fun b o hc e=>⟨o,k b o hc e⟩) (fun b xs e=>by rw[upd_ne (ne_of_none e hn)];exact e) (fun b o u e=>by rw[upd_ne (ne_of_none e hn)];exact e) (fun b ps e=>⟨#[],by rw[upd_ne (ne_of_none e hn),e];simp⟩) (fun m hm=>?_) (fun b u e=>?_) I.bare
 ·obtain ⟨_,a2,_,a4,a5,a6⟩:=f b hb
  exact ⟨a4,a2,a5,a6⟩
 ·obtain ⟨o,es,ep,ho,r⟩:=hm
  exact ⟨o,es,ep,k _ o (fun z=>(f _ z).2.1 rfl) ho,r⟩
 ·by_cases hb:b=T
  ·subst hb
   rw[upd_same] at e
   cases e
   exact ⟨hz,its,r,ht⟩
  ·rw[upd_ne hb] at e
   refine (I.hok b u e).stay (fun c v hc q=>k c v ?_ q) (fun c q=>by rw[upd_ne (ne_of_none q hn)];exact q) fun c ys q=>by rw[upd_ne (ne_of_none q hn)];exact q
   rcases hc with z | z
   ·rw[z];exact nit b u e
   ·exact nit c _ z
def IteT (K:PySem.W.Frag) (a:Addr):It:=
 ⟨fun i H=>∃ xs x,SqT K H a xs/\xs[i]?=some x,fun i H x H'=>∃ T y,H T=none/\x = .ref T/\H'=upd H T (.tup [.int (i:Int),y]) /\ ∀ xs,SqT K H a xs->xs[i]?=some y,fun i H=>∃ xs,SqT K H a xs/\xs.length<=i⟩
theorem turn_enumT {P:Program} {w:World} {K:PySem.W.Frag} {elts:List Expr} {kk:Nat} {ps:Pos} (a e it:Addr) (hei:e≠it):Turn P w K (.Tuple elts kk ps) (IteT K a) [e,it] e (fun i h=>(∃ old,IsEnum h e it i old)/\h.IsTupleIter it a i) where
 mem:=by simp
 obj:=fun i h st b hb=>by
  obtain ⟨⟨old,h1⟩,o,e2,c,d⟩:=st
  rcases List.mem_cons.mp hb with rfl | hb
  ·exact ⟨_,h1,fun v z=>by cases z⟩
  ·have:b=it:=by simpa using hb
   subst this
   exact ⟨o,e2,fun v z=>by rw[d] at z;cases z⟩
 keep:=fun i h h' st k=>⟨let ⟨old,h1⟩:=st.1;⟨old,k e (by simp) _ h1⟩,let ⟨o,h1,r⟩:=st.2;⟨o,k it (by simp) _ h1,r⟩⟩
 item:= by
  intro X hP hw hK hc i pins s σ H E I hf st hg
  subst hP hw hK
  obtain ⟨xs,x,hq,hx⟩:=hg
  obtain ⟨its,rv,p,hz⟩:=I.tuple hq
  obtain ⟨u,hu,ru⟩:=rv.get hx
  have hp:s.heap.IsTuple a its.toArray:=show s.heap.IsTuple a its.toArray from p
  have hai:a≠it:=fun z=>by
   obtain ⟨o1,e1,c1,_⟩:=hp
   obtain ⟨o2,e2,c2,_⟩:=st.2
   rw[z,e2] at e1;cases e1;rw[c1] at c2;injection c2 with c3;exact absurd c3 (by decide)
  have hea:e≠a:=fun z=>by
   obtain ⟨o1,e1,c1,_⟩:=hp
   obtain ⟨old,e2⟩:=st.1
   rw[<- z,e2] at e1;cases e1;injection c1 with c3;exact absurd c3 (by decide)
  have hh:X.A.in1.handled=none:=I.ok.hd hc
  have W:=WalksT.enumerateD (Draws.tuple (prog:=X.prog) (w:=X.w) hh it a hai its.toArray) e hei (by simp [hei,hea]) (by simp)
  have il:i<its.toArray.size:= by
   have:=(List.getElem?_eq_some_iff.mp hu).1
   simpa using this
  refine W.item i s _ _ il ⟨st.1,st.2,hp⟩ fun T vals h' tk hP hT ht mid k=>?_
  obtain ⟨t,y,hy,rfl⟩:=hP
  have ey:y=u:= by
   have:its.toArray[i]?=some u:=by simpa using hu
   rw[this] at hy;exact (Option.some.inj hy).symm
  subst ey
  have hf' : ∀ b ∈ [e,it],FpOk X pins H b:=hf
  have I1:Inv X pins σ (upd H T (.tup [.int (i:Int),x])) { s with heap:=h',toks:=tk }:=I.turnNew (its:=[.int i t,y]) k hf' hT (by simp [le_line]) (.cons ⟨t,rfl⟩ (.cons ru .nil)) ht
  have hTn:H T=none:=I.hok.fresh hT
  have hne : ∀ b ∈ [e,it],upd H T (.tup [.int (i:Int),x]) b=none:=fun b hb=>by
   have hbT:b≠T:=fun z=>absurd hb (by rw[z];exact W.apart _ _ _ mid)
   rw[upd_ne hbT];exact (hf b hb).1
  refine ⟨_,rfl,W.go elts kk ps i T { s with heap:=h',toks:=tk } _ E mid fun h'' st2 k2=>?_⟩
  refine ⟨.ref T,upd H T (.tup [.int (i:Int),x]),I1.turnL (t':=tk) (wr:=[e,it]) k2 (fun b hb=>⟨hne b hb,(hf b hb).2⟩),rfl,⟨T,x,hTn,rfl,rfl,fun ys hy=>by rw[I.tuple_inj hy hq];exact hx⟩,⟨st2.1,st2.2.1⟩,hne⟩
 done:= by
  intro X hP hw hK hc i pins s σ H E I hf st hg
  subst hP hw hK
  obtain ⟨xs,hq,hx⟩:=hg
  obtain ⟨its,rv,p,hz⟩:=I.tuple hq
  have hp:s.heap.IsTuple a its.toArray:=show s.heap.IsTuple a its.toArray from p
  have hai:a≠it:=fun z=>by
   obtain ⟨o1,e1,c1,_⟩:=hp
   obtain ⟨o2,e2,c2,_⟩:=st.2
   rw[z,e2] at e1;cases e1;rw[c1] at c2;injection c2 with c3;exact absurd c3 (by decide)
  have hh:X.A.in1.handled=none:=I.ok.hd hc
  have hl:=rv.length
  have st2:=st.2
  obtain ⟨old,st1⟩:=st.1
  unfold pyNext
  have hT : s.TypeIs (.ref e) "enumerate":=⟨_,st1,rfl⟩
  refine wpAny_bind (wpAny_attempt (wpAny_callSpecial?_slot (name:=Str.ofString "__next__") hT F.slot_enumerate_next (wpAny_call_entry F.slot_enumerate_next hT F.entry_enumerate_next ?_ (F.args_enumerate_next_1 _))))
  show wpAny _ _ (field (.ref e) 2 >>= _) _ _ _
  refine wpAny_bind (wpAny_field st1 rfl (x:=.ref it) rfl ?_)
  refine wpAny_bind (wpAny_nextOf_tuple_end hh st2 hp (by simp;omega) fun h' x he' hx'=>?_)
  obtain ⟨o,ho,hc'⟩:=hx'
  refine wpAny_bind (wpAny_isInstance (T:="StopIteration") (b:=true) ⟨o,ho,hc'⟩ isSubtype_stop ?_)
  exact wpAny_pure ⟨rfl,I.turnL (t':=s.toks) (wr:=[it]) (fun b o hb q=>he' b o (by simpa using hb) q) fun b hb=>hf b (List.mem_cons_of_mem _ hb)⟩
 self:=fun _ _ _ _ _ st h=>let ⟨_,h1⟩:=st.1;wpAny_pyIter_enum h1 h
def IteL (K:PySem.W.Frag) (a:Addr):It:=
 ⟨fun i H=>∃ xs x,SqL K H a xs/\xs[i]?=some x,fun i H x H'=>∃ T y,H T=none/\x = .ref T/\H'=upd H T (.tup [.int (i:Int),y]) /\ ∀ xs,SqL K H a xs->xs[i]?=some y,fun i H=>∃ xs,SqL K H a xs/\xs.length<=i⟩
theorem turn_enumL {P:Program} {w:World} {K:PySem.W.Frag} {elts:List Expr} {kk:Nat} {ps:Pos} (a e it:Addr) (hei:e≠it):Turn P w K (.Tuple elts kk ps) (IteL K a) [e,it] e (fun i h=>(∃ old,IsEnum h e it i old)/\h.IsListIter it a i) where
 mem:=by simp
 obj:=fun i h st b hb=>by
  obtain ⟨⟨old,h1⟩,o,e2,c,d⟩:=st
  rcases List.mem_cons.mp hb with rfl | hb
  ·exact ⟨_,h1,fun v z=>by cases z⟩
  ·have:b=it:=by simpa using hb
   subst this
   exact ⟨o,e2,fun v z=>by rw[d] at z;cases z⟩
 keep:=fun i h h' st k=>⟨let ⟨old,h1⟩:=st.1;⟨old,k e (by simp) _ h1⟩,let ⟨o,h1,r⟩:=st.2;⟨o,k it (by simp) _ h1,r⟩⟩
 item:= by
  intro X hP hw hK hc i pins s σ H E I hf st hg
  subst hP hw hK
  obtain ⟨xs,x,hq,hx⟩:=hg
  obtain ⟨its,rv,p,hz⟩:=I.list hq
  obtain ⟨u,hu,ru⟩:=rv.get hx
  have hp:s.heap.IsList a its.toArray:=show s.heap.IsList a its.toArray from p.isList
  have hai:a≠it:=fun z=>by
   obtain ⟨o1,e1,c1,_⟩:=hp
   obtain ⟨o2,e2,c2,_⟩:=st.2
   rw[z,e2] at e1;cases e1;rw[c1] at c2;injection c2 with c3;exact absurd c3 (by decide)
  have hea:e≠a:=fun z=>by
   obtain ⟨o1,e1,c1,_⟩:=hp
   obtain ⟨old,e2⟩:=st.1
   rw[<- z,e2] at e1;cases e1;injection c1 with c3;exact absurd c3 (by decide)
  have hh:X.A.in1.handled=none:=I.ok.hd hc
  have W:=WalksT.enumerateD (Draws.list (prog:=X.prog) (w:=X.w) hh it a hai its.toArray) e hei (by simp [hei,hea]) (by simp)
  have il:i<its.toArray.size:= by
   have:=(List.getElem?_eq_some_iff.mp hu).1
   simpa using this
  refine W.item i s _ _ il ⟨st.1,st.2,hp⟩ fun T vals h' tk hP hT ht mid k=>?_
  obtain ⟨t,y,hy,rfl⟩:=hP
  have ey:y=u:= by
   have:its.toArray[i]?=some u:=by simpa using hu
   rw[this] at hy;exact (Option.some.inj hy).symm
  subst ey
  have hf' : ∀ b ∈ [e,it],FpOk X pins H b:=hf
  have I1:Inv X pins σ (upd H T (.tup [.int (i:Int),x])) { s with heap:=h',toks:=tk }:=I.turnNew (its:=[.int i t,y]) k hf' hT (by simp [le_line]) (.cons ⟨t,rfl⟩ (.cons ru .nil)) ht
  have hTn:H T=none:=I.hok.fresh hT
  have hne : ∀ b ∈ [e,it],upd H T (.tup [.int (i:Int),x]) b=none:=fun b hb=>by
   have hbT:b≠T:=fun z=>absurd hb (by rw[z];exact W.apart _ _ _ mid)
   rw[upd_ne hbT];exact (hf b hb).1
  refine ⟨_,rfl,W.go elts kk ps i T { s with heap:=h',toks:=tk } _ E mid fun h'' st2 k2=>?_⟩
  refine ⟨.ref T,upd H T (.tup [.int (i:Int),x]),I1.turnL (t':=tk) (wr:=[e,it]) k2 (fun b hb=>⟨hne b hb,(hf b hb).2⟩),rfl,⟨T,x,hTn,rfl,rfl,fun ys hy=>by rw[I.list_inj hy hq];exact hx⟩,⟨st2.1,st2.2.1⟩,hne⟩
 done:= by
  intro X hP hw hK hc i pins s σ H E I hf st hg
  subst hP hw hK
  obtain ⟨xs,hq,hx⟩:=hg
  obtain ⟨its,rv,p,hz⟩:=I.list hq
  have hp:s.heap.IsList a its.toArray:=show s.heap.IsList a its.toArray from p.isList
  have hai:a≠it:=fun z=>by
   obtain ⟨o1,e1,c1,_⟩:=hp
   obtain ⟨o2,e2,c2,_⟩:=st.2
   rw[z,e2] at e1;cases e1;rw[c1] at c2;injection c2 with c3;exact absurd c3 (by decide)
  have hh:X.A.in1.handled=none:=I.ok.hd hc
  have hl:=rv.length
  have st2:=st.2
  obtain ⟨old,st1⟩:=st.1
  unfold pyNext
  have hT : s.TypeIs (.ref e) "enumerate":=⟨_,st1,rfl⟩
  refine wpAny_bind (wpAny_attempt (wpAny_callSpecial?_slot (name:=Str.ofString "__next__") hT F.slot_enumerate_next (wpAny_call_entry F.slot_enumerate_next hT F.entry_enumerate_next ?_ (F.args_enumerate_next_1 _))))
  show wpAny _ _ (field (.ref e) 2 >>= _) _ _ _
  refine wpAny_bind (wpAny_field st1 rfl (x:=.ref it) rfl ?_)
  refine wpAny_bind (wpAny_nextOf_list_end hh st2 hp (by simp;omega) fun h' x he' hx'=>?_)
  obtain ⟨o,ho,hc'⟩:=hx'
  refine wpAny_bind (wpAny_isInstance (T:="StopIteration") (b:=true) ⟨o,ho,hc'⟩ isSubtype_stop ?_)
  exact wpAny_pure ⟨rfl,I.turnL (t':=s.toks) (wr:=[it]) (fun b o hb q=>he' b o (by simpa using hb) q) fun b hb=>hf b (List.mem_cons_of_mem _ hb)⟩
 self:=fun _ _ _ _ _ st h=>let ⟨_,h1⟩:=st.1;wpAny_pyIter_enum h1 h
def iEnumL (K:PySem.W.Frag) (ta:TA):TI:=fun σ H R=>ta σ H fun vs H1=>∃ a,vs=[.ref a]/\(∃ xs,SqL K H1 a xs)/\R (IteL K a) H1
theorem pi_enumL {X : Cx} {K : PySem.W.Frag} {elts : List Expr} {kk : Nat} {ps p pos : Pos} {l : Expr} {ta : TA} (hg : Gl X "enumerate") (hm : X.mg "enumerate" = none) (ha : PA X [l] ta) (hs : starEach [l] X.env = [(false,eval l X.env)]:=by rfl) (h : X.K = K:=by rfl) :
  PI X (.Tuple elts kk ps) (.Call (.Name "enumerate" p) [l] [] pos) (iEnumL K ta):= by
 subst h
 intro pins s σ H R I h
 refine Call_ (ld_blt I hg hm (PyProof.Rows.boot_enumerate) (PyProof.Rows.callWith_type1 (thn (ha pos pins s σ H _ I h) fun us s1 ⟨vs,H1,I1,r1,q1⟩=>?_) hs rfl))
 obtain ⟨a,e,⟨xs,hq⟩,q⟩:=q1
 subst e
 obtain ⟨u,rfl,ru⟩:=r1.one
 cases ru
 obtain ⟨its,rv,p,hz⟩:=I1.list hq
 have hp:s1.heap.IsList a its.toArray:=show s1.heap.IsList a its.toArray from p.isList
 refine call_enumerate_list hp fun h' he hit hsz hk=>?_
 have I2:Inv X pins σ H1 { s1 with heap:=h',toks:=s1.toks }:=I1.kept hk
 refine wpAny_pyIter_enum he ⟨_,[s1.heap.objs.size+1,s1.heap.objs.size],_,_,H1,rfl,I2,turn_enumL a (s1.heap.objs.size+1) s1.heap.objs.size (Nat.succ_ne_self _),⟨⟨_,he⟩,hit⟩,fun b hb=>?_,q⟩
 have hge:s1.heap.objs.size<=b:= by
  rcases List.mem_cons.mp hb with rfl | hb
  ·exact Nat.le_succ _
  ·rw[List.mem_singleton.mp hb];exact Nat.le_refl _
 exact I1.fpOk hge (I1.hok.fresh hge)
end L2
namespace PySem
open Sem (wp)
open AutoSeq1 (wpAny_loadPart')
section
variable {prog:Program} {w:World} {A:Around} {E:Value->Shared->Prop} {s:Shared}
end
section
variable {prog:Program} {w:World} {A:Around} {E:Value->Shared->Prop} {s:Shared}
end
end PySem
namespace L2
open PySem PySem.Spec PyProof.Rows
end L2
namespace PySem
open Sem (wp)
open AutoSeq1 (wpAny_loadPart')
namespace RV
theorem sub : isSubtype (.type "reversed") (.type "reversed") = pure true:=by rw[isSubtype_type]; kernel_rfl
end RV
section
variable {prog:Program} {w:World} {A:Around} {E:Value->Shared->Prop} {s:Shared}
end
end PySem
namespace HT
open PySem PySem.Spec PyProof.Rows
section
open PySem.SeqAt
open PySem.AutoSeq1 (wpAny_loadPart')
open PySem.MeetsSeq PySem.MeetsSeq2 PySem.MeetsSeq3
end
section
variable {prog:Program} {w:World} {A:Around} {E:Value->Shared->Prop} {s:Shared}
end
end HT
namespace L2
open PySem PySem.Spec PyProof.Rows
section
variable {X:Cx} {K:PySem.W.Frag}
end
end L2
namespace PySem
open Sem (wp)
open AutoSeq1 (wpAny_loadPart')
section
variable {prog:Program} {w:World} {A:Around} {E:Value->Shared->Prop} {s:Shared}
end
end PySem
namespace L2
open PySem PySem.Spec PyProof.Rows
section
variable {X:Cx} {K:PySem.W.Frag}
end
end L2
namespace L2
open PySem PySem.Spec PyProof.Rows
section
variable {X:Cx} {K:PySem.W.Frag}
end
end L2
namespace L2
open PySem
def En:Nat->Int->Int
 | 0,_=>1
 | n+1,u=>u*En n u+En n (u+1)
def nf (f w:Int):Int:=if w=f then f+1 else f
theorem isWay_iff {ws:List Int}:isWay ws=true ↔ 1<=ws.length/\ws.length<=9/\wayGo 0 ws=true:= by
 unfold isWay
 simp only [Bool.and_eq_true,decide_eq_true_eq]
 exact ⟨fun ⟨⟨a,b⟩,c⟩=>⟨a,b,c⟩,fun ⟨a,b,c⟩=>⟨⟨a,b⟩,c⟩⟩
def pre:Nat->Int->List Int->Int
 | _,_,[]=>0
 | m,f,w::r=>w*En (r.length+m) f+pre m (nf f w) r
end L2
namespace L2
open PySem PySem.Spec PyProof.Rows
section
variable {X:Cx} {K:PySem.W.Frag}
end
end L2
namespace L2
open PySem
end L2
namespace L2
open PySem PySem.Spec PyProof.Rows
end L2
namespace L2
open PySem PySem.Spec PyProof.Rows
section
variable {X:Cx} {N':List Str} {M:List (Option Nat)} {scope:Scope} {tg elt iter:Expr} {ifs:List Expr} {pos:Pos} {g:TG} {tc:TT} {te:TE} {wi:TI}
end
end L2
namespace L2
open PySem
theorem getD_lt {α:Type} {l:List α} {i:Nat} (h:i<l.length) (d:α):l.getD i d=l[i]:=by rw[List.getD_eq_getElem?_getD,List.getElem?_eq_getElem h];rfl
theorem getD_app1 {α:Type} {l m:List α} {i:Nat} (h:i<l.length) (d:α):(l++m).getD i d=l.getD i d:= by
 rw[List.getD_eq_getElem?_getD,List.getElem?_append_left h,List.getD_eq_getElem?_getD]
theorem getD_app2 {α:Type} (l:List α) (x:α) (d:α):(l++[x]).getD l.length d=x:= by
 rw[List.getD_eq_getElem?_getD,List.getElem?_append_right (Nat.le_refl _),Nat.sub_self];rfl
theorem mem_getD {l:List Int} {z:Int}:z ∈ l ↔ ∃ i,i<l.length/\l.getD i 0=z:= by
 constructor
 ·intro h
  obtain ⟨i,hi,e⟩:=List.getElem_of_mem h
  exact ⟨i,hi,by rw[getD_lt hi];exact e⟩
 ·rintro ⟨i,hi,e⟩
  rw[getD_lt hi] at e
  exact e ▸ List.getElem_mem hi
theorem numRow_at {xs:List Int} {i:Nat} (h:i<xs.length):(numRow xs).getD i 0=((seen xs).idxOf (xs.getD i 0):Int):= by
 unfold numRow
 rw[List.getD_eq_getElem?_getD,List.getElem?_map,getD_lt h,List.getElem?_eq_getElem h];rfl
theorem numRow_pat {xs:List Int} {i j:Nat} (hi:i<xs.length) (hj:j<xs.length):(numRow xs).getD i 0=(numRow xs).getD j 0 ↔ xs.getD i 0=xs.getD j 0:= by
 rw[numRow_at hi,numRow_at hj]
 have mi:xs.getD i 0 ∈ seen xs:=(mem_seen xs _).mpr (mem_getD.mpr ⟨i,hi,rfl⟩)
 have mj:xs.getD j 0 ∈ seen xs:=(mem_seen xs _).mpr (mem_getD.mpr ⟨j,hj,rfl⟩)
 refine ⟨fun e=>?_,fun e=>by rw[e]⟩
 have e:(seen xs).idxOf (xs.getD i 0)=(seen xs).idxOf (xs.getD j 0):=Int.ofNat.inj e
 have a:=List.getElem_idxOf (List.idxOf_lt_length_of_mem mi)
 have b:=List.getElem_idxOf (List.idxOf_lt_length_of_mem mj)
 rw[<- a,<- b]
 congr 1
theorem pat_numRow : ∀ (n:Nat) (xs ys:List Int),xs.length=n->ys.length=n->(∀ i j,i<n->j<n->(xs.getD i 0=xs.getD j 0 ↔ ys.getD i 0=ys.getD j 0))->numRow xs=numRow ys
 | 0,xs,ys,hx,hy,_=>by rw[List.length_eq_zero_iff.mp hx,List.length_eq_zero_iff.mp hy]
 | n+1,xs,ys,hx,hy,h=>by
  have nx:xs≠[]:=by intro e;rw[e] at hx;simp at hx
  have ny:ys≠[]:=by intro e;rw[e] at hy;simp at hy
  have ex:=(List.dropLast_concat_getLast nx).symm
  have ey:=(List.dropLast_concat_getLast ny).symm
  generalize xs.dropLast=x' at ex
  generalize ys.dropLast=y' at ey
  generalize xs.getLast nx=x at ex
  generalize ys.getLast ny=y at ey
  subst ex ey
  have lx:x'.length=n:=by simpa using hx
  have ly:y'.length=n:=by simpa using hy
  have ih:=pat_numRow n x' y' lx ly (fun i j hi hj=>by
   have:=h i j (by omega) (by omega)
   rw[getD_app1 (by omega),getD_app1 (by omega),getD_app1 (by omega),getD_app1 (by omega)] at this
   exact this)
  have last : ∀ i,i<n->(x'.getD i 0=x ↔ y'.getD i 0=y):=fun i hi=>by
   have:=h i n (by omega) (by omega)
   rw[getD_app1 (l:=x') (i:=i) (by omega),getD_app1 (l:=y') (i:=i) (by omega)] at this
   have e1:(x'++[x]).getD n 0=x:=by rw[<- lx];exact getD_app2 x' x 0
   have e2:(y'++[y]).getD n 0=y:=by rw[<- ly];exact getD_app2 y' y 0
   rw[e1,e2] at this
   exact this
  rw[numRow_snoc,numRow_snoc,ih]
  congr 3
  by_cases hm:x ∈ x'
  ·obtain ⟨i,hi,e⟩:=mem_getD.mp hm
   have e2:=(last i (by omega)).mp e
   have hm2:y ∈ y':=mem_getD.mpr ⟨i,by omega,e2⟩
   rw[seenP_idx ((mem_seen x' x).mpr hm),seenP_idx ((mem_seen y' y).mpr hm2)]
   have a:=numRow_at (xs:=x') (i:=i) hi
   have b:=numRow_at (xs:=y') (i:=i) (by omega)
   rw[ih,b,e,e2] at a
   exact (Int.ofNat.inj a).symm
  ·have hm2:y ∉ y':=fun z=>by
    obtain ⟨i,hi,e⟩:=mem_getD.mp z
    exact hm (mem_getD.mpr ⟨i,by omega,(last i (by omega)).mpr e⟩)
   rw[seenP_new (fun z=>hm ((mem_seen x' x).mp z)),seenP_new (fun z=>hm2 ((mem_seen y' y).mp z))]
   have a:=(numRow_way x').2
   have b:=(numRow_way y').2
   rw[ih,b] at a
   exact (Int.ofNat.inj a).symm
theorem fresh_le (ws:List Int):fresh 0 ws<=ws.length:= by
 refine snoc_ind (P:=fun ws=>fresh 0 ws<=(ws.length:Int)) (by show (0:Int)<=_;simp) (fun xs z ih=>?_) ws
 rw[fresh_snoc,List.length_append]
 show _<=((xs.length+1:Nat):Int)
 split <;> omega
def relab (L:List Int) (old new:Int):List Int:=L.map fun l=>if l=old then new else l
theorem relab_length (L:List Int) (o n:Int):(relab L o n).length=L.length:=by unfold relab;simp
theorem relab_at {L:List Int} {o n:Int} {i:Nat} (h:i<L.length):(relab L o n).getD i 0=if L.getD i 0=o then n else L.getD i 0:= by
 unfold relab
 rw[List.getD_eq_getElem?_getD,List.getElem?_map,getD_lt h,List.getElem?_eq_getElem h];rfl
def mg (L:List Int) (p:Nat × Nat):List Int:=relab L (L.getD p.2 0) (L.getD p.1 0)
theorem mg_length (L:List Int) (p:Nat × Nat):(mg L p).length=L.length:=relab_length ..
def mgs (L:List Int) (ps:List (Nat × Nat)):List Int:=ps.foldl mg L
theorem mgs_length : ∀ (ps:List (Nat × Nat)) (L:List Int),(mgs L ps).length=L.length
 | [],_=>rfl
 | p::ps,L=>by show (mgs (mg L p) ps).length=_;rw[mgs_length ps,mg_length]
theorem mg_keep {L:List Int} {p:Nat × Nat} {i j:Nat} (hi:i<L.length) (hj:j<L.length) (h:L.getD i 0=L.getD j 0):(mg L p).getD i 0=(mg L p).getD j 0:= by
 unfold mg
 rw[relab_at hi,relab_at hj,h]
theorem mgs_keep : ∀ (ps:List (Nat × Nat)) {L:List Int} {i j:Nat},i<L.length->j<L.length->L.getD i 0=L.getD j 0->(mgs L ps).getD i 0=(mgs L ps).getD j 0
 | [],_,_,_,_,_,h=>h
 | p::ps,L,i,j,hi,hj,h=>mgs_keep ps (L:=mg L p) (by rw[mg_length];exact hi) (by rw[mg_length];exact hj) (mg_keep hi hj h)
theorem mg_pair {L:List Int} {p:Nat × Nat} (h1:p.1<L.length) (h2:p.2<L.length):(mg L p).getD p.1 0=(mg L p).getD p.2 0:= by
 unfold mg
 rw[relab_at h1,relab_at h2,if_pos rfl]
 split <;> rfl
theorem mgs_pairs : ∀ (ps:List (Nat × Nat)) {L:List Int},(∀ p ∈ ps,p.1<L.length/\p.2<L.length) -> ∀ p ∈ ps,(mgs L ps).getD p.1 0=(mgs L ps).getD p.2 0
 | [],_,_,p,hp=>by simp at hp
 | q::ps,L,h,p,hp=>by
  have hq:=h q List.mem_cons_self
  rcases List.mem_cons.mp hp with e | hp
  ·rw[e]
   exact mgs_keep ps (L:=mg L q) (by rw[mg_length];exact hq.1) (by rw[mg_length];exact hq.2) (mg_pair hq.1 hq.2)
  ·exact mgs_pairs ps (L:=mg L q) (fun r hr=>by rw[mg_length];exact h r (List.mem_cons_of_mem _ hr)) p hp
theorem mg_least {L:List Int} {p:Nat × Nat} {g:Nat->Int} (h1:p.1<L.length) (h2:p.2<L.length) (hg : ∀ i j,i<L.length->j<L.length->L.getD i 0=L.getD j 0->g i=g j) (hp:g p.1=g p.2) :
  ∀ i j,i<L.length->j<L.length->(mg L p).getD i 0=(mg L p).getD j 0->g i=g j:=fun i j hi hj h=>by
 unfold mg at h
 rw[relab_at hi,relab_at hj] at h
 by_cases ei:L.getD i 0=L.getD p.2 0
 ·rw[if_pos ei] at h
  have gi:=hg i p.2 hi h2 ei
  by_cases ej:L.getD j 0=L.getD p.2 0
  ·rw[gi,hg j p.2 hj h2 ej]
  ·rw[if_neg ej] at h
   rw[gi,<- hp,hg p.1 j h1 hj h]
 ·rw[if_neg ei] at h
  by_cases ej:L.getD j 0=L.getD p.2 0
  ·rw[if_pos ej] at h
   rw[hg j p.2 hj h2 ej,<- hp,hg i p.1 hi h1 h]
  ·rw[if_neg ej] at h
   exact hg i j hi hj h
theorem mgs_least : ∀ (ps:List (Nat × Nat)) {L:List Int} {g:Nat->Int},(∀ p ∈ ps,p.1<L.length/\p.2<L.length)->(∀ i j,i<L.length->j<L.length->L.getD i 0=L.getD j 0->g i=g j)->(∀ p ∈ ps,g p.1=g p.2) ->
  ∀ i j,i<L.length->j<L.length->(mgs L ps).getD i 0=(mgs L ps).getD j 0->g i=g j
 | [],_,_,_,hg,_=>hg
 | q::ps,L,g,h,hg,hp=>fun i j hi hj e=>by
  have hq:=h q List.mem_cons_self
  exact mgs_least ps (L:=mg L q) (g:=g) (fun r hr=>by rw[mg_length];exact h r (List.mem_cons_of_mem _ hr))
   (fun i j hi hj=>by rw[mg_length] at hi hj;exact mg_least hq.1 hq.2 hg (hp q List.mem_cons_self) i j hi hj)
   (fun r hr=>hp r (List.mem_cons_of_mem _ hr)) i j (by rw[mg_length];exact hi) (by rw[mg_length];exact hj) e
def lotN (ws:List Int) (k:Int) (i:Nat):List Nat:=(List.range i).filter fun j=>decide (ws.getD j 0=k)
def lotL (ws:List Int) (k:Int) (i:Nat):List Int:=(lotN ws k i).map fun (j:Nat)=>(j:Int)
end L2
namespace L2
open PySem
theorem mgs_snoc (L:List Int) (ps:List (Nat × Nat)) (q:Nat × Nat):mgs L (ps++[q])=mg (mgs L ps) q:=by unfold mgs;rw[List.foldl_append];rfl
theorem getRef {qs:List Addr} {j:Nat} {y:V} (h:(qs.map V.ref)[j]?=some y) : ∃ q,y=V.ref q/\qs[j]?=some q/\j<qs.length:= by
 rw[List.getElem?_map] at h
 cases e:qs[j]? with
 | none=>rw[e] at h;cases h
 | some q=>rw[e] at h;exact ⟨q,(Option.some.inj h).symm,rfl,(List.getElem?_eq_some_iff.mp e).1⟩
end L2
namespace L2
open PySem
end L2
namespace L2
open PySem PySem.Spec PyProof.Rows
section
variable {X:Cx} {K:PySem.W.Frag} {pos:Pos}
theorem kpg_tup {es:List Expr} {k:Nat} {t:TGs} {n:Nat} (hc:X.calm=true) (h:PGs X es t)
  (hn:(assignEach es X.env).length=n:=by rfl) (hst:(assignEach es X.env).findIdx? (·.1)=none:=by rfl) (hK:X.K=K:=by rfl):PG X (.Tuple es k pos) (gTup K n t):= by
 subst hK;exact pg_tup hc h hn hst
theorem frm_two {M:List (Option Nat)} {n:Nat} (h0:M[0]?=some none:=by rfl) (h1:M[1]?=some none:=by rfl):Frm M (gTup K n (gCons (gName 0) (gCons (gName 1) gNil))):=fun v σ H Q q=>by
 obtain ⟨a,xs,e,hq,hl,v1,r,e1,v2,r2,e2,e3,q⟩:=q
 refine ⟨a,xs,e,hq,hl,v1,r,e1,v2,r2,e2,e3,q,by rw[List.length_set,List.length_set],fun k j ek=>?_⟩
 have n0:0≠k:=by rintro rfl;rw[h0] at ek;cases ek
 have n1:1≠k:=by rintro rfl;rw[h1] at ek;cases ek
 rw[List.getElem?_set_ne n1,List.getElem?_set_ne n0]
end
end L2
namespace L2
open PySem
end L2
namespace L2
open PySem PySem.Spec PyProof.Rows
def turnG (e:Expr) (dep:Nat) (tg iter:Expr) (ifs:List Expr) (it acc:Value) (env:Env) (EM:Sem Unit):Sem Fin:=do
   standAt iter.pos
   match <- pyNext it with
   | none=>pure (.done .next)
   | some v=>
    letOwnedTupleGo tg it v
    assign tg env v
    let mut ok:=true
    for c in ifs do
     if ok then ok <- isTrue c env (eval c env)
    if ok then EM
    again (.compLoop e dep it acc env)
def emElt (elt : Expr) (acc : Value) (env : Env) : Sem Unit:=(do let _ <- call (.builtin "list.append") [acc,<- eval elt env])
def emIn (e iter2:Expr) (acc:Value) (env:Env):Sem Unit:=(do
    let x <- eval iter2 env
    standAt iter2.pos
    let x <- foldedSetIterable iter2 env x
    let _ <- runOwn (.compStart e 1 (<- holding [x] (pyIter x)) acc env) env)
theorem turn_last (elt:Expr) (g0:Comprehension) (tg iter:Expr) (ifs:List Expr) (scope:Scope) (pos:Pos) (it acc:Value) (env:Env) :
  compTurn (.ListComp elt [g0,⟨tg,iter,ifs,0⟩] scope pos) 1 it acc env=turnG (.ListComp elt [g0,⟨tg,iter,ifs,0⟩] scope pos) 1 tg iter ifs it acc env (emElt elt acc env):=by rfl
def turnF (e:Expr) (tg iter iter2:Expr) (ifs:List Expr) (it acc:Value) (env:Env):Sem Fin:=do
   standAt iter.pos
   match <- pyNext it with
   | none=>pure (.done .next)
   | some v=>
    letOwnedTupleGo tg it v
    assign tg env v
    let mut ok:=true
    for c in ifs do
     if ok then ok <- isTrue c env (eval c env)
    if ok then
     let x <- eval iter2 env
     standAt iter2.pos
     let x <- foldedSetIterable iter2 env x
     let _ <- runOwn (.compStart e 1 (<- holding [x] (pyIter x)) acc env) env
    again (.compLoop e 0 it acc env)
theorem turn_first0 (elt:Expr) (tg iter tg2 iter2:Expr) (ifs ifs2:List Expr) (scope:Scope) (pos:Pos) (it acc:Value) (env:Env) :
  compTurn (.ListComp elt [⟨tg,iter,ifs,0⟩,⟨tg2,iter2,ifs2,0⟩] scope pos) 0 it acc env=turnF (.ListComp elt [⟨tg,iter,ifs,0⟩,⟨tg2,iter2,ifs2,0⟩] scope pos) tg iter iter2 ifs it acc env:=by rfl
theorem turnF_eq (e:Expr) (tg iter iter2:Expr) (ifs:List Expr) (it acc:Value) (env:Env):turnF e tg iter iter2 ifs it acc env=turnG e 0 tg iter ifs it acc env (emIn e iter2 acc env):= by
 unfold turnF turnG emIn
 simp only [bind_assoc,pure_bind]
section
variable {prog:Program} {w:World} {A:Around} {R:Result->Shared->Prop} {s:Shared}
theorem compLoop_em {e tg iter:Expr} {ifs:List Expr} {dep:Nat} {it acc:Value} {env:Env} {EM:Sem Unit} (hq:(Code.compLoop e dep it acc env).quiet=true) (hfr:(Code.compLoop e dep it acc env).isFrame=false)
  (heq:compTurn e dep it acc env=turnG e dep tg iter ifs it acc env EM) (hu:A.under (.compLoop e dep it acc env)=A) (Iv:Nat->Shared->Prop)
  (turn : ∀ n s,Iv n s->wpAny (model prog w) A (pyNext it) (fun r s₁=>match r with
   | none=>R (.ok .next) s₁
   | some v=>wpAny (model prog w) A (letOwnedTupleGo tg it v) (fun _ s₁'=>wpAny (model prog w) A (assign tg env v) (fun _ s₂=>
     wpAny (model prog w) A (forIn ifs true fun c r=>if r=true then do let ok <- isTrue c env (eval c env);pure (ForInStep.yield ok) else pure (ForInStep.yield r)) (fun ok s₃=>
      if ok=true then wpAny (model prog w) A EM (fun _ s₅=>∃ m,m<n/\Iv m s₅) (fun _ _=>False) s₃
      else ∃ m,m<n/\Iv m s₃) (fun _ _=>False) s₂) (fun _ _=>False) s₁') (fun _ _=>False) s₁) (fun _ _=>False) s)
  (n:Nat) (h:Iv n s) :
  codeAny (model prog w) A (.compLoop e dep it acc env) R s:= by
 refine codeAny_loop hq Iv (fun n s hI=>?_) n h
 rw[hu]
 have hden:(model prog w).den (.compLoop e dep it acc env)=(compTurn e dep it acc env).onRaise (fun x=>do noteFrame x env;theTreesLotGoes x):= by
  show (if (Code.compLoop e dep it acc env).isFrame then _ else _)=_
  rw[hfr];rfl
 rw[hden]
 refine wpAny_noted ?_
 rw[heq]
 unfold turnG
 refine wpAny_bind (wpAny_standAt (wpAny_bind (wpAny_mono (turn n s hI) (fun r s₁ h₁=>?_) fun _ _ z=>z.elim)))
 cases r with
 | none=>exact wpAny_pure h₁
 | some v=>
  refine wpAny_bind (wpAny_mono h₁ (fun _ s₁' h₁'=>?_) fun _ _ z=>z.elim)
  refine wpAny_bind (wpAny_mono h₁' (fun _ s₂ h₂=>wpAny_bind (wpAny_mono h₂ (fun ok s₃ h₃=>?_) fun _ _ z=>z.elim)) fun _ _ z=>z.elim)
  cases ok with
  | false=>exact wpAny_pure ⟨rfl,h₃⟩
  | true=>
   exact wpAny_bind (wpAny_mono h₃ (fun _ s₅ h₅=>wpAny_pure ⟨rfl,h₅⟩) fun _ _ z=>z.elim)
theorem codeAny_compStart_two {elt target iter ifs g0 scope pos it acc env}
  (h0:codeAny (model prog w) A (.compLoop (.ListComp elt [g0,⟨target,iter,ifs,0⟩] scope pos) 1 it acc env) R s)
  (h:wpAny (model prog w) A (pyIter it) (fun it' s'=>codeAny (model prog w) A (.compLoop (.ListComp elt [g0,⟨target,iter,ifs,0⟩] scope pos) 1 it' acc env) R s')
   (notedBy (model prog w) A env fun x s'=>R (.error x) s') s) :
  codeAny (model prog w) A (.compStart (.ListComp elt [g0,⟨target,iter,ifs,0⟩] scope pos) 1 it acc env) R s:= by
 refine codeAny_of_tree ?_
 show wpAny _ _ ((compStart (.ListComp elt [g0,⟨target,iter,ifs,0⟩] scope pos) 1 it acc env).onRaise (fun x=>do noteFrame x env;standAt theWindowsPlace)) _ _ s
 refine wpAny_notedAt ?_
 unfold compStart
 show wpAny _ _ (ask >>= _) _ _ s
 refine wpAny_bind (wpAny_askSetting (wpAny_ite ?_))
 split
 ·first
   | exact wpAny_bind (wpAny_pure (wpAny_pure (And.intro rfl h0)))
   | exact wpAny_pure (And.intro rfl h0)
 ·first
   | exact wpAny_bind (wpAny_rule (wpAny_bind (wpAny_standAt (wpAny_bind (wpAny_mono h (fun it' s' h'=>wpAny_pure (And.intro rfl h')) fun _ _ x=>x)))))
   | (refine wpAny_bind (wpAny_rule ?_);show wpAny _ _ (standAt iter.pos >>= _) _ _ s;exact wpAny_bind (wpAny_standAt (wpAny_bind (wpAny_mono h (fun it' s' h'=>wpAny_pure (And.intro rfl h')) fun _ _ x=>x))))
end
def Own (ks:List Nat) (g:TG):Prop:=∀ v σ H Q,g v σ H Q->g v σ H fun σ' H'=>Q σ' H'/\σ'.length=σ.length /\ ∀ i,i ∉ ks->σ'[i]?=σ[i]?
theorem own_name {i:Nat}:Own [i] (gName i):=fun v σ H Q q=>by
 refine ⟨q,List.length_set ..,fun k hk=>?_⟩
 exact List.getElem?_set_ne fun e=>hk (by rw[e];exact List.mem_singleton.mpr rfl)
def Acc (h : Heap) (D : Addr) (ys : List V) : Prop:=∃ (its : List Value) (k : Nat),Vals ys its /\ h.get? D = some { cls:=.type "list",data:=.seq its.toArray k }
abbrev TM:=St->Hp->List V->(List V->Hp->Prop)->Prop
def PEm (X:Cx) (D:Addr) (EM:Sem Unit) (Z:St->Prop) (tm:TM):Prop:=
 ∀ (pins:List (Addr × Obj)) (s:Shared) (σ:St) (H:Hp) (ys:List V) (Q:List V->Hp->Prop),Inv X pins σ H s->FpOk X pins H D->Acc s.heap D ys->ys.length<=sizeLine->Z σ->tm σ H ys Q ->
  wpAny (model X.prog X.w) X.A EM (fun _ s'=>∃ H' ys',Inv X pins σ H' s'/\H' D=none/\Acc s'.heap D ys'/\Q ys' H') X.xe s
def tmElt (te:TE):TM:=fun σ H ys Q=>ys.length<sizeLine/\te σ H fun v H'=>Q (ys++[v]) H'
section
variable {X:Cx}
theorem Acc.pin {pins : List (Addr × Obj)} {σ : St} {H : Hp} {s : Shared} {D : Addr} {its : List Value} {k : Nat} (I : Inv X pins σ H s) (f : FpOk X pins H D) (e : s.heap.get? D = some { cls:=.type "list",data:=.seq its.toArray k }) : Inv X (pins ++ [(D,{ cls:=.type "list",data:=.seq its.toArray k })]) σ H s:=
 I.pins_of fun p hp=>(List.mem_append.mp hp).elim (fun z=>I.pin p (List.mem_append_right _ z)) fun z=>by
  have e' : p = (D,{ cls:=.type "list",data:=.seq its.toArray k }):=by simpa using z
  subst e'
  exact ⟨e,f.1,f.2.1,f.2.2.1,fun v z=>by cases z⟩
theorem pem_elt {D:Addr} {elt:Expr} {te:TE} {Z:St->Prop} (he:PE X elt te):PEm X D (emElt elt (.ref D) X.env) Z (tmElt te):= by
 intro pins s σ H ys Q I f ⟨its,k,rv,hD⟩ hsz _ ⟨hlt,q⟩
 have I':=Acc.pin I f hD
 unfold emElt
 refine wpAny_bind (thn (he _ s σ H _ I' q) fun v8 s8 ⟨y8,H8,J8,r8,n8⟩=>?_)
 obtain ⟨p1,p2,_⟩:=J8.pin _ (List.mem_append_right _ (List.mem_append_right _ (List.mem_singleton.mpr rfl)))
 have J9:Inv X pins σ H8 s8:=J8.unpinned
 refine wpAny_bind (wpAny_list_append_plain (items:=its.toArray) ⟨k,p1⟩ (fun h9 hl9 hs9=>wpAny_pure ?_) (by have:=rv.length;rw[List.size_toArray,<- this];exact hsz))
 have Jt:Inv X pins σ H8 { s8 with heap:=h9 }:=J9.turned (t':=s8.toks) (fun b o hb e=>(hs9.2 b hb).trans e) p2 f.2.1 f.2.2.2.1 f.2.2.2.2.1 f.2.2.2.2.2
 obtain ⟨k9,e9⟩:=hl9
 refine ⟨H8,ys++[y8],Jt,p2,⟨its++[v8],k9,rv.append (.cons r8 .nil),?_⟩,n8⟩
 rw[show (its++[v8]).toArray=its.toArray.push v8 by simp]
 exact e9
def LcW (J:It) (g:TG) (tc:TT) (tm:TM) (σ0:St) (ys0:List V) (H0:Hp) (F:List V->Hp->Prop):Prop:=
 ∃ W:Nat->Nat->List V->Hp->Prop,(∃ m,W 0 m ys0 H0) /\ ∀ i m ys H,W i m ys H->ys.length<=sizeLine /\
  ((J.stop i H/\F ys H)\/(J.go i H /\ ∃ N:List V->Hp->Prop,(∀ ys' H',N ys' H' -> ∃ m',m'<m/\W (i+1) m' ys' H') /\ ∀ x H',J.yld i H x H'->g x σ0 H' fun σ2 H2=>tc σ2 H2 fun b H3=>
   if b=true then tm σ2 H3 ys N else N ys H3))
theorem lc_loop {e tg iter:Expr} {ifs:List Expr} {dep:Nat} {EM:Sem Unit} {ks:List Nat} {Z:St->Prop} {g:TG} {tc:TT} {tm:TM} {pins:List (Addr × Obj)} {σ0:St} {H2:Hp} {s2:Shared} {it D:Addr} {fp:List Addr} {tn:Nat->Heap->Prop} {J:It} {F:List V->Hp->Prop} {R:Result->Shared->Prop} {ys0:List V}
  (hq:(Code.compLoop e dep (.ref it) (.ref D) X.env).quiet=true) (hfr:(Code.compLoop e dep (.ref it) (.ref D) X.env).isFrame=false) (heq:compTurn e dep (.ref it) (.ref D) X.env=turnG e dep tg iter ifs (.ref it) (.ref D) X.env EM) (hu:X.A.under (.compLoop e dep (.ref it) (.ref D) X.env)=X.A)
  (hc:X.calm=true) (xE : ∀ v s',¬ X.xe v s') (hg:PG X tg g) (ho:Own ks g) (hks : ∀ i v,σ0[i]?=some (some v)->i ∉ ks) (hZ : ∀ σ':St,(∀ i,i ∉ ks->σ'[i]?=σ0[i]?)->Z σ') (ht:PTs X ifs tc) (hem:PEm X D EM Z tm)
  (I2:Inv X pins σ0 H2 s2) (T:Turn X.prog X.w X.K tg J fp it tn) (st2:tn 0 s2.heap) (f2 : ∀ b ∈ fp,FpOk X pins H2 b) (fD:FpOk X pins H2 D) (aD:Acc s2.heap D ys0) (Dfp:D ∉ fp)
  (hw:LcW J g tc tm σ0 ys0 H2 F) (hend : ∀ (s':Shared) (H':Hp) (ys:List V),Inv X pins σ0 H' s'->H' D=none->Acc s'.heap D ys->ys.length<=sizeLine->(∀ b ∈ fp,H' b=none)->F ys H'->R (.ok .next) s') :
  codeAny (model X.prog X.w) X.A (.compLoop e dep (.ref it) (.ref D) X.env) R s2:= by
 obtain ⟨W,⟨m0,w0⟩,turn⟩:=hw
 have stat : ∀ {pl:List (Addr × Obj)} {H':Hp},(∀ p ∈ pl,p.1=D)->(∀ b ∈ fp,H' b=none) -> ∀ b ∈ fp,FpOk X (pins++pl) H' b:=fun {pl H'} hpl hn b hb=>by
  obtain ⟨_,a1,a2,a3,a4,a5⟩:=f2 b hb
  refine ⟨hn b hb,a1,a2,a3,a4,fun p hp=>?_⟩
  rw[<- List.append_assoc] at hp
  rcases List.mem_append.mp hp with z | z
  ·exact a5 p z
  ·rw[hpl p z];exact fun z=>Dfp (z ▸ hb)
 refine compLoop_em hq hfr heq hu (fun n s'=>∃ i ys H',Inv X pins σ0 H' s'/\tn i s'.heap/\(∀ b ∈ fp,H' b=none)/\Acc s'.heap D ys/\H' D=none/\W i n ys H') ?_ m0
  ⟨0,ys0,H2,I2,st2,fun b hb=>(f2 b hb).1,aD,fD.1,w0⟩
 rintro n s3 ⟨i,ys,H3,J3,st3,fr3,⟨its,k,rv,hDs⟩,dn,w3⟩
 obtain ⟨hsz,hcase⟩:=turn i n ys H3 w3
 have fD3:FpOk X pins H3 D:=⟨dn,fD.2⟩
 have J3':=Acc.pin J3 fD3 hDs
 have hpl : ∀ p ∈ [((D,{ cls:=.type "list",data:=.seq its.toArray k }) : Addr × Obj)],p.1 = D:=fun p hp=>by
  have e : p = (D,{ cls:=.type "list",data:=.seq its.toArray k }):=by simpa using hp
  rw[e]
 rcases hcase with ⟨stop,qF⟩ | ⟨go,N,hN,step⟩
 ·have q:=T.done X rfl rfl rfl hc i _ s3 _ H3 (fun _ _=>False) J3' (stat hpl fr3) st3 stop
  refine thn q fun r s4 ⟨hr,J4⟩=>?_
  subst hr
  have hD4 : s4.heap.get? D = some { cls:=.type "list",data:=.seq its.toArray k }:=(J4.pin _ (List.mem_append_right _ (List.mem_append_right _ (List.mem_singleton.mpr rfl)))).1
  exact hend s4 H3 ys J4.unpinned dn ⟨its,k,rv,hD4⟩ hsz fr3 qF
 ·have q:=T.item X rfl rfl rfl hc i _ s3 _ H3 (fun _ _=>False) J3' (stat hpl fr3) st3 go
  refine thn q fun r s4 ⟨u,hr,h4⟩=>?_
  subst hr
  dsimp only
  refine thn h4 fun _ s5 ⟨x,H5,J5,r5,y5,st5,fr5⟩=>?_
  have J5':=J5.pinned (stat hpl fr5) (T.obj _ _ st5)
  refine wpAny_mono (hg _ s5 σ0 H5 x u _ J5' r5 (ho _ _ _ _ (step x H5 y5))) (fun _ s6 h6=>?_) fun e s' z=>xE e s' z
  obtain ⟨σ6,H6,J6,q6,l6,k6⟩:=h6
  refine wpAny_mono (ht _ s6 σ6 H6 _ J6 q6) (fun b s7 h7=>?_) fun e s' z=>xE e s' z
  obtain ⟨H7,J7,q7⟩:=h7
  have fin : ∀ {pl:List (Addr × Obj)} {H8:Hp} {s8:Shared},Inv X (pl++pinsAt fp s5.heap) σ6 H8 s8->(∀ p ∈ pins,p ∈ pl)->tn (i+1) s8.heap/\(∀ b ∈ fp,H8 b=none)/\Inv X pins σ0 H8 s8:=fun {pl H8 s8} J8 hp=>by
   refine ⟨T.keep _ _ _ st5 fun b hb o e=>(J8.pin (b,o) (List.mem_append_right _ (List.mem_append_right _ (mem_pinsAt hb e)))).1,fun b hb=>?_,?_⟩
   ·obtain ⟨o,e,d⟩:=T.obj _ _ st5 b hb
    exact (J8.pin (b,o) (List.mem_append_right _ (List.mem_append_right _ (mem_pinsAt hb e)))).2.1
   ·have J9:Inv X pins σ6 H8 s8:=J8.pins_of fun p hp'=>J8.pin p (List.mem_append_right _ (List.mem_append_left _ (hp p hp')))
    refine J9.weak (l6.symm) fun a v e=>?_
    rw[k6 a (hks a v e)];exact e
  obtain ⟨p1,p2,_⟩:=J7.pin _ (List.mem_append_right _ (List.mem_append_left _ (List.mem_append_right _ (List.mem_singleton.mpr rfl))))
  cases b with
  | false=>
   rw[if_neg (by decide)] at q7
   rw[if_neg (by decide)]
   obtain ⟨m',hm,w7⟩:=hN _ _ q7
   obtain ⟨a3,a4,a5⟩:=fin J7 (fun p hp=>List.mem_append_left _ hp)
   exact ⟨m',hm,i+1,ys,H7,a5,a3,a4,⟨its,k,rv,p1⟩,p2,w7⟩
  | true=>
   rw[if_pos rfl] at q7
   rw[if_pos rfl]
   have J7':Inv X (pins++pinsAt fp s5.heap) σ6 H7 s7:=J7.pins_of fun p hp=>by
    refine J7.pin p (List.mem_append_right _ ?_)
    rcases List.mem_append.mp hp with z | z
    ·exact List.mem_append_left _ (List.mem_append_left _ z)
    ·exact List.mem_append_right _ z
   have fD7:FpOk X (pins++pinsAt fp s5.heap) H7 D:= by
    obtain ⟨_,a1,a2,a3,a4,a5⟩:=fD
    refine ⟨p2,a1,a2,a3,a4,fun p hp=>?_⟩
    rw[<- List.append_assoc] at hp
    rcases List.mem_append.mp hp with z | z
    ·exact a5 p z
    ·exact fun e=>Dfp (e ▸ (of_pinsAt z).1)
   refine wpAny_mono (hem _ s7 σ6 H7 ys _ J7' fD7 ⟨its,k,rv,p1⟩ hsz (hZ σ6 k6) q7) (fun _ s8 h8=>?_) fun e s' z=>xE e s' z
   obtain ⟨H8,ys',J8,d8,a8,n8⟩:=h8
   obtain ⟨m',hm,w8⟩:=hN _ _ n8
   obtain ⟨a3,a4,a5⟩:=fin J8 (fun p hp=>hp)
   exact ⟨m',hm,i+1,ys',H8,a5,a3,a4,a8,d8,w8⟩
def tmIn (wi:TI) (g:TG) (tc:TT) (te:TE):TM:=fun σ H ys Q=>wi σ H fun J H1=>LcW J g tc (tmElt te) σ ys H1 Q
theorem pem_in {D:Addr} {elt tg iter:Expr} {g0:Comprehension} {ifs:List Expr} {scope:Scope} {pos:Pos} {ks:List Nat} {wi:TI} {g:TG} {tc:TT} {te:TE} (hc:X.calm=true) (xE : ∀ v s',¬ X.xe v s') (hi:PI X tg iter wi) (hg:PG X tg g) (ho:Own ks g) (ht:PTs X ifs tc) (he:PE X elt te)
  (hu : ∀ (it:Value),X.A.under (.compLoop (.ListComp elt [g0,⟨tg,iter,ifs,0⟩] scope pos) 1 it (.ref D) X.env)=X.A) (hs : ∀ x,foldedSetIterable iter X.env x=pure x:=by intro _;rfl) :
  PEm X D (emIn (.ListComp elt [g0,⟨tg,iter,ifs,0⟩] scope pos) iter (.ref D) X.env) (fun σ=>∀ i v,σ[i]?=some (some v)->i ∉ ks) (tmIn wi g tc te):= by
 intro pins s σ H ys Q I f ⟨its,k,rv,hD⟩ hsz hz q
 have I':=Acc.pin I f hD
 unfold emIn
 refine wpAny_bind (thn (hi _ s σ H _ I' q) fun v s1 h1=>wpAny_bind (wpAny_standAt (wpAny_bind (wpAny_of_eq (hs v) (wpAny_bind (wpAny_holding (thn h1 fun itv s2 h2=>wpAny_bind (wpAny_runOwn ?_))))))))
 obtain ⟨it,fp,tn,J,H2,e,I2,T,st2,f2,hw⟩:=h2
 subst e
 obtain ⟨p1,p2,_⟩:=I2.pin _ (List.mem_append_right _ (List.mem_append_right _ (List.mem_singleton.mpr rfl)))
 have fD:FpOk X pins H2 D:=⟨p2,f.2⟩
 have f2' : ∀ b ∈ fp,FpOk X pins H2 b:=fun b hb=>by
  obtain ⟨a0,a1,a2,a3,a4,a5⟩:=f2 b hb
  exact ⟨a0,a1,a2,a3,a4,fun p hp=>a5 p (by rw[<- List.append_assoc];exact List.mem_append_left _ hp)⟩
 have Dfp : D ∉ fp:=fun z=>(f2 D z).2.2.2.2.2 (D,{ cls:=.type "list",data:=.seq its.toArray k }) (List.mem_append_right _ (List.mem_append_right _ (List.mem_singleton.mpr rfl))) rfl
 have loop:codeAny (model X.prog X.w) X.A (.compLoop (.ListComp elt [g0,⟨tg,iter,ifs,0⟩] scope pos) 1 (.ref it) (.ref D) X.env) (fun r s'=>match r with | .ok f=>wpAny (model X.prog X.w) X.A (pure PUnit.unit:Sem PUnit) (fun _ s'=>∃ H' ys',Inv X pins σ H' s'/\H' D=none/\Acc s'.heap D ys'/\Q ys' H') X.xe s' | .error e=>cameBackBy (model X.prog X.w) X.A X.env X.xe e s') s2:=
  lc_loop (F:=Q) (ks:=ks) (Z:=fun _=>True) rfl rfl (turn_last ..) (hu _) hc xE hg ho hz (fun _ _=>trivial) ht (pem_elt he) I2.unpinned T st2 f2' fD ⟨its,k,rv,p1⟩ Dfp hw fun s' H' ys' J' d' a' _ _ q'=>wpAny_pure ⟨H',ys',J',d',a',q'⟩
 exact codeAny_compStart_two loop (T.self _ 0 _ _ _ st2 loop)
end
end L2
namespace L2
open PySem PySem.Spec PyProof.Rows
theorem lc_block2 {X:Cx} {N':List Str} {M:List (Option Nat)} {scope:Scope} {cl:List (Str × Addr)} {tg elt iter tg2 iter2:Expr} {ifs ifs2:List Expr} {ks ks2:List Nat} {wi2:TI} {g2:TG} {tc2:TT} {pos:Pos} {g:TG} {tc:TT} {te:TE} {pins:List (Addr × Obj)} {σ:St} {H2:Hp} {s2:Shared}
  {it:Addr} {fp:List Addr} {tn:Nat->Heap->Prop} {J:It} {F:List V->Hp->Prop} {RR:Value->Addr->Result->Shared->Prop} {E:Value->Shared->Prop}
  (S:LcSc X.N N' M scope X.env.scope) (hc:X.calm=true) (q1 : ∀ y c,cl.lookup y=some c->X.env.cells.lookup y=some c) (q2 : ∀ y,(y,NameKind.free) ∈ scope.names -> ∃ c,cl.lookup y=some c)
  (hg : ∀ C s H fp,PG (cxLc X N' scope cl C s H fp) tg g) (ho:Own ks g) (ht : ∀ C s H fp,PTs (cxLc X N' scope cl C s H fp) ifs tc) (hks : ∀ i ∈ ks,M[i]?=some none) (hks2 : ∀ i ∈ ks2,M[i]?=some none/\i ∉ ks)
  (hi2 : ∀ C s H fp,PI (cxLc X N' scope cl C s H fp) tg2 iter2 wi2) (hg2 : ∀ C s H fp,PG (cxLc X N' scope cl C s H fp) tg2 g2) (ho2:Own ks2 g2) (ht2 : ∀ C s H fp,PTs (cxLc X N' scope cl C s H fp) ifs2 tc2) (he : ∀ C s H fp,PE (cxLc X N' scope cl C s H fp) elt te) (hs2 : ∀ env x,foldedSetIterable iter2 env x=pure x)
  (I2:Inv X pins σ H2 s2) (T:Turn X.prog X.w X.K tg J fp it tn) (st2:tn 0 s2.heap) (f2 : ∀ b ∈ fp,FpOk X pins H2 b)
  (hw:LcW J g tc (tmIn wi2 g2 tc2 te) (inSt M σ) [] H2 F)
  (hend : ∀ (D C:Addr) (s':Shared) (H':Hp) (ys:List V),Inv X pins σ (upd H' D (.lst ys)) s'->H' D=none->s2.heap.objs.size<=D->s2.heap.objs.size<C->(∃ m,s'.heap.Ns C m)->(upd H' D (.lst ys)) C=none->F ys H'->RR (.ref D) C (.ok .next) s') :
  wpAny (model X.prog X.w) X.A (newList []) (fun acc s₃=>wpAny (model X.prog X.w) X.A (newFunctionEnv scope X.env.globals cl [] X.env.qual none .none (some X.env)) (fun cenv s₄=>
   codeAny (model X.prog X.w) X.A (.compStart (.ListComp elt [⟨tg,iter,ifs,0⟩,⟨tg2,iter2,ifs2,0⟩] scope pos) 0 (.ref it) acc { cenv with scope:=relabel scope X.env }) (RR acc cenv.locals) s₄) E s₃) E s2:= by
 refine wpAny_newObj_type (wpAny_newFunctionEnv S.cell (by intro y hy;simp at hy) (fun h₁ hns₁ hsb₁=>?_) S.kind)
 dsimp only at hns₁ hsb₁ ⊢
 generalize hG : s2.heap.push { cls:=.type "list",dict:=none,data:=.seq ([] : List Value).toArray } = G at hns₁ hsb₁ ⊢
 generalize hD:s2.heap.objs.size=D at *
 have hC:G.objs.size=D+1:=by rw[<- hG,Heap.size_push,hD]
 generalize hCC:G.objs.size=C at *
 have DC:D<C:=by rw[hC];exact Nat.lt_succ_self _
 have lo : ∀ b o,s2.heap.get? b=some o->b<D:=fun b o e=>hD ▸ Heap.lt_size e
 have old : ∀ b o,s2.heap.get? b=some o->h₁.get? b=some o:=fun b o e=>by
  have hb:=lo b o e
  exact hsb₁.extBut b o (Nat.ne_of_lt (Nat.lt_trans hb DC)) (Heap.get?_push_of_some _ (hG ▸ Heap.get?_push_of_some _ e))
 have hacc : h₁.get? D = some { cls:=.type "list",data:=.seq ([] : List Value).toArray }:=
  hsb₁.extBut _ _ (Nat.ne_of_lt DC) (Heap.get?_push_of_some _ (by rw[<- hG,<- hD];exact Heap.get?_push_size _ rfl))
 have fpl : ∀ b ∈ fp,b<D:=fun b hb=>by
  obtain ⟨o,e,_⟩:=T.obj _ _ st2 b hb
  exact lo b o e
 have cel : ∀ y c,cl.lookup y=some c->c<D:=fun y c e=>by
  obtain ⟨v,z⟩:=I2.cell y c (q1 y c e)
  exact hD ▸ z.lt
 generalize hX':cxLc X N' scope cl C s2 H2 fp=X'
 have envE:X'.env=compEnvC scope cl C X.env:=by rw[<- hX'];rfl
 have locE:X'.env.locals=C:=by rw[envE];rfl
 have fsE:X'.fs=frs X.stack:=by rw[<- hX'];rfl
 have fsl : ∀ b ∈ frs X.stack,b<D:=fun b hb=>by
  rcases List.mem_cons.mp (I2.stkSub b hb) with z | z
  ·rw[z];exact hD ▸ I2.lt
  ·exact Nat.lt_of_not_le fun q=>I2.nofs (hD ▸ q) z
 have relS : ∀ x k,scope.names.lookup x=some k -> ∃ k',X'.env.kindOf x=some k'/\(k'=k\/(k = .free/\k' = .cell)):=fun x k e=>by
  obtain ⟨k',e',q⟩:=relabel_some (env:=X.env) e
  exact ⟨k',by rw[envE];exact e',q⟩
 have relN : ∀ x,scope.names.lookup x=none->X'.env.kindOf x=none:=fun x e=>by
  rw[envE];exact relabel_none (env:=X.env) e
 have cellsE:X'.env.cells=cl:=by rw[envE];rfl
 have ok':X'.Ok:= by
  refine ⟨?mod,?kind,?glob,?blt,?above,?inj,?has,?cab,?hd,?frames,?stk,?exf,?bs,?bsz,?noex,?exfs,?funs,?frf⟩
  case mod=>rw[<- hX'];exact I2.ok.mod
  case kind=>rw[envE];exact S.kind
  case glob=>rw[envE];exact I2.ok.glob
  case blt=>rw[envE];exact I2.ok.blt
  case above=>rw[locE,<- hX'];show s2.heap.objs.size<=C;rw[hD];exact Nat.le_of_lt DC
  case inj=>intro x y c e1 e2;rw[cellsE] at e1 e2;exact I2.ok.inj x y c (q1 x c e1) (q1 y c e2)
  case has=>
   intro x hx
   rw[cellsE]
   cases e:scope.names.lookup x with
   | none=>rw[relN x e] at hx;rcases hx with z | z <;> cases z
   | some k=>
    obtain ⟨k',e',q⟩:=relS x k e
    rw[e'] at hx
    have kf:k = .free:= by
     rcases q with q | q
     ·rcases hx with z | z
      ·cases z;exact absurd q.symm (S.cell _ (PySem.mem_of_lookup e))
      ·cases z;exact q.symm
     ·exact q.1
    subst kf
    exact q2 x (PySem.mem_of_lookup e)
  case cab=>intro x c h;rw[<- hX'] at h;exact absurd h (by show ¬ (false=true);decide)
  case hd=>rw[<- hX'];exact I2.ok.hd
  case frames=>rw[<- hX'];exact I2.ok.frames
  case stk=>rw[<- hX'];exact .inl rfl
  case exf=>
   intro b hb
   have hb':b ∈ fp:=by rw[<- hX'] at hb;exact hb
   refine ⟨by rw[locE];exact Nat.ne_of_lt (Nat.lt_trans (fpl b hb') DC),fun x c e=>?_⟩
   rw[cellsE] at e
   exact (f2 b hb').2.2.2.2.1 x c (q1 x c e)
  case bs=>rw[<- hX'];exact I2.bs
  case bsz=>rw[<- hX'];exact Nat.le_trans I2.ok.bsz I2.sz
  case noex=>
   intro b o e hb
   have hb':b ∈ fp:=by rw[<- hX'] at hb;exact hb
   have e':X.base.get? b=some o:=by rw[<- hX'] at e;exact e
   rcases (f2 b hb').2.2.2.1 with z | z
   ·exact I2.ok.noex b o e' z
   ·exact absurd (Nat.lt_of_lt_of_le (Heap.lt_size e') (Nat.le_trans I2.ok.bsz z)) (Nat.lt_irrefl _)
  case exfs=>
   intro b hb
   have hb':b ∈ fp:=by rw[<- hX'] at hb;exact hb
   rw[fsE]
   intro z
   rcases List.mem_cons.mp (I2.stkSub b z) with q | q
   ·exact (f2 b hb').2.1 q
   ·exact (f2 b hb').2.2.1 q
  case funs=>rw[<- hX'];exact I2.stack
  case frf=>rw[fsE,<- hX'];exact I2.stkFree
 have c0:H2 C=none:=I2.hok.fresh (by rw[hD];exact Nat.le_of_lt DC)
 have d0:H2 D=none:=I2.hok.fresh (by rw[hD];exact Nat.le_refl _)
 have I3:Inv X' [] (inSt M σ) H2 { s2 with heap:=h₁,toks:=s2.toks+([]:List (Str × Value)).length }:= by
  refine ⟨ok',?os,?bare,?base,?loc,?cell,?free,?freeC,?pin,?hok,?len⟩
  case os=>rw[<- hX'];rfl
  case bare=>exact I2.bare
  case base=>rw[fsE,<- hX'];exact Un.kept old
  case loc=>
   refine ⟨_,by rw[locE];exact hns₁,fun i x v e1 e2 _=>?_⟩
   obtain ⟨j,eM,eσ⟩:=inSt_get e2
   obtain ⟨y,n1,n2,n3⟩:=S.at_ i j eM
   have e1':N'[i]?=some x:=by rw[<- hX'] at e1;exact e1
   rw[n1] at e1';cases e1'
   have hyf:(x,NameKind.free) ∈ scope.names:=PySem.mem_of_lookup n3
   have kd:=S.fre _ hyf rfl
   obtain ⟨m,hn,hl⟩:=id I2.loc
   obtain ⟨u,ru,lk⟩:=hl j x v n2 eσ (kd.elim (fun z=>.inr (.inl z)) fun z=>.inr (.inr z))
   refine ⟨u,ru,?_⟩
   rcases lk with ⟨k,_⟩ | ⟨k,c,ec,z⟩
   ·have k':X.env.scope.names.lookup x=some NameKind.local:=k
    rcases kd with q | q <;> (rw[k'] at q;cases q)
   ·obtain ⟨c',ec'⟩:=q2 x hyf
    have hcc:=q1 x c' ec'
    rw[ec] at hcc;cases hcc
    obtain ⟨k',e',q⟩:=relS x _ n3
    refine .inr ⟨?_,c,by rw[cellsE];exact ec',?_⟩
    ·rw[e'];rcases q with q | q
     ·right;rw[q]
     ·left;rw[q.2]
    ·obtain ⟨o,ho,hd'⟩:=z
     exact ⟨o,old _ _ ho,hd'⟩
  case cell=>
   intro x c e
   rw[cellsE] at e
   obtain ⟨v,o,ho,hd'⟩:=I2.cell x c (q1 x c e)
   exact ⟨v,o,old _ _ ho,hd'⟩
  case free=>rw[locE];exact c0
  case freeC=>intro x c e;rw[cellsE] at e;exact I2.freeC x c (q1 x c e)
  case pin=>intro p hp;rw[<- hX'] at hp;exact absurd (show p ∈ ([]:List (Addr × Obj)) from hp) (by simp)
  case hok=>rw[<- hX'];exact I2.hok.kept old
  case len=>rw[inSt_length,<- hX'];exact S.len.symm
 have xE : ∀ (e:Value) (s':Shared),¬ X'.xe e s':=fun e s' z=>by rw[<- hX'] at z;exact z
 have progE:X'.prog=X.prog:=by rw[<- hX'];rfl
 have wE:X'.w=X.w:=by rw[<- hX'];rfl
 have KE':X'.K=X.K:=by rw[<- hX'];rfl
 have AE:X'.A=X.A:=by rw[<- hX'];rfl
 have cE:X'.calm=true:=by rw[<- hX'];exact hc
 have exE:X'.ex=fp:=by rw[<- hX'];rfl
 have s0E:X'.s₀=s2:=by rw[<- hX'];rfl
 have pnE:X'.pn=[]:=by rw[<- hX'];rfl
 have hgX:PG X' tg g:=by rw[<- hX'];exact hg C s2 H2 fp
 have htX:PTs X' ifs tc:=by rw[<- hX'];exact ht C s2 H2 fp
 have heX:PE X' elt te:=by rw[<- hX'];exact he C s2 H2 fp
 have Dfp:D ∉ fp:=fun z=>Nat.lt_irrefl _ (fpl D z)
 have Dcl : ∀ x c,X'.env.cells.lookup x=some c->c≠D:=fun x c e=>by rw[cellsE] at e;exact Nat.ne_of_lt (cel x c e)
 have Dloc:D≠X'.env.locals:=by rw[locE];exact Nat.ne_of_lt DC
 have Dfs:D ∉ X'.fs:=by rw[fsE];exact fun z=>Nat.lt_irrefl _ (fsl D z)
 have D0:D ∈ X'.ex\/X'.s₀.heap.objs.size<=D:=.inr (by rw[s0E,hD];exact Nat.le_refl _)
 have stat : ∀ {pl:List (Addr × Obj)} {H':Hp},(∀ p ∈ pl,p.1=D)->(∀ b ∈ fp,H' b=none) -> ∀ b ∈ fp,FpOk X' pl H' b:=fun {pl H'} hpl hn b hb=>by
  refine ⟨hn b hb,by rw[locE];exact Nat.ne_of_lt (Nat.lt_trans (fpl b hb) DC),?_,.inl (by rw[exE];exact hb),fun x c e=>?_,fun p hp=>?_⟩
  ·exact ok'.exfs b (by rw[exE];exact hb)
  ·rw[cellsE] at e;exact (f2 b hb).2.2.2.2.1 x c (q1 x c e)
  ·rw[pnE,List.nil_append] at hp
   rw[hpl p hp];exact (Nat.ne_of_lt (fpl b hb)).symm
 have hiX2:PI X' tg2 iter2 wi2:=by rw[<- hX'];exact hi2 C s2 H2 fp
 have hgX2:PG X' tg2 g2:=by rw[<- hX'];exact hg2 C s2 H2 fp
 have htX2:PTs X' ifs2 tc2:=by rw[<- hX'];exact ht2 C s2 H2 fp
 have loop:codeAny (model X.prog X.w) X.A (.compLoop (.ListComp elt [⟨tg,iter,ifs,0⟩,⟨tg2,iter2,ifs2,0⟩] scope pos) 0 (.ref it) (.ref D) X'.env) (RR (.ref D) C) { s2 with heap:=h₁,toks:=s2.toks+([]:List (Str × Value)).length }:= by
  have T':Turn X'.prog X'.w X'.K tg J fp it tn:=by rw[progE,wE,KE'];exact T
  have em:=pem_in (X:=X') (D:=D) (elt:=elt) (g0:=⟨tg,iter,ifs,0⟩) (scope:=scope) (pos:=pos) (ks:=ks2) cE xE hiX2 hgX2 ho2 htX2 heX (fun _=>rfl) (hs2 _)
  have inN : ∀ i,M[i]?=some none->(inSt M σ)[i]?=some none:=fun i e=>by unfold inSt;rw[List.getElem?_map,e];rfl
  have base:codeAny (model X'.prog X'.w) X'.A (.compLoop (.ListComp elt [⟨tg,iter,ifs,0⟩,⟨tg2,iter2,ifs2,0⟩] scope pos) 0 (.ref it) (.ref D) X'.env) (RR (.ref D) C) _:=lc_loop (F:=F) (ks:=ks) rfl rfl ((turn_first0 ..).trans (turnF_eq ..)) rfl cE xE hgX ho
   (fun i v e hk=>by rw[inN i (hks i hk)] at e;cases e) (fun σ' hσ i v e hk=>by rw[hσ i (hks2 i hk).2,inN i (hks2 i hk).1] at e;cases e) htX em I3 T' (T.keep _ _ _ st2 fun b hb o e=>old b o e) (stat (pl:=[]) (fun p hp=>absurd hp (by simp)) fun b hb=>(f2 b hb).1)
   ⟨d0,Dloc,Dfs,D0,Dcl,fun p hp=>by rw[pnE] at hp;exact absurd hp (by simp)⟩ ⟨[],0,.nil,hacc⟩ Dfp hw (fun s4 H3 ys J4 dn ⟨its,k,rv,hD4⟩ hsz fr4 qF=>by
   obtain ⟨mC,hnC,_⟩:=id J4.loc
   rw[locE] at hnC
   have b4:=J4.base
   rw[fsE,exE,s0E,show X'.H₀=H2 by rw[<- hX'];rfl] at b4
   refine hend D C s4 H3 ys ?_ dn (Nat.le_refl _) DC ⟨mC,hnC⟩ (by rw[upd_ne (Nat.ne_of_gt DC)];have:=J4.free;rw[locE] at this;exact this) qF
   have hok4:=J4.hok
   rw[progE,wE] at hok4
   refine I2.call' (ch:=fp) (H':=upd H3 D (.lst ys)) (by rw[J4.os,s0E]) ⟨b4.keep,b4.slot,fun b o e nn hb=>?_,b4.there,fun b xs e=>?_,fun b o u e=>?_,fun b ps e=>?_⟩ ?_ J4.bare fun b hb=>?_
   ·rw[upd_ne (Nat.ne_of_lt (lo b o e))];exact b4.free b o e nn hb
   ·rw[upd_ne (ne_of_none (b4.tups b xs e) dn)];exact b4.tups b xs e
   ·rw[upd_ne (ne_of_none (b4.frzs b o u e) dn)];exact b4.frzs b o u e
   ·obtain ⟨more,e'⟩:=b4.tbls b ps e
    exact ⟨more,by rw[upd_ne (ne_of_none e' dn)];exact e'⟩
   ·intro b u e
    by_cases hb:b=D
    ·subst hb
     rw[upd_same] at e;cases e
     exact ⟨hsz,its,k,rv,hD4⟩
    ·rw[upd_ne hb] at e
     exact (hok4 b u e).stay (fun c v _ q=>q) (fun c q=>by rw[upd_ne (ne_of_none q dn)];exact q) fun c xs q=>by rw[upd_ne (ne_of_none q dn)];exact q
   ·obtain ⟨f0,f1,f3,f4,f5,f6⟩:=f2 b hb
    exact ⟨f4,f1,f5,f6⟩)
  rw[progE,wE,AE] at base
  exact base
 have loop':codeAny (model X.prog X.w) X.A (.compLoop (.ListComp elt [⟨tg,iter,ifs,0⟩,⟨tg2,iter2,ifs2,0⟩] scope pos) 0 (.ref it) (.ref D) (compEnvC scope cl C X.env)) (RR (.ref D) C) { s2 with heap:=h₁,toks:=s2.toks+([]:List (Str × Value)).length }:=envE ▸ loop
 exact codeAny_compStart_list loop' (T.self _ 0 _ _ _ (T.keep _ _ _ st2 fun b hb o e=>old b o e) loop')
def tLc2 (wi:TI) (M:List (Option Nat)) (g:TG) (tc:TT) (wi2:TI) (g2:TG) (tc2:TT) (te:TE) (σ:St) (H:Hp) (F:List V->Hp->Prop):Prop:=wi σ H fun J H1=>LcW J g tc (tmIn wi2 g2 tc2 te) (inSt M σ) [] H1 F
section
variable {X:Cx} {N':List Str} {M:List (Option Nat)} {scope:Scope} {tg elt iter tg2 iter2:Expr} {ifs ifs2:List Expr} {ks ks2:List Nat} {pos:Pos} {g g2:TG} {tc tc2:TT} {te:TE} {wi wi2:TI}
theorem pe_lc2 (S:LcSc X.N N' M scope X.env.scope) (hc:X.calm=true) (hi:PI X tg iter wi) (hg : ∀ cl C s H fp,PG (cxLc X N' scope cl C s H fp) tg g) (ho:Own ks g)
  (ht : ∀ cl C s H fp,PTs (cxLc X N' scope cl C s H fp) ifs tc) (hks : ∀ i ∈ ks,M[i]?=some none) (hks2 : ∀ i ∈ ks2,M[i]?=some none/\i ∉ ks) (hi2 : ∀ cl C s H fp,PI (cxLc X N' scope cl C s H fp) tg2 iter2 wi2) (hg2 : ∀ cl C s H fp,PG (cxLc X N' scope cl C s H fp) tg2 g2) (ho2:Own ks2 g2) (ht2 : ∀ cl C s H fp,PTs (cxLc X N' scope cl C s H fp) ifs2 tc2) (he : ∀ cl C s H fp,PE (cxLc X N' scope cl C s H fp) elt te)
  (hs : ∀ x,foldedSetIterable iter X.env x=pure x:=by intro _;rfl) (hs2 : ∀ env x,foldedSetIterable iter2 env x=pure x:=by intro _ _;rfl) :
  PE X (.ListComp elt [⟨tg,iter,ifs,0⟩,⟨tg2,iter2,ifs2,0⟩] scope pos) (fun σ H Q=>tLc2 wi M g tc wi2 g2 tc2 te σ H fun ys H'=>∀ p,H' p=none->Q (.ref p) (upd H' p (.lst ys))):= by
 intro pins s σ H Q I h
 obtain ⟨cl,hclos,q1,q2⟩:=lc_clos S I
 rw[eval_ListComp]
 refine wpAny_comprehension_free (use:=none) rfl hs hclos S.kind S.own (thn (hi pins s σ H _ I h) fun v s1 h1=>thn h1 fun itv s2 h2=>?_)
 obtain ⟨it,fp,tn,J,H2,e,I2,T,st2,f2,hw⟩:=h2
 subst e
 refine lc_block2 (RR:=fun acc C=>compPost (model X.prog X.w) X.A X.xe none (EP X pins σ Q) acc C) S hc q1 q2 (hg cl) ho (ht cl) hks hks2 (hi2 cl) (hg2 cl) ho2 (ht2 cl) (he cl) hs2 I2 T st2 f2 hw ?_
 intro D C s' H' ys I' dn hD hC ⟨m,hn⟩ hCn q
 obtain ⟨y1,y2,y3,y4⟩:=I2.young (Nat.le_of_lt hC)
 exact ⟨m,hn,fun h' hs'=>⟨.ref D,_,I'.gone (s':=s') hs' hCn y1 y2 y3 y4,rfl,q D dn⟩⟩
theorem ps_lc2 {i:Nat} {x:Str} {pos' spos:Pos} (hN:X.N.Nodup) (hi:X.N[i]?=some x) (hx:X.env.scope.names.lookup x=some NameKind.local)
  (S:LcSc X.N N' M scope X.env.scope) (hc:X.calm=true) (hit:PI X tg iter wi) (hg : ∀ cl C s H fp,PG (cxLc X N' scope cl C s H fp) tg g) (ho:Own ks g)
  (ht : ∀ cl C s H fp,PTs (cxLc X N' scope cl C s H fp) ifs tc) (hks : ∀ i ∈ ks,M[i]?=some none) (hks2 : ∀ i ∈ ks2,M[i]?=some none/\i ∉ ks) (hi2 : ∀ cl C s H fp,PI (cxLc X N' scope cl C s H fp) tg2 iter2 wi2) (hg2 : ∀ cl C s H fp,PG (cxLc X N' scope cl C s H fp) tg2 g2) (ho2:Own ks2 g2) (ht2 : ∀ cl C s H fp,PTs (cxLc X N' scope cl C s H fp) ifs2 tc2) (he : ∀ cl C s H fp,PE (cxLc X N' scope cl C s H fp) elt te)
  (hsw:swapsWith (.ListComp elt [⟨tg,iter,ifs,0⟩,⟨tg2,iter2,ifs2,0⟩] scope pos) (some (.Name x pos')) spos.line X.env=pure true:=by rfl)
  (hs : ∀ x,foldedSetIterable iter X.env x=pure x:=by intro _;rfl) (hs2 : ∀ env x,foldedSetIterable iter2 env x=pure x:=by intro _ _;rfl) :
  PS X (.Assign [.Name x pos'] (.ListComp elt [⟨tg,iter,ifs,0⟩,⟨tg2,iter2,ifs2,0⟩] scope pos) spos) (fun D σ H=>tLc2 wi M g tc wi2 g2 tc2 te σ H fun ys H'=>∀ p,H' p=none->D.nx (σ.set i (some (.ref p))) (upd H' p (.lst ys))):= by
 intro pins s σ H Dn I h
 obtain ⟨cl,hclos,q1,q2⟩:=lc_clos S I
 rw[exec_Assign_Name_used _ _ _ _ hsw]
 refine wpAny_bind (wpAny_standAt (wpAny_bind ?_))
 show wpAny _ X.A (do let _ <- comprehension (.ListComp elt [⟨tg,iter,ifs,0⟩,⟨tg2,iter2,ifs2,0⟩] scope pos) scope X.env _ (newList []) false (eval iter X.env) (some (assign (.Name x pos') X.env))) _ _ s
 refine wpAny_bind (wpAny_mono (wpAny_comprehension_free (use:=some (assign (.Name x pos') X.env)) (Q:=fun _ s'=>SP X pins Dn .next s') rfl hs hclos S.kind S.own
  (thn (hit pins s σ H _ I h) fun v s1 h1=>thn h1 fun itv s2 h2=>?_)) (fun _ s' hq=>wpAny_pure (wpAny_pure hq)) fun _ _ e=>e)
 obtain ⟨it,fp,tn,J,H2,e,I2,T,st2,f2,hw⟩:=h2
 subst e
 refine lc_block2 (RR:=fun acc C=>compPost (model X.prog X.w) X.A X.xe (some (assign (.Name x pos') X.env)) (fun _ s'=>SP X pins Dn .next s') acc C) S hc q1 q2 (hg cl) ho (ht cl) hks hks2 (hi2 cl) (hg2 cl) ho2 (ht2 cl) (he cl) hs2 I2 T st2 f2 hw ?_
 intro D C s' H' ys I' dn hD hC ⟨m,hn⟩ hCn q
 obtain ⟨y1,y2,y3,y4⟩:=I2.young (Nat.le_of_lt hC)
 show wpAny _ X.A (assign (.Name x pos') X.env (.ref D)) _ _ s'
 refine wpAny_assign_Name (store_ok2 I' hN hi (.inl hx) (v:=.ref D) rfl (fun s'' I'' ⟨a,hsb,ha⟩=>?_) (.inr hx))
 have hCa:C≠a:= by
  rcases ha with z | z
  ·rw[z];exact y1
  ·exact (y3 x a z).symm
 exact ⟨m,hn.sameBut hsb hCa,fun h' hs'=>⟨_,_,I''.gone (s':=s'') hs' hCn y1 y2 y3 y4,q D dn⟩⟩
end
end L2
namespace L2
open PySem PySem.W PyProof.Rows
section
variable {r:Nat->Int}
end
end L2
namespace L2
open PySem PySem.Spec PyProof.Rows
end L2
namespace L2
open PySem
def pairsN (n:Nat):List (Nat × Nat):=(List.range n).flatMap fun k=>(List.range k).map fun j=>(j,k)
theorem pairsN_succ (n:Nat):pairsN (n+1)=pairsN n++(List.range n).map fun j=>(j,n):= by
 unfold pairsN;rw[List.range_succ,List.flatMap_append];simp
theorem mem_pairsN {n:Nat} {q:Nat × Nat}:q ∈ pairsN n ↔ q.1<q.2/\q.2<n:= by
 unfold pairsN
 simp only [List.mem_flatMap,List.mem_range,List.mem_map]
 constructor
 ·rintro ⟨k,hk,j,hj,rfl⟩;exact ⟨hj,hk⟩
 ·rintro ⟨h1,h2⟩;exact ⟨q.2,h2,q.1,h1,rfl⟩
theorem pairsN_le : ∀ n:Nat,(pairsN n).length<=n*n
 | 0=>by simp [pairsN]
 | n+1=>by
  have:=pairsN_le n
  rw[pairsN_succ,List.length_append,List.length_map,List.length_range]
  have e:(n+1)*(n+1)=n*n+2*n+1:=by rw[Nat.add_mul,Nat.mul_add];omega
  omega
end L2
namespace L2
open PySem
def cnt (L:List Int):Nat:=(seen L).length
theorem seen_nodup (xs:List Int):(seen xs).Nodup:= by
 refine snoc_ind (P:=fun xs=>(seen xs).Nodup) (by show ([]:List Int).Nodup;exact List.nodup_nil) (fun xs z ih=>?_) xs
 rw[seen_snoc]
 unfold seenP
 split
 ·exact ih
 ·rename_i h
  exact List.nodup_append.mpr ⟨ih,by simp,fun a ha b hb e=>h (by rw[List.mem_singleton.mp hb] at e;exact e ▸ ha)⟩
end L2
namespace L2
open PySem
end L2
namespace L2
open PySem
def hdL (ws:List Int) (k:Nat):Int:=(((lotN ws (k:Int) ws.length).headD 0:Nat):Int)
def tlL (ws:List Int) (k:Nat):Int:=(((lotN ws (k:Int) ws.length).getLastD 0:Nat):Int)
def lieS (a0 a1 b0 b1 : Int) : Str:=if a0 = b0 /\ a1 = b1 then "same" else if a1 < b0 \/ b1 < a0 then "apart" else if b0 < a0 /\ a1 < b1 then "inside" else if a0 < b0 /\ b1 < a1 then "around" else "crossing"
end L2
namespace L2
open PySem PySem.Spec PyProof.Rows
section
variable {X:Cx} {K:PySem.W.Frag}
end
end L2
namespace L2
open PySem
end L2
namespace L2
end L2
namespace L2
open PySem PySem.Spec PyProof.Rows
section
variable {X:Cx} {K:PySem.W.Frag}
end
end L2
namespace L2
open PySem
end L2
namespace L2
open PySem PySem.Spec PyProof.Rows
section
variable {X:Cx} {K:PySem.W.Frag}
end
end L2
namespace L2
open PySem
end L2
namespace L2
open PySem PySem.Spec PyProof.Rows
section
variable {X:Cx}
end
end L2
namespace L2
open PySem
def suitsB (ar cr:Nat->Nat->Bool) (C:List Int) (h:Int):Bool:=
 (List.range C.length).all fun k=>!(ar k C.length&&decide (C.getD k 0<=h)) && !(cr k C.length&&decide (C.getD k 0=h))
def comp (ar cr:Nat->Nat->Bool) (n g:Nat):Nat->List Int->Option (List Int)
 | 0,_=>none
 | d+1,C=>if C.length=n then some C else
   (List.range g).findSome? fun (h:Nat)=>if suitsB ar cr C ((h:Int)+1) then comp ar cr n g d (C++[(h:Int)+1]) else none
variable {ar cr:Nat->Nat->Bool} {n g:Nat}
def IsH (ar cr:Nat->Nat->Bool) (n:Nat) (F:List Int):Prop:=∃ g,1<=g/\comp ar cr n g (n+1) []=some F /\ ∀ g',1<=g'->g'<g->comp ar cr n g' (n+1) []=none
def arW (ws : List Int) (k j : Nat) : Bool:=decide (lieS (hdL ws k) (tlL ws k) (hdL ws j) (tlL ws j) = "around")
def crW (ws : List Int) (k j : Nat) : Bool:=decide (lieS (hdL ws k) (tlL ws k) (hdL ws j) (tlL ws j) = "crossing")
def SpanAt (H:Hp) (p:Addr) (ps:List Addr) (ws:List Int):Prop:=H p=some (.lst (ps.map V.ref))/\ps.length=(fresh 0 ws).toNat /\ ∀ (k:Nat) q,ps[k]?=some q->H q=some (.tup [.int (hdL ws k),.int (tlL ws k)])
theorem SpanAt.at {H:Hp} {p:Addr} {ps:List Addr} {ws:List Int} (h:SpanAt H p ps ws) {k:Nat} (hk:k<(fresh 0 ws).toNat) : ∃ q,ps[k]?=some q/\H q=some (.tup [.int (hdL ws k),.int (tlL ws k)]):= by
 have hl:=h.2.1
 have e:=List.getElem?_eq_getElem (show k<ps.length by omega)
 exact ⟨_,e,h.2.2 k _ e⟩
end L2
namespace L2
open PySem PySem.Spec PyProof.Rows
section
variable {X:Cx} {K:PySem.W.Frag}
theorem kc_minL (hc : X.calm = true:=by rfl) (h : X.K = K:=by rfl) : CallR X (.builtin "min") (fun xs H Q=>∃ (a : Addr) (ns : List Int),xs = [.ref a] /\ (SqL K H a (ns.map V.int) \/ SqT K H a (ns.map V.int)) /\ ns ≠ [] /\ ∀ m,IsMin ns m -> Q (.int m) H):= by
 subst h
 intro pins s σ H xs us Q I r h
 obtain ⟨a,ns,rfl,hq,hne,q⟩:=h
 obtain ⟨u,rfl,ru⟩:=vals1 r
 cases ru
 refine call_min_walk (seq_walk I (A:=X.A.in1) (I.ok.hd hc) hq fun its I' fp wr St' s2 rv W st hfp _ _ _ _ hI=>?_)
 have hlen:its.toArray.size=ns.length:=by rw[List.size_toArray,<- rv.length,List.length_map]
 have hpos:0<ns.length:=List.length_pos_iff.mpr hne
 refine ⟨_,_,_,_,_,_,_,rfl,W,st,hfp,by rw[hlen];exact hpos,CmpOf.ints_lt (fun i=>ns.getD i 0) (fun i v hv=>(vals_int_at rv hv).imp fun t e=>e.1),fun v h' tk hP hk=>?_⟩
 obtain ⟨t,rfl,hi⟩:=vals_int_at rv hP
 obtain ⟨h1,h2⟩:=argBest_lt (fun i=>ns.getD i 0) (its.toArray.size-1)
 refine ⟨.int _,H,hI h' tk hk,⟨t,rfl⟩,q _ ⟨getD_mem' hi,fun b hb=>?_⟩⟩
 obtain ⟨j,hj,rfl⟩:=mem_getD' hb
 exact h2 j (by omega)
end
end L2
namespace L2
open PySem
variable {ar cr:Nat->Nat->Bool} {n g:Nat}
end L2
namespace L2
open PySem PySem.W PyProof.Rows
variable {n:Nat}
end L2
namespace L2
open PySem PySem.Spec PyProof.Rows
section
variable {X:Cx} {K:PySem.W.Frag}
theorem range_getD {α:Type} (l:List α) (d:α):(List.range l.length).map (fun i=>l.getD i d)=l:= by
 refine List.ext_getElem (by simp) fun i h1 h2=>?_
 rw[List.getElem_map,List.getElem_range,getD_lt h2]
end
end L2
namespace PySem
open Sem (wp)
def Heap.DictE (h:Heap) (a:Addr) (kvs:List (Value × Value)) (ep:Nat):Prop:=∃ o es,h.get? a=some o/\o.ExactDict/\o.data = .dict es ep/\es.toList.map (fun e=>(e.key,e.val))=kvs
theorem Heap.DictE.typeIs {s : Shared} {a : Addr} {kvs : List (Value × Value)} {ep : Nat} (x : s.heap.DictE a kvs ep) : s.TypeIs (.ref a) "dict":=let ⟨o,_,ho,hc,_⟩:=x; ⟨o,ho,hc.1⟩
theorem Heap.DictE.extBut {h h':Heap} {a b kvs ep} (x:h.DictE a kvs ep) (hs:Heap.ExtBut b h h') (hab:a≠b):h'.DictE a kvs ep:=let ⟨o,es,ho,r⟩:=x;⟨o,es,hs a o hab ho,r⟩
theorem Heap.DictE.push {h:Heap} {a kvs ep} (x:h.DictE a kvs ep) (o:Obj):(h.push o).DictE a kvs ep:=let ⟨o',es,ho,r⟩:=x;⟨o',es,Heap.get?_push_of_some o ho,r⟩
section
variable {prog:Program} {w:World} {A:Around} {E:Value->Shared->Prop} {s:Shared}
theorem wpAny_pyIter_dictE {d:Addr} {kvs:List (Value × Value)} {ep:Nat} {Q:Value->Shared->Prop} (hd:(d==sysModules)=false) (hm:s.heap.DictE d kvs ep)
  (hQ : Q (.ref s.heap.objs.size) { s with heap:=s.heap.push { cls:=.type "dict_keyiterator",data:=.fields #[.ref d,.int 0 0,.int kvs.length 0,.int ep 0] } }) :
  wpAny (model prog w) A (pyIter (.ref d)) Q E s:= by
 obtain ⟨o,es,ho,hc,hdat,hp⟩:=id hm
 have hT : s.TypeIs (.ref d) "dict":=hm.typeIs
 refine wpAny_pyIter_slot hT F.slot_dict_iter (wpAny_call_entry F.slot_dict_iter hT F.entry_dict_iter ?_ (F.args_dict_iter_1 _))
 unfold Builtin.«dict.__iter__»
 refine wpAny_bind ?_
 unfold Builtin.Dict.dictSlotNone
 refine wpAny_bind (wpAny_notOrdered_dict hT ?_)
 show wpAny _ _ (pure (Value.ref d)) _ _ s
 refine wpAny_pure ?_
 show wpAny _ _ (Builtin.Dict.showsAll d >>= _) _ _ s
 unfold Builtin.Dict.showsAll
 rw[if_neg (by rw[hd];exact Bool.false_ne_true)]
 refine wpAny_bind (wpAny_pure ?_)
 refine wpAny_bind (wpAny_dictEntries ho hdat ?_)
 refine wpAny_bind (wpAny_dictEpoch ho hdat ?_)
 have hsz:es.size=kvs.length:=by rw[<- hp];simp
 refine wpAny_bind (wpAny_newObj_type (wpAny_pure ⟨_,rfl,"dict_keyiterator",_,⟨_,Heap.get?_push_size _ rfl,rfl⟩,F.slot_dict_keyiterator_next.lookup,?_⟩))
 simpa [rawInt,hsz] using hQ
theorem wpAny_pyNext_dictE_item {it d:Addr} {i ep:Nat} {kvs:List (Value × Value)} {k:Value} {v:Value} {Q:Option Value->Shared->Prop} (hit:s.heap.IsKeyIter it d i kvs.length ep)
  (hm:s.heap.DictE d kvs ep) (hx:kvs[i]?=some (k,v))
  (hQ : ∀ key h',key=k->h'.IsKeyIter it d (i+1) kvs.length ep->Heap.SameBut it s.heap h'->Q (some key) { s with heap:=h' }) :
  wpAny (model prog w) A (pyNext (.ref it)) Q E s:= by
 obtain ⟨o,ho,hc,hd⟩:=id hit
 obtain ⟨od,es,hod,hcd,hdd,hp⟩:=id hm
 unfold pyNext
 refine wpAny_bind (wpAny_attempt (wpAny_callSpecial?_slot (name:=Str.ofString "__next__") hit.typeIs F.slot_dict_keyiterator_next
  (wpAny_call_entry F.slot_dict_keyiterator_next hit.typeIs F.entry_dict_keyiterator_next ?_ (F.args_dict_keyiterator_next_1 _))))
 refine wpAny_bind (wpAny_pure ?_)
 refine wpAny_bind ?_
 refine wpAny_bind ?_
 first | refine wpAny_bind (wpAny_typeNameOfWhole_keyiter hit.typeIs (wpAny_pure ?_)) | refine wpAny_bind (wpAny_typeNameOf_keyiter hit.typeIs (wpAny_pure ?_))
 refine wpAny_bind (wpAny_fieldsOf ho hd ?_)
 have hown : Builtin.Dict_items.ownsTuple "dict_keyiterator" = false:=by decide
 simp only [hown,Bool.false_eq_true,if_false]
 show wpAny _ _ (if (Value.ref d==Value.none)=true then _ else _) _ _ s
 rw[if_neg (show ¬ ((Value.ref d==Value.none)=true) from Bool.false_ne_true)]
 refine wpAny_bind (wpAny_pure ?_)
 refine wpAny_bind (wpAny_dictEntries hod hdd ?_)
 have hsz:es.size=kvs.length:=by rw[<- hp];simp
 rw[if_neg (by rw[hsz];simp)]
 refine wpAny_bind (wpAny_pure ?_)
 refine wpAny_bind (wpAny_dictEpoch hod hdd ?_)
 rw[if_neg (by simp)]
 refine wpAny_pure ?_
 have hlt:i<kvs.length:= by
  rcases Nat.lt_or_ge i kvs.length with h | h
  ·exact h
  ·simp [List.getElem?_eq_none h] at hx
 have hlt':i<es.size:=by rw[hsz];exact hlt
 have hkey:es[i].key=k:= by
  have e1:(es.toList.map fun e=>(e.key,e.val))[i]?=some (es[i].key,es[i].val):=by rw[List.getElem?_map,Array.getElem?_toList,Array.getElem?_eq_getElem hlt'];rfl
  rw[hp,hx] at e1
  exact (congrArg Prod.fst (Option.some.inj e1)).symm
 simp only [show ¬ ((i:Int)<0) from by omega,if_false,Int.toNat_natCast,Array.getElem?_eq_getElem hlt']
 refine wpAny_bind ?_
 first | refine wpAny_bind (wpAny_typeNameOfWhole_keyiter hit.typeIs (wpAny_pure ?_)) | refine wpAny_bind (wpAny_typeNameOf_keyiter hit.typeIs (wpAny_pure ?_))
 refine wpAny_bind (wpAny_isOneOf_keyiter hit.typeIs ?_)
 show wpAny _ _ (setField (.ref it) 1 (rawInt ((i:Int)+1)) >>= _) _ _ s
 refine wpAny_bind (wpAny_setField ho hd (by simp) ?_)
 have hit':(s.heap.update it (Obj.mapFields (·.setIfInBounds 1 (rawInt ((i:Int)+1))))).IsKeyIter it d (i+1) kvs.length ep:=
  ⟨_,Heap.get?_update_self _ ho (Obj.isFreed_of_fields (Obj.data_mapFields hd _)),(Obj.cls_mapFields ..).trans hc,by rw[Obj.data_mapFields hd];simp [rawInt]⟩
 refine wpAny_bind (wpAny_holding ?_)
 refine wpAny_bind (wpAny_isOneOf_keyiter (s:={ s with heap:=s.heap.update it (Obj.mapFields (·.setIfInBounds 1 (rawInt ((i:Int)+1)))) }) hit'.typeIs ?_)
 show wpAny _ _ (pure es[i].key) _ _ _
 exact wpAny_pure (wpAny_pure ⟨_,rfl,wpAny_pure (hQ _ _ hkey hit' (Heap.SameBut.update ..))⟩)
theorem wpAny_pyNext_dictE_end {it d:Addr} {i ep:Nat} {kvs:List (Value × Value)} {Q:Option Value->Shared->Prop} (hh:A.handled=none) (hit:s.heap.IsKeyIter it d i kvs.length ep)
  (hm:s.heap.DictE d kvs ep) (hx:kvs[i]?=none)
  (hQ : ∀ h',Heap.ExtBut it s.heap h'->Q none { s with heap:=h' }):wpAny (model prog w) A (pyNext (.ref it)) Q E s:= by
 obtain ⟨o,ho,hc,hd⟩:=id hit
 obtain ⟨od,es,hod,hcd,hdd,hp⟩:=id hm
 unfold pyNext
 refine wpAny_bind (wpAny_attempt (wpAny_callSpecial?_slot (name:=Str.ofString "__next__") hit.typeIs F.slot_dict_keyiterator_next
  (wpAny_call_entry F.slot_dict_keyiterator_next hit.typeIs F.entry_dict_keyiterator_next ?_ (F.args_dict_keyiterator_next_1 _))))
 refine wpAny_bind (wpAny_pure ?_)
 refine wpAny_bind ?_
 refine wpAny_bind ?_
 first | refine wpAny_bind (wpAny_typeNameOfWhole_keyiter hit.typeIs (wpAny_pure ?_)) | refine wpAny_bind (wpAny_typeNameOf_keyiter hit.typeIs (wpAny_pure ?_))
 refine wpAny_bind (wpAny_fieldsOf ho hd ?_)
 have hown : Builtin.Dict_items.ownsTuple "dict_keyiterator" = false:=by decide
 simp only [hown,Bool.false_eq_true,if_false]
 show wpAny _ _ (if (Value.ref d==Value.none)=true then _ else _) _ _ s
 rw[if_neg (show ¬ ((Value.ref d==Value.none)=true) from Bool.false_ne_true)]
 refine wpAny_bind (wpAny_pure ?_)
 refine wpAny_bind (wpAny_dictEntries hod hdd ?_)
 have hsz:es.size=kvs.length:=by rw[<- hp];simp
 rw[if_neg (by rw[hsz];simp)]
 refine wpAny_bind (wpAny_pure ?_)
 refine wpAny_bind (wpAny_dictEpoch hod hdd ?_)
 rw[if_neg (by simp)]
 refine wpAny_pure ?_
 have hge:es.size<=i:=by rw[hsz];simpa using hx
 simp only [show ¬ ((i:Int)<0) from by omega,if_false,Int.toNat_natCast,Array.getElem?_eq_none hge]
 refine wpAny_bind ?_
 first | refine wpAny_bind (wpAny_typeNameOfWhole_keyiter hit.typeIs (wpAny_pure ?_)) | refine wpAny_bind (wpAny_typeNameOf_keyiter hit.typeIs (wpAny_pure ?_))
 show wpAny _ _ (setField (.ref it) 0 .none >>= _) _ _ s
 refine wpAny_bind (wpAny_setField ho hd (by simp) ?_)
 show wpAny _ _ (newExc (.type "StopIteration") [] >>= _) _ _ _
 refine wpAny_bind ?_
 simp only [newExc,newTuple]
 refine wpAny_bind (wpAny_newObj_type ?_ (by size_fits))
 refine wpAny_bind (m:=firstArgMember _ _) (wpAny_of_eq (a:=Value.none) (by first | rfl | (simp only [firstArgMember];rfl)) ?_)
 refine wpAny_newObj_type ?_ (by size_fits)
 simp only [raiseNew]
 refine wpAny_bind (wpAny_handled ?_)
 rw[show A.in1.handled=none from hh]
 refine wpAny_bind (wpAny_pure (wpAny_throw ?_))
 refine wpAny_bind (wpAny_isInstance (T:="StopIteration") (b:=true) ⟨_,Heap.get?_push_size _ rfl,rfl⟩ isSubtype_stop ?_)
 exact wpAny_pure (hQ _ (((Heap.SameBut.update ..).extBut.push _).push _))
end
end PySem
namespace PySem.W
open PySem PySem.Calls PyProof.Rows PyProof.V PySem.Spec
section
variable {prog:Program} {w:World} {d r:Addr} {kvs:List (Value × Value)} {ep:Nat}
end
end PySem.W
namespace L2
open PySem PySem.Spec PyProof.Rows
section
variable {X:Cx} {K:PySem.W.Frag}
theorem Inv.dictT {pins:List (Addr × Obj)} {σ:St} {H:Hp} {s:Shared} {d:Addr} {kvs:List (List Key × V)} (I:Inv X pins σ H s) (h:H d=some (.dT kvs)) :
  kvs.length<=sizeLine/\(d==sysModules)=false /\ ∃ (ps:List Addr) (vs:List Value) (ep:Nat),Paired (fun (p:List Key × V) a=>H a=some (.tup (p.1.map kV))) kvs ps/\s.heap.DictE d ((ps.map Value.ref).zip vs) ep/\Vals (kvs.map (·.2)) vs:= by
 obtain ⟨z,lo,xs,r,o,es,ep,h1,h2,h3,h4,hnd⟩:=(show ObjOk X.prog X.w H s.heap d (.dT kvs) from I.hok d _ h)
 refine ⟨z,lo,xs.map (·.2.1),xs.map (·.2.2),ep,?_,⟨o,es,h1,h2,h3,?_⟩,?_⟩
 ·clear h h4 z hnd
  induction r with
  | nil=>exact .nil
  | cons q _ ih=>exact .cons q.2.1 ih
 ·rw[h4,List.map_map]
  clear h h4 z r hnd
  induction xs with
  | nil=>rfl
  | cons x xs ih=>rw[List.map_cons,ih];rfl
 ·clear h h4 z hnd
  induction r with
  | nil=>exact .nil
  | cons q _ ih=>exact .cons q.2.2 ih
end
end L2
namespace L2
open PySem PySem.Spec PyProof.Rows
inductive Dd where
 | non | bl (b:Bool) | int (i:Int) | str (x:Str) | lst (l:List Dd) | tup (l:List Dd)
mutual
def DAt (K:PySem.W.Frag) (H:Hp):Dd->V->Prop
 | .non,v=>v = .non
 | .bl b,v=>v = .bl b
 | .int i,v=>v = .int i
 | .str x,v=>v = .str x
 | .lst l,v=>∃ (a:Addr) (vs:List V),v = .ref a/\SqL K H a vs/\DAts K H l vs
 | .tup l,v=>∃ (a:Addr) (vs:List V),v = .ref a/\SqT K H a vs/\DAts K H l vs
def DAts (K:PySem.W.Frag) (H:Hp):List Dd->List V->Prop
 | [],vs=>vs=[]
 | d::l,vs=>∃ (v:V) (r:List V),vs=v::r/\DAt K H d v/\DAts K H l r
end
mutual
def eqD:Dd->Dd->Bool
 | .non,.non=>true
 | .bl a,.bl b=>a==b
 | .int a,.int b=>a==b
 | .str a,.str b=>a==b
 | .bl a,.int b=>(if a then 1 else 0)==b
 | .int a,.bl b=>a==(if b then 1 else 0)
 | .lst l,.lst m=>eqDs l m
 | .tup l,.tup m=>eqDs l m
 | _,_=>false
def eqDs:List Dd->List Dd->Bool
 | [],[]=>true
 | d::l,e::m=>eqD d e&&eqDs l m
 | _,_=>false
end
mutual
def depD:Dd->Nat
 | .lst l=>depDs l+1
 | .tup l=>depDs l+1
 | _=>0
def depDs:List Dd->Nat
 | []=>0
 | d::l=>max (depD d) (depDs l)
end
mutual
theorem eqD_refl : ∀ d:Dd,eqD d d=true
 | .non=>rfl
 | .bl b=>by simp [eqD]
 | .int i=>by simp [eqD]
 | .str x=>by simp [eqD]
 | .lst l=>by rw[eqD];exact eqDs_refl l
 | .tup l=>by rw[eqD];exact eqDs_refl l
theorem eqDs_refl : ∀ l:List Dd,eqDs l l=true
 | []=>rfl
 | d::l=>by rw[eqDs,eqD_refl d,eqDs_refl l];rfl
end
theorem DAts.length {K:PySem.W.Frag} {H:Hp} : ∀ {l:List Dd} {vs:List V},DAts K H l vs->vs.length=l.length
 | [],vs,h=>by rw[DAts] at h;rw[h];rfl
 | d::l,vs,h=>by
  rw[DAts] at h
  obtain ⟨v,r,rfl,_,h2⟩:=h
  rw[List.length_cons,List.length_cons,DAts.length h2]
theorem DAts.get {K:PySem.W.Frag} {H:Hp} : ∀ {l:List Dd} {vs:List V} {j:Nat},DAts K H l vs->j<l.length -> ∃ v,vs[j]?=some v/\DAt K H (l.getD j .non) v
 | [],vs,j,h,hj=>by simp at hj
 | d::l,vs,j,h,hj=>by
  rw[DAts] at h
  obtain ⟨v,r,rfl,h1,h2⟩:=h
  cases j with
  | zero=>exact ⟨v,rfl,h1⟩
  | succ j=>
   obtain ⟨v',e,h3⟩:=DAts.get h2 (by simpa using hj)
   exact ⟨v',by simpa using e,by simpa using h3⟩
theorem depD_get : ∀ {l:List Dd} {j:Nat},j<l.length->depD (l.getD j .non)<=depDs l
 | [],j,h=>by simp at h
 | d::l,0,h=>by rw[depDs];exact Nat.le_max_left _ _
 | d::l,j+1,h=>by
  rw[depDs]
  have:j<l.length:=by simpa using h
  exact Nat.le_trans (by simpa using depD_get this) (Nat.le_max_right _ _)
theorem eqDs_len : ∀ {l m:List Dd},l.length≠m.length->eqDs l m=false
 | [],[],h=>absurd rfl h
 | [],_::_,_=>rfl
 | _::_,[],_=>rfl
 | d::l,e::m,h=>by rw[eqDs,eqDs_len (by simpa using h)];simp
theorem eqDs_all : ∀ {l m:List Dd},l.length=m.length->(List.range l.length).all (fun j=>eqD (l.getD j .non) (m.getD j .non))=eqDs l m
 | [],[],_=>rfl
 | [],_::_,h=>by simp at h
 | _::_,[],h=>by simp at h
 | d::l,e::m,h=>by
  rw[eqDs,List.length_cons,List.range_succ_eq_map,List.all_cons,List.all_map,<- eqDs_all (l:=l) (m:=m) (by simpa using h)]
  rfl
section
variable {X:Cx} {K:PySem.W.Frag} {pins:List (Addr × Obj)} {σ:St} {H:Hp} {s:Shared}
mutual
theorem dat_uniq (I:Inv X pins σ H s) : ∀ (d e:Dd) (v:V),DAt X.K H d v->DAt X.K H e v->d=e
 | .non,e,v,h1,h2=>by
  rw[DAt] at h1;subst h1
  cases e <;> rw[DAt] at h2 <;> first | rfl | (cases h2;done) | (obtain ⟨_,_,z,_⟩:=h2;cases z)
 | .bl b,e,v,h1,h2=>by
  rw[DAt] at h1;subst h1
  cases e <;> rw[DAt] at h2 <;> first | (cases h2;rfl) | (cases h2;done) | (obtain ⟨_,_,z,_⟩:=h2;cases z)
 | .int i,e,v,h1,h2=>by
  rw[DAt] at h1;subst h1
  cases e <;> rw[DAt] at h2 <;> first | (cases h2;rfl) | (cases h2;done) | (obtain ⟨_,_,z,_⟩:=h2;cases z)
 | .str x,e,v,h1,h2=>by
  rw[DAt] at h1;subst h1
  cases e <;> rw[DAt] at h2 <;> first | (cases h2;rfl) | (cases h2;done) | (obtain ⟨_,_,z,_⟩:=h2;cases z)
 | .lst l,e,v,h1,h2=>by
  rw[DAt] at h1
  obtain ⟨a,vs,rfl,hS,hD⟩:=h1
  cases e with
  | lst m=>
   rw[DAt] at h2
   obtain ⟨b,ws,eb,hS2,hD2⟩:=h2
   cases eb
   have:=I.list_inj hS hS2
   subst this
   rw[dats_uniq I l m vs hD hD2]
  | tup m=>
   rw[DAt] at h2
   obtain ⟨b,ws,eb,hS2,hD2⟩:=h2
   cases eb
   obtain ⟨_,_,⟨o,n,e1,c1,_⟩,_⟩:=I.list hS
   obtain ⟨_,_,⟨o2,e2,c2,_⟩,_⟩:=I.tuple hS2
   rw[e1] at e2;cases e2
   rw[c1] at c2;exact absurd c2 (by decide)
  | _=>rw[DAt] at h2;cases h2
 | .tup l,e,v,h1,h2=>by
  rw[DAt] at h1
  obtain ⟨a,vs,rfl,hS,hD⟩:=h1
  cases e with
  | tup m=>
   rw[DAt] at h2
   obtain ⟨b,ws,eb,hS2,hD2⟩:=h2
   cases eb
   have:=I.tuple_inj hS hS2
   subst this
   rw[dats_uniq I l m vs hD hD2]
  | lst m=>
   rw[DAt] at h2
   obtain ⟨b,ws,eb,hS2,hD2⟩:=h2
   cases eb
   obtain ⟨_,_,⟨o,n,e1,c1,_⟩,_⟩:=I.list hS2
   obtain ⟨_,_,⟨o2,e2,c2,_⟩,_⟩:=I.tuple hS
   rw[e1] at e2;cases e2
   rw[c1] at c2;exact absurd c2 (by decide)
  | _=>rw[DAt] at h2;cases h2
theorem dats_uniq (I:Inv X pins σ H s) : ∀ (l m:List Dd) (vs:List V),DAts X.K H l vs->DAts X.K H m vs->l=m
 | [],m,vs,h1,h2=>by
  rw[DAts] at h1;subst h1
  cases m with
  | nil=>rfl
  | cons _ _=>rw[DAts] at h2;obtain ⟨_,_,z,_⟩:=h2;cases z
 | d::l,m,vs,h1,h2=>by
  rw[DAts] at h1
  obtain ⟨v,r,rfl,hd,hl⟩:=h1
  cases m with
  | nil=>rw[DAts] at h2;cases h2
  | cons e m=>
   rw[DAts] at h2
   obtain ⟨v',r',z,he,hm⟩:=h2
   cases z
   rw[dat_uniq I d e v hd he,dats_uniq I l m r hl hm]
end
theorem eqAt_D (I:Inv X pins σ H s) : ∀ (n:Nat) (d e:Dd) {A:Around} {v x:V} {u w:Value},depD d<=n->A.units+n<cLine->DAt X.K H d v->DAt X.K H e x->RelV v u->RelV x w->SeqAt.EqAt A s u w (eqD d e):= by
 intro n
 induction n with
 | zero=>
  intro d e A v x u w hn hu h1 h2 r1 r2
  have hu':A.units<cLine:=by omega
  cases d with
  | lst l=>rw[depD] at hn;omega
  | tup l=>rw[depD] at hn;omega
  | non=>
   rw[DAt] at h1;subst h1;cases r1
   cases e with
   | non=>rw[DAt] at h2;subst h2;cases r2;exact SeqAt.EqAt.same _
   | bl b=>rw[DAt] at h2;subst h2;cases r2;exact SeqAt.EqAt.none_bool b
   | int b=>rw[DAt] at h2;subst h2;obtain ⟨t,rfl⟩:=r2;exact SeqAt.EqAt.none_int b t
   | str b=>rw[DAt] at h2;subst h2;obtain ⟨t,rfl⟩:=r2;exact SeqAt.EqAt.none_str b t
   | lst m=>rw[DAt] at h2;obtain ⟨b,ws,rfl,hS,_⟩:=h2;cases r2;obtain ⟨_,_,p,_⟩:=I.list hS;exact SeqAt.EqAt.none_list p.isList hu'
   | tup m=>rw[DAt] at h2;obtain ⟨b,ws,rfl,hS,_⟩:=h2;cases r2;obtain ⟨_,_,p,_⟩:=I.tuple hS;exact SeqAt.EqAt.none_tuple p hu'
  | bl a=>
   rw[DAt] at h1;subst h1;cases r1
   cases e with
   | non=>rw[DAt] at h2;subst h2;cases r2;exact SeqAt.EqAt.bool_none a
   | bl b=>rw[DAt] at h2;subst h2;cases r2;exact SeqAt.EqAt.bool_bool a b
   | int b=>rw[DAt] at h2;subst h2;obtain ⟨t,rfl⟩:=r2;exact SeqAt.EqAt.bool_int a b t
   | str b=>rw[DAt] at h2;subst h2;obtain ⟨t,rfl⟩:=r2;exact SeqAt.EqAt.bool_str a b t
   | lst m=>rw[DAt] at h2;obtain ⟨b,ws,rfl,hS,_⟩:=h2;cases r2;obtain ⟨_,_,p,_⟩:=I.list hS;exact SeqAt.EqAt.bool_list a p.isList hu'
   | tup m=>rw[DAt] at h2;obtain ⟨b,ws,rfl,hS,_⟩:=h2;cases r2;obtain ⟨_,_,p,_⟩:=I.tuple hS;exact SeqAt.EqAt.bool_tuple a p hu'
  | int a=>
   rw[DAt] at h1;subst h1;obtain ⟨t',rfl⟩:=r1
   cases e with
   | non=>rw[DAt] at h2;subst h2;cases r2;exact SeqAt.EqAt.int_none a t'
   | bl b=>rw[DAt] at h2;subst h2;cases r2;exact SeqAt.EqAt.int_bool a t' b
   | int b=>rw[DAt] at h2;subst h2;obtain ⟨t,rfl⟩:=r2;exact SeqAt.EqAt.int_int a t' b t
   | str b=>rw[DAt] at h2;subst h2;obtain ⟨t,rfl⟩:=r2;exact SeqAt.EqAt.int_str a t' b t
   | lst m=>rw[DAt] at h2;obtain ⟨b,ws,rfl,hS,_⟩:=h2;cases r2;obtain ⟨_,_,p,_⟩:=I.list hS;exact SeqAt.EqAt.int_list a t' p.isList hu'
   | tup m=>rw[DAt] at h2;obtain ⟨b,ws,rfl,hS,_⟩:=h2;cases r2;obtain ⟨_,_,p,_⟩:=I.tuple hS;exact SeqAt.EqAt.int_tuple a t' p hu'
  | str a=>
   rw[DAt] at h1;subst h1;obtain ⟨t',rfl⟩:=r1
   cases e with
   | non=>rw[DAt] at h2;subst h2;cases r2;exact SeqAt.EqAt.str_none a t'
   | bl b=>rw[DAt] at h2;subst h2;cases r2;exact SeqAt.EqAt.str_bool a t' b
   | int b=>rw[DAt] at h2;subst h2;obtain ⟨t,rfl⟩:=r2;exact SeqAt.EqAt.str_int a t' b t
   | str b=>rw[DAt] at h2;subst h2;obtain ⟨t,rfl⟩:=r2;exact SeqAt.EqAt.str_str a t' b t
   | lst m=>rw[DAt] at h2;obtain ⟨b,ws,rfl,hS,_⟩:=h2;cases r2;obtain ⟨_,_,p,_⟩:=I.list hS;exact SeqAt.EqAt.str_list a t' p.isList hu'
   | tup m=>rw[DAt] at h2;obtain ⟨b,ws,rfl,hS,_⟩:=h2;cases r2;obtain ⟨_,_,p,_⟩:=I.tuple hS;exact SeqAt.EqAt.str_tuple a t' p hu'
 | succ n ih=>
  intro d e A v x u w hn hu h1 h2 r1 r2
  have hu':A.units<cLine:=by omega
  by_cases hd:depD d<=n
  ·exact ih d e hd (by omega) h1 h2 r1 r2
  cases d with
  | lst l=>
   have hdl:depDs l<=n:=by rw[depD] at hn;omega
   have h1':=h1
   rw[DAt] at h1
   obtain ⟨a,vs,rfl,hS,hD⟩:=h1
   cases r1
   obtain ⟨its,rv,p1,_⟩:=I.list hS
   cases e with
   | non=>rw[DAt] at h2;subst h2;cases r2;exact SeqAt.EqAt.list_none p1.isList hu'
   | bl b=>rw[DAt] at h2;subst h2;cases r2;exact SeqAt.EqAt.list_bool b p1.isList hu'
   | int b=>rw[DAt] at h2;subst h2;obtain ⟨t,rfl⟩:=r2;exact SeqAt.EqAt.list_int b t p1.isList hu'
   | str b=>rw[DAt] at h2;subst h2;obtain ⟨t,rfl⟩:=r2;exact SeqAt.EqAt.list_str b t p1.isList hu'
   | tup m=>rw[DAt] at h2;obtain ⟨b,ws,rfl,hS2,_⟩:=h2;cases r2;obtain ⟨_,_,p,_⟩:=I.tuple hS2;exact SeqAt.EqAt.list_tuple p1.isList p hu'
   | lst m=>
    have h2':=h2
    rw[DAt] at h2
    obtain ⟨b,ws,rfl,hS2,hD2⟩:=h2
    cases r2
    obtain ⟨its2,rv2,p2,_⟩:=I.list hS2
    by_cases eab:a=b
    ·subst eab
     rw[dat_uniq I _ _ _ h1' h2',eqD_refl]
     exact SeqAt.EqAt.same _
    ·refine SeqAt.EqAt.of_refs eab ?_
     have l1:its.toArray.size=l.length:=by rw[List.size_toArray,<- rv.length,hD.length]
     have l2:its2.toArray.size=m.length:=by rw[List.size_toArray,<- rv2.length,hD2.length]
     rw[eqD]
     by_cases hl:l.length=m.length
     ·have:=SeqAt.RcAt.lists (A:=A) (e:=fun j=>eqD (l.getD j .non) (m.getD j .non)) p1.isList p2.isList (by rw[l1,l2,hl]) hu' (fun j q1 q2=>by
       obtain ⟨v1,g1,d1⟩:=hD.get (j:=j) (by omega)
       obtain ⟨v2,g2,d2⟩:=hD2.get (j:=j) (by omega)
       obtain ⟨u1,e1,R1⟩:=rv.get g1
       obtain ⟨u2,e2,R2⟩:=rv2.get g2
       have E1:its.toArray[j]=u1:= by
        have:its.toArray[j]?=some u1:=by rw[List.getElem?_toArray];exact e1
        rw[Array.getElem?_eq_getElem q1] at this;exact Option.some.inj this
       have E2:its2.toArray[j]=u2:= by
        have:its2.toArray[j]?=some u2:=by rw[List.getElem?_toArray];exact e2
        rw[Array.getElem?_eq_getElem q2] at this;exact Option.some.inj this
       rw[E1,E2]
       exact ih _ _ (Nat.le_trans (depD_get (by omega)) hdl) (show A.units+1+n<cLine by omega) d1 d2 R1 R2)
      rw[l1,eqDs_all hl] at this
      exact this
     ·rw[eqDs_len hl]
      exact SeqAt.RcAt.lists_lengths p1.isList p2.isList (by rw[l1,l2];simpa using hl) hu'
  | tup l=>
   have hdl:depDs l<=n:=by rw[depD] at hn;omega
   have h1':=h1
   rw[DAt] at h1
   obtain ⟨a,vs,rfl,hS,hD⟩:=h1
   cases r1
   obtain ⟨its,rv,p1,_⟩:=I.tuple hS
   cases e with
   | non=>rw[DAt] at h2;subst h2;cases r2;exact SeqAt.EqAt.tuple_none p1 hu'
   | bl b=>rw[DAt] at h2;subst h2;cases r2;exact SeqAt.EqAt.tuple_bool b p1 hu'
   | int b=>rw[DAt] at h2;subst h2;obtain ⟨t,rfl⟩:=r2;exact SeqAt.EqAt.tuple_int b t p1 hu'
   | str b=>rw[DAt] at h2;subst h2;obtain ⟨t,rfl⟩:=r2;exact SeqAt.EqAt.tuple_str b t p1 hu'
   | lst m=>rw[DAt] at h2;obtain ⟨b,ws,rfl,hS2,_⟩:=h2;cases r2;obtain ⟨_,_,p,_⟩:=I.list hS2;exact SeqAt.EqAt.tuple_list p1 p.isList hu'
   | tup m=>
    have h2':=h2
    rw[DAt] at h2
    obtain ⟨b,ws,rfl,hS2,hD2⟩:=h2
    cases r2
    obtain ⟨its2,rv2,p2,_⟩:=I.tuple hS2
    by_cases eab:a=b
    ·subst eab
     rw[dat_uniq I _ _ _ h1' h2',eqD_refl]
     exact SeqAt.EqAt.same _
    ·refine SeqAt.EqAt.of_refs eab ?_
     have l1:its.toArray.size=l.length:=by rw[List.size_toArray,<- rv.length,hD.length]
     have l2:its2.toArray.size=m.length:=by rw[List.size_toArray,<- rv2.length,hD2.length]
     rw[eqD]
     have:=SeqAt.RcAt.tuples (A:=A) (e:=fun j=>eqD (l.getD j .non) (m.getD j .non)) p1 p2 hu' (fun j q1 q2=>by
      obtain ⟨v1,g1,d1⟩:=hD.get (j:=j) (by omega)
      obtain ⟨v2,g2,d2⟩:=hD2.get (j:=j) (by omega)
      obtain ⟨u1,e1,R1⟩:=rv.get g1
      obtain ⟨u2,e2,R2⟩:=rv2.get g2
      have E1:its.toArray[j]=u1:= by
       have:its.toArray[j]?=some u1:=by rw[List.getElem?_toArray];exact e1
       rw[Array.getElem?_eq_getElem q1] at this;exact Option.some.inj this
      have E2:its2.toArray[j]=u2:= by
       have:its2.toArray[j]?=some u2:=by rw[List.getElem?_toArray];exact e2
       rw[Array.getElem?_eq_getElem q2] at this;exact Option.some.inj this
      rw[E1,E2]
      exact ih _ _ (Nat.le_trans (depD_get (by omega)) hdl) (show A.units+1+n<cLine by omega) d1 d2 R1 R2)
     rw[l1,l2] at this
     by_cases hl:l.length=m.length
     ·rw[<- hl,Nat.min_self,eqDs_all hl,beq_self_eq_true,Bool.and_true] at this
      exact this
     ·rw[eqDs_len hl]
      rw[show (l.length==m.length)=false by simpa using hl,Bool.and_false] at this
      exact this
  | _=>exact absurd (show (0:Nat)<=n from Nat.zero_le _) hd
theorem rcAt_D (I:Inv X pins σ H s) {n:Nat} : ∀ (d e:Dd) {A:Around} {v x:V} {u w:Value},depD d<=n+1->A.units+(n+1)<cLine->DAt X.K H d v->DAt X.K H e x->RelV v u->RelV x w->SeqAt.RcAt A s u w (eqD d e):= by
 intro d e A v x u w hn hu h1 h2 r1 r2
 have hu':A.units<cLine:=by omega
 cases d with
 | non=>
  rw[DAt] at h1;subst h1;cases r1
  cases e with
  | non=>rw[DAt] at h2;subst h2;cases r2;exact SeqAt.RcAt.none_none
  | bl b=>rw[DAt] at h2;subst h2;cases r2;exact SeqAt.RcAt.none_bool b
  | int b=>rw[DAt] at h2;subst h2;obtain ⟨t,rfl⟩:=r2;exact SeqAt.RcAt.none_int b t
  | str b=>rw[DAt] at h2;subst h2;obtain ⟨t,rfl⟩:=r2;exact SeqAt.RcAt.none_str b t
  | lst m=>rw[DAt] at h2;obtain ⟨b,ws,rfl,hS2,_⟩:=h2;cases r2;obtain ⟨_,_,p2,_⟩:=I.list hS2;exact SeqAt.RcAt.none_list p2.isList hu'
  | tup m=>rw[DAt] at h2;obtain ⟨b,ws,rfl,hS2,_⟩:=h2;cases r2;obtain ⟨_,_,p2,_⟩:=I.tuple hS2;exact SeqAt.RcAt.none_tuple p2 hu'
 | bl a=>
  rw[DAt] at h1;subst h1;cases r1
  cases e with
  | non=>rw[DAt] at h2;subst h2;cases r2;exact SeqAt.RcAt.bool_none a
  | bl b=>rw[DAt] at h2;subst h2;cases r2;exact SeqAt.RcAt.bool_bool a b
  | int b=>rw[DAt] at h2;subst h2;obtain ⟨t,rfl⟩:=r2;exact SeqAt.RcAt.bool_int a b t
  | str b=>rw[DAt] at h2;subst h2;obtain ⟨t,rfl⟩:=r2;exact SeqAt.RcAt.bool_str a b t
  | lst m=>rw[DAt] at h2;obtain ⟨b,ws,rfl,hS2,_⟩:=h2;cases r2;obtain ⟨_,_,p2,_⟩:=I.list hS2;exact SeqAt.RcAt.bool_list a p2.isList hu'
  | tup m=>rw[DAt] at h2;obtain ⟨b,ws,rfl,hS2,_⟩:=h2;cases r2;obtain ⟨_,_,p2,_⟩:=I.tuple hS2;exact SeqAt.RcAt.bool_tuple a p2 hu'
 | int a=>
  rw[DAt] at h1;subst h1;obtain ⟨t',rfl⟩:=r1
  cases e with
  | non=>rw[DAt] at h2;subst h2;cases r2;exact SeqAt.RcAt.int_none a t'
  | bl b=>rw[DAt] at h2;subst h2;cases r2;exact SeqAt.RcAt.int_bool a t' b
  | int b=>rw[DAt] at h2;subst h2;obtain ⟨t,rfl⟩:=r2;exact SeqAt.RcAt.int_int a t' b t
  | str b=>rw[DAt] at h2;subst h2;obtain ⟨t,rfl⟩:=r2;exact SeqAt.RcAt.int_str a t' b t
  | lst m=>rw[DAt] at h2;obtain ⟨b,ws,rfl,hS2,_⟩:=h2;cases r2;obtain ⟨_,_,p2,_⟩:=I.list hS2;exact SeqAt.RcAt.int_list a t' p2.isList hu'
  | tup m=>rw[DAt] at h2;obtain ⟨b,ws,rfl,hS2,_⟩:=h2;cases r2;obtain ⟨_,_,p2,_⟩:=I.tuple hS2;exact SeqAt.RcAt.int_tuple a t' p2 hu'
 | str a=>
  rw[DAt] at h1;subst h1;obtain ⟨t',rfl⟩:=r1
  cases e with
  | non=>rw[DAt] at h2;subst h2;cases r2;exact SeqAt.RcAt.str_none a t'
  | bl b=>rw[DAt] at h2;subst h2;cases r2;exact SeqAt.RcAt.str_bool a t' b
  | int b=>rw[DAt] at h2;subst h2;obtain ⟨t,rfl⟩:=r2;exact SeqAt.RcAt.str_int a t' b t
  | str b=>rw[DAt] at h2;subst h2;obtain ⟨t,rfl⟩:=r2;exact SeqAt.RcAt.str_str a t' b t
  | lst m=>rw[DAt] at h2;obtain ⟨b,ws,rfl,hS2,_⟩:=h2;cases r2;obtain ⟨_,_,p2,_⟩:=I.list hS2;exact SeqAt.RcAt.str_list a t' p2.isList hu'
  | tup m=>rw[DAt] at h2;obtain ⟨b,ws,rfl,hS2,_⟩:=h2;cases r2;obtain ⟨_,_,p2,_⟩:=I.tuple hS2;exact SeqAt.RcAt.str_tuple a t' p2 hu'
 | lst l=>
  have hdl:depDs l<=n:=by rw[depD] at hn;omega
  have h1':=h1
  rw[DAt] at h1
  obtain ⟨a,vs,rfl,hS,hD⟩:=h1
  cases r1
  obtain ⟨its,rv,p1,_⟩:=I.list hS
  cases e with
  | non=>rw[DAt] at h2;subst h2;cases r2;exact SeqAt.RcAt.list_none p1.isList hu'
  | bl b=>rw[DAt] at h2;subst h2;cases r2;exact SeqAt.RcAt.list_bool b p1.isList hu'
  | int b=>rw[DAt] at h2;subst h2;obtain ⟨t,rfl⟩:=r2;exact SeqAt.RcAt.list_int b t p1.isList hu'
  | str b=>rw[DAt] at h2;subst h2;obtain ⟨t,rfl⟩:=r2;exact SeqAt.RcAt.list_str b t p1.isList hu'
  | lst m=>
   have h2':=h2
   rw[DAt] at h2
   obtain ⟨b,ws,rfl,hS2,hD2⟩:=h2
   cases r2
   obtain ⟨its2,rv2,p2,_⟩:=I.list hS2
   have l1:its.toArray.size=l.length:=by rw[List.size_toArray,<- rv.length,hD.length]
   have l2:its2.toArray.size=m.length:=by rw[List.size_toArray,<- rv2.length,hD2.length]
   rw[eqD]
   by_cases hl:l.length=m.length
   ·have:=SeqAt.RcAt.lists (A:=A) (e:=fun j=>eqD (l.getD j .non) (m.getD j .non)) p1.isList p2.isList (by rw[l1,l2,hl]) hu' (fun j q1 q2=>by
    obtain ⟨v1,g1,d1⟩:=hD.get (j:=j) (by omega)
    obtain ⟨v2,g2,d2⟩:=hD2.get (j:=j) (by omega)
    obtain ⟨u1,e1,R1⟩:=rv.get g1
    obtain ⟨u2,e2,R2⟩:=rv2.get g2
    have E1:its.toArray[j]=u1:= by
     have:its.toArray[j]?=some u1:=by rw[List.getElem?_toArray];exact e1
     rw[Array.getElem?_eq_getElem q1] at this;exact Option.some.inj this
    have E2:its2.toArray[j]=u2:= by
     have:its2.toArray[j]?=some u2:=by rw[List.getElem?_toArray];exact e2
     rw[Array.getElem?_eq_getElem q2] at this;exact Option.some.inj this
    rw[E1,E2]
    exact eqAt_D I n _ _ (Nat.le_trans (depD_get (by omega)) hdl) (show A.units+1+n<cLine by omega) d1 d2 R1 R2)
    rw[l1,eqDs_all hl] at this
    exact this
   ·rw[eqDs_len hl]
    exact SeqAt.RcAt.lists_lengths p1.isList p2.isList (by rw[l1,l2];simpa using hl) hu'
  | tup m=>rw[DAt] at h2;obtain ⟨b,ws,rfl,hS2,_⟩:=h2;cases r2;obtain ⟨_,_,p2,_⟩:=I.tuple hS2;exact SeqAt.RcAt.list_tuple p1.isList p2 hu'
 | tup l=>
  have hdl:depDs l<=n:=by rw[depD] at hn;omega
  have h1':=h1
  rw[DAt] at h1
  obtain ⟨a,vs,rfl,hS,hD⟩:=h1
  cases r1
  obtain ⟨its,rv,p1,_⟩:=I.tuple hS
  cases e with
  | non=>rw[DAt] at h2;subst h2;cases r2;exact SeqAt.RcAt.tuple_none p1 hu'
  | bl b=>rw[DAt] at h2;subst h2;cases r2;exact SeqAt.RcAt.tuple_bool b p1 hu'
  | int b=>rw[DAt] at h2;subst h2;obtain ⟨t,rfl⟩:=r2;exact SeqAt.RcAt.tuple_int b t p1 hu'
  | str b=>rw[DAt] at h2;subst h2;obtain ⟨t,rfl⟩:=r2;exact SeqAt.RcAt.tuple_str b t p1 hu'
  | lst m=>rw[DAt] at h2;obtain ⟨b,ws,rfl,hS2,_⟩:=h2;cases r2;obtain ⟨_,_,p2,_⟩:=I.list hS2;exact SeqAt.RcAt.tuple_list p1 p2.isList hu'
  | tup m=>
   have h2':=h2
   rw[DAt] at h2
   obtain ⟨b,ws,rfl,hS2,hD2⟩:=h2
   cases r2
   obtain ⟨its2,rv2,p2,_⟩:=I.tuple hS2
   have l1:its.toArray.size=l.length:=by rw[List.size_toArray,<- rv.length,hD.length]
   have l2:its2.toArray.size=m.length:=by rw[List.size_toArray,<- rv2.length,hD2.length]
   rw[eqD]
   have:=SeqAt.RcAt.tuples (A:=A) (e:=fun j=>eqD (l.getD j .non) (m.getD j .non)) p1 p2 hu' (fun j q1 q2=>by
    obtain ⟨v1,g1,d1⟩:=hD.get (j:=j) (by omega)
    obtain ⟨v2,g2,d2⟩:=hD2.get (j:=j) (by omega)
    obtain ⟨u1,e1,R1⟩:=rv.get g1
    obtain ⟨u2,e2,R2⟩:=rv2.get g2
    have E1:its.toArray[j]=u1:= by
     have:its.toArray[j]?=some u1:=by rw[List.getElem?_toArray];exact e1
     rw[Array.getElem?_eq_getElem q1] at this;exact Option.some.inj this
    have E2:its2.toArray[j]=u2:= by
     have:its2.toArray[j]?=some u2:=by rw[List.getElem?_toArray];exact e2
     rw[Array.getElem?_eq_getElem q2] at this;exact Option.some.inj this
    rw[E1,E2]
    exact eqAt_D I n _ _ (Nat.le_trans (depD_get (by omega)) hdl) (show A.units+1+n<cLine by omega) d1 d2 R1 R2)
   rw[l1,l2] at this
   by_cases hl:l.length=m.length
   ·rw[<- hl,Nat.min_self,eqDs_all hl,beq_self_eq_true,Bool.and_true] at this
    exact this
   ·rw[eqDs_len hl]
    rw[show (l.length==m.length)=false by simpa using hl,Bool.and_false] at this
    exact this
def rEqD (K:PySem.W.Frag) (g:Bool->V):R2:=fun x y H Q=>∃ (d e:Dd),DAt K H d x/\DAt K H e y/\depD d<=30/\Q (g (eqD d e)) H
theorem op_eqD (hu:X.A.units+40<cLine) (h:X.K=K:=by rfl):OpR X (compareOp .Eq) (rEqD K V.bl):= by
 subst h
 intro pins s σ H x y v u Q I rx ry h
 obtain ⟨d,e,h1,h2,hd,q⟩:=h
 exact rcAt_D I (n:=30) d e (by omega) (by omega) h1 h2 rx ry _ _ _ _ ⟨.bl _,H,I,rfl,q⟩
theorem hu40 {A:Around} {k:Nat} (hr:Room k A):A.units+40<cLine:=Nat.lt_of_le_of_lt (Nat.add_le_add_left (by decide:40<=64) _) hr.units
end
end L2
namespace L2
open PySem PySem.Spec PyProof.Rows
section
variable {X:Cx} {K:PySem.W.Frag}
end
end L2
namespace L2
open PySem
theorem paired_getM {α β:Type} {F:α->β->Prop} : ∀ {l1:List α} {l2:List β} {j:Nat} {a:α},Paired F l1 l2->l1[j]?=some a -> ∃ b,F a b/\l2[j]?=some b:= by
 intro l1 l2 j a h e
 induction h generalizing j with
 | nil=>simp at e
 | cons r t ih=>
  cases j with
  | zero=>simp at e;subst e;exact ⟨_,r,rfl⟩
  | succ j=>obtain ⟨b,q,e2⟩:=ih (by simpa using e);exact ⟨b,q,by simpa using e2⟩
end L2
namespace L2
open PySem PySem.Spec PyProof.Rows
open PySem.StrLaws (occBody occ_eq subAt_one partsFrom partsBetween_eq strSub_toList)
section
variable {X:Cx} {K:PySem.W.Frag}
end
end L2
namespace L2
open PySem
end L2
namespace L2
open PySem PySem.Spec PyProof.Rows
section
variable {X:Cx} {K:PySem.W.Frag}
end
end L2
namespace L2
open PySem
def neL (L:List (List Int)):List (List Int):=L.filter fun l=>decide (0<l.length)
section
variable {ws F:List Int} (hw:isWay ws=true) (hH:IsH (arW ws) (crW ws) (fresh 0 ws).toNat F)
include hw hH in
def SJ (ws F:List Int) (h:Int) (m:Nat) (f:List (List Int)) (g:List Int):Prop:=
 ∃ ks:List Nat,neL f=ks.map (fun k:Nat=>lotL ws (k:Int) ws.length)/\ks.Nodup/\(∀ k,k ∈ ks ↔ k<(fresh 0 ws).toNat/\F.getD k 0=h/\hdL ws k<tlL ws k/\tlL ws k+1<(m:Int)) /\
  ((∃ k,k<(fresh 0 ws).toNat/\F.getD k 0=h/\hdL ws k<tlL ws k/\hdL ws k+1<=(m:Int)/\(m:Int)<=tlL ws k+1/\g=lotL ws (k:Int) m)\/((∀ k,k<(fresh 0 ws).toNat->F.getD k 0=h->hdL ws k<tlL ws k -> ¬ (hdL ws k+1<=(m:Int)/\(m:Int)<=tlL ws k+1))/\g=[]))
include hw hH in
include hw hH in
include hw hH in
include hw hH in
end
end L2
namespace L2
open PySem PySem.Spec PyProof.Rows
theorem st_tuple_set : isSubtype (.type "tuple") (.type "set") = pure false:=by rw[isSubtype_type]; kernel_rfl
theorem st_tuple_frozenset : isSubtype (.type "tuple") (.type "frozenset") = pure false:=by rw[isSubtype_type]; kernel_rfl
section
variable {prog:Program} {w:World} {A:Around} {E:Value->Shared->Prop} {s:Shared}
set_option maxHeartbeats 3200000 in
theorem call_set_tup {l:Addr} {items:Array Value} {ns:List Int} {Q:Value->Shared->Prop}
  (hh:A.handled=none) (hl:s.heap.IsTuple l items) (hi:PyProof.Rows.IntsAre items.toList ns) (hb:items.size+1<scanBound)
  (h : ∀ (h':Heap) (tk:Nat),h'.SetOf (intKind prog w) s.heap.objs.size (fun k'=>(PyProof.Rows.firstMet (fun i=>ns.getD i 0) items.size).any (· == k')) (PyProof.Rows.firstMet (fun i=>ns.getD i 0) items.size).length ->
   (∀ b o,b<s.heap.objs.size->s.heap.get? b=some o->h'.get? b=some o)->Q (.ref s.heap.objs.size) { s with heap:=h',toks:=tk }) :
  wpAny (model prog w) A (call (.type "set") [.ref l]) Q E s:= by
 obtain ⟨c,tl,hmro⟩:=F.called_set.mro
 have hmade:=F.called_set.made
 have hsub:=F.called_set.sub
 refine wpAny_call (codeAny_of_tree ?_)
 show wpAny _ _ (callAny (.type "set") _) _ _ _
 refine wpAny_pure ⟨Code.quiet_builtin _ (by decide +kernel),codeAny_builtin F.entry_type_call ?_⟩
 rw[Around.under_plain (weight_type_call_type "set" [.ref l] []) rfl]
 have h1:=F.called_set.notType
 have h2:=F.called_set.canCreate
 have hct:=F.typeCall_set_1 (.ref l)
 repeat (any_goals (first | assumption | wp_step))
 refine codeAny_mono (code_set_new_1 (.ref l) (E:=E) (Q₁:=fun obj s₁=>∃ led : Bool,obj = .ref s.heap.objs.size /\ s₁ = { s with heap:=s.heap.push { cls:=.type "set",dict:=none,data:=.set #[] 0 (.fresh 0 0 led) } }) fun led=>⟨led,rfl,rfl⟩) fun r s₁ hr=>?_
 cases r with
 | error e=>exact hr
 | ok fl=>
  cases fl with
  | ret obj=>
   obtain ⟨led,rfl,rfl⟩:=hr
   have hS : (s.heap.push { cls:=.type "set",dict:=none,data:=.set #[] 0 (.fresh 0 0 led) }).get? s.heap.objs.size = some { cls:=.type "set",dict:=none,data:=.set #[] 0 (.fresh 0 0 led) }:=Heap.get?_push_size _ rfl
   have hT : Shared.TypeIs { s with heap:=s.heap.push { cls:=.type "set",dict:=none,data:=.set #[] 0 (.fresh 0 0 led) } } (.ref s.heap.objs.size) "set":=⟨_,hS,rfl⟩
   have hli:=F.called_set.init.lookup
   have hbi:=F.called_set.init.bind (.ref s.heap.objs.size)
   repeat (any_goals (first | assumption | wp_step))
   refine codeAny_mono (codeAny_call_builtin (R:=wants (fun r s₂=>r = .none /\ ∃ h' tk,s₂={ s with heap:=h',toks:=tk } /\
     h'.SetOf (intKind prog w) s.heap.objs.size (fun k'=>(PyProof.Rows.firstMet (fun i=>ns.getD i 0) items.size).any (· == k')) (PyProof.Rows.firstMet (fun i=>ns.getD i 0) items.size).length /\
     (∀ b o,b<s.heap.objs.size->s.heap.get? b=some o->h'.get? b=some o)) E) F.called_set.init.plain F.entry_set_init (check_set_init_1 hT ?_)) fun r₂ s₂ hr₂=>?_
   ·obtain ⟨ol,hol,hcl,nl,hdl⟩:=hl
    obtain ⟨ocls,odict,odata,oslots⟩:=ol
    simp only at hcl hdl
    subst hcl;subst hdl
    have hol' : (s.heap.push { cls:=.type "set",dict:=none,data:=.set #[] 0 (.fresh 0 0 led) }).get? l = some { cls:=.type "tuple",dict:=odict,data:=.seq items nl,slots:=oslots }:=Heap.get?_push_of_some _ hol
    have hsls:=st_tuple_set
    have hslf:=st_tuple_frozenset
    have hne : (Value.type "tuple" == Value.type "dict") = false:=by decide
    have hl1 : (s.heap.push { cls:=.type "set",dict:=none,data:=.set #[] 0 (.fresh 0 0 led) }).IsTuple l items:=⟨_,hol',rfl,nl,rfl⟩
    unfold Builtin.«set.__init__» noKeywords Builtin.Frozenset.updateFrom
    generalize hPI:pyIter=PI
    wp_walk
    subst hPI
    refine wpAny_pyIter_tuple hl1 ?_
    refine wpAny_bind (wpAny_runValue ?_)
    have hlS:l<s.heap.objs.size:=Heap.lt_size hol
    have hh3:A.in1.in1.in1.handled=none:=by simp [hh]
    have hneI : l ≠ (s.heap.push { cls:=.type "set",dict:=none,data:=.set #[] 0 (.fresh 0 0 led) }).objs.size:= by
     rw[Heap.size_push];exact Nat.ne_of_lt (Nat.lt_succ_of_lt hlS)
    have hSf : s.heap.objs.size ∉ [(s.heap.push { cls:=.type "set",dict:=none,data:=.set #[] 0 (.fresh 0 0 led) }).objs.size,l]:= by
     rw[Heap.size_push];simp only [List.mem_cons,List.mem_singleton,List.not_mem_nil,or_false,not_or]
     exact ⟨Nat.ne_of_lt (Nat.lt_succ_self _),Nat.ne_of_gt hlS⟩
    have hval : ∀ (i:Nat) (v:Value),items[i]?=some v -> ∃ t,v = .int ((fun i=>ns.getD i 0) i) t:=fun i v hv=>
     PyProof.Rows.IntsAre.int_at hi i v (by rw[Array.getElem?_toList];exact hv)
    refine PyProof.Rows.codeAny_set_update_loopS ((Walks.tuple hh3 _ l hneI items).toS) s.heap.objs.size
     hSf (fun i=>ns.getD i 0) hval hb (items.size-0) 0 _ (by omega) (Nat.zero_le _)
     ⟨⟨_,Heap.get?_push_size _ rfl,rfl,rfl⟩,(hl1.push _)⟩ ?hS0 ?hR
    case hS0=>
     have hget : ((s.heap.push { cls:=.type "set",dict:=none,data:=.set #[] 0 (.fresh 0 0 led) }).push { cls:=.type "tuple_iterator",data:=.fields #[.ref l,.int 0 0] }).get? s.heap.objs.size
       = some { cls:=.type "set",dict:=none,data:=.set #[] 0 (.fresh 0 0 led) }:=Heap.get?_push_of_some _ hS
     exact PyProof.Rows.SetOf_congr ((PyProof.Rows.setObjOf_fresh (knd:=intKind prog w) led).setOf hget (by unfold scanBound;omega)) (fun _=>rfl) rfl
    case hR=>
     intro s' hm hS'
     obtain ⟨h',g',d',tk',os'⟩:=s'
     have eg:g'=s.gens:=hm.gens
     have ed:d'=s.drawn:=hm.drawn
     have eo:os'=s.os:=hm.os
     subst eg;subst ed;subst eo
     show wpAny _ _ _ _ _ _
     refine wpAny_pure ?_
     show wpAny _ _ (ret Value.none) _ _ _
     refine wpAny_pure ⟨rfl,h',tk',rfl,hS',fun b o hb e=>?_⟩
     have hb1:b≠s.heap.objs.size:=Nat.ne_of_lt hb
     have hb2 : b ≠ (s.heap.push { cls:=.type "set",dict:=none,data:=.set #[] 0 (.fresh 0 0 led) }).objs.size:= by
      rw[Heap.size_push];exact Nat.ne_of_lt (Nat.lt_succ_of_lt hb)
     exact hm.heap b o (by simp only [List.mem_cons,List.mem_singleton,List.not_mem_nil,or_false,not_or];exact ⟨hb1,hb2⟩) (Heap.get?_push_of_some _ (Heap.get?_push_of_some _ e))
   ·cases r₂ with
    | error e=>exact hr₂
    | ok fl₂=>
     cases fl₂ with
     | ret r=>
      obtain ⟨rfl,h',tk,rfl,hS',hk'⟩:=hr₂
      repeat (any_goals (first | assumption | wp_step))
      exact h _ _ hS' hk'
     | _=>exact hr₂.elim
  | _=>exact hr.elim
end
section
variable {X:Cx} {K:PySem.W.Frag}
theorem kc_setT (hc : X.calm = true:=by rfl) (h : X.K = K:=by rfl) : CallR X (.type "set") (fun xs H Q=>∃ (a : Addr) (ns : List Int),xs = [.ref a] /\ SqT K H a (ns.map V.int) /\ ns.length <= 1000 /\
  ∀ (p:Addr) (S:Int->Bool),H p=none->Q (.ref p) (upd H p (.set S (firstMet (fun i=>ns.getD i 0) ns.length).length))):= by
 subst h
 intro pins s σ H xs us Q I r h
 obtain ⟨a,ns,rfl,ha,hl,q⟩:=h
 obtain ⟨u,rfl,ru⟩:=vals1 r
 cases ru
 obtain ⟨its,r1,p1,_⟩:=I.tuple ha
 have l1:its.toArray.size=ns.length:=by rw[List.size_toArray,<- r1.length,ltm]
 refine call_set_tup (items:=its.toArray) (ns:=ns) (I.ok.hd hc) p1 (intsAre_of r1) (by rw[l1];unfold scanBound;omega) fun h' tk hS hk=>?_
 rw[l1] at hS
 refine ⟨.ref s.heap.objs.size,_,I.laid (t':=tk) (o:=.set _ _) (fun b o e=>hk b o (Heap.lt_size e) e) (Nat.le_refl _) hS,rfl,q _ _ (I.hok.fresh (Nat.le_refl _))⟩
end
end L2
namespace L2
open PySem PySem.Spec PyProof.Rows
section
variable {X:Cx}
theorem kc_lenS : CallR X (.builtin "len") (fun xs H Q=>∃ (a : Addr) (S : Int -> Bool) (n : Nat),xs = [.ref a] /\ H a = some (.set S n) /\ Q (.int n) H):= by
 intro pins s σ H xs us Q I r h
 obtain ⟨a,S,n,rfl,ha,q⟩:=h
 obtain ⟨u,rfl,ru⟩:=vals1 r
 cases ru
 obtain ⟨o,es,ep,t,ho,hex,hd,_,_,hb,hf,hn⟩:=(show s.heap.SetOf (intKind X.prog X.w) a S n from I.hok a _ ha)
 have hb4:es.size<4096:=by unfold scanBound at hb;omega
 refine call_len_set ho hex hd hf (by omega) ?_
 rw[hn]
 exact ⟨.int n,H,I.tok _,⟨_,rfl⟩,q⟩
end
theorem firstMet_seen (ns:List Int) : ∀ n,n<=ns.length->firstMet (fun i=>ns.getD i 0) n=seen (ns.take n)
 | 0,_=>rfl
 | n+1,h=>by
  have hn:n<ns.length:=h
  rw[firstMet_succ,firstMet_seen ns n (by omega),take_snoc (List.getElem?_eq_getElem hn),seen_snoc,List.getD_eq_getElem?_getD,List.getElem?_eq_getElem hn]
  unfold step_dedup seenP
  show (if (seen (ns.take n)).any (· == ns[n])=true then _ else _)=_
  by_cases e:ns[n] ∈ seen (ns.take n)
  ·rw[if_pos e,if_pos (List.any_eq_true.mpr ⟨_,e,by simp⟩)]
  ·rw[if_neg e,if_neg (fun z=>by obtain ⟨y,hy,q⟩:=List.any_eq_true.mp z;exact e (by rw[<- (show y=ns[n] by simpa using q)];exact hy))];rfl
end L2
namespace L2
open PySem PySem.Spec PyProof.Rows
section
variable {X:Cx} {K:PySem.W.Frag}
end
end L2
namespace L2
open PySem PySem.Spec PyProof.Rows
theorem if_dec {c:TT} {t u:TS} {D:Ends} {σ:St} {H:Hp} (b:Bool) (hc : ∀ N:Bool->Hp->Prop,N b H->c σ H N) (ht:b=true->t D σ H) (hu:b=false->u D σ H):tIfS c t u D σ H:= by
 refine hc _ ?_
 cases b
 ·exact iteF (hu rfl)
 ·exact iteT (ht rfl)
theorem seq_a {te:TE} {i:Nat} {B:TS} {D:Ends} {σ:St} {H:Hp} (h:te σ H fun x H1=>B D (σ.set i (some x)) H1):tSeq (tAsg te (gName i)) B D σ H:=h
theorem seq_by2 {A B:TS} {D:Ends} {σ:St} {H:Hp} (P:St->Hp->Prop) (hA : ∀ N:St->Hp->Prop,(∀ σ H,P σ H->N σ H)->A { D with nx:=N } σ H) (hB : ∀ σ H,P σ H->B D σ H):tSeq A B D σ H:=hA _ hB
end L2
namespace L2
open PySem PySem.Spec PyProof.Rows
structure CalM (P:Program) (w:World) (K:PySem.W.Frag) (mg:Str->Option Value) (base:Heap) (C:Addr) (k:Nat) (m:Str) (sp:Sp):Prop where
 ex : ∃ f fd ps,FnOk P w K mg base CX0 k f fd ps sp/\Meth K C m f/\Binds K fd ps []
structure CalK (P:Program) (w:World) (K:PySem.W.Frag) (mg:Str->Option Value) (base:Heap) (C:Addr) (k:Nat) (x:Str) (sp:Sp):Prop where
 ex : ∃ f fd ps,FnOk P w K mg base CX0 k f fd ps sp/\Mk K C f/\mg x=some (.ref C)/\Binds K fd ps []
section
variable {X:Cx} {k:Nat} {C:Addr} {x m:Str} {sp:Sp} {E:XK} {e o:Expr} {es:List Expr} {ta:TE} {t:TA} {p pos apos:Pos}
theorem pe_calM {pl:Sem Bool} (c:CalM X.prog X.w X.K X.mg X.base C k m sp) (cl:Cls X.K C) (hr:Room k X.A) (he:PE X o ta) (ha:PA X (e::es) t)
  (hst:starEach (e::es) X.env=(false,eval e X.env)::starEach es X.env:=by rfl) (hpl:(backTo pos (starEach es X.env)).any (·.1)=false:=by rfl)
  (ht:eval (.Call (.Attribute o m apos) (e::es) [] pos) X.env=(do
   let ov <- eval o X.env
   standAt apos.atName
   let (f,first) <- holding [ov] (getMethod ov m pl)
   callWith pos f first (backTo pos (starEach (e::es) X.env)) (backToKw pos (keywordEach [] X.env))):=by rfl) :
  PE X (.Call (.Attribute o m apos) (e::es) [] pos) (tMeth C m sp [] E0 ta t):= by
 obtain ⟨f,fd,ps,F,hm,hb⟩:=c.ex
 exact pe_meth (pl:=pl) he cl hm F hr hb .nil pass0 ha hst hpl ht
theorem pe_calM0 {pl:Sem Bool} (c:CalM X.prog X.w X.K X.mg X.base C k m sp) (cl:Cls X.K C) (hr:Room k X.A) (he:PE X o ta)
  (ht:eval (.Call (.Attribute o m apos) [] [] pos) X.env=(do
   let ov <- eval o X.env
   standAt apos.atName
   let (f,first) <- holding [ov] (getMethod ov m pl)
   callWith pos f first (backTo pos (starEach [] X.env)) (backToKw pos (keywordEach [] X.env))):=by rfl) :
  PE X (.Call (.Attribute o m apos) [] [] pos) (tMeth C m sp [] E0 ta tNil):= by
 obtain ⟨f,fd,ps,F,hm,hb⟩:=c.ex
 exact pe_meth0 (pl:=pl) he cl hm F hr hb .nil pass0 ht
theorem pe_calK (c : CalK X.prog X.w X.K X.mg X.base C k x sp) (hr : Room (k + 1) X.A) (hg : Gl X x) (ha : PA X (e :: es) t) (hdb : (x == ("__debug__" : Str)) = false:=by decide)
  (he:starEach (e::es) X.env=(false,eval e X.env)::starEach es X.env:=by rfl) (hpl:(backTo pos (starEach es X.env)).any (·.1)=false:=by rfl) :
  PE X (.Call (.Name x p) (e::es) [] pos) (tMake C sp [] E0 t):= by
 obtain ⟨f,fd,ps,F,M,hm,hb⟩:=c.ex
 exact pe_make M F hr hg hm hb .nil pass0 ha hdb he hpl
end
end L2
namespace L2
open PySem PySem.Spec PyProof.Rows
section
variable {X:Cx} {K:PySem.W.Frag} {tg:Expr}
theorem kc_intB : CallR X (.type "int") (fun xs H Q=>∃ b : Bool,xs = [.bl b] /\ Q (.int (if b then 1 else 0)) H):= by
 intro pins s σ H xs us Q I r h
 obtain ⟨b,rfl,q⟩:=h
 obtain ⟨u,rfl,ru⟩:=vals1 r
 cases ru
 exact call_int_bool ⟨.int (if b then 1 else 0),H,I.tok _,⟨_,rfl⟩,q⟩
end
end L2
namespace L2
open PySem PySem.Spec PyProof.Rows
section
variable {prog:Program} {w:World} {A:Around} {R:Result->Shared->Prop} {I:Addr} {fp wr:List Addr} {G:Array GenState->Array GenState->Prop} {n:Nat} {P:Nat->Value->Prop} {St:Nat->Shared->Prop}
end
section
variable {prog:Program} {w:World} {A:Around} {E:Value->Shared->Prop} {s:Shared}
end
section
variable {X:Cx} {K:PySem.W.Frag}
end
end L2
namespace L2
open PySem PySem.Spec PyProof.Rows
end L2
namespace L2
open PySem PySem.Spec PyProof.Rows
section
variable {c:TT} {t u B:TS} {D:Ends} {σ:St} {H H':Hp}
theorem if_P (b:Bool) (P:Hp->Prop) (hc : ∀ N:Bool->Hp->Prop,(∀ H',P H'->N b H')->c σ H N) (ht:b=true -> ∀ H',P H'->t D σ H') (hu:b=false -> ∀ H',P H'->u D σ H'):tIfS c t u D σ H:= by
 refine hc _ fun H' p=>?_
 cases b
 ·exact iteF (hu rfl H' p)
 ·exact iteT (ht rfl H' p)
theorem if_N (b:Bool) (P:Hp->Prop) (hc : ∀ N:Bool->Hp->Prop,(∀ H',P H'->N b H')->c σ H N) (ht:b=true -> ∀ H',P H'->t D σ H') (hu:b=false -> ∀ H',P H'->D.nx σ H'):tIfS c t tNext D σ H:=if_P b P hc ht hu
theorem seq_ifN (b:Bool) (P:Hp->Prop) (hc : ∀ N:Bool->Hp->Prop,(∀ H',P H'->N b H')->c σ H N) (ht:b=true -> ∀ H',P H'->t { D with nx:=B D } σ H') (hu:b=false -> ∀ H',P H'->B D σ H'):tSeq (tIfS c t tNext) B D σ H:=if_P b P hc ht hu
theorem chainV {te:TE} {lo hi x:Int} {Q:VK} (he : ∀ Q:VK,Q (.int x) H'->te σ H Q) (h:Q (.bl (decide (lo<=x)&&decide (x<=hi))) H') :
  tChain (rI0 fun i j=>V.bl (decide (i<=j))) (rI0 fun i j=>V.bl (decide (i<=j))) (tC (V.int lo)) te (tC (V.int hi)) σ H Q:= by
 refine he _ ⟨lo,x,rfl,rfl,_,rfl,?_⟩
 by_cases g:lo<=x
 ·rw[decide_eq_true g] at h ⊢
  exact iteT ⟨x,hi,rfl,rfl,h⟩
 ·rw[decide_eq_false g] at h ⊢
  exact iteF h
theorem chainI {te:TE} {lo hi x:Int} {N:Bool->Hp->Prop} (he : ∀ Q:VK,Q (.int x) H'->te σ H Q) (h:N (decide (lo<=x)&&decide (x<=hi)) H') :
  tTest (tChain (rI0 fun i j=>V.bl (decide (i<=j))) (rI0 fun i j=>V.bl (decide (i<=j))) (tC (V.int lo)) te (tC (V.int hi))) σ H N:=chainV he ⟨_,rfl,h⟩
end
theorem ref_snoc {l:List Addr} {z:Addr}:l.map V.ref++[V.ref z]=(l++[z]).map V.ref:=by rw[List.map_append];rfl
theorem map_take_snoc {α β:Type} {l:List α} {i:Nat} {x:α} (h:l[i]?=some x) (f:α->β):(l.take (i+1)).map f=(l.take i).map f++[f x]:=by rw[take_snoc h,List.map_append];rfl
theorem drop_at {α:Type} {l:List α} {i:Nat} {x:α} (h:l[i]?=some x):l.drop i=x::l.drop (i+1):= by
 obtain ⟨h1,h2⟩:=List.getElem?_eq_some_iff.mp h
 rw[List.drop_eq_getElem_cons h1,h2]
theorem paired_getR {α β:Type} {F:α->β->Prop} : ∀ {l1:List α} {l2:List β} {j:Nat} {b:β},Paired F l1 l2->l2[j]?=some b -> ∃ a,F a b/\l1[j]?=some a
 | _,_,j,b,.nil,e=>by simp at e
 | a::_,_::_,0,b,.cons r t,e=>by simp at e;subst e;exact ⟨a,r,rfl⟩
 | _::_,_::_,j+1,b,.cons r t,e=>by
  obtain ⟨a,h1,h2⟩:=paired_getR t (show _=some b by simpa using e)
  exact ⟨a,h1,by simpa using h2⟩
theorem made_same {C:Addr} {H1 H':Hp} {x dx:Addr} (hx:H1 x=none) (hdx:H1 dx=none) (kp : ∀ b o,upd (upd H1 dx (.own x)) x (.ins C dx []) b=some o->b≠x->H' b=some o):Same H1 H':=fun b o e=>
 kp b o (by rw[upd_ne (ne_of_none e hx),upd_ne (ne_of_none e hdx)];exact e) (ne_of_none e hx)
theorem iteD {c A B:Prop} [Decidable c] (hc:c) (h:A):if decide c=true then A else B:=by rw[if_pos (decide_eq_true hc)];exact h
theorem iteDF {c A B:Prop} [Decidable c] (hc : ¬ c) (h:B):if decide c=true then A else B:=by rw[if_neg (fun e=>hc (of_decide_eq_true e))];exact h
theorem atI_nt {rs:List Int} {j:Nat} {r:Int} (h:rs[j]?=some r):atI (rs.map V.int) (j:Int)=some (V.int r):=atI_nat (by rw[List.getElem?_map,h];rfl)
theorem atI_intZ {rs:List Int} {i:Int} {j:Nat} {r:Int} (e:i=(j:Int)) (h:rs[j]?=some r):atI (rs.map V.int) i=some (V.int r):=by rw[e];exact atI_nt h
theorem lim_ok {ls:List Int} (h:ls.all (fun l=>decide (0<l)&&decide (l.natAbs.log2<9000))=true) : ∀ l ∈ ls,LimOk l:=fun l hl=>by
 have:=List.all_eq_true.mp h l hl
 rw[Bool.and_eq_true,decide_eq_true_iff,decide_eq_true_iff] at this
 exact this
theorem gN {i:Nat} {v:V} {σ:St} {H:Hp} {Q:St->Hp->Prop} (h:Q (σ.set i (some v)) H):gName i v σ H Q:=h
theorem dStr (x y:Str):decide (V.str x=V.str y)=decide (x=y):=decide_eq_decide.mpr ⟨fun e=>V.str.inj e,fun e=>congrArg V.str e⟩
theorem dInt (x y:Int):decide (V.int x=V.int y)=decide (x=y):=decide_eq_decide.mpr ⟨fun e=>V.int.inj e,fun e=>congrArg V.int e⟩
theorem nT {b:Bool} (h:(!b)=true):b=false:= by
 cases b
 ·rfl
 ·exact absurd h (by decide)
end L2
namespace L2
open PySem PySem.Spec PyProof.Rows
section
variable {X:Cx} {K:PySem.W.Frag}
end
end L2
namespace L2
open PySem PySem.Spec PyProof.Rows
theorem nrm {B:TS} {D:Ends} {σ σ':St} {H:Hp} (e:σ=σ') (h:B D σ' H):B D σ H:=e ▸ h
end L2
namespace L2
open PySem PySem.Spec PyProof.Rows
abbrev Hol:=List (Option Nat)
def tE (T:List (List Int)) (r c:Nat):Int:=(T.getD r []).getD c 0
def tgt (T:List (List Int)) (R C:List Int) (r c:Nat):Prop:=R.getD r 0+C.getD c 0=tE T r c
instance {T R C r c}:Decidable (tgt T R C r c):=by unfold tgt;infer_instance
section
variable {T:List (List Int)} {R C:List Int} {Hd Hd1:Hol} {S Si:List Nat} {row i h k m:Nat}
structure HInv (T:List (List Int)) (m k:Nat) (R C:List Int) (Hd:Hol):Prop where
 lT:T.length=m
 lr : ∀ r,r<m->(T.getD r []).length=k
 lR:R.length=m
 lC:C.length=k
 lH:Hd.length=k
 t0 : ∀ r c,0<=tE T r c
 fe : ∀ r c,r<m->c<k->tE T r c<=R.getD r 0+C.getD c 0
 ti : ∀ c h,Hd[c]?=some (some h)->h<m/\tgt T R C h c
 on : ∀ h,Hd.count (some h)<=1
 c0 : ∀ c,0<=C.getD c 0
 cf : ∀ c:Nat,Hd[c]?=some none->C.getD c 0=0
 r0 : ∀ r,0<=R.getD r 0
def valC (T:List (List Int)) (Hd:Hol) (c:Nat):Int:=match Hd.getD c none with
 | none=>0
 | some r=>tE T r c
def rOf (R:List Int):Option Nat->Int
 | none=>0
 | some r=>R.getD r 0
theorem sum_cnt (f:Nat->Int) : ∀ (Hd:Hol) (m:Nat),(∀ h,some h ∈ Hd->h<m)->(Hd.map fun o:Option Nat=>match o with | none=>0 | some r=>f r).sum=((List.range m).map fun r=>f r*(Hd.count (some r):Int)).sum
 | [],m,_=>by
  have : ∀ l:List Nat,(l.map fun r=>f r*(([]:Hol).count (some r):Int)).sum=0:=fun l=>by
   induction l with
   | nil=>rfl
   | cons a l ih=>rw[List.map_cons,List.sum_cons,ih];simp
  rw[this];rfl
 | o::Hd,m,h=>by
  have ih:=sum_cnt f Hd m (fun x hx=>h x (List.mem_cons_of_mem _ hx))
  rw[List.map_cons,List.sum_cons,ih]
  cases o with
  | none=>
   have : ∀ r,(none::Hd).count (some r)=Hd.count (some r):=fun r=>by rw[List.count_cons_of_ne (by simp)]
   simp only [this]
   omega
  | some x=>
   have hx:x<m:=h x List.mem_cons_self
   have key : ∀ n,((List.range n).map fun r=>f r*((some x::Hd).count (some r):Int)).sum=(if x<n then f x else 0)+((List.range n).map fun r=>f r*(Hd.count (some r):Int)).sum:=fun n=>by
    induction n with
    | zero=>rfl
    | succ n ihn=>
     rw[List.range_succ,List.map_append,List.map_append,List.sum_append,List.sum_append,ihn]
     simp only [List.map_cons,List.map_nil,List.sum_cons,List.sum_nil]
     by_cases e:x=n
     ·rw[e,List.count_cons_self,if_neg (Nat.lt_irrefl _),if_pos (Nat.lt_succ_self _)]
      rw[show ((Hd.count (some n)+1:Nat):Int)=(Hd.count (some n):Int)+1 by omega,Int.mul_add];omega
     ·rw[List.count_cons_of_ne (by simpa using e)]
      by_cases e2:x<n
      ·rw[if_pos e2,if_pos (by omega)];omega
      ·rw[if_neg e2,if_neg (by omega)];omega
   rw[key m,if_pos hx]
theorem sum_range_getD (R:List Int):((List.range R.length).map fun r=>R.getD r 0).sum=R.sum:= by
 have:(List.range R.length).map (fun r=>R.getD r 0)=R:= by
  refine List.ext_getElem (by simp) fun i h1 h2=>?_
  simp at h1 ⊢
  rw[List.getElem?_eq_getElem h1];rfl
 rw[this]
theorem sum_map_add (f g:Nat->Int) : ∀ l:List Nat,(l.map fun c=>f c+g c).sum=(l.map f).sum+(l.map g).sum
 | []=>rfl
 | a::l=>by rw[List.map_cons,List.sum_cons,sum_map_add f g l,List.map_cons,List.map_cons,List.sum_cons,List.sum_cons];omega
theorem sum_congr {f g:Nat->Int} : ∀ {l:List Nat},(∀ c ∈ l,f c=g c)->(l.map f).sum=(l.map g).sum
 | [],_=>rfl
 | a::l,h=>by rw[List.map_cons,List.sum_cons,List.map_cons,List.sum_cons,h a List.mem_cons_self,sum_congr fun c hc=>h c (List.mem_cons_of_mem _ hc)]
theorem HInv.sum (I:HInv T m k R C Hd) (all : ∀ h,h<m->Hd.count (some h)=1):((List.range k).map (valC T Hd)).sum=R.sum+C.sum:= by
 have e1:((List.range k).map (valC T Hd)).sum=((List.range k).map fun c=>rOf R (Hd.getD c none)+C.getD c 0).sum:=sum_congr fun c hc=>by
  have hl:c<Hd.length:=by rw[I.lH];exact List.mem_range.mp hc
  unfold valC
  cases e:Hd.getD c none with
  | none=>rw[I.cf c (by rw[List.getElem?_eq_getElem hl];rw[List.getD_eq_getElem?_getD,List.getElem?_eq_getElem hl] at e;exact congrArg some e)];rfl
  | some r=>
   have:=(I.ti c r (by rw[List.getElem?_eq_getElem hl];rw[List.getD_eq_getElem?_getD,List.getElem?_eq_getElem hl] at e;exact congrArg some e)).2
   exact this.symm
 rw[e1,sum_map_add,<- I.lC,sum_range_getD]
 have e2:((List.range C.length).map fun c=>rOf R (Hd.getD c none)).sum=(Hd.map (rOf R)).sum:= by
  rw[I.lC,<- I.lH]
  have:(List.range Hd.length).map (fun c=>rOf R (Hd.getD c none))=Hd.map (rOf R):= by
   refine List.ext_getElem (by simp) fun i h1 h2=>?_
   simp at h1 ⊢
   rw[List.getElem?_eq_getElem h1];rfl
  rw[this]
 rw[e2]
 have e3:=sum_cnt (fun r=>R.getD r 0) Hd m (fun x hx=>by
  obtain ⟨j,hj,ej⟩:=List.getElem_of_mem hx
  exact (I.ti j x (by rw[List.getElem?_eq_getElem hj,ej])).1)
 have e4:(Hd.map (rOf R))=Hd.map fun o:Option Nat=>match o with | none=>0 | some r=>R.getD r 0:=List.map_congr_left fun o _=>by cases o <;> rfl
 rw[e4,e3]
 have e5:((List.range m).map fun r=>R.getD r 0*(Hd.count (some r):Int)).sum=((List.range m).map fun r=>R.getD r 0).sum:=sum_congr fun r hr=>by
  rw[all r (List.mem_range.mp hr)];simp
 rw[e5,<- I.lR,sum_range_getD]
end
end L2
namespace L2
open PySem PySem.Spec PyProof.Rows
theorem for_enumL {K:PySem.W.Frag} {a:Addr} {xs:List V} {g:TG} {tb:TS} {D:Ends} {σ:St} {H:Hp} (Pv:Nat->St->Hp->Prop) (h0:Pv 0 σ H) (hl : ∀ i σ H,i<=xs.length->Pv i σ H->SqL K H a xs)
  (hs : ∀ i x σ H t,xs[i]?=some x->Pv i σ H->H t=none->g (.ref t) σ (upd H t (.tup [.int (i:Int),x])) fun σ2 H2=>tb { D with nx:=Pv (i+1),ct:=Pv (i+1),bk:=D.nx } σ2 H2) (hd : ∀ σ H,Pv xs.length σ H->D.nx σ H) :
  ∃ W:Nat->Nat->St->Hp->Prop,(∃ m,W 0 m σ H) /\ ∀ i m σ H,W i m σ H ->
   ((IteL K a).stop i H/\D.nx σ H)\/((IteL K a).go i H /\ ∃ N:St->Hp->Prop,(∀ σ' H',N σ' H' -> ∃ m',m'<m/\W (i+1) m' σ' H') /\ ∀ x H',(IteL K a).yld i H x H'->g x σ H' fun σ2 H2=>tb { D with nx:=N,ct:=N,bk:=D.nx } σ2 H2):= by
 refine ⟨fun i m σ H=>m=xs.length-i/\i<=xs.length/\Pv i σ H,⟨xs.length,by simp,Nat.zero_le _,h0⟩,?_⟩
 rintro i m σ H ⟨rfl,hi,p⟩
 have q:=hl i σ H hi p
 by_cases hlt:i<xs.length
 ·refine .inr ⟨⟨xs,xs[i],q,by simp [hlt]⟩,Pv (i+1),fun σ' H' p'=>⟨xs.length-(i+1),by omega,rfl,hlt,p'⟩,fun x H' y=>?_⟩
  obtain ⟨t,y,ht,rfl,rfl,hy⟩:=y
  exact hs i y σ _ t (hy xs q) p ht
 ·have e:i=xs.length:=by omega
  subst e
  exact .inl ⟨⟨xs,q,Nat.le_refl _⟩,hd σ H p⟩
section
variable {X:Cx} {K:PySem.W.Frag}
end
theorem kpe_fld {X:Cx} {K:PySem.W.Frag} {e:Expr} {f:Str} {ta:TE} {pos:Pos} (he:PE X e ta) (hb:attributeBase e f X.env (eval e X.env)=eval e X.env) (h:X.K=K:=by rfl):PE X (.Attribute e f pos) (tFld K ta f):=by subst h;exact pe_fld he hb
section
variable {C:Addr} {H H':Hp} {p dx t rp cp hd g:Addr} {ts:List Addr} {T:List (List Int)} {R Cc R':List Int} {Hd Hd':Hol}
end
end L2
namespace L2
open PySem PySem.Spec PyProof.Rows
section
variable {C:Addr} {H H':Hp} {p dx t rp cp hd rc:Addr} {ts:List Addr} {T:List (List Int)} {R Cc:List Int} {Hd Hd':Hol}
end
end L2
namespace L2
open PySem PySem.Spec PyProof.Rows
def pI (q:Nat × Nat):List Int:=[(q.1:Int),(q.2:Int)]
end L2
namespace L2
open PySem PySem.Spec PyProof.Rows
section
variable {tab:List (List Int)} {m cols:Nat} {tot tot':Int} {yss yss':List (List Int)} {R C R' C':List Int}
end
end L2
namespace L2
open PySem PySem.Spec PyProof.Rows
end L2
namespace L2
open PySem PySem.Spec PyProof.Rows
def Pat (ws us:List Int) (J:List Nat):Prop:=∀ i ∈ J,∀ j ∈ J,ws.getD i 0=ws.getD j 0 ↔ us.getD i 0=us.getD j 0
section
variable {ws us vs:List Int} {tot tot' tot2:Int} {yss yss' yss2:List (List Int)} {R C R' C' R2 C2:List Int}
theorem Pat.symm {J:List Nat} (h:Pat ws us J):Pat us ws J:=fun i hi j hj=>(h i hi j hj).symm
end
section
variable {X:Cx}
end
end L2
namespace L2
open PySem PySem.Spec PyProof.Rows
section
variable {ws us vs:List Int} {tot tot' tot2:Int} {yss yss' yss2:List (List Int)} {R C R' C' R2 C2:List Int}
end
end L2
namespace PySem
open Sem (wp)
section
variable {prog:Program} {w:World} {A:Around} {R:Result->Shared->Prop} {I:Addr} {fp wr:List Addr} {n:Nat} {P:Nat->Value->Prop} {St:Nat->Heap->Prop} {d:Value}
end
section
variable {prog:Program} {w:World} {A:Around} {R:Result->Shared->Prop} {I:Addr} {fp wr:List Addr} {P:Nat->Value->Prop} {St:Nat->Heap->Prop} {d:Value}
end
section
variable {prog:Program} {w:World} {A:Around} {E:Value->Shared->Prop} {s:Shared} {d:Value}
end
end PySem
namespace L2
open PySem PySem.Spec PyProof.Rows
section
variable {X:Cx} {K:PySem.W.Frag}
end
end L2
namespace PySem
open Sem (wp)
open AutoSeq1 (wpAny_loadPart')
section
variable {prog:Program} {w:World} {A:Around} {E:Value->Shared->Prop} {s:Shared}
end
section
variable {prog:Program} {w:World} {A:Around} {E:Value->Shared->Prop} {s:Shared}
end
end PySem
namespace L2
open PySem PySem.Spec PyProof.Rows
end L2
namespace L2
open PySem PySem.Spec PyProof.Rows
section
variable {K:PySem.W.Frag} {a:Addr} {xs:List V} {σ0:St} {g:TG} {tc:TT} {tm:TM} {F:List V->Hp->Prop} {H:Hp} {ys0:List V}
theorem lcw_list (Pv:Nat->List V->Hp->Prop) (h0:Pv 0 ys0 H) (hl : ∀ i ys H,i<=xs.length->Pv i ys H->SqL K H a xs/\ys.length<=sizeLine)
  (hs : ∀ i x ys H,xs[i]?=some x->Pv i ys H->g x σ0 H fun σ2 H2=>tc σ2 H2 fun b H3=>if b=true then tm σ2 H3 ys (Pv (i+1)) else Pv (i+1) ys H3)
  (hd : ∀ ys H,Pv xs.length ys H->F ys H):LcW (Itl K a) g tc tm σ0 ys0 H F:= by
 refine ⟨fun i m ys H=>m=xs.length-i/\i<=xs.length/\Pv i ys H,⟨xs.length,by simp,Nat.zero_le _,h0⟩,?_⟩
 rintro i m ys H ⟨rfl,hi,p⟩
 obtain ⟨q,hy⟩:=hl i ys H hi p
 refine ⟨hy,?_⟩
 by_cases hlt:i<xs.length
 ·refine .inr ⟨⟨xs,xs[i],q,by simp [hlt]⟩,Pv (i+1),fun ys' H' p'=>⟨xs.length-(i+1),by omega,rfl,hlt,p'⟩,fun x H' y=>?_⟩
  obtain ⟨e,y⟩:=y
  subst e
  exact hs i x ys _ (y xs q) p
 ·have e:i=xs.length:=by omega
  subst e
  exact .inl ⟨⟨xs,q,Nat.le_refl _⟩,hd ys H p⟩
theorem lcM {i:Nat} {x:V} {σ:St} {ys:List V} {N:List V->Hp->Prop} (h:tm (σ.set i (some x)) H ys N):gName i x σ H fun σ2 H2=>tYes σ2 H2 fun b H3=>if b=true then tm σ2 H3 ys N else N ys H3:= by
 show if true=true then tm (σ.set i (some x)) H ys N else N ys H
 rw[if_pos rfl];exact h
end
end L2
namespace L2
open PySem
end L2
namespace L2
open PySem PySem.Spec PyProof.Rows
end L2
namespace L2
open PySem
end L2
namespace L2
open PySem PySem.Spec PyProof.Rows
section
variable {X:Cx} {N':List Str} {M:List (Option Nat)} {scope:Scope} {tg elt iter tg2 iter2:Expr} {ifs ifs2:List Expr} {ks ks2:List Nat} {pos:Pos} {g g2:TG} {tc tc2:TT} {te:TE} {wi wi2:TI}
end
abbrev Best:=Option (Int × List Int)
end L2
namespace L2
open PySem PySem.Spec PyProof.Rows
def gV:Best->V
 | none=>.non
 | some (g,_)=>.int g
def FrP (H H':Hp) (p:Addr):Prop:=∀ x u,H x=some u->x≠p->H' x=some u
theorem FrP.trans {H1 H2 H3:Hp} {p:Addr} (a:FrP H1 H2 p) (b:FrP H2 H3 p):FrP H1 H3 p:=fun x u e n=>b x u (a x u e n) n
section
variable {K:PySem.W.Frag} {C:Addr} {H H':Hp} {p dx t o:Addr} {lv:V} {ts:List Addr} {T:List (List Int)} {b:Best}
end
theorem kc_isiS {X : Cx} {K : PySem.W.Frag} (h : X.K = K:=by rfl) : CallR X (.builtin "isinstance") (fun xs H Q=>∃ x n t b,xs = [x,.ty n] /\ (TyOf K H x t \/ ∃ (a : Addr) (ys : List V),x = .ref a /\ SqT K H a ys /\ t = .type "tuple") /\ PySem.W.kitOne K t (.type n) = some b /\ Q (.bl b) H):= by
 subst h
 intro pins s σ H xs us Q I r h
 obtain ⟨x,n,t,b,rfl,ty,e,q⟩:=h
 obtain ⟨u,w',rfl,rx,ru⟩:=vals2 r
 cases (show w'=Value.type n from ru)
 rcases ty with ty | ⟨a,ys,rfl,hS,rfl⟩
 ·exact isinst_ok I rx ty e fun tk=>⟨.bl b,H,I.tok tk,rfl,q⟩
 ·cases (show u=Value.ref a from rx)
  obtain ⟨its,rv,p,_⟩:=I.tuple hS
  obtain ⟨ob,e1,e2,_⟩:=(show s.heap.IsTuple a its.toArray from p)
  exact PySem.W.kia_one PySem.W.kitx_tuple I.kIn ⟨ob,e1,e2⟩ e (fun z=>nomatch z) fun tk=>⟨.bl b,H,I.tok tk,rfl,q⟩
end L2
namespace L2
open PySem PySem.Spec PyProof.Rows
section
variable {X:Cx} {K:PySem.W.Frag}
end
theorem paired_takeQ {α β:Type} {F:α->β->Prop} : ∀ {l1:List α} {l2:List β} (i:Nat),Paired F l1 l2->Paired F (l1.take i) (l2.take i)
 | _,_,0,_=>.nil
 | _,_,_+1,.nil=>.nil
 | _,_,i+1,.cons e t=>.cons e (paired_takeQ i t)
section
variable {H0 H H':Hp} {p:Addr} {n B B':Nat} {ps:List Addr} {R:List (List Int)}
end
end L2
namespace PySem
open Sem (wp)
section
variable {prog:Program} {w:World} {A:Around} {E:Value->Shared->Prop} {h:Heap} {g:Array GenState} {d:Drawn} {t:Nat} {os:OsState} {a:Addr} {its:Array Value} {n:Nat}
end
end PySem
namespace PySem
open Sem (wp)
section
variable {prog:Program} {w:World} {K:Type} [DecidableEq K] {knd:KeyKind prog w K} {A:Around} {R:Result->Shared->Prop} {I:Addr} {fp wr:List Addr} {n:Nat} {P:Nat->Value->Prop} {St:Nat->Heap->Prop} {d:Addr} {key:Nat->K} {val:Nat->Value}
end
end PySem
namespace PySem
section
variable {prog:Program} {w:World} {K:Type} [DecidableEq K] {knd:KeyKind prog w K} {A:Around} {E:Value->Shared->Prop} {s:Shared} {key:Nat->K} {val:Nat->Value} {l:Addr} {its:Array Value} {n0:Nat}
end
end PySem
namespace L2
open PySem PySem.Spec PyProof.Rows
end L2
namespace L2
open PySem PySem.Spec PyProof.Rows
section
variable {X:Cx} {K:PySem.W.Frag}
end
end L2
namespace L2
open PySem PySem.Spec PyProof.Rows
section
variable {X:Cx} {K:PySem.W.Frag}
end
end L2
namespace L2
open PySem PySem.Spec PyProof.Rows
section
variable {prog:Program} {w:World} {A:Around} {R:Result->Shared->Prop} {s:Shared}
end
end L2
namespace L2
open PySem PySem.Spec PyProof.Rows
end L2
namespace PySem
open Sem (wp)
section
variable {M:Model} {A:Around} {E:Value->Shared->Prop} {s:Shared} {env:Env}
end
end PySem
namespace L2
open PySem PySem.Spec PyProof.Rows
section
variable {M:Model} {A:Around} {E:Value->Shared->Prop} {s:Shared}
end
section
variable {X:Cx} {N':List Str} {M:List (Option Nat)} {scope:Scope} {tg elt iter:Expr} {ifs:List Expr} {pos:Pos} {g:TG} {tc:TT} {te:TE} {wi:TI} {E:XK}
end
end L2
namespace L2
open PySem PySem.Spec PyProof.Rows
def gI (p q:Int):Int:=((Nat.gcd q.toNat p.toNat:Nat):Int)
def dn (t:Int):Nat->Int
 | 0=>1
 | n+1=>dn t n*(t-n)
end L2
namespace L2
open PySem PySem.Spec PyProof.Rows
end L2
namespace L2
open PySem PySem.Spec PyProof.Rows
end L2
namespace L2
open PySem PySem.Spec PyProof.Rows
end L2
namespace L2
open PySem PySem.Spec PyProof.Rows
end L2
namespace PySem
open Sem (wp)
section
variable {prog:Program} {w:World} {A:Around} {E:Value->Shared->Prop} {s:Shared}
end
end PySem
namespace L2
open PySem PySem.Spec PyProof.Rows
section
variable {X:Cx} {K:PySem.W.Frag}
theorem Inv.freeze {pins:List (Addr × Obj)} {σ:St} {H:Hp} {s:Shared} {d:Addr} {kvs:List (List Key × V)} {o:Obj} (I:Inv X pins σ H s) (h:H d=some (.dT kvs)) (ho:s.heap.get? d=some o):Inv X pins σ (upd H d (.frz o (.dT kvs))) s:= by
 have nt : ∀ {b:Addr} {u:HO},H b=some u->(∀ kvs,u ≠ .dT kvs)->b≠d:=fun {b u} e n z=>by rw[z,h] at e;cases e;exact n _ rfl
 refine I.step (h':=s.heap) (g':=s.gens) (t':=s.toks) (d':=s.drawn) (ch:=[]) (fun b hb=>absurd hb (by simp)) (fun b o _ _ _ e _=>e) (fun b o _ _ _ e _=>⟨o.slots,e⟩) (fun b o _ e n=>?_) (fun b o _ e=>⟨o,e⟩)
  (fun b xs e=>by rw[upd_ne (nt e fun _ z=>by cases z)];exact e) (fun b o u e=>by rw[upd_ne (nt e fun _ z=>by cases z)];exact e) (fun b ps e=>⟨#[],by rw[upd_ne (nt e fun _ z=>by cases z),e];simp⟩) (fun m hm=>hm) ?_ I.bare
 ·have:b≠d:=fun z=>by rw[z,h] at n;cases n
  rw[upd_ne this];exact n
 ·intro b u e
  by_cases hb:b=d
  ·subst hb
   rw[upd_same] at e;cases e
   refine ⟨ho,(I.hok b _ h).stay (fun c v _ q=>q) (fun c q=>?_) fun c xs q=>?_⟩
   ·rw[upd_ne (nt q fun _ z=>by cases z)];exact q
   ·rw[upd_ne (nt q fun _ z=>by cases z)];exact q
  ·rw[upd_ne hb] at e
   refine (I.hok b u e).stay (fun c v _ q=>q) (fun c q=>?_) fun c xs q=>?_
   ·rw[upd_ne (nt q fun _ z=>by cases z)];exact q
   ·rw[upd_ne (nt q fun _ z=>by cases z)];exact q
theorem Inv.dictF {pins:List (Addr × Obj)} {σ:St} {H:Hp} {s:Shared} {d:Addr} {kvs:List (List Key × V)} {o:Obj} (I:Inv X pins σ H s) (h:H d=some (.frz o (.dT kvs))) :
  s.heap.get? d=some o/\kvs.length<=sizeLine/\(d==sysModules)=false /\ ∃ (ps:List Addr) (vs:List Value) (es:Array DictEntry) (ep:Nat),o.data = .dict es ep/\Paired (fun (p:List Key × V) a=>H a=some (.tup (p.1.map kV))) kvs ps/\s.heap.DictE d ((ps.map Value.ref).zip vs) ep/\Vals (kvs.map (·.2)) vs:= by
 obtain ⟨ho,z,lo,xs,r,o1,es,ep,h1,h2,h3,h4,hnd⟩:=(show s.heap.get? d=some o/\ObjOk X.prog X.w H s.heap d (.dT kvs) from I.hok d _ h)
 have eo:o1=o:=by rw[ho] at h1;cases h1;rfl
 subst eo
 refine ⟨ho,z,lo,xs.map (·.2.1),xs.map (·.2.2),es,ep,h3,?_,⟨o1,es,h1,h2,h3,?_⟩,?_⟩
 ·clear h h4 z hnd
  induction r with
  | nil=>exact .nil
  | cons q _ ih=>exact .cons q.2.1 ih
 ·rw[h4,List.map_map]
  clear h h4 z r hnd
  induction xs with
  | nil=>rfl
  | cons x xs ih=>rw[List.map_cons,ih];rfl
 ·clear h h4 z hnd
  induction r with
  | nil=>exact .nil
  | cons q _ ih=>exact .cons q.2.2 ih
end
end L2
namespace PySem
open Sem (wp)
theorem filter_one {α β:Type} [BEq β] [LawfulBEq β] (f:α->β) : ∀ (l:List α) (b:β),(l.map f).Nodup->(l.filter fun x=>f x==b).length<=1
 | [],_,_=>by simp
 | a::l,b,h=>by
  rw[List.map_cons,List.nodup_cons] at h
  rw[List.filter_cons]
  split
  ·rename_i e
   have e:f a=b:=eq_of_beq e
   have:(l.filter fun x=>f x==b)=[]:= by
    rw[List.filter_eq_nil_iff]
    intro x hx q
    have q:=eq_of_beq q
    exact h.1 (by rw[e,<- q];exact List.mem_map.mpr ⟨x,hx,rfl⟩)
   rw[this];simp
  ·exact filter_one f l b h.2
section
variable {prog:Program} {w:World} {A:Around} {E:Value->Shared->Prop} {s:Shared}
theorem wpAny_quietEq_tup {b : Addr} {Q : Bool -> Shared -> Prop} (hT : s.TypeIs (.ref b) "tuple") (h : Q false s) : wpAny (model prog w) A (Builtin.Dict.quietEq (.ref b)) Q E s:= by
 unfold Builtin.Dict.quietEq
 refine wpAny_bind (wpAny_specialOf hT F.slot_tuple_eq.lookup (wpAny_pure ?_))
 exact h
theorem wpAny_entriesForEmptyT {id:String} {d:Addr} {o:Obj} {es ep} {Q:Array DictEntry->Shared->Prop} (ho:s.heap.get? d=some o) (hd:o.data = .dict es ep)
  (hk : ∀ e ∈ es.toList,∃ b,e.key = .ref b /\ s.TypeIs (.ref b) "tuple") (hn : (es.toList.map (·.hash)).Nodup) (h : Q es s) : wpAny (model prog w) A (Builtin.Dict.entriesForEmpty id d) Q E s:= by
 unfold Builtin.Dict.entriesForEmpty
 refine wpAny_bind (wpAny_dictEntries ho hd ?_)
 refine wpAny_bind ?_
 rw[<- Array.forIn_toList]
 refine wpAny_forIn_list _ (fun rest _ s'=>s'=s /\ ∀ e ∈ rest,e ∈ es.toList) _ ?_ ?_ _ _ ⟨rfl,fun e he=>he⟩
 ·rintro x rest b s' ⟨rfl,hin⟩
  obtain ⟨a,ek,hT⟩:=hk x (hin x List.mem_cons_self)
  have ex : ∀ {P:Shared->Prop},P s'->P s':=fun h=>h
  rw[ek]
  refine wpAny_bind (wpAny_quietEq_tup hT ?_)
  rw[if_pos (by rfl)]
  have hf : ¬ ((es.filter (fun y=>y.hash==x.hash)).size > 1):= by
   have:=filter_one (fun e:DictEntry=>e.hash) es.toList x.hash hn
   rw[<- Array.length_toList,Array.toList_filter]
   omega
  rw[if_neg hf]
  exact wpAny_pure ⟨rfl,fun e he=>hin e (List.mem_cons_of_mem _ he)⟩
 ·rintro b s' ⟨rfl,_⟩
  exact wpAny_pure h
theorem wpAny_mergeDictT {nm:String} {d o:Addr} {od oo:Obj} {eso:Array DictEntry} {epd epo:Nat} {Q:Unit->Shared->Prop} (hdo:d≠o) (hoS:(o==sysModules)=false)
  (hod:s.heap.get? d=some od) (hdd:od.data = .dict #[] epd) (hoo:s.heap.get? o=some oo) (hdo':oo.data = .dict eso epo) (hne:eso ≠ #[])
  (hk : ∀ e ∈ eso.toList,∃ b,e.key = .ref b /\ s.TypeIs (.ref b) "tuple") (hn : (eso.toList.map (·.hash)).Nodup) (hz : eso.size <= sizeLine)
  (hQ : ∀ h',h'.get? d=some (od.mapDictKeys fun _=>eso)->Heap.SameBut d s.heap h'->Q () { s with heap:=h' }) :
  wpAny (model prog w) A (Builtin.Dict.mergeDict nm d o) Q E s:= by
 unfold Builtin.Dict.mergeDict
 rw[if_neg (by simpa using hdo)]
 unfold Builtin.Dict.showsAll
 rw[if_neg (by rw[hoS];exact Bool.false_ne_true)]
 refine wpAny_bind (wpAny_pure ?_)
 refine wpAny_bind (wpAny_dictEntries hoo hdo' ?_)
 have hfew:(decide (eso.size<=8)&&eso.all fun e=>(keyPart e.key).isSome)=false:= by
  have:(eso.all fun e=>(keyPart e.key).isSome)=false:= by
   rw[<- Array.all_toList]
   cases e:eso.toList with
   | nil=>exact absurd (by rw[<- Array.toList_inj,e]) hne
   | cons x t=>
    obtain ⟨b,ek,_⟩:=hk x (by rw[e];exact List.mem_cons_self)
    rw[List.all_cons,ek];rfl
  rw[this,Bool.and_false]
 dsimp only
 rw[hfew,if_pos (by rfl)]
 refine wpAny_bind (wpAny_dictEntries hod hdd ?_)
 rw[if_pos (by rfl)]
 refine wpAny_bind (wpAny_entriesForEmptyT hoo hdo' hk hn ?_)
 have hemp:(!eso.isEmpty)=true:= by
  cases e:eso.isEmpty with
  | false=>rfl
  | true=>exact absurd (Array.isEmpty_iff.mp e) hne
 rw[if_pos hemp]
 exact wpAny_bind (wpAny_updateDictKeysTo hod hdd (wpAny_pure (hQ _ (Heap.get?_update_self _ hod (Obj.isFreed_of_dict (Obj.data_mapDictKeys hdd _))) (Heap.SameBut.update ..))) (by omega))
theorem call_dictE {o:Addr} {oo:Obj} {eso:Array DictEntry} {epo:Nat} {Q:Value->Shared->Prop} (hoS:(o==sysModules)=false) (hoo:s.heap.get? o=some oo) (hoc:oo.ExactDict) (hdo':oo.data = .dict eso epo) (hne:eso ≠ #[])
  (hk : ∀ e ∈ eso.toList,∃ b,e.key = .ref b /\ s.TypeIs (.ref b) "tuple") (hn : (eso.toList.map (·.hash)).Nodup) (hz : eso.size <= sizeLine)
  (h : ∀ h' od,h'.get? s.heap.objs.size = some od -> od.ExactDict -> (∃ ep,od.data = .dict eso ep) -> Heap.SameBut s.heap.objs.size (s.heap.push { cls:=.type "dict",data:=.dict #[] }) h' -> Q (.ref s.heap.objs.size) { s with heap:=h' }) :
  wpAny (model prog w) A (call (.type "dict") [.ref o]) Q E s:= by
 refine callType_codes (Q₁:=fun obj s₁=>obj = .ref s.heap.objs.size /\ s₁ = { s with heap:=s.heap.push { cls:=.type "dict",data:=.dict #[] } }) F.kt_called_dict (F.kt_typeCall_dict_1 _) F.entry_dict_init (kt_code_dict_new _ ⟨rfl,rfl⟩) ?_
 rintro obj s₁ ⟨rfl,rfl⟩
 have hnew : (s.heap.push { cls:=.type "dict",data:=.dict #[] }).get? s.heap.objs.size = some { cls:=.type "dict",data:=.dict #[] }:=Heap.get?_push_size _ rfl
 have hT1 : (⟨s.heap.push { cls:=.type "dict",data:=.dict #[] },s.gens,s.drawn,s.toks,s.os⟩ : Shared).TypeIs (.ref s.heap.objs.size) "dict":=⟨_,hnew,rfl⟩
 have hoo':=Heap.get?_push_of_some { cls:=.type "dict",data:=.dict #[] } hoo
 have hT2 : (⟨s.heap.push { cls:=.type "dict",data:=.dict #[] },s.gens,s.drawn,s.toks,s.os⟩ : Shared).TypeIs (.ref o) "dict":=⟨_,hoo',hoc.1⟩
 have hdo:s.heap.objs.size≠o:=fun e=>absurd (Heap.lt_size hoo) (by rw[e];exact Nat.lt_irrefl _)
 refine ⟨hT1,F.args_dict_init_2 _ _,?_⟩
 unfold Builtin.«dict.__init__»
 refine wpAny_bind ?_
 unfold Builtin.Dict.selfAndRest
 refine wpAny_bind (wpAny_notOrdered_dict hT1 ?_)
 show wpAny _ _ (pure (s.heap.objs.size,[Value.ref o])) _ _ _
 refine wpAny_pure ?_
 show wpAny _ _ (Builtin.Dict.updateFrom "dict.__init__" s.heap.objs.size (.ref o) [] .none) _ _ _
 unfold Builtin.Dict.updateFrom
 refine wpAny_bind (wpAny_typeOf hT2 ?_)
 rw[if_neg (by decide)]
 refine wpAny_bind ?_
 unfold Builtin.Dict.merge
 refine wpAny_bind ?_
 unfold Builtin.Dict.readDirectly
 refine wpAny_bind (wpAny_isInstance hT2 isSubtype_dict_dict ?_)
 simp only [Bool.not_true,Bool.false_eq_true,if_false]
 refine wpAny_bind (wpAny_specialOf hT2 F.slot_dict_iter.lookup (wpAny_pure ?_))
 simp only [beq_self_eq_true,if_true]
 refine wpAny_bind (wpAny_pure ?_)
 refine wpAny_mergeDictT hdo hoS hnew rfl hoo' hdo' hne (fun e he=>?_) hn hz fun h' hd' hs'=>?_
 ·obtain ⟨b,ek,ob,hb,hc⟩:=hk e he
  exact ⟨b,ek,ob,Heap.get?_push_of_some _ hb,hc⟩
 show wpAny _ _ (Builtin.Dict.addKeywords s.heap.objs.size [] >>= _) _ _ _
 refine wpAny_bind (wpAny_pure (wpAny_pure ⟨rfl,h h' _ hd' ⟨rfl,rfl,rfl⟩ ⟨_,Obj.data_mapDictKeys rfl _⟩ hs'⟩))
end
end PySem
namespace L2
open PySem PySem.Spec PyProof.Rows
section
variable {X:Cx} {K:PySem.W.Frag}
abbrev hT (P:Program) (w:World) (k:List Key):Int:=(tupleKind (mixKind P w)).hash k
theorem call_dictT : CallR X (.type "dict") (fun xs H Q=>∃ (d : Addr) (kvs : List (List Key × V)),xs = [.ref d] /\ H d = some (.dT kvs) /\ kvs ≠ [] /\ (kvs.map fun kv=>hT X.prog X.w kv.1).Nodup /\ ∀ p,H p = none -> Q (.ref p) (upd H p (.dT kvs))):= by
 intro pins s σ H xs us Q I r h
 obtain ⟨d,kvs,rfl,hd,hne,hnd,q⟩:=h
 obtain ⟨u,rfl,ru⟩:=vals1 r
 cases (show u=Value.ref d from ru)
 obtain ⟨z,lo,xs,rel,o,es,ep,h1,h2,h3,h4,h5⟩:=(show ObjOk X.prog X.w H s.heap d (.dT kvs) from I.hok d _ hd)
 have hl:kvs.length=xs.length:=Paired.length rel
 have hes:es.size=xs.length:=by rw[<- Array.length_toList,h4,List.length_map]
 have hk:xs.map (·.1)=kvs.map (·.1):= by
  clear hd hne hnd z h4 h5 hl hes q
  induction rel with
  | nil=>rfl
  | cons a _ ih=>rw[List.map_cons,List.map_cons,ih,a.1]
 refine call_dictE lo h1 h2 h3 (fun e=>hne ?_) (fun e he=>?_) ?_ (by omega) fun h' od hod hc hdat hs=>?_
 ·rw[e] at hes
  exact List.length_eq_zero_iff.mp (by rw[hl,<- hes];rfl)
 ·rw[h4] at he
  obtain ⟨x,hx,rfl⟩:=List.mem_map.mp he
  have all : ∀ {l:List (List Key × V)} {m:List (List Key × Addr × Value)},KT H l m -> ∀ x ∈ m,∃ ys,H x.2.1=some (.tup ys):= by
   intro l m q
   induction q with
   | nil=>intro x hx;exact nomatch hx
   | @cons p q ps qs hq t ih=>
    intro x hx
    rcases List.mem_cons.mp hx with e | hx
    ·subst e;exact ⟨_,hq.2.1⟩
    ·exact ih x hx
  obtain ⟨ys,hy⟩:=all rel x hx
  obtain ⟨_,its,rv,ob,e1,e2,_⟩:=(show ObjOk X.prog X.w H s.heap x.2.1 (.tup ys) from I.hok _ _ hy)
  exact ⟨x.2.1,rfl,ob,e1,e2⟩
 ·rw[h4,List.map_map]
  have:xs.map ((fun e:DictEntry=>e.hash)∘entryOfKey (tupleKind (mixKind X.prog X.w)))=kvs.map fun kv=>hT X.prog X.w kv.1:= by
   have e1:xs.map ((fun e:DictEntry=>e.hash)∘entryOfKey (tupleKind (mixKind X.prog X.w)))=(xs.map (·.1)).map (hT X.prog X.w):=by rw[List.map_map];rfl
   rw[e1,hk,List.map_map];rfl
  rw[this];exact hnd
 ·obtain ⟨ep',hdat⟩:=hdat
  have hn:=I.hok.fresh (Nat.le_refl s.heap.objs.size)
  refine ⟨.ref s.heap.objs.size,_,I.laid (a:=s.heap.objs.size) (o:=.dT kvs) (t':=s.toks) (fun b q hq=>(hs.2 b (Nat.ne_of_lt (Heap.lt_size hq))).trans (Heap.get?_push_of_some _ hq)) (Nat.le_refl _) ?_,rfl,q _ hn⟩
  exact ⟨z,beq_eq_false_iff_ne.mpr (Ne.symm (Nat.ne_of_lt I.big)),xs,KT.keeps rel (fun b ys e=>by rw[upd_ne (ne_of_none e hn)];exact e),od,es,ep',hod,hc,hdat,h4,h5⟩
end
end L2
namespace L2
open PySem PySem.Spec PyProof.Rows
def hI (L:List Int):Int:=reduceHash (Builtin.Tuple.tupleHashOf (L.map hashInt))
theorem hT_int (P:Program) (w:World) (L:List Int):hT P w (L.map Sum.inl)=hI L:= by
 show reduceHash (Builtin.Tuple.tupleHashOf ((L.map (Sum.inl:Int->Key)).map (keyH w)))=_
 rw[List.map_map];rfl
def pl:Nat->Nat->Nat->List (List Int)
 | 0,_,_=>[[]]
 | f+1,m,s=>[]::(List.range (s+1-m)).flatMap fun i=>(pl f (m+i) (s-(m+i))).map (((m+i:Nat):Int) :: ·)
inductive Rise:Int->List Int->Prop
 | nil (m:Int):Rise m []
 | cons {m a:Int} {L:List Int}:m<=a->Rise a L->Rise m (a::L)
theorem nodup_on {α β:Type} (f:α->β) : ∀ {l:List α},(l.map f).Nodup -> ∀ {x y:α},x ∈ l->y ∈ l->f x=f y->x=y
 | [],_,_,_,hx,_,_=>by simp at hx
 | a::l,h,x,y,hx,hy,e=>by
  rw[List.map_cons,List.nodup_cons] at h
  rcases List.mem_cons.mp hx with e1 | h1
  ·rcases List.mem_cons.mp hy with e2 | h2
   ·rw[e1,e2]
   ·exact absurd (List.mem_map.mpr ⟨y,h2,by rw[<- e,e1]⟩) h.1
  ·rcases List.mem_cons.mp hy with e2 | h2
   ·exact absurd (List.mem_map.mpr ⟨x,h1,by rw[e,e2]⟩) h.1
   ·exact nodup_on f h.2 h1 h2 e
theorem Rise.all {m:Int} {L:List Int} (h:Rise m L) : ∀ x ∈ L,m<=x:= by
 induction h with
 | nil=>intro x hx;simp at hx
 | cons a _ ih=>
  intro x hx
  rcases List.mem_cons.mp hx with rfl | hx
  ·exact a
  ·exact Int.le_trans a (ih x hx)
theorem sub_lenK {α:Type} [DecidableEq α] : ∀ {l m:List α},l.Nodup->(∀ x ∈ l,x ∈ m)->l.length<=m.length
 | [],_,_,_=>Nat.zero_le _
 | a::l,m,hn,hs=>by
  rw[List.nodup_cons] at hn
  have ha:=hs a List.mem_cons_self
  have:=sub_lenK (m:=m.erase a) hn.2 fun x hx=>(List.mem_erase_of_ne (show x≠a from fun e=>hn.1 (by rw[<- e];exact hx))).mpr (hs x (List.mem_cons_of_mem _ hx))
  rw[List.length_erase_of_mem ha] at this
  have h0:0<m.length:=List.length_pos_of_mem ha
  rw[List.length_cons];omega
end L2
namespace L2
open PySem PySem.Spec PyProof.Rows
end L2
namespace L2
open PySem PySem.Spec PyProof.Rows
section
variable {X:Cx}
end
section
variable {X:Cx}
end
end L2
namespace L2
open PySem PySem.Spec PyProof.Rows
end L2
namespace L2
end L2
namespace L2
open PySem PySem.Spec PyProof.Rows
end L2
namespace L2
open PySem PySem.Spec PyProof.Rows
end L2
namespace L2
open PySem PySem.Spec PyProof.Rows
end L2
namespace L2
open PySem PySem.Spec PyProof.Rows
section
variable {X:Cx} {K:PySem.W.Frag}
end
end L2
namespace L2
open PySem PySem.Spec PyProof.Rows
theorem filter_one : ∀ {l:List Str} {x:Str},l.Nodup->x ∈ l->l.filter (fun z=>decide (z=x))=[x]
 | [],x,_,h=>by simp at h
 | a::l,x,hn,h=>by
  rw[List.nodup_cons] at hn
  rw[List.filter_cons]
  by_cases e:a=x
  ·subst e
   rw[if_pos (decide_eq_true rfl)]
   congr 1
   exact List.filter_eq_nil_iff.mpr fun z hz e=>hn.1 (of_decide_eq_true e ▸ hz)
  ·rw[if_neg (by simpa using e)]
   exact filter_one hn.2 ((List.mem_cons.mp h).resolve_left fun q=>e q.symm)
end L2
namespace L2
open PySem PySem.Spec PyProof.Rows
end L2
namespace L2
open PySem PySem.Spec PyProof.Rows
end L2
namespace L2
open PySem PySem.Spec PyProof.Rows
end L2
namespace L2
open PySem PySem.Spec PyProof.Rows
section
variable {X:Cx}
end
end L2
namespace L2
open PySem PySem.Spec PyProof.Rows
end L2
namespace L2
open PySem PySem.Spec PyProof.Rows
end L2
namespace L2
open PySem PySem.Spec PyProof.Rows
end L2
namespace L2
open PySem PySem.Spec PyProof.Rows
def Zp:Nat->(Nat->Nat->Int)->Int
 | 0,F=>F 0 0
 | n+1,F=>Zp n (fun a b=>F (a+1) b)+Zp n (fun a b=>F a (b+1))
def bc (n s:Nat):Int:=Zp n fun a _=>if a=s then 1 else 0
def th (c:Int):List Int->Int->Nat->Int
 | [],u,n=>if u=c/\n=0 then 1 else 0
 | p::S,u,n=>th c S u n+((List.range n).map fun s=>bc n (s+1)*dn p (s+1)*th c S (u+1) (n-(s+1))).sum
def ta:List Int->Nat->Int
 | [],n=>if n=0 then 1 else 0
 | p::S,n=>ta S n+((List.range n).map fun s=>bc n (s+1)*dn p (s+1)*ta S (n-(s+1))).sum
end L2
namespace L2
open PySem PySem.Spec PyProof.Rows
section
variable {X:Cx} {K:PySem.W.Frag}
end
def hole (H:Hp) (a:Addr):Hp:=fun b=>if b=a then none else H b
end L2
namespace L2
open PySem PySem.Spec PyProof.Rows
def CodeO (c:Addr) (qual:Str):HO:=.ext fun h=>∃ o vs t,h.get? c=some o/\o.data = .fields vs/\vs[1]?=some (.str qual t)
def TabOk (H:Hp) (P:Addr) (pos:Pos) (qual:Str):Prop:=∃ ps:Array Value,H P=some (.tbl ps)/\TriplesOk ps.toList/\(codeAmong pos ps.toList=none \/ ∃ c,codeAmong pos ps.toList=some (.ref c)/\H c=some (CodeO c qual))
def BmAt (mg : Str -> Option Value) (base : Heap) : Prop:=∃ bm ob,mg "__builtins__" = some (.ref bm) /\ bm ≠ builtinsNs /\ base.get? bm = some ob /\ ob.cls = .type "module" /\ ob.dict = some builtinsNs /\ ob.data = .plain
theorem TabOk.same {H H':Hp} {P:Addr} {pos:Pos} {qual:Str} (h:TabOk H P pos qual) (s:Same H H'):TabOk H' P pos qual:= by
 obtain ⟨ps,h1,h2,h3⟩:=h
 refine ⟨ps,s _ _ h1,h2,?_⟩
 rcases h3 with h3 | ⟨c,h3,h4⟩
 ·exact .inl h3
 ·exact .inr ⟨c,h3,s _ _ h4⟩
theorem hole_same {H H':Hp} {P:Addr} (s:Same H H'):Same (hole H P) (hole H' P):=fun b o e=>by
 unfold hole at e ⊢
 by_cases q:b=P
 ·rw[if_pos q] at e;cases e
 ·rw[if_neg q] at e ⊢;exact s b o e
theorem hole_le (H:Hp) (P:Addr):Same (hole H P) H:=fun b o e=>by
 unfold hole at e
 by_cases q:b=P
 ·rw[if_pos q] at e;cases e
 ·rw[if_neg q] at e;exact e
section
variable {X:Cx} {pins:List (Addr × Obj)} {σ:St} {H:Hp} {s:Shared}
theorem Inv.pin1 (I:Inv X pins σ H s) {a:Addr} {o:Obj} (h1:s.heap.get? a=some o) (h2:H a=none) (h3:a≠X.env.locals) (h4:a ∉ X.fs) (h5 : ∀ v,o.data ≠ .cell v):Inv X ((a,o)::pins) σ H s:=
 I.pins_of fun p hp=>by
  rcases List.mem_cons.mp hp with rfl | hp
  ·exact ⟨h1,h2,h3,h4,h5⟩
  ·exact I.pin p (List.mem_append_right _ hp)
theorem Inv.unpin {p:Addr × Obj} (I:Inv X (p::pins) σ H s):Inv X pins σ H s:=I.pins_of fun q hq=>I.pin q (List.mem_append_right _ (List.mem_cons_of_mem _ hq))
structure OwnR (X:Cx) (pins:List (Addr × Obj)) (a:Addr):Prop where
 ab:X.s₀.heap.objs.size<=a
 nl:a≠X.env.locals
 nc : ∀ x c,X.env.cells.lookup x=some c->c≠a
 np : ∀ p ∈ X.pn++pins,p.1≠a
 nf:a ∉ X.fs
theorem Inv.ownR (I:Inv X pins σ H s) {a:Addr} (h:s.heap.objs.size<=a):OwnR X pins a where
 ab:=Nat.le_trans I.sz h
 nl:=Nat.ne_of_gt (Nat.lt_of_lt_of_le I.lt h)
 nc:=fun x c e=>by
  obtain ⟨v,o,ho,_⟩:=I.cell x c e
  exact Nat.ne_of_lt (Nat.lt_of_lt_of_le (Heap.lt_size ho) h)
 np:=fun p hp=>Nat.ne_of_lt (Nat.lt_of_lt_of_le (Heap.lt_size (I.pin p hp).1) h)
 nf:=I.nofs h
theorem Inv.repin {a:Addr} {o o':Obj} {h':Heap} {t':Nat} (I:Inv X ((a,o)::pins) σ H s) (O:OwnR X pins a) (k : ∀ b u,b≠a->s.heap.get? b=some u->h'.get? b=some u) (e:h'.get? a=some o') (hd : ∀ v,o'.data ≠ .cell v) :
  Inv X ((a,o')::pins) σ H { s with heap:=h',toks:=t' }:= by
 obtain ⟨_,h2,h3,h4,_⟩:=I.pin (a,o) (List.mem_append_right _ List.mem_cons_self)
 exact ((Inv.unpin I).turned (t':=t') k h2 h3 (.inr O.ab) O.nc O.np).pin1 e h2 h3 h4 hd
theorem Inv.swap {p q:Addr × Obj} (I:Inv X (p::q::pins) σ H s):Inv X (q::p::pins) σ H s:=I.pins_of fun r hr=>I.pin r (List.mem_append_right _ (by
 rcases List.mem_cons.mp hr with rfl | hr
 ·exact List.mem_cons_of_mem _ List.mem_cons_self
 ·rcases List.mem_cons.mp hr with rfl | hr
  ·exact List.mem_cons_self
  ·exact List.mem_cons_of_mem _ (List.mem_cons_of_mem _ hr)))
end
section
variable {X:Cx} {pins:List (Addr × Obj)} {σ:St} {H:Hp} {s:Shared} {lps:Arguments} {lb:Expr} {lsc:Scope} {lpos:Pos} {cl:List (Str × Addr)} {c P:Addr} {E:Value->Shared->Prop} {Qv:Value->Shared->Prop}
abbrev lamObj (X : Cx) (lps : Arguments) (lb : Expr) (lsc : Scope) (cl : List (Str × Addr)) (c' : Addr) (ctv : Value) : Obj:=PySem.W.kla_obj "<lambda>" (X.env.qual ++ "<lambda>") lps lb lsc cl ((X.mg "__name__").getD .none) c' ctv
theorem mk_lam (I : Inv X pins σ H s) (hdef : defaultsOf lps X.env = ([],[])) (hcl : closureFor lsc X.env = pure cl) (hcode : X.env.code = .ref c) (hC : PySem.W.CodeHd X.base c P) (hbm : BmAt X.mg X.base) (hT : TabOk H P lpos (X.env.qual ++ "<lambda>"))
  (h : ∀ (f c' : Addr) (ctv : Value) (H' : Hp) (s' : Shared),Inv X ((f,lamObj X lps lb lsc cl c' ctv) :: pins) σ H' s' -> H' c' = some (CodeO c' (X.env.qual ++ "<lambda>")) -> TabOk H' P lpos (X.env.qual ++ "<lambda>") -> Same (hole H P) H' -> Qv (.ref f) s') :
  wpAny (model X.prog X.w) X.A (eval (.Lambda lps lb lsc lpos) X.env) Qv E s:= by
 obtain ⟨ps,hP,htr,hor⟩:=hT
 have hPh:s.heap.get? P=some (PySem.W.tabObj ps):=I.hok P _ hP
 obtain ⟨bm,ob,b1,b2,b3,b4,b5,b6⟩:=hbm
 have hg:s.heap.Ns mainGlobals X.mg:=I.ok.mod.glob.keeps I.bk
 have hbm':=I.bs bm ob b3
 have hgP:mainGlobals≠P:=fun q=>by
  obtain ⟨o,es,ep,e,hd,_⟩:=hg
  rw[q,hPh] at e;cases e;cases hd
 have hbP:bm≠P:=fun q=>by
  have:=hbm'.2
  rw[q,hP] at this;cases this
 have hbG:bm≠mainGlobals:=fun q=>by
  obtain ⟨o,es,ep,e,hd,_⟩:=hg
  rw[q,e] at hbm';cases hbm'.1;rw[hd] at b6;cases b6
 have hb:s.heap.BuiltinsAt X.mg P:=⟨bm,ob,b1,b2,hbG,hbP,hbm'.1,b4,b5,b6⟩
 have hC':PySem.W.CodeHd s.heap c P:=hC.keeps I.bk
 refine PySem.W.kla_eval hdef ?_
 rcases hor with hno | ⟨c',hyes,hc'⟩
 ·refine PySem.W.kla_makeFunction (mg:=X.mg) hcl I.ok.glob hg hcode hC' hPh htr hno hgP hb fun c' ctv h' tk hx hge hlt hrec htb=>?_
  have hc0:H c'=none:=I.hok.fresh hge
  have cP:c'≠P:=fun e=>by rw[e,hP] at hc0;cases hc0
  have kk : ∀ b o,b≠P->s.heap.get? b=some o->(h'.push (lamObj X lps lb lsc cl c' ctv)).get? b=some o:=fun b o hb e=>Heap.get?_push_of_some _ (hx b o hb e)
  have hH' : ∀ b u,H b = some u -> b ≠ P -> upd (upd H P (.tbl (ps ++ #[rawInt lpos.line,rawInt lpos.col,.ref c']))) c' (CodeO c' (X.env.qual ++ "<lambda>")) b = some u:=fun b u e hb=>by
   rw[upd_ne (ne_of_none e hc0),upd_ne hb];exact e
  have hPn : upd (upd H P (.tbl (ps ++ #[rawInt lpos.line,rawInt lpos.col,.ref c']))) c' (CodeO c' (X.env.qual ++ "<lambda>")) P = some (.tbl (ps ++ #[rawInt lpos.line,rawInt lpos.col,.ref c'])):= by
   rw[upd_ne cP.symm,upd_same]
  have hcn : upd (upd H P (.tbl (ps ++ #[rawInt lpos.line,rawInt lpos.col,.ref c']))) c' (CodeO c' (X.env.qual ++ "<lambda>")) c' = some (CodeO c' (X.env.qual ++ "<lambda>")):=upd_same
  have hno' : ∀ b,H b = none -> b ≠ c' -> upd (upd H P (.tbl (ps ++ #[rawInt lpos.line,rawInt lpos.col,.ref c']))) c' (CodeO c' (X.env.qual ++ "<lambda>")) b = none:=fun b e hb=>by
   rw[upd_ne hb,upd_ne (fun z=>by rw[z,hP] at e;cases e)];exact e
  have hcd2 : ∀ b u,upd (upd H P (.tbl (ps ++ #[rawInt lpos.line,rawInt lpos.col,.ref c']))) c' (CodeO c' (X.env.qual ++ "<lambda>")) b = some u -> b = c' \/ b = P \/ (H b = some u /\ b ≠ P /\ b ≠ c'):=fun b u e=>by
   by_cases h1:b=c'
   ·exact .inl h1
   ·by_cases h2:b=P
    ·exact .inr (.inl h2)
    ·rw[upd_ne h1,upd_ne h2] at e;exact .inr (.inr ⟨e,h2,h1⟩)
  generalize upd (upd H P (.tbl (ps ++ #[rawInt lpos.line,rawInt lpos.col,.ref c']))) c' (CodeO c' (X.env.qual ++ "<lambda>")) = H' at hH' hPn hcn hno' hcd2
  have hsz:s.heap.objs.size<=h'.objs.size:=Nat.le_trans hge (Nat.le_of_lt hlt)
  have I':Inv X pins σ H' { s with heap:=h'.push (lamObj X lps lb lsc cl c' ctv),toks:=tk }:= by
   refine I.un (t':=tk) ⟨fun b o e n hb _=>kk b o (fun z=>by rw[z,hP] at n;cases n) e,fun b o e n hb _=>⟨o.slots,kk b o (fun z=>by rw[z,hP] at n;cases n) e⟩,
    fun b o e n _=>hno' b n (fun z=>by rw[z] at e;exact absurd (Heap.lt_size e) (Nat.not_lt.mpr hge)),fun b o e _=>?_,fun b xs e=>hH' b _ e (fun z=>by rw[z,hP] at e;cases e),fun b o u e=>hH' b _ e (fun z=>by rw[z,hP] at e;cases e),fun b qs e=>?_⟩ (fun b u e=>?_)
   ·by_cases hb:b=P
    ·exact ⟨_,by rw[hb];exact Heap.get?_push_of_some _ htb⟩
    ·exact ⟨o,kk b o hb e⟩
   ·by_cases hb:b=P
    ·rw[hb,hP] at e;cases e
     exact ⟨_,by rw[hb];exact hPn⟩
    ·exact ⟨#[],by rw[hH' b _ e hb];simp⟩
   ·rcases hcd2 b u e with rfl | rfl | ⟨e1,e2,e3⟩
    ·rw[hcn] at e;cases e
     obtain ⟨c2,oc,vs,t,q1,q2,q3,q4⟩:=hrec
     cases q1
     refine ⟨⟨oc,vs,t,Heap.get?_push_of_some _ q2,q3,q4⟩,⟨oc,Heap.get?_push_of_some _ q2⟩,fun h1 h2 ⟨o1,v1,t1,z1,z2,z3⟩ kp=>⟨o1,v1,t1,kp _ z1,z2,z3⟩⟩
    ·rw[hPn] at e;cases e
     exact Heap.get?_push_of_some _ htb
    ·refine (I.hok b u e1).stay (fun d v hd q=>kk d v (fun z=>?_) q) (fun d q=>hH' d _ q (fun z=>by rw[z,hP] at q;cases q)) fun d xs q=>hH' d _ q (fun z=>by rw[z,hP] at q;cases q)
     rcases hd with hd | hd
     ·exact e2 (hd.symm.trans z)
     ·rw[z,hP] at hd;cases hd
  have hfn:H' h'.objs.size=none:=hno' _ (I.hok.fresh hsz) (Nat.ne_of_gt hlt)
  refine h _ c' ctv H' _ (I'.pin1 (Heap.get?_push_size _ rfl) hfn (I.ownR hsz).nl (I.ownR hsz).nf fun v z=>by cases z) hcn ⟨_,hPn,?_,.inr ⟨c',?_,hcn⟩⟩ fun b o e=>?_
  ·rw[Array.toList_append];exact TriplesOk_snoc _ _ _ _ htr
  ·rw[Array.toList_append];exact codeAmong_snoc _ htr hno
  ·have hb:b≠P:=fun z=>by rw[z] at e;unfold hole at e;rw[if_pos rfl] at e;cases e
   exact hH' b o (hole_le H P b o e) hb
 ·refine PySem.W.kla_makeFunctionHit (mg:=X.mg) hcl I.ok.glob hg hcode hC' hPh htr hyes hb fun ctv h' tk hk hsz=>?_
  have I':Inv X pins σ H { s with heap:=h'.push (lamObj X lps lb lsc cl c' ctv),toks:=tk }:=I.kept (t':=tk) fun b u e=>Heap.get?_push_of_some _ (hk b u e)
  exact h _ c' ctv H _ (I'.pin1 (Heap.get?_push_size _ rfl) (I.hok.fresh hsz) (I.ownR hsz).nl (I.ownR hsz).nf fun v z=>by cases z) hc' ⟨ps,hP,htr,.inr ⟨c',hyes,hc'⟩⟩ (hole_le H P)
end
section
variable {X:Cx} {pins:List (Addr × Obj)} {σ:St} {H:Hp} {s:Shared} {lps:Arguments} {lb:Expr} {lsc:Scope} {lpos:Pos} {cl:List (Str × Addr)}
def lamCx (X:Cx) (N:List Str) (qual:Str) (sc:Scope) (f c':Addr) (cl:List (Str × Addr)) (A:Around) (s:Shared) (H:Hp):Cx where
 prog:=X.prog
 w:=X.w
 K:=X.K
 mg:=X.mg
 base:=X.base
 A:=A.deeper (PySem.W.envX qual sc s.heap.objs.size f (.ref c') cl)
 N:=N
 s₀:=s
 H₀:=H
 env:=PySem.W.envX qual sc s.heap.objs.size f (.ref c') cl
 outer:=X.stack
 stack:=PySem.W.envX qual sc s.heap.objs.size f (.ref c') cl::X.stack
 ex:=[]
 calm:=true
 fn:=fun _=>false
 pn:=[]
 xe:=fun _ _=>False
structure LamOk (X:Cx) (lps:Arguments) (lb:Expr) (lsc:Scope) (cl:List (Str × Addr)) (x:Str) (fr:List Str) (ix:List Nat):Prop where
 kind:lsc.kind = .function
 co:lsc.isCoroutine=false
 gen:lsc.isGenerator=false
 par:lsc.names.lookup x=some .local
 nocell : ∀ y ∈ lsc.names,y.2 ≠ .cell
 free : ∀ q ∈ lsc.names,q.2 = .free->q.1 ∈ fr
 sub : ∀ q ∈ cl,X.env.cells.lookup q.1=some q.2
 has : ∀ y ∈ fr,∃ c,cl.lookup y=some c
 isf : ∀ y ∈ fr,lsc.names.lookup y=some .free/\X.env.scope.names.lookup y=some .cell
 pl:Paired (fun i y=>X.N[i]?=some y) ix fr
 bind : ∀ (qual : Str) (pm cdv ctv u : Value),bindArgs (PySem.W.kla_fn "<lambda>" qual lps lb lsc cl pm cdv ctv) ⟨[u],[]⟩ = pure [(x,u)]
abbrev lamSt (σ:St) (ix:List Nat) (v:V):St:=some v::ix.map fun i=>(σ[i]?).getD none
theorem run_lam {x:Str} {fr:List Str} {ix:List Nat} {te:TE} {A:Around} {v:V} {u:Value} {f c':Addr} {ctv:Value} {Q:VK} {E:Value->Shared->Prop} (L:LamOk X lps lb lsc cl x fr ix) (I:Inv X pins σ H s) (hf:(f,lamObj X lps lb lsc cl c' ctv) ∈ X.pn++pins)
  (hc : H c' = some (CodeO c' (X.env.qual ++ "<lambda>"))) (hA : A.frames = some X.stack) (hAh : A.handled = none) (hdp : A.depth < recursionLimit) (hb : PE (lamCx X (x :: fr) (X.env.qual ++ "<lambda>") lsc f c' cl A s H) lb te) (r : RelV v u) (q : te (lamSt σ ix v) H Q) :
  wpAny (model X.prog X.w) A (call (.ref f) [u]) (EP X pins σ Q) E s:= by
 obtain ⟨⟨oc,vs,t,e1,e2,e3⟩,_,_⟩:=I.hok c' _ hc
 refine wpAny_call (PySem.W.kla_callFunE hdp (I.pin _ hf).1 rfl L.co L.gen rfl ⟨c',oc,vs,t,rfl,e1,e2,e3⟩ ?_)
 rw[L.bind]
 refine wpAny_pure (wpAny_newFunctionEnv L.nocell (fun y hy=>by rw[List.mem_singleton.mp hy];exact L.par) (fun h₁ hns hsb=>⟨(I.nolimit).fresh _ hsb,?_⟩) L.kind)
 show codeAny _ _ (.expr lb (PySem.W.envX (X.env.qual ++ "<lambda>") lsc s.heap.objs.size f (.ref c') cl)) _ _
 have hk₁ : ∀ b o,s.heap.get? b=some o->h₁.get? b=some o:=fun b o e=>hsb.extBut b o (Nat.ne_of_lt (Heap.lt_size e)) (Heap.get?_push_of_some _ e)
 have cls : ∀ y c,cl.lookup y=some c->X.env.cells.lookup y=some c:=fun y c e=>L.sub (y,c) (PySem.mem_of_lookup e)
 have J : Inv (lamCx X (x :: fr) (X.env.qual ++ "<lambda>") lsc f c' cl A s H) [] (lamSt σ ix v) H { s with heap:=h₁,toks:=s.toks + [(x,u)].length }:= by
  refine ⟨⟨I.ok.mod,L.kind,rfl,rfl,Nat.le_refl _,fun y z c h1 h2=>I.ok.inj y z c (cls y c h1) (cls z c h2),fun y hy=>?_,fun y c h=>absurd h (by show ¬ (false=true);decide),fun _=>hAh,Around.frames_deeper hA,.inr ⟨rfl,rfl⟩,fun b z=>absurd (show b ∈ ([]:List Addr) from z) (by simp),I.bs,Nat.le_trans I.ok.bsz I.sz,fun b _ _ z=>absurd (show b ∈ ([]:List Addr) from z) (by simp),fun b z=>absurd (show b ∈ ([]:List Addr) from z) (by simp),I.stack,I.stkFree⟩,
   rfl,I.bare,Un.kept hk₁,⟨_,hns,fun i y v' h1 h2 h3=>?_⟩,fun y c e=>?_,I.hok.fresh (Nat.le_refl _),fun y c e=>I.freeC y c (cls y c e),fun p hp=>absurd (show p ∈ ([]:List (Addr × Obj)) from hp) (by simp),I.hok.kept hk₁,?_⟩
  ·have hy:lsc.names.lookup y=some .cell\/lsc.names.lookup y=some .free:=hy
   rcases hy with hy | hy
   ·exact absurd rfl (L.nocell _ (PySem.mem_of_lookup hy))
   ·exact L.has y (L.free _ (PySem.mem_of_lookup hy) rfl)
  ·cases i with
   | zero=>
    have h1:some x=some y:=h1
    have h2:some (some v)=some (some v'):=h2
    cases h1;cases h2
    exact ⟨u,r,.inl ⟨L.par,by simp⟩⟩
   | succ j=>
    have h1:fr[j]?=some y:=h1
    have h2:(ix.map fun i=>(σ[i]?).getD none)[j]?=some (some v'):=h2
    obtain ⟨n,hn,hj⟩:=paired_getR L.pl h1
    rw[List.getElem?_map,hj] at h2
    have h2:(σ[n]?).getD none=some v':=by injection h2
    have h2:σ[n]?=some (some v'):= by
     cases e:σ[n]? with
     | none=>rw[e] at h2;cases h2
     | some z=>rw[e] at h2;rw[show z=some v' from h2]
    obtain ⟨g1,g2⟩:=L.isf y (List.mem_of_getElem? h1)
    obtain ⟨m,hm,hl⟩:=I.loc
    obtain ⟨u',r',l⟩:=hl n y v' hn h2 (.inr (.inl g2))
    rcases l with ⟨k,_⟩ | ⟨_,c,e,z⟩
    ·have k:X.env.scope.names.lookup y=some .local:=k
     rw[g2] at k;cases k
    ·obtain ⟨c2,e2⟩:=L.has y (List.mem_of_getElem? h1)
     have:=cls y c2 e2
     rw[e] at this
     cases this
     obtain ⟨oz,z1,z2⟩:=z
     exact ⟨u',r',.inr ⟨.inr g1,c,e2,oz,hk₁ _ _ z1,z2⟩⟩
  ·obtain ⟨w0,o,ho,hd⟩:=I.cell y c (cls y c e)
   exact ⟨w0,o,hk₁ _ _ ho,hd⟩
  ·show (some v::ix.map fun i=>(σ[i]?).getD none).length=(x::fr).length
   rw[List.length_cons,List.length_cons,List.length_map,L.pl.length]
 refine PySem.W.kla_codeExpr (wpAny_mono (hb [] _ _ H _ J q) (fun u2 s2 hs=>?_) fun _ _ z=>False.elim z)
 obtain ⟨v2,H2,J2,r2,q2⟩:=hs
 exact ⟨v2,H2,I.call' J2.os J2.base J2.hok J2.bare (fun b z=>absurd (show b ∈ ([]:List Addr) from z) (by simp)),r2,q2⟩
theorem vals_rfs : ∀ {as:List Addr} {its:List Value},Vals (as.map V.ref) its->its=as.map Value.ref
 | [],_,.nil=>rfl
 | a::as,_,.cons r t=>by
  obtain rfl:_=Value.ref a:=r
  rw[vals_rfs t];rfl
end
def TopAt (kf:Nat->Int) (n i:Nat):Prop:=∀ j,j<n->kf i >= kf j/\(j<i->kf i > kf j)
section
variable {X:Cx} {P0:List (Addr × Obj)} {σ:St} {H2:Hp} {l It S q:Addr} {as:List Addr} {R:Result->Shared->Prop} {kf:Nat->Int}
theorem maxL_loop (hh:X.A.handled=none) (hsq:SqL X.K H2 l (as.map V.ref)) (hlI:l≠It) (hSI:S≠It) (oI:OwnR X P0 It) (oS:OwnR X P0 S)
  (turn : ∀ (i:Nat) (a:Addr),as[i]?=some a -> ∀ (pins:List (Addr × Obj)) (s:Shared) (H:Hp),Inv X pins σ H s->(∀ p ∈ P0,p ∈ pins)->Same H2 H ->
   wpAny (model X.prog X.w) X.A.in1 (call (.ref q) [.ref a]) (EP X pins σ fun v H'=>v = .int (kf i)/\Same H H') (fun _ _=>False) s)
  (hR : ∀ i a s' H',as[i]?=some a->TopAt kf as.length i->Inv X P0 σ H' s'->Same H2 H'->R (.ok (.ret (.ref a))) s') :
  ∀ (r j i : Nat) (s : Shared) (H : Hp) (ab : Addr) (tb : Tok) (c : Nat) (ob : Obj),as.length - (j + 1) = r -> j + 1 <= as.length -> Inv X ((S,seqObj "list" #[.ref ab,.int (kf i) tb] c) :: (It,ob) :: P0) σ H s -> Same H2 H ->
   s.heap.IsListIter It l (j+1)->as[i]?=some ab->i<=j->(∀ j',j'<=j->kf i >= kf j'/\(j'<i->kf i > kf j')) ->
   codeAny (model X.prog X.w) X.A (.builtin "max.loop" ⟨[.ref It,.ref q,.ref S],[]⟩) R s:= by
 have hname : (toString "max" ++ toString ".loop" : String) = "max.loop":=by decide
 have W:=Walks.list (prog:=X.prog) (w:=X.w) (A:=X.A.in1) hh It l hlI (as.map Value.ref).toArray
 have hsz:(as.map Value.ref).toArray.size=as.length:=by rw[List.size_toArray,List.length_map]
 have islist : ∀ {pins:List (Addr × Obj)} {s:Shared} {H:Hp},Inv X pins σ H s->Same H2 H->s.heap.IsList l (as.map Value.ref).toArray:=fun {pins s H} I sm=>by
  obtain ⟨its,r',pl,_⟩:=I.list (sm.seq hsq)
  rw[vals_rfs r'] at pl
  exact pl.isList
 have oS1 : ∀ ob:Obj,OwnR X ((It,ob)::P0) S:=fun ob=>⟨oS.ab,oS.nl,oS.nc,fun p hp=>by
  rcases List.mem_append.mp hp with hp | hp
  ·exact oS.np p (List.mem_append_left _ hp)
  ·rcases List.mem_cons.mp hp with rfl | hp
   ·exact fun z=>hSI z.symm
   ·exact oS.np p (List.mem_append_right _ hp),oS.nf⟩
 have oI1 : ∀ ob:Obj,OwnR X ((S,ob)::P0) It:=fun ob=>⟨oI.ab,oI.nl,oI.nc,fun p hp=>by
  rcases List.mem_append.mp hp with hp | hp
  ·exact oI.np p (List.mem_append_left _ hp)
  ·rcases List.mem_cons.mp hp with rfl | hp
   ·exact hSI
   ·exact oI.np p (List.mem_append_right _ hp),oI.nf⟩
 intro r
 induction r with
 | zero=>
  intro j i s H ab tb c ob hr hj I sm hit hab hij hbest
  have hin:j+1=as.length:=by omega
  have pS:=I.pin (S,seqObj "list" #[.ref ab,.int (kf i) tb] c) (List.mem_append_right _ List.mem_cons_self)
  have pI:=I.pin (It,ob) (List.mem_append_right _ (List.mem_cons_of_mem _ List.mem_cons_self))
  refine codeAny_builtin PySem.F.entry_max_loop ?_
  rw[Around.under_plainId PySem.F.plain_max_loop _]
  show wpAny _ X.A.in1 (seqItems? (.ref S) >>= _) _ _ _
  refine wpAny_bind (wpAny_seqItems pS.1 rfl ?_)
  show wpAny _ X.A.in1 (tryCatch (pyNext (.ref It)) _ >>= _) _ _ _
  refine wpAny_bind (wpAny_tryCatch (W.done _ _ _ ⟨by rw[hsz,<- hin];exact hit,islist I sm⟩ fun h' tk' hk'=>?_))
  have hk1 : ∀ b u,b≠It->s.heap.get? b=some u->h'.get? b=some u:=fun b u hb e=>hk' b u (by simpa using hb) e
  have I1 : Inv X ((S,seqObj "list" #[.ref ab,.int (kf i) tb] c) :: P0) σ H { s with heap:=h',toks:=tk' }:=(Inv.unpin (Inv.swap I)).turned (t':=tk') hk1 pI.2.1 pI.2.2.1 (.inr oI.ab) oI.nc (oI1 _).np
  have hS':=hk1 S _ hSI pS.1
  have s1:=Heap.SameBut.update h' S (Obj.mapSeq fun _=>(#[]:Array Value))
  show wpAny _ X.A.in1 (updateSeq S (fun _=>#[]) >>= _) _ _ _
  refine wpAny_bind ?_
  refine wpAny_updateSeq hS' rfl (wpAny_bind (wpAny_letGo (wpAny_pure ?_)))
  exact hR i ab _ H hab (fun j' hj'=>hbest j' (by omega)) ((Inv.unpin I1).turned (t':=tk') (fun b u hb e=>(s1.2 b hb).trans e) pS.2.1 pS.2.2.1 (.inr oS.ab) oS.nc oS.np) sm
 | succ r ih=>
  intro j i s H ab tb c ob hr hj I sm hit hab hij hbest
  have hlt:j+1<as.length:=by omega
  have pS:=I.pin (S,seqObj "list" #[.ref ab,.int (kf i) tb] c) (List.mem_append_right _ List.mem_cons_self)
  have pI:=I.pin (It,ob) (List.mem_append_right _ (List.mem_cons_of_mem _ List.mem_cons_self))
  refine codeAny_builtin PySem.F.entry_max_loop ?_
  rw[Around.under_plainId PySem.F.plain_max_loop _]
  show wpAny _ X.A.in1 (seqItems? (.ref S) >>= _) _ _ _
  refine wpAny_bind (wpAny_seqItems pS.1 rfl ?_)
  show wpAny _ X.A.in1 (tryCatch (pyNext (.ref It)) _ >>= _) _ _ _
  refine wpAny_bind (wpAny_tryCatch (W.item (j+1) _ _ _ (by rw[hsz];exact hlt) ⟨hit,islist I sm⟩ fun v h' tk' hP hst' hk'=>?_))
  obtain ⟨a1,ha1,rfl⟩ : ∃ a1,as[j+1]?=some a1/\v = .ref a1:= by
   have hP:(as.map Value.ref)[j+1]?=some v:=by simpa using hP
   rw[List.getElem?_map] at hP
   cases e:as[j+1]? with
   | none=>rw[e] at hP;cases hP
   | some z=>rw[e] at hP;cases hP;exact ⟨z,rfl,rfl⟩
  obtain ⟨oI',hoI',hoc,hod⟩:=id hst'.1
  have hk1 : ∀ b u,b≠It->s.heap.get? b=some u->h'.get? b=some u:=fun b u hb e=>hk' b u (by simpa using hb) e
  have I1 : Inv X ((S,seqObj "list" #[.ref ab,.int (kf i) tb] c) :: (It,oI') :: P0) σ H { s with heap:=h',toks:=tk' }:=Inv.swap (Inv.repin (t':=tk') (Inv.swap I) (oI1 _) hk1 hoI' (fun v z=>by rw[hod] at z; cases z))
  show wpAny _ X.A.in1 (tryCatch (holding [.ref a1] (call (.ref q) [.ref a1])) _ >>= _) _ _ _
  refine wpAny_bind (wpAny_tryCatch (wpAny_holding (wpAny_mono (turn (j+1) a1 ha1 _ _ H I1 (fun p hp=>List.mem_cons_of_mem _ (List.mem_cons_of_mem _ hp)) sm) (fun x s'' he=>?_) fun _ _ hF=>hF.elim)))
  obtain ⟨v2,H',I2,r2,rfl,sm2⟩:=he
  obtain ⟨t2,rfl⟩:=r2
  have pS2:=I2.pin (S,seqObj "list" #[.ref ab,.int (kf i) tb] c) (List.mem_append_right _ List.mem_cons_self)
  have pI2:=I2.pin (It,oI') (List.mem_append_right _ (List.mem_cons_of_mem _ List.mem_cons_self))
  have hit2:s''.heap.IsListIter It l (j+1+1):=⟨oI',pI2.1,hoc,hod⟩
  show wpAny _ X.A.in1 (tryCatch (holding [.ref a1,.int (kf (j+1)) t2] (richCompare .Gt (.int (kf (j+1)) t2) (.int (kf i) tb) >>= _)) _ >>= _) _ _ _
  refine wpAny_bind (wpAny_tryCatch (wpAny_holding (wpAny_bind (CmpOf.ints_gt (prog:=X.prog) (w:=X.w) (A:=X.A.in1) (P:=fun i v=>∃ t,v = .int (kf i) t) kf (fun i v h=>h) (j+1) i _ _ _ _ _ ⟨t2,rfl⟩ ⟨tb,rfl⟩ ?_))))
  refine wpAny_bind (wpAny_holding (wpAny_truthy_bool ?_))
  refine wpAny_bind (wpAny_letGo (wpAny_pure ?_))
  by_cases hb':kf (j+1) > kf i
  ·have s1:=Heap.SameBut.update s''.heap S (Obj.mapSeq fun _=>#[.ref a1,.int (kf (j+1)) t2])
   obtain ⟨c2,hc2⟩ : ∃ c2,(s''.heap.update S (Obj.mapSeq fun _=>#[.ref a1,.int (kf (j + 1)) t2])).get? S = some (seqObj "list" #[.ref a1,.int (kf (j + 1)) t2] c2):=⟨_,get?_update_seq pS2.1 fun _=>#[.ref a1,.int (kf (j + 1)) t2]⟩
   simp only [hb',decide_true,if_true]
   refine wpAny_bind ?_
   refine wpAny_updateSeq pS2.1 rfl (wpAny_bind (wpAny_letGo ?_))
   rw[hname]
   refine wpAny_pure ⟨plainId_quiet PySem.F.plain_max_loop _,ih (j+1) (j+1) _ H' a1 t2 c2 oI' (by omega) hlt (Inv.repin (t':=s''.toks) I2 (oS1 _) (fun b u hb e=>(s1.2 b hb).trans e) hc2 (fun v z=>by cases z)) (sm.trans sm2) ⟨oI',(s1.2 It hSI.symm).trans pI2.1,hoc,hod⟩ ha1 (Nat.le_refl _) fun j' hj'=>?_⟩
   by_cases e:j'=j+1
   ·subst e
    exact ⟨by omega,fun _=>by omega⟩
   ·have hb1:=hbest j' (by omega)
    have hb2:=hb1.1
    exact ⟨by omega,fun _=>by omega⟩
  ·simp only [hb',decide_false,Bool.false_eq_true,if_false]
   refine wpAny_bind (wpAny_letGo ?_)
   rw[hname]
   refine wpAny_pure ⟨plainId_quiet PySem.F.plain_max_loop _,ih (j+1) i _ H' ab tb c oI' (by omega) hlt I2 (sm.trans sm2) hit2 hab (by omega) fun j' hj'=>?_⟩
   by_cases e:j'=j+1
   ·subst e
    exact ⟨by omega,fun _=>by omega⟩
   ·exact hbest j' (by omega)
theorem max_key {s:Shared} {Q:Value->Shared->Prop} {E:Value->Shared->Prop} (hh:X.A.handled=none) (I:Inv X P0 σ H2 s) (hsq:SqL X.K H2 l (as.map V.ref)) (hne:0<as.length)
  (turn : ∀ (i:Nat) (a:Addr),as[i]?=some a -> ∀ (pins:List (Addr × Obj)) (s:Shared) (H:Hp),Inv X pins σ H s->(∀ p ∈ P0,p ∈ pins)->Same H2 H ->
   wpAny (model X.prog X.w) X.A.in1 (call (.ref q) [.ref a]) (EP X pins σ fun v H'=>v = .int (kf i)/\Same H H') (fun _ _=>False) s)
  (hQ : ∀ i a s' H',as[i]?=some a->TopAt kf as.length i->Inv X P0 σ H' s'->Same H2 H'->Q (.ref a) s') :
  wpAny (model X.prog X.w) X.A (call (.builtin "max") [.ref l] [(Str.ofString "key",.ref q)]) Q E s:= by
 have hname : (toString "max" ++ toString ".loop" : String) = "max.loop":=by decide
 have islist : ∀ {pins:List (Addr × Obj)} {s:Shared} {H:Hp},Inv X pins σ H s->Same H2 H->s.heap.IsList l (as.map Value.ref).toArray:=fun {pins s H} I sm=>by
  obtain ⟨its,r',pl,_⟩:=I.list (sm.seq hsq)
  rw[vals_rfs r'] at pl
  exact pl.isList
 have hls:=islist I (Same.refl H2)
 obtain ⟨ol,hol,_⟩:=id hls
 have hll:l<s.heap.objs.size:=Heap.lt_size hol
 refine kmk_tree PySem.F.kind_max PySem.F.plain_max PySem.F.entry_max (kmk_max_key _ _) ?_
 show wpAny _ X.A.in1 (Builtin.Builtins.bindParams "max" ["key","default"] 0 ⟨[],[(Str.ofString "key",.ref q)]⟩ >>= _) _ _ s
 refine wpAny_bind (wpAny_of_eq (show Builtin.Builtins.bindParams "max" ["key","default"] 0 ⟨[],[(Str.ofString "key",.ref q)]⟩ = pure [some (.ref q),none] from rfl) ?_)
 refine wpAny_bind (wpAny_pure ?_)
 refine wpAny_bind (wpAny_pyIter_list hls ?_)
 refine wpAny_bind (wpAny_newList ?_ (Nat.zero_le _))
 rw[hname]
 generalize hio : ({ cls:=.type "list_iterator",data:=.fields #[.ref l,.int 0 0] } : Obj) = io
 have hS:(s.heap.push io).objs.size=s.heap.objs.size+1:=size_push' ..
 have hlI:l≠s.heap.objs.size:=Nat.ne_of_lt hll
 have hSI:(s.heap.push io).objs.size≠s.heap.objs.size:=by rw[hS];exact Nat.ne_of_gt (Nat.lt_succ_self _)
 have oI:=I.ownR (Nat.le_refl s.heap.objs.size)
 have oS:OwnR X P0 (s.heap.push io).objs.size:=I.ownR (by rw[hS];exact Nat.le_succ _)
 have gI : ((s.heap.push io).push (seqObj "list" #[] 0)).get? s.heap.objs.size = some io:=Heap.get?_push_of_some _ (Heap.get?_push_size _ (by rw[<- hio]; rfl))
 have gS : ((s.heap.push io).push (seqObj "list" #[] 0)).get? (s.heap.push io).objs.size = some (seqObj "list" #[] 0):=Heap.get?_push_size _ rfl
 have I0 : Inv X P0 σ H2 { s with heap:=(s.heap.push io).push (seqObj "list" #[] 0) }:=I.kept (t':=s.toks) fun b u e=>Heap.get?_push_of_some _ (Heap.get?_push_of_some _ e)
 have iod : ∀ v,io.data ≠ .cell v:=fun v z=>by rw[<- hio] at z;cases z
 have I1 : Inv X ((s.heap.objs.size,io) :: P0) σ H2 { s with heap:=(s.heap.push io).push (seqObj "list" #[] 0) }:=I0.pin1 gI (I.hok.fresh (Nat.le_refl _)) oI.nl oI.nf iod
 have I2 : Inv X (((s.heap.push io).objs.size,seqObj "list" #[] 0) :: (s.heap.objs.size,io) :: P0) σ H2 { s with heap:=(s.heap.push io).push (seqObj "list" #[] 0) }:=I1.pin1 gS (I.hok.fresh (by rw[hS]; exact Nat.le_succ _)) oS.nl oS.nf fun v z=>by cases z
 have oI1 : ∀ ob:Obj,OwnR X (((s.heap.push io).objs.size,ob)::P0) s.heap.objs.size:=fun ob=>⟨oI.ab,oI.nl,oI.nc,fun p hp=>by
  rcases List.mem_append.mp hp with hp | hp
  ·exact oI.np p (List.mem_append_left _ hp)
  ·rcases List.mem_cons.mp hp with rfl | hp
   ·exact hSI
   ·exact oI.np p (List.mem_append_right _ hp),oI.nf⟩
 have oS1 : ∀ ob:Obj,OwnR X ((s.heap.objs.size,ob)::P0) (s.heap.push io).objs.size:=fun ob=>⟨oS.ab,oS.nl,oS.nc,fun p hp=>by
  rcases List.mem_append.mp hp with hp | hp
  ·exact oS.np p (List.mem_append_left _ hp)
  ·rcases List.mem_cons.mp hp with rfl | hp
   ·exact fun z=>hSI z.symm
   ·exact oS.np p (List.mem_append_right _ hp),oS.nf⟩
 generalize hSa:(s.heap.push io).objs.size=S at hSI oS gS I2 oI1 oS1
 generalize hIa:s.heap.objs.size=It at hlI hSI oI gI I1 I2 oI1 oS1
 refine wpAny_pure ⟨plainId_quiet PySem.F.plain_max_loop _,?_⟩
 have W:=Walks.list (prog:=X.prog) (w:=X.w) (A:=X.A.in1) hh It l hlI (as.map Value.ref).toArray
 have hsz:(as.map Value.ref).toArray.size=as.length:=by rw[List.size_toArray,List.length_map]
 refine codeAny_builtin PySem.F.entry_max_loop ?_
 rw[Around.under_plainId PySem.F.plain_max_loop _]
 show wpAny _ X.A.in1 (seqItems? (.ref S) >>= _) _ _ _
 refine wpAny_bind (wpAny_seqItems gS rfl ?_)
 show wpAny _ X.A.in1 (tryCatch (pyNext (.ref It)) _ >>= _) _ _ _
 refine wpAny_bind (wpAny_tryCatch (W.item 0 _ _ _ (by rw[hsz];exact hne) ⟨⟨_,gI,by rw[<- hio],by rw[<- hio];rfl⟩,islist I2 (Same.refl H2)⟩ fun v h' tk' hP hst' hk'=>?_))
 obtain ⟨a1,ha1,rfl⟩ : ∃ a1,as[0]?=some a1/\v = .ref a1:= by
  have hP:(as.map Value.ref)[0]?=some v:=by simpa using hP
  rw[List.getElem?_map] at hP
  cases e:as[0]? with
  | none=>rw[e] at hP;cases hP
  | some z=>rw[e] at hP;cases hP;exact ⟨z,rfl,rfl⟩
 obtain ⟨oI',hoI',hoc,hod⟩:=id hst'.1
 have I3 : Inv X ((S,seqObj "list" #[] 0) :: (It,oI') :: P0) σ H2 { s with heap:=h',toks:=tk' }:=Inv.swap (Inv.repin (s:={ s with heap:=(s.heap.push io).push (seqObj "list" #[] 0) }) (t':=tk') (Inv.swap I2) (oI1 _) (fun b u hb e=>hk' b u (by simpa using hb) e) hoI' (fun v z=>by rw[hod] at z; cases z))
 show wpAny _ X.A.in1 (tryCatch (holding [.ref a1] (call (.ref q) [.ref a1])) _ >>= _) _ _ _
 refine wpAny_bind (wpAny_tryCatch (wpAny_holding (wpAny_mono (turn 0 a1 ha1 _ _ H2 I3 (fun p hp=>List.mem_cons_of_mem _ (List.mem_cons_of_mem _ hp)) (Same.refl H2)) (fun x s'' he=>?_) fun _ _ hF=>hF.elim)))
 obtain ⟨v2,H',I4,r2,rfl,sm2⟩:=he
 obtain ⟨t2,rfl⟩:=r2
 have pS2:=I4.pin (S,seqObj "list" #[] 0) (List.mem_append_right _ List.mem_cons_self)
 have pI2:=I4.pin (It,oI') (List.mem_append_right _ (List.mem_cons_of_mem _ List.mem_cons_self))
 have s1:=Heap.SameBut.update s''.heap S (Obj.mapSeq fun _=>#[.ref a1,.int (kf 0) t2])
 obtain ⟨c2,hc2⟩ : ∃ c2,(s''.heap.update S (Obj.mapSeq fun _=>#[.ref a1,.int (kf 0) t2])).get? S = some (seqObj "list" #[.ref a1,.int (kf 0) t2] c2):=⟨_,get?_update_seq pS2.1 fun _=>#[.ref a1,.int (kf 0) t2]⟩
 show wpAny _ X.A.in1 (updateSeq S (fun _=>#[.ref a1,.int (kf 0) t2]) >>= _) _ _ _
 refine wpAny_bind ?_
 refine wpAny_updateSeq pS2.1 rfl ?_
 rw[hname]
 refine wpAny_pure ⟨plainId_quiet PySem.F.plain_max_loop _,maxL_loop hh hsq hlI hSI oI oS turn (fun i a s' H'' h1 h2 h3 h4=>hQ i a s' H'' h1 h2 h3 h4) _ 0 0 _ H' a1 t2 c2 oI' rfl hne (Inv.repin (t':=s''.toks) I4 (oS1 _) (fun b u hb e=>(s1.2 b hb).trans e) hc2 (fun v z=>by cases z)) sm2 ⟨oI',(s1.2 It hSI.symm).trans pI2.1,hoc,hod⟩ ha1 (Nat.le_refl _) fun j' hj'=>?_⟩
 have e:j'=0:=by omega
 subst e
 exact ⟨by omega,fun h=>absurd h (Nat.lt_irrefl _)⟩
end
section
variable {X:Cx} {lps:Arguments} {lb:Expr} {lsc:Scope} {lpos:Pos} {cl:List (Str × Addr)} {c P:Addr} {x:Str} {fr:List Str} {ix:List Nat} {te:TE}
def tMaxL (K:PySem.W.Frag) (P:Addr) (lpos:Pos) (qual:Str) (ix:List Nat) (te:TE) (t:TA):TE:=fun σ H Q=>t σ H fun vs H1=>∃ (l:Addr) (as:List Addr) (kf:Nat->Int),vs=[.ref l]/\SqL K (hole H1 P) l (as.map V.ref)/\0<as.length/\TabOk H1 P lpos qual /\
 (∀ (i:Nat) (a:Addr),as[i]?=some a -> ∀ H',Same (hole H1 P) H'->te (lamSt σ ix (.ref a)) H' fun v H''=>v = .int (kf i)/\Same H' H'') /\
 ∀ (i:Nat) (a:Addr) (H':Hp),as[i]?=some a->TopAt kf as.length i->Same (hole H1 P) H'->TabOk H' P lpos qual->Q (.ref a) H'
theorem pe_maxL {e : Expr} {t : TA} {p pos kpos : Pos} {k : Nat} (hr : Room (k + 1) X.A) (hg : Gl X "max") (hm : X.mg "max" = none) (hdef : defaultsOf lps X.env = ([],[])) (hcl : closureFor lsc X.env = pure cl) (hcode : X.env.code = .ref c) (hC : PySem.W.CodeHd X.base c P) (hbm : BmAt X.mg X.base)
  (L : LamOk X lps lb lsc cl x fr ix) (hb : ∀ (f c' : Addr) (s : Shared) (H : Hp),PE (lamCx X (x :: fr) (X.env.qual ++ "<lambda>") lsc f c' cl X.A.in1 s H) lb te) (ha : PA X [e] t) (he : starEach [e] X.env = [(false,eval e X.env)]:=by rfl) :
  PE X (.Call (.Name "max" p) [e] [⟨some "key",.Lambda lps lb lsc lpos,kpos⟩] pos) (tMaxL X.K P lpos (X.env.qual ++ "<lambda>") ix te t):= by
 intro pins s σ H Q I hh
 refine wpAny_Call_Name_kw (ld_blt I hg hm PyProof.Rows.Boot.«max» ?_ (by decide) (by decide))
 refine PyProof.Rows.callWith_kw (thn (ha pos pins s σ H _ I hh) fun us s1 ⟨vs,H1,I1,r,q⟩=>?_) (by rw[he];rfl) (by rw[he];rfl)
 obtain ⟨l,as,kf,rfl,hsq,hne,hT,ht,hQ⟩:=q
 obtain ⟨u,rfl,ru⟩:=vals1 r
 cases ru
 show wpAny _ _ (evalAll ((do let v <- eval (.Lambda lps lb lsc lpos) X.env;standAt pos;pure v)::(backToKw pos (keywordEach [] X.env)).map (·.2))) _ _ s1
 refine wpAny_evalAll_cons (wpAny_bind (mk_lam I1 hdef hcl hcode hC hbm hT fun f c' ctv H' s' I' hc' hT' sm=>wpAny_bind (wpAny_standAt (wpAny_pure ?_))))
 refine wpAny_evalAll_nil ?_
 have hsq':SqL X.K H' l (as.map V.ref):=sm.seq hsq
 refine max_key (kf:=kf) hr.hd I' hsq' hne (fun i a hi pins2 s2 H2 I2 hp sm2=>?_) fun i a s2 H2 hi htop I2 sm2=>?_
 ·exact run_lam L I2 (List.mem_append_right _ (hp _ List.mem_cons_self)) (sm2 _ _ hc') I2.ok.frames hr.hd (by have:=hr.in1.depth;exact this) (hb f c' s2 H2) (v:=.ref a) rfl (ht i a hi H2 (sm.trans sm2))
 ·exact ⟨.ref a,H2,Inv.unpin I2,rfl,hQ i a H2 hi htop (sm.trans sm2) (hT'.same sm2)⟩
end
end L2
namespace L2
open PySem PySem.Spec PyProof.Rows
section
variable {P:Program} {w:World} {K:PySem.W.Frag} {mg:Str->Option Value} {base:Heap}
theorem Fun.okC {x qual:Str} {st:Stmt} {f c:Addr} {fd:FuncData} {N ps:List Str} {k:Nat} {sp:Sp} (F:Fun K x qual st f fd) (hc:fd.code = .ref c) (S:FnScope N ps (defScope st)) (len : ∀ vs H Q E,sp vs H Q E->vs.length=ps.length)
  (hbody : ∀ (cdv:Value),cdv = .ref c -> ∀ (A:Around) (outer:List Env) (s:Shared) (H:Hp) (vs:List V) (Q:VK) (E:XK),Room k (A.deeper (envOfC qual (defScope st) s.heap.objs.size f cdv))->sp vs H Q E ->
   ∃ t,PSs (cxOf CX0 P w K mg base N qual (defScope st) f cdv A outer s H E).nox (defBody st) t/\t { nx:=fun _ H'=>Q .non H',rt:=Q } (start N vs) H):FnOk P w K mg base CX0 (k+1) f fd ps sp:= by
 obtain ⟨oc,od,kV,doc,pm,an,cdv,ct,osl,rfl,lk,hcd⟩:=F.ex
 refine fn_of lk hcd S len fun A outer s H vs Q E hr hsp=>?_
 obtain ⟨t,h,q⟩:=hbody cdv hc A outer s H vs Q E hr hsp
 exact ⟨t,h.nox,q⟩
end
theorem law_callT {P:Program} {w:World} {K:PySem.W.Frag} {mg mb:Str->Option Value} {CX:CXT} {k:Nat} {fa a:Addr} {fd:FuncData} {x:Str} {sp:Sp} {s₁:Shared} {vs:List Value} {ns:List Int} {tabs:List (Addr × Addr)}
  (KX : K.In s₁.heap) (hns : s₁.heap.Ns mainGlobals mg) (hb : s₁.heap.Ns builtinsNs mb) (hbb : ∀ x : Str,x ≠ "__name__" -> mb x = bootBuiltins x) (hlim : s₁.heap.NoLimit) (hg : s₁.gens = #[]) (hbm : BmAt mg s₁.heap)
  (ha : s₁.heap.get? a = some { cls:=.type "list",data:=.seq vs.toArray }) (hi : IntsAre vs ns) (hl : ns.length <= sizeLine) (hr : Room k callerA)
  (hT : ∀ q ∈ tabs,PySem.W.CodeHd s₁.heap q.1 q.2/\s₁.heap.get? q.2=some (PySem.W.tabObj #[])/\K.lookup q.2=none)
  (F : ∀ base:Heap,K.In base->base.Ns mainGlobals mg->BmAt mg base->FnOk P w K mg base CX k fa fd [x] sp) (hbind : ∀ (s:Shared) (u:Value),BindsTo s fd ⟨[u],[]⟩ [(x,u)])
  (hsp : ∀ H:Hp,(∀ q ∈ tabs,H q.2=some (.tbl #[]))->SqL K H a (ns.map V.int)->sp [.ref a] H (fun v _=>v = .bl true) fun _ _ _=>False)
  (hCX : ∀ H e s',CX [] H s₁ (fun _ _ _=>False) e s'->False) :
  codeAny (model P w) callerA (.call (.ref fa) ⟨[.ref a],[]⟩) (fun r s'=>r = .ok (.ret (.bool true))/\OldK s₁.heap s'.heap/\s'.os=s₁.os/\AllBare s'.gens) s₁:= by
 have rv:=vals_ints hi
 have lenV:=hi.length
 have core : ∀ H:Hp,(∀ b,H b=none\/(∃ o xs,H b=some (.frz o (.lst xs))/\b=a)\/(H b=some (.tbl #[])/\b ∈ tabs.map (·.2)))->(∀ q ∈ tabs,H q.2=some (.tbl #[]))->SqL K H a (ns.map V.int)->HOk P w H s₁.heap->(∀ b,H b≠none->K.lookup b=none) ->
   codeAny (model P w) callerA (.call (.ref fa) ⟨[.ref a],[]⟩) (fun r s'=>r = .ok (.ret (.bool true))/\OldK s₁.heap s'.heap/\s'.os=s₁.os/\AllBare s'.gens) s₁:= by
  intro H hO hTH hS hok hK
  have base_of : ∀ {b:Addr} {o:Obj},s₁.heap.get? b=some o->H b=none->(hidT s₁.heap H).get? b=some o:=fun e n=>hidT_get e n
  have noA : ∀ {b:Addr} {o:Obj},s₁.heap.get? b=some o->(∀ ys n,o.data ≠ .seq ys n)->(∀ ys,o.data ≠ .fields ys)->H b=none:=fun {b o} e d1 d2=>by
   rcases hO b with z | ⟨ob,xs,z,rfl⟩ | ⟨z,_⟩
   ·exact z
   ·rw[ha] at e;cases e
    exact absurd rfl (d1 _ _)
   ·have:=hok b _ z
    have this:s₁.heap.get? b=some { cls:=.none,data:=.fields #[] }:=this
    rw[this] at e;cases e
    exact absurd rfl (d2 _)
  have nsK : ∀ {b:Addr} {m:Str->Option Value},s₁.heap.Ns b m->(hidT s₁.heap H).Ns b m:=fun {b m} ⟨o,es,ep,e,d,r⟩=>⟨o,es,ep,base_of e (noA e (fun _ _ z=>by rw[d] at z;cases z) (fun _ z=>by rw[d] at z;cases z)),d,r⟩
  have hKb:K.In (hidT s₁.heap H):=fun b o e=>base_of (KX b o e) (by
   cases q:H b with
   | none=>rfl
   | some u=>rw[hK b (by rw[q];simp)] at e;cases e)
  have hM:Mod K mg (hidT s₁.heap H):=⟨hKb,nsK hns,⟨mb,nsK hb,hbb⟩,let ⟨mc,h1,h2⟩:=hlim;⟨mc,nsK h1,h2⟩⟩
  have hbm':BmAt mg (hidT s₁.heap H):= by
   obtain ⟨bm,ob,b1,b2,b3,b4,b5,b6⟩:=hbm
   exact ⟨bm,ob,b1,b2,base_of b3 (noA b3 (fun _ _ z=>by rw[b6] at z;cases z) (fun _ z=>by rw[b6] at z;cases z)),b4,b5,b6⟩
  have e0:Env0 P w K mg (hidT s₁.heap H) callerA [] s₁ H:=⟨rfl,hM,fun b o e=>of_hidT e,Nat.le_of_eq (hidT_size _ _),trivial,fun b hb=>absurd (show b ∈ ([]:List Addr) from hb) (by simp),hok,.of_eq hg⟩
  refine codeAny_mono ((F _ hKb (nsK hns) hbm').run callerA [] s₁ H ⟨[.ref a],[]⟩ [.ref a] [.ref a] _ _ hr e0 (hbind s₁ (.ref a)) (.cons rfl .nil) (hsp H hTH hS)) fun r s' h=>?_
  cases r with
  | error e=>exact (hCX H e s' h).elim
  | ok fl=>
   cases fl with
   | next=>exact False.elim h
   | brk=>exact False.elim h
   | cont=>exact False.elim h
   | ret u=>
    obtain ⟨v,H',os,bare,un,hok',r',q⟩:=h
    have q':v = .bl true:=q
    subst q'
    obtain rfl:u=Value.bool true:=r'
    refine ⟨rfl,⟨fun b o e=>?_,fun b o e=>un.there b o e (by simp)⟩,os,bare⟩
    rcases hO b with z | ⟨ob,xs,z,_⟩ | ⟨z,hm⟩
    ·exact .inl (un.keep b o e z (by intro z;exact absurd (show b ∈ ([]:List Addr) from z) (by simp)) (by simp))
    ·have z2:=un.frzs b ob _ z
     obtain ⟨e1,_⟩:=hok b _ z
     obtain ⟨e2,_⟩:=hok' b _ z2
     rw[e] at e1;cases e1
     exact .inl e2
    ·obtain ⟨p,hp,rfl⟩:=List.mem_map.mp hm
     obtain ⟨more,z2⟩:=un.tbls _ _ z
     obtain ⟨c1,c2,_⟩:=hT p hp
     have e2:s'.heap.get? p.2=some { cls:=.none,data:=.fields (#[]++more) }:=hok' _ _ z2
     rw[c2] at e;cases e
     exact .inr (.inl ⟨(c1.tab c2).isCodeTable,rfl,#[],more,rfl,e2⟩)
 have hTa : ∀ q ∈ tabs,q.2≠a:=fun q hq e=>by
  have:=(hT q hq).2.1
  rw[e,ha] at this;cases this
 have inT : ∀ b,b ∈ tabs.map (·.2)->b≠a:=fun b hb=>by
  obtain ⟨q,hq,rfl⟩:=List.mem_map.mp hb
  exact hTa q hq
 cases hk:K.lookup a with
 | some o=>
  have e:=KX a o hk
  rw[ha] at e
  cases e
  refine core (fun b=>if b ∈ tabs.map (·.2) then some (.tbl #[]) else none) (fun b=>?_) (fun q hq=>if_pos (List.mem_map.mpr ⟨q,hq,rfl⟩)) (.inr ⟨_,vs.toArray,_,hk,rfl,rfl,rfl,by rw[List.size_toArray,lenV];exact hl,by simpa using rv⟩) (fun b u z=>?_) fun b z=>?_
  ·by_cases hb':b ∈ tabs.map (·.2)
   ·exact .inr (.inr ⟨if_pos hb',hb'⟩)
   ·exact .inl (if_neg hb')
  ·by_cases hb':b ∈ tabs.map (·.2)
   ·have z':=(if_pos hb').symm.trans z
    cases z'
    obtain ⟨q,hq,rfl⟩:=List.mem_map.mp hb'
    exact (hT q hq).2.1
   ·have z':=(if_neg hb').symm.trans z
    cases z'
  ·by_cases hb':b ∈ tabs.map (·.2)
   ·obtain ⟨q,hq,rfl⟩:=List.mem_map.mp hb'
    exact (hT q hq).2.2
   ·exact absurd (if_neg hb') z
 | none=>
  refine core (fun b=>if b ∈ tabs.map (·.2) then some (.tbl #[]) else if b = a then some (.frz { cls:=.type "list",data:=.seq vs.toArray } (.lst (ns.map V.int))) else none) (fun b=>?_) (fun q hq=>if_pos (List.mem_map.mpr ⟨q,hq,rfl⟩)) (.inl (.inr ⟨{ cls:=.type "list",data:=.seq vs.toArray },?_⟩)) (fun b u z=>?_) fun b z=>?_
  ·by_cases hb':b ∈ tabs.map (·.2)
   ·exact .inr (.inr ⟨if_pos hb',hb'⟩)
   ·by_cases hba:b=a
    ·exact .inr (.inl ⟨_,_,by (try dsimp only);rw[if_neg hb',if_pos hba],hba⟩)
    ·exact .inl (by (try dsimp only);rw[if_neg hb',if_neg hba])
  ·dsimp only
   rw[if_neg (fun hm=>inT a hm rfl),if_pos rfl]
  ·try dsimp only at z
   by_cases hb':b ∈ tabs.map (·.2)
   ·rw[if_pos hb'] at z
    cases z
    obtain ⟨q,hq,rfl⟩:=List.mem_map.mp hb'
    exact (hT q hq).2.1
   ·rw[if_neg hb'] at z
    by_cases hba:b=a
    ·rw[if_pos hba] at z
     cases z
     subst hba
     exact ⟨ha,by rw[List.length_map];exact hl,vs,_,rv,ha⟩
    ·rw[if_neg hba] at z;cases z
  ·try dsimp only at z
   by_cases hb':b ∈ tabs.map (·.2)
   ·obtain ⟨q,hq,rfl⟩:=List.mem_map.mp hb'
    exact (hT q hq).2.2
   ·rw[if_neg hb'] at z
    by_cases hba:b=a
    ·rw[hba];exact hk
    ·exact absurd (if_neg hba) z
theorem walk_ofT {l:PySem.W.OpenLaw} {n k:Nat} {q:Program} {loose:List Str} {XP:(Str->Option Value)->Heap->Prop} {YP:World->Heap->Prop} {d:DefRec} {K:Params->PySem.W.Frag} {CX:World->CXT} {sp:World->List (Addr × Addr)->Sp} {x:Str} {ts:List Addr}
  (hn:l.most=some n) (hn2:n<=sizeLine) (hdf:d.params.defaults=[]) (hr:Room k callerA)
  (hY : ∀ (w:World) (h:Heap),YP w h->(K w.params).In h /\ ∀ P ∈ ts,h.get? P=some (PySem.W.tabObj #[]))
  (F : ∀ (w:World) (mg:Str->Option Value) (fa:Addr) (h:Heap),(K w.params).In h->h.Ns mainGlobals mg->mg d.name=some (.ref fa) ->
   ∃ (fd:FuncData) (tabs:List (Addr × Addr)),(∀ q ∈ tabs,PySem.W.codeHdIn (K w.params) q.1 q.2=true/\q.2 ∈ ts/\(K w.params).lookup q.2=none)/\(∀ (s:Shared) (u:Value),BindsTo s fd ⟨[u],[]⟩ [(x,u)]) /\
    ∀ base:Heap,(K w.params).In base->base.Ns mainGlobals mg->BmAt mg base->FnOk l.prog w (K w.params) mg base (CX w) k fa fd [x] (sp w tabs))
  (hsp : ∀ (w:World) (tabs:List (Addr × Addr)) (H:Hp) (a:Addr) (ns:List Int),ns.length<=n->(∀ q ∈ tabs,H q.2=some (.tbl #[]))->SqL (K w.params) H a (ns.map V.int)->sp w tabs [.ref a] H (fun v _=>v = .bl true) fun _ _ _=>False)
  (hCX : ∀ (w:World) (H:Hp) (s:Shared) (e:Value) (s':Shared),CX w [] H s (fun _ _ _=>False) e s'->False) :
  PySem.W.WalkO q loose XP YP l.row.toRowW d [] (fun f vs=>PySem.call f vs):= by
 refine Att.attach_call hn hdf fun w s₀ s₁ mg mb fa o pm cd doc a vs ns G Y ho hd hcd hmg hobj hints hlen hg=>?_
 obtain ⟨KX,hts⟩:=hY w _ Y
 obtain ⟨fd,tabs,hT,hb,hF⟩:=F w mg fa _ KX G.T.g hmg
 obtain ⟨bm,ob,b1,b2,b3,b4,b5,b6⟩:=G.T.bmain
 exact law_callT KX G.T.g G.T.b G.T.builtins G.T.nolimit hg ⟨bm,ob,b1,b2,b3,b4,b5,b6⟩ hobj hints (Nat.le_trans hlen hn2) hr (fun q hq=>⟨PySem.W.codeHd_of_K KX (hT q hq).1,hts _ (hT q hq).2.1,(hT q hq).2.2⟩) hF hb (fun H hO hS=>hsp w tabs H a ns hlen hO hS) fun H e s'=>hCX w H s₁ e s'
end L2
namespace L2
open PySem PySem.Spec PyProof.Rows
section
variable {X:Cx} {K:PySem.W.Frag}
end
end L2
namespace L2
open PySem PySem.Spec PyProof.Rows
end L2
namespace PyProof.Rows
open PySem
section
variable {prog:Program} {w:World} {A:Around} {E:Value->Shared->Prop} {s:Shared} {a₀:Array Keyed}
end
end PyProof.Rows
namespace PyProof.Rows
open PySem
section
variable {prog:Program} {w:World} {A:Around} {E:Value->Shared->Prop} {s:Shared} {vs:List Value} {kz:List Int} {keys:Array Value} {P:PySem.Fin->Shared->Prop} {a kS:Addr} {e1:Nat}
end
end PyProof.Rows
namespace L2
open PySem PySem.Spec PyProof.Rows
section
variable {X:Cx} {pins:List (Addr × Obj)} {σ:St} {H:Hp} {s:Shared}
end
section
variable {X:Cx} {P0:List (Addr × Obj)} {σ:St} {H2:Hp} {l q:Addr} {as:List Addr} {kf:Nat->Int}
end
end L2
namespace L2
open PySem PySem.Spec PyProof.Rows
section
variable {X:Cx} {lps:Arguments} {lb:Expr} {lsc:Scope} {lpos:Pos} {cl:List (Str × Addr)} {c P:Addr} {x:Str} {fr:List Str} {ix:List Nat} {te:TE}
end
end L2
namespace L2
open PySem PySem.Spec PyProof.Rows
section
variable {X:Cx} {K:PySem.W.Frag}
end
end L2
namespace L2
open PySem PySem.Spec PyProof.Rows
section
variable {X:Cx} {K:PySem.W.Frag}
end
end L2
namespace L2
open PySem PySem.Spec PyProof.Rows
section
variable {X:Cx}
end
end L2
namespace L2
open PySem PySem.Spec PyProof.Rows
def ptsKv (P:List Str):List (Key × V):=P.map fun z=>(.inr z,.int 0)
def FrL (A:List Addr) (H H':Hp):Prop:=∀ x u,H x=some u->x ∉ A->H' x=some u
theorem FrL.of {A:List Addr} {H H':Hp} (s:Same H H'):FrL A H H':=fun x u e _=>s x u e
theorem FrL.trans {A:List Addr} {H H1 H2:Hp} (a:FrL A H H1) (b:FrL A H1 H2):FrL A H H2:=fun x u e n=>b x u (a x u e n) n
theorem FrL.put {A:List Addr} {H H':Hp} {d:Addr} {o:HO} (a:FrL A H H') (h:d ∈ A):FrL A H (upd H' d o):=fun x u e n=>by
 rw[upd_ne (fun z=>n (by rw[z];exact h))];exact a x u e n
def Ld (o:HO):Prop:=(∃ xs,o = .lst xs) \/ ∃ kvs,o = .dK kvs
def LdA (H:Hp) (A:List Addr):Prop:=∀ a ∈ A,∃ o,H a=some o/\Ld o
theorem FrL.ins {A:List Addr} {H H':Hp} (f:FrL A H H') (hA:LdA H A) {x:Addr} {o:HO} (e:H x=some o) (n : ¬ Ld o):H' x=some o:=
 f x o e fun z=>by
  obtain ⟨o',e',l⟩:=hA x z
  rw[e] at e';cases e'
  exact n l
theorem TabOk.fr {A:List Addr} {H H':Hp} {P:Addr} {pos:Pos} {q:Str} (h:TabOk H P pos q) (f:FrL A H H') (hA:LdA H A):TabOk H' P pos q:= by
 obtain ⟨ps,h1,h2,h3⟩:=h
 refine ⟨ps,f.ins hA h1 (fun z=>by rcases z with ⟨_,z⟩ | ⟨_,z⟩ <;> cases z),h2,?_⟩
 rcases h3 with h3 | ⟨c,h3,h4⟩
 ·exact .inl h3
 ·exact .inr ⟨c,h3,f.ins hA h4 (fun z=>by rcases z with ⟨_,z⟩ | ⟨_,z⟩ <;> cases z)⟩
def mdKv (l0 l q l1 g w l2 : Addr) : List (Key × V):=[(.inr "left",.ref l0),(.inr "people",.ref l),(.inr "points",.ref q),(.inr "size",.int 0),(.inr "opened",.ref l1),(.inr "given",.ref g),(.inr "wrote",.ref w),(.inr "gone",.ref l2)]
structure MdAt (H:Hp) (M l q g w:Addr) (P:List Str):Prop where
 hM : ∃ l0 l1 l2,H M=some (.dK (mdKv l0 l q l1 g w l2))
 hl:H l=some (.lst (P.map V.str))
 hq:H q=some (.dK (ptsKv P))
 hg:H g=some (.dK [])
 hw:H w=some (.dK [])
 ne:M≠q/\q≠g/\q≠w
section
variable {CR CS p d M l q g w:Addr} {H H':Hp} {P P':List Str} {A:List Addr}
end
end L2
namespace L2
open PySem PySem.Spec PyProof.Rows
end L2
namespace L2
open PySem PySem.Spec PyProof.Rows
end L2
namespace L2
open PySem PySem.Spec PyProof.Rows
end L2
namespace L2
open PySem PySem.Spec PyProof.Rows
section
variable {M l q g w:Addr} {H H':Hp} {P P':List Str}
theorem MdAt.size (h : MdAt H M l q g w P) : DGet H M (V.str "size") (some (.int 0)):= by
 obtain ⟨l0,l1,l2,e⟩:=h.hM
 exact DGet.k (k:=.inr "size") e
end
end L2
namespace L2
open PySem PySem.Spec PyProof.Rows
section
variable {CR CS p d M l q g w PT:Addr} {H H':Hp} {P:List Str} {pos:Pos} {qq:Str}
end
end L2
namespace L2
open PySem PySem.Spec PyProof.Rows
end L2
namespace PySem
def Ris (xs:Array Nat):Prop:=∀ i j,i<j->j<xs.size->xs.getD i 0<xs.getD j 0
theorem ris_nil:Ris #[]:=fun i j _ h=>by simp at h
theorem ris_range (n:Nat):Ris (Array.range n):=fun i j h hj=>by
 rw[Array.size_range] at hj
 have e : ∀ k,k<n->(Array.range n).getD k 0=k:=fun k hk=>by simp [Array.getD,hk]
 rw[e i (by omega),e j hj];exact h
theorem below_go {xs:Array Nat} {j:Nat} (h:Ris xs) : ∀ (fuel lo hi:Nat),hi-lo<=fuel->lo<=hi->hi<=xs.size->(∀ k,k<lo->xs.getD k 0<j)->(∀ k,hi<=k->k<xs.size->j<=xs.getD k 0) ->
  let p:=SetTable.below.go xs j fuel lo hi
  p<=xs.size/\(∀ k,k<p->xs.getD k 0<j) /\ ∀ k,p<=k->k<xs.size->j<=xs.getD k 0
 | 0,lo,hi,hf,h1,h2,h3,h4=>by
  have e:lo=hi:=by omega
  subst e
  exact ⟨h2,h3,h4⟩
 | fuel+1,lo,hi,hf,h1,h2,h3,h4=>by
  unfold SetTable.below.go
  by_cases hlt:lo<hi
  ·rw[if_pos hlt]
   dsimp only
   have hm:(lo+hi) / 2<xs.size:=by omega
   have eg:xs.getD ((lo+hi) / 2) j=xs.getD ((lo+hi) / 2) 0:=by simp [Array.getD,hm]
   rw[eg]
   by_cases hc:xs.getD ((lo+hi) / 2) 0<j
   ·rw[if_pos hc]
    refine below_go h fuel ((lo+hi) / 2+1) hi (by omega) (by omega) h2 (fun k hk=>?_) h4
    rcases Nat.lt_or_eq_of_le (Nat.le_of_lt_succ hk) with e | e
    ·exact Nat.lt_trans (h k _ e hm) hc
    ·rw[e];exact hc
   ·rw[if_neg hc]
    refine below_go h fuel lo ((lo+hi) / 2) (by omega) (by omega) (by omega) h3 (fun k hk hk2=>?_)
    rcases Nat.lt_or_eq_of_le hk with e | e
    ·have:=h _ k e hk2;omega
    ·rw[<- e];omega
  ·rw[if_neg hlt]
   have e:lo=hi:=by omega
   subst e
   exact ⟨h2,h3,h4⟩
theorem below_spec {xs:Array Nat} (h:Ris xs) (j:Nat):SetTable.below xs j<=xs.size/\(∀ k,k<SetTable.below xs j->xs.getD k 0<j) /\ ∀ k,SetTable.below xs j<=k->k<xs.size->j<=xs.getD k 0:=
 below_go h xs.size 0 xs.size (by omega) (Nat.zero_le _) (Nat.le_refl _) (fun k hk=>by omega) (fun k h1 h2=>by omega)
theorem below_next {xs:Array Nat} (h:Ris xs) {i:Nat} (hi:i<xs.size):SetTable.below xs (xs.getD i 0+1)=i+1:= by
 obtain ⟨h1,h2,h3⟩:=below_spec h (xs.getD i 0+1)
 generalize SetTable.below xs (xs.getD i 0+1)=p at h1 h2 h3
 rcases Nat.lt_trichotomy p (i+1) with e | e | e
 ·have:=h3 i (by omega) hi;omega
 ·exact e
 ·have:=h2 (i+1) e
  have h4:=h i (i+1) (Nat.lt_succ_self _) (by omega)
  omega
theorem below_zero {xs:Array Nat} (h:Ris xs):SetTable.below xs 0=0:= by
 obtain ⟨h1,h2,h3⟩:=below_spec h 0
 generalize SetTable.below xs 0=p at h1 h2 h3
 by_cases e:p=0
 ·exact e
 ·have:=h2 0 (by omega);omega
end PySem
namespace PySem
theorem ris_list {l:List Nat} (h:l.Pairwise (· < ·)):Ris l.toArray:=fun i j hij hj=>by
 rw[List.size_toArray] at hj
 have e : ∀ k (hk:k<l.length),l.toArray.getD k 0=l[k]:=fun k hk=>by simp [Array.getD,hk]
 rw[e i (by omega),e j hj]
 exact List.pairwise_iff_getElem.mp h i j (by omega) hj hij
theorem list_ris {xs:Array Nat} (h:Ris xs):xs.toList.Pairwise (· < ·):= by
 rw[List.pairwise_iff_getElem]
 intro i j hi hj hij
 rw[Array.length_toList] at hi hj
 have:=h i j hij hj
 simpa [Array.getD,hi,hj] using this
theorem ris_insert {xs:Array Nat} (h:Ris xs) {j:Nat} (hj : ∀ k,k<xs.size->xs.getD k 0≠j):Ris (SetTable.insertAt xs (SetTable.below xs j) j):= by
 obtain ⟨h1,h2,h3⟩:=below_spec h j
 generalize SetTable.below xs j=p at h1 h2 h3
 have hl:=list_ris h
 have e:SetTable.insertAt xs p j=(xs.toList.take p++j::xs.toList.drop p).toArray:= by
  apply Array.toList_inj.mp
  rw[SetTable.toList_insertAt]
 rw[e]
 refine ris_list ?_
 have g : ∀ k (hk:k<xs.size),xs.toList[k]'(by rw[Array.length_toList];exact hk)=xs.getD k 0:=fun k hk=>by simp [Array.getD,hk]
 rw[List.pairwise_append]
 refine ⟨hl.sublist (List.take_sublist _ _),?_,?_⟩
 ·rw[List.pairwise_cons]
  refine ⟨fun b hb=>?_,hl.sublist (List.drop_sublist _ _)⟩
  obtain ⟨k,hk,rfl⟩:=List.getElem_of_mem hb
  rw[List.length_drop,Array.length_toList] at hk
  rw[List.getElem_drop,g (p+k) (by omega)]
  have:=h3 (p+k) (by omega) (by omega)
  have:=hj (p+k) (by omega)
  omega
 ·intro a ha b hb
  obtain ⟨k,hk,rfl⟩:=List.getElem_of_mem ha
  rw[List.length_take,Array.length_toList] at hk
  rw[List.getElem_take,g k (by omega)]
  have h4:=h2 k (by omega)
  rcases List.mem_cons.mp hb with rfl | hb
  ·exact h4
  ·obtain ⟨m,hm,rfl⟩:=List.getElem_of_mem hb
   rw[List.length_drop,Array.length_toList] at hm
   rw[List.getElem_drop,g (p+m) (by omega)]
   have:=h3 (p+m) (by omega) (by omega)
   omega
theorem slot_not {t:SetTable} (h:Ris t.place) {j:Nat} (hs : ∀ i,t.slot j ≠ .live i) : ∀ k,k<t.place.size->t.place.getD k 0≠j:=fun k hk e=>by
 obtain ⟨h1,h2,h3⟩:=below_spec h j
 have hb:SetTable.below t.place j=k:= by
  rcases Nat.lt_trichotomy (SetTable.below t.place j) k with z | z | z
  ·have a:=h3 (SetTable.below t.place j) (Nat.le_refl _) (by omega)
   have b:=h _ k z hk
   omega
  ·exact z
  ·have:=h2 k z;omega
 refine hs k ?_
 unfold SetTable.slot
 simp only [hb]
 have:t.place[k]?=some j:= by
  rw[Array.getElem?_eq_getElem hk]
  have:t.place.getD k 0=t.place[k]:=by simp [Array.getD,hk]
  rw[<- this,e]
 rw[this]
 simp
theorem probe_free {t:SetTable} {ha:Nat->Int} {h:Int} : ∀ (fuel:Nat) (p:SetTable.Probe) (j:Nat) (dm:Option Nat),(∀ d,p.dummy=some d -> ∀ i,t.slot d ≠ .live i)->SetTable.probe.go t ha h fuel p=some (.empty j dm) ->
  (∀ i,t.slot j ≠ .live i) /\ ∀ d,dm=some d -> ∀ i,t.slot d ≠ .live i
 | 0,p,j,dm,_,e=>by cases e
 | fuel+1,p,j,dm,hp,e=>by
  unfold SetTable.probe.go at e
  cases hs:t.slot p.j with
  | empty=>
   rw[hs] at e
   simp only [Option.some.injEq,SetTable.Met.empty.injEq] at e
   obtain ⟨rfl,rfl⟩:=e
   exact ⟨fun i z=>(by rw[hs] at z;cases z),hp⟩
  | dummy=>
   rw[hs] at e
   refine probe_free fuel _ j dm (fun d hd i z=>?_) e
   unfold SetTable.advance at hd
   split at hd
   ·simp only [Option.some.injEq] at hd
    rw[<- hd,hs] at z;cases z
   ·simp only [Option.some.injEq] at hd
    rw[<- hd,hs] at z;cases z
  | live i0=>
   rw[hs] at e
   dsimp only at e
   split at e
   ·cases e
   ·refine probe_free fuel _ j dm (fun d hd=>?_) e
    unfold SetTable.advance at hd
    split at hd
    ·exact hp d hd
    ·exact hp d hd
theorem freeSlot_not {t:SetTable} {h:Int} {slot:Nat} {b:Bool} (hr:Ris t.place) (e:t.freeSlot h=some (slot,b)) : ∀ k,k<t.place.size->t.place.getD k 0≠slot:= by
 unfold SetTable.freeSlot at e
 split at e
 ·rename_i j dm hm
  unfold SetTable.probe at hm
  obtain ⟨a,c⟩:=probe_free _ _ _ _ (fun d hd=>by unfold SetTable.probeStart at hd;cases hd) hm
  simp only [Option.some.injEq,Prod.mk.injEq] at e
  obtain ⟨rfl,_⟩:=e
  refine slot_not hr ?_
  cases dm with
  | none=>exact a
  | some d=>exact c d rfl
 ·cases e
def TOk (led:Bool) (t:SetTable):Prop:=Ris t.place/\t.led=led
theorem standIn_ok {t:SetTable} {led:Bool} (h:t.led=led) (n:Nat):TOk led (t.standIn n):=⟨ris_range n,h⟩
theorem layNew_ok {t:SetTable} {led:Bool} (h:TOk led t) (es:Array (Int × Value)) (k:Int) (x:Value):TOk led (layNew t es k x).2.1:= by
 unfold layNew
 split
 ·rename_i slot wd e
  have hp:TOk led (t.put slot).1:=⟨ris_insert h.1 (freeSlot_not h.1 e),h.2⟩
  show TOk led ((t.put slot).1.orStandIn _)
  unfold SetTable.orStandIn
  split
  ·exact hp
  ·exact standIn_ok hp.2 _
 ·exact standIn_ok h.2 _
theorem relayAll_ok {t:SetTable} {led:Bool} (h:TOk led t) (es:Array (Int × Value)) (n:Nat):TOk led (relayAll t es n).2.1:= by
 unfold relayAll
 split
 ·rename_i t' order e
  dsimp only
  split
  ·unfold SetTable.relaid SetTable.laid at e
   cases hc:SetTable.layClean (SetTable.sizeAbove n-1) (es.map (·.1)) with
   | none=>rw[hc] at e;cases e
   | some owner=>
    rw[hc] at e
    simp only [Option.bind_eq_bind,Option.bind_some,Option.pure_def,Option.some.injEq,Prod.mk.injEq] at e
    obtain ⟨rfl,_⟩:=e
    refine ⟨ris_list ?_,h.2⟩
    rw[List.pairwise_map]
    refine List.Pairwise.filterMap _ (R:=fun a b=>a<b) (fun a a' haa b hb b' hb'=>?_) List.pairwise_lt_range
    simp only [Option.map_eq_some_iff] at hb hb'
    obtain ⟨_,_,rfl⟩:=hb
    obtain ⟨_,_,rfl⟩:=hb'
    exact haa
  ·exact standIn_ok h.2 _
 ·exact standIn_ok h.2 _
end PySem
namespace PySem
section
variable {prog:Program} {w:World} {K:Type} [DecidableEq K] (knd:KeyKind prog w K) (I:Array (Int × Value)->SetTable->Prop)
def Heap.SetI (h:Heap) (a:Addr) (S:K->Bool) (n:Nat):Prop:=
 ∃ o es ep t,h.get? a=some o/\o.ExactSet/\o.data = .set es ep t/\ElemsOf knd es.toList/\(∀ k,S k=true ↔ ∃ e ∈ es.toList,knd.is k e.2=true)
  /\ es.size<scanBound/\t.fits es.size=true/\es.size=n/\I es t
variable {knd I}
variable {A:Around} {E:Value->Shared->Prop} {s:Shared}
theorem SetI_store {h:Heap} {a:Addr} {o:Obj} {es:Array (Int × Value)} {ep:Nat} {t:SetTable} (ho:h.get? a=some o) (hex:o.ExactSet) (hd:o.data = .set es ep t)
  {es':Array (Int × Value)} {t':SetTable} {S':K->Bool} (hel:ElemsOf knd es'.toList) (hmem : ∀ k,S' k=true ↔ ∃ e ∈ es'.toList,knd.is k e.2=true) (hb:es'.size<scanBound) (hf:t'.fits es'.size=true) (hI:I es' t') :
  (h.update a (Obj.putSet es' t')).get? a=some { o with data:=.set es' (ep+1) t' }/\(h.update a (Obj.putSet es' t')).SetI knd I a S' es'.size:= by
 have hg:(h.update a (Obj.putSet es' t')).get? a=some { o with data:=.set es' (ep+1) t' }:= by
  have:=Heap.get?_update_self (Obj.putSet es' t') ho (by rw[putSet_of es' t' hd];rfl)
  rw[putSet_of es' t' hd] at this;exact this
 exact ⟨hg,_,es',ep+1,t',hg,hex,rfl,hel,hmem,hb,hf,rfl,hI⟩
theorem wpAny_addTailI {g:Bool->Sem Unit} (hI3 : ∀ es t n,I es t->I (relayAll t es n).1 (relayAll t es n).2.1) (hg : ∀ (b:Bool) (s₁:Shared) (Q':Unit->Shared->Prop),Q' () s₁->wpAny (model prog w) A (g b) Q' E s₁)
  {a:Addr} {o:Obj} {es:Array (Int × Value)} {ep:Nat} {t:SetTable} (ho:s.heap.get? a=some o) (hex:o.ExactSet) (hd:o.data = .set es ep t)
  {es1:Array (Int × Value)} {t2:SetTable} {S':K->Bool} (hel1:ElemsOf knd es1.toList) (hmem1 : ∀ k',S' k'=true ↔ ∃ e ∈ es1.toList,knd.is k' e.2=true)
  (hb1:es1.size<scanBound) (hf2:t2.fits es1.size=true) (hI2:I es1 t2) {wasDummy:Bool} {R:Option Bool->Shared->Prop}
  (h : ∀ h',Heap.SameBut a s.heap h'->h'.SetI knd I a S' es1.size->R (some true) { s with heap:=h' }) :
  wpAny (model prog w) A (do
    storeSet a es1 t2
    if (!wasDummy&&t2.tooFull)=true then do
      g (relayAll t2 es1 (SetTable.grown es1.size)).2.2
      storeSet a (relayAll t2 es1 (SetTable.grown es1.size)).1 (relayAll t2 es1 (SetTable.grown es1.size)).2.1
      pure (some true)
     else pure (some true)) R E s:= by
 refine wpAny_bind (wpAny_storeSet_of ho hd ?_ (fits_of_scanBound hb1))
 obtain ⟨ho1,hS1⟩:=SetI_store (knd:=knd) ho hex hd hel1 hmem1 hb1 hf2 hI2
 have hsb1:=Heap.SameBut.update s.heap a (Obj.putSet es1 t2)
 split
 ·
  have hp:=relayAll_perm t2 es1 (SetTable.grown es1.size)
  have hfr:=relayAll_fits t2 es1 (SetTable.grown es1.size)
  have hir:=hI3 es1 t2 (SetTable.grown es1.size) hI2
  generalize hRl:relayAll t2 es1 (SetTable.grown es1.size)=Rl at hp hfr hir ⊢
  obtain ⟨es2,t3,gave2⟩:=Rl
  dsimp only at hp hfr hir ⊢
  have hel2:ElemsOf knd es2.toList:=hel1.perm hp
  have hmem2 : ∀ k',S' k'=true ↔ ∃ e ∈ es2.toList,knd.is k' e.2=true:=fun k'=>(hmem1 k').trans ⟨fun ⟨e,he,q⟩=>⟨e,hp.mem_iff.mpr he,q⟩,fun ⟨e,he,q⟩=>⟨e,hp.mem_iff.mp he,q⟩⟩
  have hsz:es2.size=es1.size:=by rw[<- Array.length_toList,hp.length_eq,Array.length_toList]
  have hb2:es2.size<scanBound:=by rw[hsz];exact hb1
  refine wpAny_bind (hg _ _ _ ?_)
  refine wpAny_bind (wpAny_storeSet_of ho1 rfl ?_ (fits_of_scanBound hb2))
  obtain ⟨_,hS2⟩:=SetI_store (knd:=knd) ho1 hex rfl hel2 hmem2 hb2 hfr hir
  rw[hsz] at hS2
  exact wpAny_pure (h _ (hsb1.trans (Heap.SameBut.update _ a _)) hS2)
 ·exact wpAny_pure (h _ hsb1 hS1)
theorem wpAny_setAddHashedI (hI1 : ∀ es t k x,I es t->knd.is k x=true->(∀ e ∈ es.toList,knd.is k e.2=false)->I (layNew t es (knd.hash k) x).1 (layNew t es (knd.hash k) x).2.1) (hI2 : ∀ es t,I es t->I es { t with plain:=false }) (hI3 : ∀ es t n,I es t->I (relayAll t es n).1 (relayAll t es n).2.1) {a:Addr} {S:K->Bool} {n:Nat} {k:K} {x:Value} {Q:Bool->Shared->Prop} (hkey:knd.is k x=true) (hsc:x.scannable=true) (hS:s.heap.SetI knd I a S n)
  (hroom:n+1<scanBound)
  (h : ∀ h',Heap.SameBut a s.heap h'->h'.SetI knd I a (fun k'=>S k'||decide (k'=k)) (if S k then n else n+1)->Q (!S k) { s with heap:=h' }) :
  wpAny (model prog w) A (setAddHashed a x (knd.hash k)) Q E s:= by
 obtain ⟨o,es,ep,t,ho,hex,hd,hel,hmem,hb,hf,hn,hI⟩:=hS
 have hb1:es.size+1<scanBound:=by rw[hn];exact hroom
 unfold setAddHashed setAddHashedIn
 refine wpAny_holding (wpAny_bind (wpAny_setState_of ho hd hf ?_))
 dsimp only
 rw[byScan_of hsc hb hel]
 simp only [↓reduceIte]
 unfold setAddByScan
 refine wpAny_bind ?_
 refine wpAny_bind (wpAny_rule ?_)
 refine wpAny_bind (wpAny_setScan_of hkey ho hd hf hel ?_)
 cases hr:List.findIdx? (fun e=>knd.is k e.2) es.toList with
 | some j=>
  dsimp only
  obtain ⟨hj,hpj,_⟩:=List.findIdx?_eq_some_iff_getElem.mp hr
  have hSk:S k=true:=(hmem k).mpr ⟨es.toList[j],List.getElem_mem hj,hpj⟩
  refine wpAny_pure (wpAny_pure ?_)
  have e:s={ s with heap:=s.heap }:=by cases s;rfl
  have:=h s.heap (Heap.SameBut.refl a s.heap) ⟨o,es,ep,t,ho,hex,hd,hel,fun k'=>by
   rw[Bool.or_eq_true,decide_eq_true_eq,<- hmem k']
   exact ⟨fun hk=>hk.elim id (fun e=>e ▸ hSk),.inl⟩,hb,hf,by rw[hSk];exact hn,hI⟩
  rw[hSk] at this;rw[e];exact this
 | none=>
  dsimp only
  have hSk:S k=false:= by
   cases hk:S k with
   | false=>rfl
   | true=>obtain ⟨e,he,hp⟩:=(hmem k).mp hk;have:=List.findIdx?_eq_none_iff.mp hr e he;rw[hp] at this;exact Bool.noConfusion this
  have hgw : ∀ (b : Bool) {s₁ : Shared} {Q' : Unit -> Shared -> Prop},Q' () s₁ -> wpAny (model prog w) A (match b with | true=>rule "set.scan.the-table-gave-way" | false=>pure ()) Q' E s₁:=
   fun b s₁ Q' hq=>by cases b <;> first | exact wpAny_pure hq | exact wpAny_rule hq
  have hperm:=layNew_perm t es (knd.hash k) x
  have hfits:=layNew_fits t es (knd.hash k) x
  have hlay:=hI1 es t k x hI hkey (fun e he=>by simpa using List.findIdx?_eq_none_iff.mp hr e he)
  generalize hL:layNew t es (knd.hash k) x=L at hperm hfits hlay ⊢
  obtain ⟨es1,t1,wasDummy,gave⟩:=L
  dsimp only at hperm hfits hlay ⊢
  rw[Array.toList_push] at hperm
  have hel1:ElemsOf knd es1.toList:=(hel.push hkey hsc).perm hperm
  have hmem1 : ∀ k',(S k'||decide (k'=k))=true ↔ ∃ e ∈ es1.toList,knd.is k' e.2=true:=mem_push_iff hkey hmem hperm
  have hb1':es1.size<scanBound:=by rw[<- Array.length_toList,hperm.length_eq,List.length_append,Array.length_toList];simpa using hb1
  refine wpAny_bind (hgw _ ?_)
  have hsz1:es1.size=n+1:=by rw[<- Array.length_toList,hperm.length_eq,List.length_append,Array.length_toList,hn];rfl
  have hend : ∀ h',Heap.SameBut a s.heap h'->h'.SetI knd I a (fun k'=>S k'||decide (k'=k)) es1.size->Q true { s with heap:=h' }:= by
   intro h' hsb hS';have:=h h' hsb;rw[hSk] at this;rw[hsz1] at hS';exact this hS'
  split
  ·refine wpAny_bind ?_
   rw[hashByValue_scannable 8 hsc]
   refine wpAny_pure ?_
   refine wpAny_addTailI hI3 ?_ ho hex hd hel1 hmem1 hb1' ?_ ?_ ?_
   ·intro b s₁ Q' hq;cases b <;> first | exact wpAny_pure hq | exact wpAny_rule hq
   ·split
    ·exact hfits
    ·exact SetTable.fits_plain_off hfits
   ·split
    ·exact hlay
    ·exact hI2 _ _ hlay
   ·intro h' hsb hS';dsimp only;exact wpAny_pure (hend h' hsb hS')
  ·refine wpAny_bind (wpAny_pure ?_)
   simp only [↓reduceIte]
   refine wpAny_addTailI hI3 ?_ ho hex hd hel1 hmem1 hb1' hfits hlay ?_
   ·intro b s₁ Q' hq;cases b <;> first | exact wpAny_pure hq | exact wpAny_rule hq
   ·intro h' hsb hS';dsimp only;exact wpAny_pure (hend h' hsb hS')
end
end PySem
namespace PyProof.Rows
open PySem
theorem SetI_congr {prog:Program} {w:World} {K:Type} [DecidableEq K] [BEq K] [LawfulBEq K] {knd:PySem.KeyKind prog w K} {J:Array (Int × Value)->SetTable->Prop} {h:Heap} {a:Addr} {S S':K->Bool} {n n':Nat}
  (hS:h.SetI knd J a S n) (e : ∀ k,S k=S' k) (en:n=n'):h.SetI knd J a S' n':= by
 have:S=S':=funext e
 subst this;subst en;exact hS
section
variable {prog:Program} {w:World} {A:Around} {R:Result->Shared->Prop} {I:Addr} {fp wr:List Addr} {G:Array GenState->Array GenState->Prop} {n:Nat} {P:Nat->Value->Prop} {St:Nat->Shared->Prop}
theorem codeAny_set_update_loopI {J:Array (Int × Value)->SetTable->Prop} (hJ1 : ∀ es t k x,J es t->(intKind prog w).is k x=true->(∀ e ∈ es.toList,(intKind prog w).is k e.2=false)->J (layNew t es ((intKind prog w).hash k) x).1 (layNew t es ((intKind prog w).hash k) x).2.1) (hJ2 : ∀ es t,J es t->J es { t with plain:=false }) (hJ3 : ∀ es t n,J es t->J (relayAll t es n).1 (relayAll t es n).2.1) (W:WalksS prog w A.in1 I fp wr G n P St) (S:Addr) (hSf:S ∉ fp)
  (val:Nat->Int) (hval : ∀ i v,P i v -> ∃ t,v = .int (val i) t) (hb:n+1<scanBound) :
  ∀ (k i:Nat) (s:Shared),n-i=k->i<=n->St i s ->
   s.heap.SetI (intKind prog w) J S (fun k'=>(firstMet val i).any (· == k')) (firstMet val i).length ->
   (∀ s',Moved (S::wr) G s s'->s'.heap.SetI (intKind prog w) J S (fun k'=>(firstMet val n).any (· == k')) (firstMet val n).length->R (.ok (.ret .none)) s') ->
   codeAny (model prog w) A (.builtin "set.update.loop" ⟨[.ref S,.ref I],[]⟩) R s:= by
 have hSw:S ∉ wr:=fun h=>hSf (W.sub _ h)
 have hsub : ∀ b ∈ wr,b ∈ S::wr:=fun b hb=>List.mem_cons_of_mem _ hb
 intro k
 induction k with
 | zero=>
  intro i s hk hi hst hS hR
  have hin:i=n:=by omega
  subst hin
  refine codeAny_builtin F.entry_set_update_loop ?_
  rw[Around.under_plainId F.plain_set_update_loop _]
  show wpAny _ A.in1 (pyNext (.ref I) >>= _) _ _ s
  refine wpAny_bind (W.done s _ _ hst fun s' hm=>?_)
  show wpAny _ A.in1 (ret Value.none) _ _ s'
  exact wpAny_pure (hR s' (hm.mono hsub) (by
   obtain ⟨o,es,ep,t,ho,rest⟩:=hS
   exact ⟨o,es,ep,t,hm.heap S _ hSw ho,rest⟩))
 | succ k ih=>
  intro i s hk hi hst hS hR
  have hlt:i<n:=by omega
  refine codeAny_builtin F.entry_set_update_loop ?_
  rw[Around.under_plainId F.plain_set_update_loop _]
  show wpAny _ A.in1 (pyNext (.ref I) >>= _) _ _ s
  refine wpAny_bind (W.item i s _ _ hlt hst fun v s' hP hst' hm=>?_)
  obtain ⟨t,rfl⟩:=hval i v hP
  have hS':s'.heap.SetI (intKind prog w) J S (fun k'=>(firstMet val i).any (· == k')) (firstMet val i).length:= by
   obtain ⟨o,es,ep,tb,ho,rest⟩:=hS
   exact ⟨o,es,ep,tb,hm.heap S _ hSw ho,rest⟩
  show wpAny _ A.in1 (holding [Value.int (val i) t] (setAdd S (.int (val i) t)) >>= _) _ _ s'
  refine wpAny_bind (wpAny_holding ?_)
  unfold setAdd
  refine wpAny_holding ?_
  refine wpAny_bind ((intKind prog w).pyHash (k:=val i) (intKind_is _ _ _ _) ?_)
  have hroom:(firstMet val i).length+1<scanBound:=by have:=firstMet_length_le val i;omega
  refine wpAny_setAddHashedI hJ1 hJ2 hJ3 (knd:=intKind prog w) (s:={ s' with toks:=s'.toks+1 }) (intKind_is _ _ _ _) rfl hS' hroom fun h' hsb hS2=>?_
  have hSi:h'.SetI (intKind prog w) J S (fun k'=>(firstMet val (i+1)).any (· == k')) (firstMet val (i+1)).length:=
   SetI_congr hS2 (fun k'=>by rw[firstMet_succ,step_any]) (by rw[firstMet_succ,step_length])
  refine wpAny_pure ⟨plainId_quiet F.plain_set_update_loop _,ih (i+1) _ (by omega) hlt (W.frame _ s' _ _ hst' (Nat.le_succ _) fun b hb o e=>?_) hSi fun s'' hm'' hS''=>?_⟩
  ·rw[hsb.2 b (fun h:b=S=>hSf (by rw[<- h];exact hb))];exact e
  ·refine hR s'' (Moved.trans W.gtrans ((hm.mono hsub).then_heap (Nat.le_succ _) fun b o hb e=>?_) hm'') hS''
   rw[hsb.2 b (fun h:b=S=>hb (by rw[h];exact List.mem_cons_self))];exact e
end
end PyProof.Rows
namespace PySem
section
variable {prog:Program} {w:World} {A:Around} {E:Value->Shared->Prop} {s:Shared}
def ledW (w : World) : Bool:=!w.params.followText "set-order"
theorem code_set_new_led (a:Value) {Q₁:Value->Shared->Prop}
  (h : Q₁ (.ref s.heap.objs.size) { s with heap:=s.heap.push { cls:=.type "set",dict:=none,data:=.set #[] 0 (.fresh 0 0 (ledW w)) } }) :
  codeAny (model prog w) A (.call (.builtin "set.__new__") ⟨[.type "set",a],[]⟩) (wants Q₁ E) s:= by
 refine codeAny_of_tree ?_
 show wpAny _ A.in1 (do checkBuiltinCall "set.__new__" ⟨[.type "set",a],[]⟩; again (.builtin "set.__new__" ⟨[.type "set",a],[]⟩)) _ _ s
 refine wpAny_bind (wpAny_of_eq (F.newCall_set_1 a) (wpAny_pure ⟨plainId_quiet F.plain_set_new _,codeAny_builtin F.entry_set_new ?_⟩))
 rw[Around.under_plainId F.plain_set_new _]
 unfold Builtin.«set.__new__» Builtin.Frozenset.newClass
 have hsub:=sub_set_self
 obtain ⟨hp,g,d,tk,os⟩:=s
 dsimp only
 wp_walk
 refine wpAny_askSetting (wpAny_pure ?_)
 dsimp only
 simp only [newObj]
 refine wpAny_bind (wpAny_alloc (wpAny_pure ?_))
 exact wpAny_pure h
set_option maxRecDepth 100000 in
set_option maxHeartbeats 3200000 in
theorem call_set_listI {J:Array (Int × Value)->SetTable->Prop} (hJ1 : ∀ es t k x,J es t->(intKind prog w).is k x=true->(∀ e ∈ es.toList,(intKind prog w).is k e.2=false)->J (layNew t es ((intKind prog w).hash k) x).1 (layNew t es ((intKind prog w).hash k) x).2.1) (hJ2 : ∀ es t,J es t->J es { t with plain:=false }) (hJ3 : ∀ es t n,J es t->J (relayAll t es n).1 (relayAll t es n).2.1) (hJ0:J #[] (.fresh 0 0 (ledW w))) {l:Addr} {items:Array Value} {ns:List Int} {Q:Value->Shared->Prop}
  (hh:A.handled=none) (hl:s.heap.IsList l items) (hi:PyProof.Rows.IntsAre items.toList ns) (hb:items.size+1<scanBound)
  (h : ∀ (h':Heap) (tk:Nat),h'.SetI (intKind prog w) J s.heap.objs.size (fun k'=>(PyProof.Rows.firstMet (fun i=>ns.getD i 0) items.size).any (· == k')) (PyProof.Rows.firstMet (fun i=>ns.getD i 0) items.size).length ->
   (∀ b o,b<s.heap.objs.size->s.heap.get? b=some o->h'.get? b=some o)->Q (.ref s.heap.objs.size) { s with heap:=h',toks:=tk }) :
  wpAny (model prog w) A (call (.type "set") [.ref l]) Q E s:= by
 obtain ⟨c,tl,hmro⟩:=F.called_set.mro
 have hmade:=F.called_set.made
 have hsub:=F.called_set.sub
 refine wpAny_call (codeAny_of_tree ?_)
 show wpAny _ _ (callAny (.type "set") _) _ _ _
 refine wpAny_pure ⟨Code.quiet_builtin _ (by decide +kernel),codeAny_builtin F.entry_type_call ?_⟩
 rw[Around.under_plain (weight_type_call_type "set" [.ref l] []) rfl]
 have h1:=F.called_set.notType
 have h2:=F.called_set.canCreate
 have hct:=F.typeCall_set_1 (.ref l)
 repeat (any_goals (first | assumption | wp_step))
 refine codeAny_mono (code_set_new_led (.ref l) (E:=E) (Q₁:=fun obj s₁=>∃ led : Bool,led = ledW w /\ obj = .ref s.heap.objs.size /\ s₁ = { s with heap:=s.heap.push { cls:=.type "set",dict:=none,data:=.set #[] 0 (.fresh 0 0 led) } }) ⟨_,rfl,rfl,rfl⟩) fun r s₁ hr=>?_
 cases r with
 | error e=>exact hr
 | ok fl=>
  cases fl with
  | ret obj=>
   obtain ⟨led,hled,rfl,rfl⟩:=hr
   have hS : (s.heap.push { cls:=.type "set",dict:=none,data:=.set #[] 0 (.fresh 0 0 led) }).get? s.heap.objs.size = some { cls:=.type "set",dict:=none,data:=.set #[] 0 (.fresh 0 0 led) }:=Heap.get?_push_size _ rfl
   have hT : Shared.TypeIs { s with heap:=s.heap.push { cls:=.type "set",dict:=none,data:=.set #[] 0 (.fresh 0 0 led) } } (.ref s.heap.objs.size) "set":=⟨_,hS,rfl⟩
   have hli:=F.called_set.init.lookup
   have hbi:=F.called_set.init.bind (.ref s.heap.objs.size)
   repeat (any_goals (first | assumption | wp_step))
   refine codeAny_mono (codeAny_call_builtin (R:=wants (fun r s₂=>r = .none /\ ∃ h' tk,s₂={ s with heap:=h',toks:=tk } /\
     h'.SetI (intKind prog w) J s.heap.objs.size (fun k'=>(PyProof.Rows.firstMet (fun i=>ns.getD i 0) items.size).any (· == k')) (PyProof.Rows.firstMet (fun i=>ns.getD i 0) items.size).length /\
     (∀ b o,b<s.heap.objs.size->s.heap.get? b=some o->h'.get? b=some o)) E) F.called_set.init.plain F.entry_set_init (check_set_init_1 hT ?_)) fun r₂ s₂ hr₂=>?_
   ·obtain ⟨ol,hol,hcl,nl,hdl⟩:=hl
    obtain ⟨ocls,odict,odata,oslots⟩:=ol
    simp only at hcl hdl
    subst hcl;subst hdl
    have hol' : (s.heap.push { cls:=.type "set",dict:=none,data:=.set #[] 0 (.fresh 0 0 led) }).get? l = some { cls:=.type "list",dict:=odict,data:=.seq items nl,slots:=oslots }:=Heap.get?_push_of_some _ hol
    have hsls:=F.sub_list_set
    have hslf:=F.sub_list_frozenset
    have hne : (Value.type "list" == Value.type "dict") = false:=by decide
    have hl1 : (s.heap.push { cls:=.type "set",dict:=none,data:=.set #[] 0 (.fresh 0 0 led) }).IsList l items:=⟨_,hol',rfl,nl,rfl⟩
    unfold Builtin.«set.__init__» noKeywords Builtin.Frozenset.updateFrom
    generalize hPI:pyIter=PI
    wp_walk
    subst hPI
    refine wpAny_pyIter_list hl1 ?_
    refine wpAny_bind (wpAny_runValue ?_)
    have hlS:l<s.heap.objs.size:=Heap.lt_size hol
    have hh3:A.in1.in1.in1.handled=none:=by simp [hh]
    have hneI : l ≠ (s.heap.push { cls:=.type "set",dict:=none,data:=.set #[] 0 (.fresh 0 0 led) }).objs.size:= by
     rw[Heap.size_push];exact Nat.ne_of_lt (Nat.lt_succ_of_lt hlS)
    have hSf : s.heap.objs.size ∉ [(s.heap.push { cls:=.type "set",dict:=none,data:=.set #[] 0 (.fresh 0 0 led) }).objs.size,l]:= by
     rw[Heap.size_push];simp only [List.mem_cons,List.mem_singleton,List.not_mem_nil,or_false,not_or]
     exact ⟨Nat.ne_of_lt (Nat.lt_succ_self _),Nat.ne_of_gt hlS⟩
    have hval : ∀ (i:Nat) (v:Value),items[i]?=some v -> ∃ t,v = .int ((fun i=>ns.getD i 0) i) t:=fun i v hv=>
     PyProof.Rows.IntsAre.int_at hi i v (by rw[Array.getElem?_toList];exact hv)
    refine PyProof.Rows.codeAny_set_update_loopI hJ1 hJ2 hJ3 ((Walks.list hh3 _ l hneI items).toS) s.heap.objs.size
     hSf (fun i=>ns.getD i 0) hval hb (items.size-0) 0 _ (by omega) (Nat.zero_le _)
     ⟨⟨_,Heap.get?_push_size _ rfl,rfl,rfl⟩,(hl1.push _)⟩ ?hS0 ?hR
    case hS0=>
     have hget : ((s.heap.push { cls:=.type "set",dict:=none,data:=.set #[] 0 (.fresh 0 0 led) }).push { cls:=.type "list_iterator",data:=.fields #[.ref l,.int 0 0] }).get? s.heap.objs.size
       = some { cls:=.type "set",dict:=none,data:=.set #[] 0 (.fresh 0 0 led) }:=Heap.get?_push_of_some _ hS
     exact ⟨_,#[],0,_,hget,⟨rfl,rfl,rfl⟩,rfl,fun e he=>by simp at he,fun k=>by simp [PyProof.Rows.firstMet],by decide,by rfl,rfl,by rw[hled];exact hJ0⟩
    case hR=>
     intro s' hm hS'
     obtain ⟨h',g',d',tk',os'⟩:=s'
     have eg:g'=s.gens:=hm.gens
     have ed:d'=s.drawn:=hm.drawn
     have eo:os'=s.os:=hm.os
     subst eg;subst ed;subst eo
     show wpAny _ _ _ _ _ _
     refine wpAny_pure ?_
     show wpAny _ _ (ret Value.none) _ _ _
     refine wpAny_pure ⟨rfl,h',tk',rfl,hS',fun b o hb e=>?_⟩
     have hb1:b≠s.heap.objs.size:=Nat.ne_of_lt hb
     have hb2 : b ≠ (s.heap.push { cls:=.type "set",dict:=none,data:=.set #[] 0 (.fresh 0 0 led) }).objs.size:= by
      rw[Heap.size_push];exact Nat.ne_of_lt (Nat.lt_succ_of_lt hb)
     exact hm.heap b o (by simp only [List.mem_cons,List.mem_singleton,List.not_mem_nil,or_false,not_or];exact ⟨hb1,hb2⟩) (Heap.get?_push_of_some _ (Heap.get?_push_of_some _ e))
   ·cases r₂ with
    | error e=>exact hr₂
    | ok fl₂=>
     cases fl₂ with
     | ret r=>
      obtain ⟨rfl,h',tk,rfl,hS',hk'⟩:=hr₂
      repeat (any_goals (first | assumption | wp_step))
      exact h _ _ hS' hk'
     | _=>exact hr₂.elim
  | _=>exact hr.elim
end
end PySem
namespace PySem
open PyProof.Rows
def SJ (led:Bool) (es:Array (Int × Value)) (t:SetTable):Prop:=TOk led t/\(∀ e ∈ es.toList,∃ n tk,e.2=Value.int n tk)/\(es.toList.map fun e=>numOf e.2).Nodup
theorem sj_perm {led:Bool} {es es':Array (Int × Value)} {t t':SetTable} (h:SJ led es t) (ht:TOk led t') (p:es'.toList.Perm es.toList):SJ led es' t':=
 ⟨ht,fun e he=>h.2.1 e (p.mem_iff.mp he),((p.map fun e=>numOf e.2).nodup_iff).mpr h.2.2⟩
theorem sj_start (led:Bool):SJ led #[] (.fresh 0 0 led):=⟨⟨ris_nil,rfl⟩,fun e he=>by simp at he,by simp⟩
theorem sj_lay {prog:Program} {w:World} {led:Bool} (es:Array (Int × Value)) (t:SetTable) (k:Int) (x:Value) (h:SJ led es t) (hk:(intKind prog w).is k x=true) (hn : ∀ e ∈ es.toList,(intKind prog w).is k e.2=false) :
  SJ led (layNew t es ((intKind prog w).hash k) x).1 (layNew t es ((intKind prog w).hash k) x).2.1:= by
 obtain ⟨tk,rfl⟩:=Value.isInt_shape (show Value.isInt k x=true from hk)
 have p:=layNew_perm t es ((intKind prog w).hash k) (.int k tk)
 rw[Array.toList_push] at p
 refine ⟨layNew_ok h.1 es _ _,fun e he=>?_,?_⟩
 ·rcases List.mem_append.mp (p.mem_iff.mp he) with he | he
  ·exact h.2.1 e he
  ·rw[List.mem_singleton.mp he];exact ⟨k,tk,rfl⟩
 ·refine ((p.map fun e=>numOf e.2).nodup_iff).mpr ?_
  rw[List.map_append]
  refine L2.nd_snoc h.2.2 fun hm=>?_
  obtain ⟨e,he,z⟩:=List.mem_map.mp hm
  obtain ⟨n,tk',e2⟩:=h.2.1 e he
  have h1:=hn e he
  rw[e2] at h1 z
  have z:n=k:=z
  subst z
  have:(intKind prog w).is n (.int n tk')=true:=intKind_is _ _ _ _
  rw[h1] at this;cases this
theorem sj_off {led:Bool} (es:Array (Int × Value)) (t:SetTable) (h:SJ led es t):SJ led es { t with plain:=false }:=⟨⟨h.1.1,h.1.2⟩,h.2⟩
theorem sj_relay {led:Bool} (es:Array (Int × Value)) (t:SetTable) (n:Nat) (h:SJ led es t):SJ led (relayAll t es n).1 (relayAll t es n).2.1:=sj_perm h (relayAll_ok h.1 es n) (relayAll_perm t es n)
theorem pick_go {α:Type} (next:Nat->Nat) : ∀ (fuel k:Nat) (left:List α) (out:Array α),left.length=fuel->(pickOrder.go next fuel k left out).toList.Perm (out.toList++left)
 | 0,k,left,out,h=>by
  have:left=[]:=List.length_eq_zero_iff.mp h
  subst this
  unfold pickOrder.go
  simp
 | fuel+1,k,left,out,h=>by
  unfold pickOrder.go
  have hlt:next k % left.length<left.length:=Nat.mod_lt _ (by omega)
  rw[List.getElem?_eq_getElem hlt]
  dsimp only
  refine (pick_go next fuel (k+1) _ _ (by rw[List.length_eraseIdx,if_pos hlt];omega)).trans ?_
  rw[Array.toList_push,List.append_assoc]
  refine List.Perm.append_left _ ?_
  have e:left=left.take (next k % left.length)++left[next k % left.length]::left.drop (next k % left.length+1):= by
   rw[<- List.drop_eq_getElem_cons hlt,List.take_append_drop]
  rw[List.eraseIdx_eq_take_drop_succ]
  show (left[next k % left.length]::(left.take (next k % left.length)++left.drop (next k % left.length+1))).Perm left
  refine (List.perm_middle.symm).trans ?_
  rw[<- e]
theorem pick_perm {α:Type} (next:Nat->Nat) (xs:Array α):(pickOrder next xs).toList.Perm xs.toList:= by
 have:=pick_go next xs.size 0 xs.toList #[] (Array.length_toList ..)
 unfold pickOrder
 simpa using this
end PySem
namespace L2
open PySem PySem.Spec PyProof.Rows
def SetX (w:World) (a:Addr) (ms:List Int):HO:=.ext fun h=>∃ o es ep t,h.get? a=some o/\o.ExactSet/\o.data = .set es ep t/\es.size<scanBound/\t.fits es.size=true/\PySem.SJ (ledW w) es t/\es.toList.map (fun e=>numOf e.2)=ms
theorem setX_ok {P:Program} {w:World} {H:Hp} {h:Heap} {a:Addr} {ms:List Int} (e : ∃ o es ep t,h.get? a=some o/\o.ExactSet/\o.data = .set es ep t/\es.size<scanBound/\t.fits es.size=true/\PySem.SJ (ledW w) es t/\es.toList.map (fun e=>numOf e.2)=ms):ObjOk P w H h a (SetX w a ms):= by
 refine ⟨e,?_,fun h1 h2 ⟨o,es,ep,t,g,r⟩ k=>⟨o,es,ep,t,k o g,r⟩⟩
 obtain ⟨o,_,_,_,g,_⟩:=e
 exact ⟨o,g⟩
section
variable {X:Cx} {K:PySem.W.Frag}
theorem kc_setX (hc : X.calm = true:=by rfl) (h : X.K = K:=by rfl) : CallR X (.type "set") (fun xs H Q=>∃ (a : Addr) (ns : List Int),xs = [.ref a] /\ SqL K H a (ns.map V.int) /\ ns.length <= 1000 /\
  ∀ (p:Addr) (ms:List Int),H p=none->ms.Nodup->(∀ k,k ∈ ms ↔ k ∈ ns)->Q (.ref p) (upd H p (SetX X.w p ms))):= by
 subst h
 intro pins s σ H xs us Q I r h
 obtain ⟨a,ns,rfl,ha,hl,q⟩:=h
 obtain ⟨u,rfl,ru⟩:=vals1 r
 cases ru
 obtain ⟨its,r1,p1,_⟩:=I.list ha
 have l1:its.toArray.size=ns.length:=by rw[List.size_toArray,<- r1.length,ltm]
 refine call_set_listI (J:=PySem.SJ (ledW X.w)) (fun es t k x h1 h2 h3=>sj_lay es t k x h1 h2 h3) (fun es t h=>sj_off es t h) (fun es t n h=>sj_relay es t n h) (sj_start _) (items:=its.toArray) (ns:=ns) (I.ok.hd hc) p1.isList (intsAre_of r1) (by rw[l1];unfold scanBound;omega) fun h' tk hS hk=>?_
 obtain ⟨o,es,ep,t,g1,g2,g3,g4,g5,g6,g7,g8,g9⟩:=hS
 refine ⟨.ref s.heap.objs.size,_,I.laid (t':=tk) (o:=SetX X.w s.heap.objs.size (es.toList.map fun e=>numOf e.2)) (fun b o e=>hk b o (Heap.lt_size e) e) (Nat.le_refl _) (setX_ok ⟨o,es,ep,t,g1,g2,g3,g6,g7,g9,rfl⟩),rfl,q _ _ (I.hok.fresh (Nat.le_refl _)) g9.2.2 fun k=>?_⟩
 have hm:(firstMet (fun i=>ns.getD i 0) its.toArray.size).any (· == k)=true ↔ k ∈ ns:= by
  rw[firstMet_any,l1]
  have e:(List.range ns.length).map (fun i=>ns.getD i 0)=ns:=range_getD ns 0
  rw[e]
  simp [List.any_eq_true]
 rw[<- hm,g5 k]
 constructor
 ·intro hk2
  obtain ⟨e,he,z⟩:=List.mem_map.mp hk2
  obtain ⟨n,tk',e2⟩:=g9.2.1 e he
  refine ⟨e,he,?_⟩
  rw[e2] at z ⊢
  have z:n=k:=z
  subst z
  exact intKind_is _ _ _ _
 ·rintro ⟨e,he,z⟩
  obtain ⟨tk',e2⟩:=Value.isInt_shape (show Value.isInt k e.2=true from z)
  exact List.mem_map.mpr ⟨e,he,by rw[e2];rfl⟩
end
end L2
namespace PySem.F
theorem owner_set_iterator:Manifest.owners.lookup (String.ofList ['r','o','t','a','r','e','t','i','_','t','e','s'].reverse)=some Manifest.sig_set_iterator:=by kernel_rfl
theorem slot_set_iterator_next : Slot "set_iterator" "__next__" "set_iterator.__next__":=
 .of (owner:="set_iterator") (n:="__next__") (by rw[typeLookup_type,builtinLookup_eq_fast]; kernel_rfl) (by decide +kernel) (by decide +kernel) (by decide +kernel)
  (by first | exact .inl (by decide +kernel) | exact .inr (by decide +kernel)) (by rw[isSubtype_type];kernel_rfl)
theorem entry_set_iterator_next : entryFor table "set_iterator.__next__" = some Builtin.«set_iterator.__next__»:=entryFor_of_tree (by kernel_rfl)
theorem args_set_iterator_next_1 (a : Value) : argsOk "set_iterator.__next__" ⟨[a],[]⟩:= by
 unfold argsOk; rw[signature?_of (id:="set_iterator.__next__") (n:=['_','_','t','x','e','n','_','_']) (o:=['r','o','t','a','r','e','t','i','_','t','e','s']) (by kernel_rfl) owner_set_iterator]; kernel_rfl
theorem slot_set_iterator_iter : Slot "set_iterator" "__iter__" "set_iterator.__iter__":=
 .of (owner:="set_iterator") (n:="__iter__") (by rw[typeLookup_type,builtinLookup_eq_fast]; kernel_rfl) (by decide +kernel) (by decide +kernel) (by decide +kernel)
  (by first | exact .inl (by decide +kernel) | exact .inr (by decide +kernel)) (by rw[isSubtype_type];kernel_rfl)
theorem entry_set_iterator_iter : entryFor table "set_iterator.__iter__" = some Builtin.«dict_keyiterator.__iter__»:=entryFor_alias (id':="dict_keyiterator.__iter__") (by kernel_rfl) rfl (by decide +kernel) (by kernel_rfl)
theorem args_set_iterator_iter_1 (a : Value) : argsOk "set_iterator.__iter__" ⟨[a],[]⟩:= by
 unfold argsOk; rw[signature?_of (id:="set_iterator.__iter__") (n:=['_','_','r','e','t','i','_','_']) (o:=['r','o','t','a','r','e','t','i','_','t','e','s']) (by kernel_rfl) owner_set_iterator]; kernel_rfl
theorem entry_set_iter : entryFor table "set.__iter__" = some Builtin.«frozenset.__iter__»:=entryFor_alias (id':="frozenset.__iter__") (by kernel_rfl) rfl (by decide +kernel) (by kernel_rfl)
end PySem.F
namespace PySem
open Sem (wp)
section
variable {prog:Program} {w:World} {A:Around} {E:Value->Shared->Prop} {s:Shared}
theorem wpAny_choose {M:Model} {src:Source} {n:Nat} {Q:Nat->Shared->Prop} (hn:n≠0) (h : ∀ i d,i<n->Q i { s with drawn:=d }):wpAny M A (choose src n) Q E s:=fun Γ p hΓ=>by
 unfold choose
 rw[Sem.wp_choose]
 exact ⟨hn,h _ _ (Nat.mod_lt _ (Nat.pos_of_ne_zero hn))⟩
theorem perm_erase {α:Type} {xs:List α} {i:Nat} (h:i<xs.length):(xs[i]::xs.eraseIdx i).Perm xs:= by
 rw[List.eraseIdx_eq_take_drop_succ]
 have e:xs=xs.take i++xs[i]::xs.drop (i+1):=by rw[<- List.drop_eq_getElem_cons h,List.take_append_drop]
 refine (List.perm_middle.symm).trans ?_
 rw[<- e]
theorem wpAny_drawOrder {M:Model} {α:Type} : ∀ (n:Nat) (xs:List α) (s:Shared) (Q:List α->Shared->Prop),xs.length=n->(∀ ys d,ys.Perm xs->Q ys { s with drawn:=d })->wpAny M A (drawOrder n xs) Q E s
 | 0,xs,s,Q,hl,h=>by
  have e:xs=[]:=List.length_eq_zero_iff.mp hl
  subst e
  unfold drawOrder
  exact wpAny_pure (h [] s.drawn (.refl _))
 | n+1,[],s,Q,hl,h=>by cases hl
 | n+1,x::xs,s,Q,hl,h=>by
  unfold drawOrder
  refine wpAny_bind (wpAny_choose (by simp) fun i d hi=>?_)
  rw[List.getElem?_eq_getElem hi]
  dsimp only
  refine wpAny_bind (wpAny_drawOrder n _ _ _ (by rw[List.length_eraseIdx,if_pos hi];simp at hl ⊢;exact hl) fun ys d' hp=>wpAny_pure ?_)
  exact h _ _ ((List.Perm.cons _ hp).trans (perm_erase hi))
def Heap.IsSetIter (h:Heap) (it:Addr) (first:Value) (i:Nat) (a:Addr) (n ep:Nat):Prop:=
 ∃ o,h.get? it = some o /\ o.cls = .type "set_iterator" /\ o.data = .fields #[first,.int i 0,.ref a,.int n 0,.int ep 0]
def Heap.SetA (h:Heap) (a:Addr) (es:Array (Int × Value)) (ep:Nat) (t:SetTable):Prop:=∃ o,h.get? a=some o/\o.ExactSet/\o.data = .set es ep t
theorem Heap.IsSetIter.typeIs {s : Shared} {it f i a n ep} (x : s.heap.IsSetIter it f i a n ep) : s.TypeIs (.ref it) "set_iterator":=let ⟨o,ho,hc,_⟩:=x; ⟨o,ho,hc⟩
theorem Heap.IsSetIter.at {h h':Heap} {it f i a n ep} (x:h.IsSetIter it f i a n ep) (e : ∀ o,h.get? it=some o->h'.get? it=some o):h'.IsSetIter it f i a n ep:=let ⟨o,ho,r⟩:=x;⟨o,e _ ho,r⟩
theorem Heap.SetA.typeIs {s : Shared} {a es ep t} (x : s.heap.SetA a es ep t) : s.TypeIs (.ref a) "set":=let ⟨o,ho,hc,_⟩:=x; ⟨o,ho,hc.1⟩
theorem Heap.SetA.at {h h':Heap} {a es ep t} (x:h.SetA a es ep t) (e : ∀ o,h.get? a=some o->h'.get? a=some o):h'.SetA a es ep t:=let ⟨o,ho,r⟩:=x;⟨o,e _ ho,r⟩
theorem Heap.SetA.lt_size {h:Heap} {a es ep t} (x:h.SetA a es ep t):a<h.objs.size:=let ⟨_,ho,_⟩:=x;Heap.lt_size ho
theorem wpAny_setsByText {M : Model} {Q : Bool -> Shared -> Prop} (h : Q (M.w.params.followText "set-order") s) : wpAny M A setsByText Q E s:= by
 unfold setsByText
 exact wpAny_bind (wpAny_askSetting (wpAny_pure h))
def byTextW (w : World) : Bool:=w.params.followText "set-order"
def drawnW (w:World) (es:Array (Int × Value)) (t:SetTable):Bool:=!byTextW w&&(!t.plain&&decide (es.size > 1))
def iterObj (first : Value) (a : Addr) (n ep : Nat) : Obj:={ cls:=.type "set_iterator",data:=.fields #[first,.int 0 0,.ref a,.int n 0,.int ep 0] }
theorem wpAny_pyIter_setR {a:Addr} {es:Array (Int × Value)} {ep:Nat} {t:SetTable} {Q:Value->Shared->Prop} (hm:s.heap.SetA a es ep t) (hf:t.fits es.size=true) (hz:es.size<=sizeLine)
  (hD : drawnW w es t = true -> ∀ (ps : List Nat) d,ps.Perm (List.range es.size) -> Q (.ref (s.heap.objs.size + 1)) { s with drawn:=d,heap:=(s.heap.push { cls:=.type "tuple",data:=.seq (ps.map fun (i : Nat)=>Value.int i 0).toArray }).push (iterObj (.ref s.heap.objs.size) a es.size ep) })
  (hN:drawnW w es t=false->Q (.ref s.heap.objs.size) { s with heap:=s.heap.push (iterObj (.int 0 0) a es.size ep) }):wpAny (model prog w) A (pyIter (.ref a)) Q E s:= by
 obtain ⟨o,ho,hex,hd⟩:=id hm
 have hT:=hm.typeIs
 refine wpAny_pyIter_slot hT F.slot_set_iter (wpAny_call_entry F.slot_set_iter hT F.entry_set_iter ?_ (F.args_set_iter_1 _))
 unfold Builtin.«frozenset.__iter__» Builtin.Frozenset.slot0 slotArgs
 simp only [List.isEmpty_nil,Bool.not_true,Bool.false_eq_true,↓reduceIte,bind_assoc,List.length_nil,bne_self_eq_false]
 unfold Builtin.Frozenset.addrOf Builtin.Frozenset.sizeOf
 refine wpAny_bind (wpAny_pure ?_)
 try dsimp only
 refine wpAny_bind (wpAny_pure ?_)
 refine wpAny_bind (wpAny_bind (wpAny_setEntries_of ho hd hf (wpAny_pure ?_)))
 refine wpAny_bind ?_
 unfold setDrawn
 refine wpAny_bind (wpAny_setState_of ho hd hf ?_)
 refine wpAny_bind (wpAny_setsByText (wpAny_pure ?_))
 show wpAny _ _ (if drawnW w es t=true then _ else _) _ _ _
 cases hdr:drawnW w es t with
 | true=>
  rw[if_pos rfl]
  refine wpAny_bind (wpAny_drawOrder _ _ _ _ (by simp) fun ps d hp=>?_)
  refine wpAny_bind (wpAny_newTuple ?_ (by rw[List.length_map,hp.length_eq,List.length_range];exact hz))
  refine wpAny_bind (wpAny_setEpoch_of (s:={ s with drawn:=d,heap:=s.heap.push _ }) (Heap.get?_push_of_some _ ho) hd hf ?_)
  simp only [newFields]
  refine wpAny_bind (wpAny_newObj_type (wpAny_pure ⟨_,rfl,"set_iterator",_,⟨_,Heap.get?_push_size _ rfl,rfl⟩,F.slot_set_iterator_next.lookup,?_⟩))
  have:=hD hdr ps d hp
  rw[PyProof.Rows.size_push']
  simpa [rawInt,iterObj] using this
 | false=>
  rw[if_neg (by simp)]
  refine wpAny_bind (wpAny_pure ?_)
  refine wpAny_bind (wpAny_setEpoch_of ho hd hf ?_)
  simp only [newFields]
  refine wpAny_bind (wpAny_newObj_type (wpAny_pure ⟨_,rfl,"set_iterator",_,⟨_,Heap.get?_push_size _ rfl,rfl⟩,F.slot_set_iterator_next.lookup,?_⟩))
  have:=hN hdr
  simpa [rawInt,iterObj] using this
theorem wpAny_setNext {a:Addr} {es:Array (Int × Value)} {ep:Nat} {t:SetTable} {slot given:Nat} {Q:Option (Value × Nat)->Shared->Prop} (hm:s.heap.SetA a es ep t) (hf:t.fits es.size=true) (hnd:drawnW w es t=false) (hled:t.led = !byTextW w)
  (hT:byTextW w=true->Q (((pickOrder (w.params.setOrder a ep) es)[given]?).map fun e=>(e.2,slot)) s)
  (hP:byTextW w=false->Q (match es[SetTable.below t.place slot]?,t.place[SetTable.below t.place slot]? with | some (_,x),some j=>some (x,j+1) | _,_=>none) s):wpAny (model prog w) A (setNext a slot given ep) Q E s:= by
 obtain ⟨o,ho,hex,hd⟩:=id hm
 unfold setNext
 refine wpAny_bind (wpAny_setState_of ho hd hf ?_)
 dsimp only
 refine wpAny_bind (wpAny_setsByText ?_)
 show wpAny _ _ (if byTextW w=true then _ else _) _ _ _
 cases hb:byTextW w with
 | true=>
  rw[if_pos rfl]
  rw[if_neg (by simp)]
  refine wpAny_bind ?_
  unfold setWalk
  refine wpAny_bind (wpAny_setState_of ho hd hf ?_)
  dsimp only
  refine wpAny_bind (wpAny_setsByText ?_)
  show wpAny _ _ (if byTextW w=true then _ else _) _ _ _
  rw[hb,if_pos rfl]
  refine wpAny_bind (wpAny_askSetting (wpAny_pure ?_))
  exact wpAny_pure (hT hb)
 | false=>
  rw[if_neg (by simp)]
  have hdr:(!t.plain&&decide (es.size > 1))=false:= by
   unfold drawnW at hnd
   rw[hb] at hnd
   simpa using hnd
  show wpAny _ _ (if (!t.plain&&decide (es.size > 1))=true then _ else _) _ _ _
  rw[hdr,if_neg (by simp)]
  refine wpAny_bind ?_
  show wpAny _ _ (if (!t.led && !es.isEmpty)=true then _ else _) _ _ _
  have hl:(!t.led && !es.isEmpty)=false:=by rw[hled,hb];rfl
  rw[hl,if_neg (by simp)]
  refine wpAny_pure ?_
  exact wpAny_pure (hP hb)
theorem wpAny_pyNext_set {it a:Addr} {i ep:Nat} {es:Array (Int × Value)} {t:SetTable} {x:Value} {nx:Nat} {fr:Nat} {Q:Option Value->Shared->Prop} (hit:s.heap.IsSetIter it (.int fr 0) i a es.size ep)
  (hm:s.heap.SetA a es ep t) (hf:t.fits es.size=true) (hnd:drawnW w es t=false) (hled:t.led = !byTextW w)
  (hT:byTextW w=true->(((pickOrder (w.params.setOrder a ep) es)[i]?).map fun e=>(e.2,fr))=some (x,nx))
  (hP:byTextW w=false->(match es[SetTable.below t.place fr]?,t.place[SetTable.below t.place fr]? with | some (_,x),some j=>some (x,j+1) | _,_=>none)=some (x,nx))
  (hQ : ∀ h',h'.IsSetIter it (.int nx 0) (i+1) a es.size ep->Heap.SameBut it s.heap h'->Q (some x) { s with heap:=h' }) :
  wpAny (model prog w) A (pyNext (.ref it)) Q E s:= by
 obtain ⟨o,ho,hc,hd⟩:=id hit
 obtain ⟨oa,hoa,hexa,hda⟩:=id hm
 unfold pyNext
 refine wpAny_bind (wpAny_attempt (wpAny_callSpecial?_slot (name:=Str.ofString "__next__") hit.typeIs F.slot_set_iterator_next
  (wpAny_call_entry F.slot_set_iterator_next hit.typeIs F.entry_set_iterator_next ?_ (F.args_set_iterator_next_1 _))))
 unfold Builtin.«set_iterator.__next__» slotArgs
 simp only [List.isEmpty_nil,Bool.not_true,Bool.false_eq_true,↓reduceIte,bind_assoc,List.length_nil,bne_self_eq_false]
 refine wpAny_bind (wpAny_pure ?_)
 try dsimp only
 refine wpAny_bind (wpAny_fieldsOf ho hd ?_)
 dsimp only
 refine wpAny_bind (wpAny_setEntries_of hoa hda hf ?_)
 rw[if_neg (by simp)]
 have key:wpAny (model prog w) A.in1 (setNext a (fr:Int).toNat (i:Int).toNat (ep:Int).toNat) (fun r s'=>r=some (x,nx)/\s'=s) (fun _ _=>False) s:= by
  rw[Int.toNat_natCast,Int.toNat_natCast,Int.toNat_natCast]
  exact wpAny_setNext hm hf hnd hled (fun hb=>⟨hT hb,rfl⟩) fun hb=>⟨hP hb,rfl⟩
 refine wpAny_bind (wpAny_mono key (fun r s' hr=>?_) fun _ _ e=>e.elim)
 obtain ⟨rfl,rfl⟩:=hr
 dsimp only
 refine wpAny_bind (wpAny_setField ho hd (by simp) ?_)
 have ho1:=Heap.get?_update_self (Obj.mapFields (·.setIfInBounds 0 (rawInt (nx:Int)))) ho (Obj.isFreed_of_fields (Obj.data_mapFields hd _))
 have hd1:(Obj.mapFields (·.setIfInBounds 0 (rawInt (nx:Int))) o).data = .fields #[.int nx 0,.int i 0,.ref a,.int es.size 0,.int ep 0]:=by rw[Obj.data_mapFields hd];simp [rawInt]
 refine wpAny_bind (wpAny_setField (s:={ s' with heap:=s'.heap.update it _ }) ho1 hd1 (by simp) ?_)
 have ho2:=Heap.get?_update_self (Obj.mapFields (·.setIfInBounds 1 (rawInt ((i:Int)+1)))) ho1 (Obj.isFreed_of_fields (Obj.data_mapFields hd1 _))
 refine wpAny_pure ⟨_,rfl,wpAny_pure (hQ _ ⟨_,ho2,(Obj.cls_mapFields ..).trans ((Obj.cls_mapFields ..).trans hc),by rw[Obj.data_mapFields hd1];simp [rawInt]⟩ ((Heap.SameBut.update ..).trans (Heap.SameBut.update ..)))⟩
theorem stop_set {A0:Around} {it a:Addr} {o:Obj} {v0 v1 v3 v4:Value} {s:Shared} {Q:Option Value->Shared->Prop} (hh:A0.handled=none) (ho:s.heap.get? it=some o) (hd:o.data = .fields #[v0,v1,.ref a,v3,v4])
  (hQ : ∀ h',Heap.ExtBut it s.heap h'->Q none { s with heap:=h' }) :
  wpAny (model prog w) A0.in1 (do setField (.ref it) 2 .none; raiseNew (<- newExc (.type "StopIteration") []) : Sem Fin) (fun fin s'=>∃ v,fin = Fin.done (Flow.ret v) /\ wpAny (model prog w) A0 (pure (some v)) Q E s')
   (fun e s'=>wpAny (model prog w) A0 (do let b <- isInstance e (Value.type "StopIteration"); if b = true then pure none else throw e) Q E s') s:= by
 refine wpAny_bind (wpAny_setField ho hd (by simp) ?_)
 refine wpAny_bind ?_
 simp only [newExc,newTuple]
 refine wpAny_bind (wpAny_newObj_type ?_ (by size_fits))
 refine wpAny_bind (m:=firstArgMember _ _) (wpAny_of_eq (a:=Value.none) (by first | rfl | (simp only [firstArgMember];rfl)) ?_)
 refine wpAny_newObj_type ?_ (by size_fits)
 simp only [raiseNew]
 refine wpAny_bind (wpAny_handled ?_)
 rw[show A0.in1.handled=none from hh]
 refine wpAny_bind (wpAny_pure (wpAny_throw ?_))
 refine wpAny_bind (wpAny_isInstance (T:="StopIteration") (b:=true) ⟨_,Heap.get?_push_size _ rfl,rfl⟩ isSubtype_stop ?_)
 exact wpAny_pure (hQ _ (((Heap.SameBut.update ..).extBut.push _).push _))
theorem wpAny_pyNext_setEnd {it a:Addr} {i ep:Nat} {es:Array (Int × Value)} {t:SetTable} {fr:Nat} {Q:Option Value->Shared->Prop} (hh:A.handled=none) (hit:s.heap.IsSetIter it (.int fr 0) i a es.size ep)
  (hm:s.heap.SetA a es ep t) (hf:t.fits es.size=true) (hnd:drawnW w es t=false) (hled:t.led = !byTextW w)
  (hT:byTextW w=true->(((pickOrder (w.params.setOrder a ep) es)[i]?).map fun e=>(e.2,fr))=none)
  (hP:byTextW w=false->(match es[SetTable.below t.place fr]?,t.place[SetTable.below t.place fr]? with | some (_,x),some j=>some (x,j+1) | _,_=>none)=none)
  (hQ : ∀ h',Heap.ExtBut it s.heap h'->Q none { s with heap:=h' }) :
  wpAny (model prog w) A (pyNext (.ref it)) Q E s:= by
 obtain ⟨o,ho,hc,hd⟩:=id hit
 obtain ⟨oa,hoa,hexa,hda⟩:=id hm
 unfold pyNext
 refine wpAny_bind (wpAny_attempt (wpAny_callSpecial?_slot (name:=Str.ofString "__next__") hit.typeIs F.slot_set_iterator_next
  (wpAny_call_entry F.slot_set_iterator_next hit.typeIs F.entry_set_iterator_next ?_ (F.args_set_iterator_next_1 _))))
 unfold Builtin.«set_iterator.__next__» slotArgs
 simp only [List.isEmpty_nil,Bool.not_true,Bool.false_eq_true,↓reduceIte,bind_assoc,List.length_nil,bne_self_eq_false]
 refine wpAny_bind (wpAny_pure ?_)
 try dsimp only
 refine wpAny_bind (wpAny_fieldsOf ho hd ?_)
 dsimp only
 refine wpAny_bind (wpAny_setEntries_of hoa hda hf ?_)
 rw[if_neg (by simp)]
 have key:wpAny (model prog w) A.in1 (setNext a (fr:Int).toNat (i:Int).toNat (ep:Int).toNat) (fun r s'=>r=none/\s'=s) (fun _ _=>False) s:= by
  rw[Int.toNat_natCast,Int.toNat_natCast,Int.toNat_natCast]
  exact wpAny_setNext hm hf hnd hled (fun hb=>⟨hT hb,rfl⟩) fun hb=>⟨hP hb,rfl⟩
 refine wpAny_bind (wpAny_mono key (fun r s' hr=>?_) fun _ _ e=>e.elim)
 obtain ⟨rfl,rfl⟩:=hr
 dsimp only
 exact stop_set hh ho hd hQ
theorem wpAny_pyNext_setD {it a T:Addr} {i ep p:Nat} {es:Array (Int × Value)} {t:SetTable} {oT:Obj} {nT:Nat} {ps:List Nat} {e:Int × Value} {Q:Option Value->Shared->Prop} (hit:s.heap.IsSetIter it (.ref T) i a es.size ep)
  (hm:s.heap.SetA a es ep t) (hf:t.fits es.size=true) (hT:s.heap.get? T=some oT) (hTd:oT.data = .seq (ps.map fun (i:Nat)=>Value.int i 0).toArray nT) (hp:ps[i]?=some p) (he:es[p]?=some e)
  (hQ : ∀ h',h'.IsSetIter it (.ref T) (i+1) a es.size ep->Heap.SameBut it s.heap h'->Q (some e.2) { s with heap:=h' }) :
  wpAny (model prog w) A (pyNext (.ref it)) Q E s:= by
 obtain ⟨o,ho,hc,hd⟩:=id hit
 obtain ⟨oa,hoa,hexa,hda⟩:=id hm
 unfold pyNext
 refine wpAny_bind (wpAny_attempt (wpAny_callSpecial?_slot (name:=Str.ofString "__next__") hit.typeIs F.slot_set_iterator_next
  (wpAny_call_entry F.slot_set_iterator_next hit.typeIs F.entry_set_iterator_next ?_ (F.args_set_iterator_next_1 _))))
 unfold Builtin.«set_iterator.__next__» slotArgs
 simp only [List.isEmpty_nil,Bool.not_true,Bool.false_eq_true,↓reduceIte,bind_assoc,List.length_nil,bne_self_eq_false]
 refine wpAny_bind (wpAny_pure ?_)
 try dsimp only
 refine wpAny_bind (wpAny_fieldsOf ho hd ?_)
 dsimp only
 refine wpAny_bind (wpAny_setEntries_of hoa hda hf ?_)
 rw[if_neg (by simp)]
 refine wpAny_bind (wpAny_seqItems hT hTd ?_)
 dsimp only
 have e1:(ps.map fun (i:Nat)=>Value.int i 0).toArray[(i:Int).toNat]?=some (Value.int p 0):= by
  rw[Int.toNat_natCast,List.getElem?_toArray,List.getElem?_map,hp];rfl
 rw[e1]
 dsimp only
 refine wpAny_bind ?_
 rw[Int.toNat_natCast,Int.toNat_natCast]
 unfold setNextDrawn
 refine wpAny_bind (wpAny_setState_of hoa hda hf ?_)
 dsimp only
 rw[if_neg (by simp)]
 rw[he]
 dsimp only
 refine wpAny_pure ?_
 refine wpAny_bind (wpAny_setField ho hd (by simp) ?_)
 have ho2:=Heap.get?_update_self (Obj.mapFields (·.setIfInBounds 1 (rawInt ((i:Int)+1)))) ho (Obj.isFreed_of_fields (Obj.data_mapFields hd _))
 exact wpAny_pure ⟨_,rfl,wpAny_pure (hQ _ ⟨_,ho2,(Obj.cls_mapFields ..).trans hc,by rw[Obj.data_mapFields hd];simp [rawInt]⟩ (Heap.SameBut.update ..))⟩
theorem wpAny_pyNext_setDEnd {it a T:Addr} {i ep:Nat} {es:Array (Int × Value)} {t:SetTable} {oT:Obj} {nT:Nat} {ps:List Nat} {Q:Option Value->Shared->Prop} (hh:A.handled=none) (hit:s.heap.IsSetIter it (.ref T) i a es.size ep)
  (hm:s.heap.SetA a es ep t) (hf:t.fits es.size=true) (hT:s.heap.get? T=some oT) (hTd:oT.data = .seq (ps.map fun (i:Nat)=>Value.int i 0).toArray nT) (hp:ps[i]?=none)
  (hQ : ∀ h',Heap.ExtBut it s.heap h'->Q none { s with heap:=h' }) :
  wpAny (model prog w) A (pyNext (.ref it)) Q E s:= by
 obtain ⟨o,ho,hc,hd⟩:=id hit
 obtain ⟨oa,hoa,hexa,hda⟩:=id hm
 unfold pyNext
 refine wpAny_bind (wpAny_attempt (wpAny_callSpecial?_slot (name:=Str.ofString "__next__") hit.typeIs F.slot_set_iterator_next
  (wpAny_call_entry F.slot_set_iterator_next hit.typeIs F.entry_set_iterator_next ?_ (F.args_set_iterator_next_1 _))))
 unfold Builtin.«set_iterator.__next__» slotArgs
 simp only [List.isEmpty_nil,Bool.not_true,Bool.false_eq_true,↓reduceIte,bind_assoc,List.length_nil,bne_self_eq_false]
 refine wpAny_bind (wpAny_pure ?_)
 try dsimp only
 refine wpAny_bind (wpAny_fieldsOf ho hd ?_)
 dsimp only
 refine wpAny_bind (wpAny_setEntries_of hoa hda hf ?_)
 rw[if_neg (by simp)]
 refine wpAny_bind (wpAny_seqItems hT hTd ?_)
 dsimp only
 have e1:(ps.map fun (i:Nat)=>Value.int i 0).toArray[(i:Int).toNat]?=none:= by
  rw[Int.toNat_natCast,List.getElem?_toArray,List.getElem?_map,hp];rfl
 rw[e1]
 dsimp only
 refine wpAny_bind (wpAny_setField ho hd (by simp) ?_)
 have ho1:=Heap.get?_update_self (Obj.mapFields (·.setIfInBounds 0 (rawInt 0))) ho (Obj.isFreed_of_fields (Obj.data_mapFields hd _))
 have hd1:(Obj.mapFields (·.setIfInBounds 0 (rawInt 0)) o).data = .fields #[.int 0 0,.int i 0,.ref a,.int es.size 0,.int ep 0]:=by rw[Obj.data_mapFields hd];simp [rawInt]
 exact stop_set (s:={ s with heap:=s.heap.update it _ }) hh ho1 hd1 fun h' he=>hQ h' fun b o hb e=>he b o hb ((Heap.get?_update_other _ _ (Ne.symm hb)).trans e)
theorem wpAny_pyIter_setiter {it a:Addr} {f:Value} {i n ep:Nat} {Q:Value->Shared->Prop} (hit:s.heap.IsSetIter it f i a n ep) (h:Q (.ref it) s):wpAny (model prog w) A (pyIter (.ref it)) Q E s:= by
 refine wpAny_pyIter_slot hit.typeIs F.slot_set_iterator_iter (wpAny_call_entry F.slot_set_iterator_iter hit.typeIs F.entry_set_iterator_iter ?_ (F.args_set_iterator_iter_1 _))
 show wpAny _ _ (ret (.ref it)) _ _ s
 exact wpAny_pure ⟨_,rfl,"set_iterator",_,hit.typeIs,F.slot_set_iterator_next.lookup,h⟩
theorem SetTable.fits_size {t:SetTable} {n:Nat} (h:t.fits n=true):t.place.size=n:= by
 simp only [SetTable.fits,Bool.and_eq_true,beq_iff_eq,decide_eq_true_eq] at h
 exact h.1
theorem Walks.setD (hh:A.handled=none) (I a T:Addr) (hne:a≠I) (hTI:T≠I) (es:Array (Int × Value)) (t:SetTable) (ep:Nat) (hf:t.fits es.size=true) (ps:List Nat) (hps:ps.Perm (List.range es.size)) :
  Walks prog w A I [I,a,T] [I] es.size (fun i v=>(ps.map fun p=>(es.getD p default).2)[i]? = some v) (fun i h=>h.IsSetIter I (.ref T) i a es.size ep /\ h.SetA a es ep t /\ h.get? T = some { cls:=.type "tuple",data:=.seq (ps.map fun (i : Nat)=>Value.int i 0).toArray }) where
 sub:=fun b hb=>by simp at hb;simp [hb]
 frame:=fun _ _ _ st hk=>⟨st.1.at fun o e=>hk I (by simp) o e,st.2.1.at fun o e=>hk a (by simp) o e,hk T (by simp) _ st.2.2⟩
 item:=fun i s Q E hi st hQ=>by
  have hl:i<ps.length:=by rw[hps.length_eq,List.length_range];exact hi
  have hp:ps[i]?=some ps[i]:=List.getElem?_eq_getElem hl
  have hlt:ps[i]<es.size:=List.mem_range.mp (hps.mem_iff.mp (List.getElem_mem hl))
  refine wpAny_pyNext_setD st.1 st.2.1 hf st.2.2 rfl hp (Array.getElem?_eq_getElem hlt) fun h' hit' hs'=>?_
  refine hQ _ h' s.toks ?_ ⟨hit',st.2.1.at fun o e=>hs'.extBut a o hne e,hs'.extBut T _ hTI st.2.2⟩ fun b o hb e=>hs'.extBut b o (fun h=>hb (by simp [h])) e
  rw[List.getElem?_map,hp]
  simp [Array.getD,hlt]
 done:=fun s Q E st hQ=>wpAny_pyNext_setDEnd hh st.1 st.2.1 hf st.2.2 rfl (List.getElem?_eq_none (by rw[hps.length_eq,List.length_range];exact Nat.le_refl _)) fun h' he'=>hQ h' s.toks fun b o hb e=>he' b o (fun h=>hb (by simp [h])) e
 self:=fun _ _ _ _ st hQ=>wpAny_pyIter_setiter st.1 hQ
theorem Walks.setT (hh:A.handled=none) (I a:Addr) (hne:a≠I) (es:Array (Int × Value)) (t:SetTable) (ep:Nat) (hf:t.fits es.size=true) (hnd:drawnW w es t=false) (hled:t.led = !byTextW w) (hb:byTextW w=true) (hsz:(pickOrder (w.params.setOrder a ep) es).size=es.size) :
  Walks prog w A I [I,a] [I] es.size (fun i v=>((pickOrder (w.params.setOrder a ep) es).toList.map (·.2))[i]?=some v) (fun i h=>h.IsSetIter I (.int 0 0) i a es.size ep/\h.SetA a es ep t) where
 sub:=fun b hb=>by simp at hb;simp [hb]
 frame:=fun _ _ _ st hk=>⟨st.1.at fun o e=>hk I (by simp) o e,st.2.at fun o e=>hk a (by simp) o e⟩
 item:=fun i s Q E hi st hQ=>by
  have hl:i<(pickOrder (w.params.setOrder a ep) es).size:=by rw[hsz];exact hi
  refine wpAny_pyNext_set (x:=(pickOrder (w.params.setOrder a ep) es)[i].2) (nx:=0) (fr:=0) st.1 st.2 hf hnd hled (fun _=>by rw[Array.getElem?_eq_getElem hl];rfl) (fun e=>by rw[hb] at e;cases e) fun h' hit' hs'=>?_
  refine hQ _ h' s.toks ?_ ⟨hit',st.2.at fun o e=>hs'.extBut a o hne e⟩ fun b o hb e=>hs'.extBut b o (fun h=>hb (by simp [h])) e
  rw[List.getElem?_map,Array.getElem?_toList,Array.getElem?_eq_getElem hl];rfl
 done:=fun s Q E st hQ=>wpAny_pyNext_setEnd (fr:=0) hh st.1 st.2 hf hnd hled (fun _=>by rw[Array.getElem?_eq_none (by rw[hsz];exact Nat.le_refl _)];rfl) (fun e=>by rw[hb] at e;cases e) fun h' he'=>hQ h' s.toks fun b o hb e=>he' b o (fun h=>hb (by simp [h])) e
 self:=fun _ _ _ _ st hQ=>wpAny_pyIter_setiter st.1 hQ
def stopAt (t:SetTable):Nat->Nat
 | 0=>0
 | i+1=>t.place.getD i 0+1
theorem below_stopAt {t:SetTable} (h:Ris t.place) : ∀ i,i<=t.place.size->SetTable.below t.place (stopAt t i)=i
 | 0,_=>below_zero h
 | i+1,hi=>below_next h (by omega)
theorem Walks.setP (hh:A.handled=none) (I a:Addr) (hne:a≠I) (es:Array (Int × Value)) (t:SetTable) (ep:Nat) (hf:t.fits es.size=true) (hr:Ris t.place) (hnd:drawnW w es t=false) (hled:t.led = !byTextW w) (hb:byTextW w=false) :
  Walks prog w A I [I,a] [I] es.size (fun i v=>(es.toList.map (·.2))[i]?=some v) (fun i h=>h.IsSetIter I (.int (stopAt t i) 0) i a es.size ep/\h.SetA a es ep t) where
 sub:=fun b hb=>by simp at hb;simp [hb]
 frame:=fun _ _ _ st hk=>⟨st.1.at fun o e=>hk I (by simp) o e,st.2.at fun o e=>hk a (by simp) o e⟩
 item:=fun i s Q E hi st hQ=>by
  have hpl:i<t.place.size:=by rw[SetTable.fits_size hf];exact hi
  refine wpAny_pyNext_set (x:=es[i].2) (nx:=stopAt t (i+1)) (fr:=stopAt t i) st.1 st.2 hf hnd hled (fun e=>by rw[hb] at e;cases e) (fun _=>?_) fun h' hit' hs'=>?_
  ·rw[below_stopAt hr i (by omega),Array.getElem?_eq_getElem hi,Array.getElem?_eq_getElem hpl]
   simp [stopAt,Array.getD,hpl]
  ·refine hQ _ h' s.toks ?_ ⟨hit',st.2.at fun o e=>hs'.extBut a o hne e⟩ fun b o hb e=>hs'.extBut b o (fun h=>hb (by simp [h])) e
   rw[List.getElem?_map,Array.getElem?_toList,Array.getElem?_eq_getElem hi];rfl
 done:=fun s Q E st hQ=>by
  refine wpAny_pyNext_setEnd (fr:=stopAt t es.size) hh st.1 st.2 hf hnd hled (fun e=>by rw[hb] at e;cases e) (fun _=>?_) fun h' he'=>hQ h' s.toks fun b o hb e=>he' b o (fun h=>hb (by simp [h])) e
  rw[below_stopAt hr es.size (by rw[SetTable.fits_size hf];exact Nat.le_refl _),Array.getElem?_eq_none (Nat.le_refl _)]
 self:=fun _ _ _ _ st hQ=>wpAny_pyIter_setiter st.1 hQ
theorem walks_len {I:Addr} {fp wr:List Addr} {m n:Nat} {P:Nat->Value->Prop} {St:Nat->Heap->Prop} (h:m=n) (W:Walks prog w A I fp wr n P St):Walks prog w A I fp wr m P St:=h ▸ W
theorem wpAny_pyIter_set {a:Addr} {es:Array (Int × Value)} {ep:Nat} {t:SetTable} {Q:Value->Shared->Prop} (hh:A.handled=none) (hm:s.heap.SetA a es ep t) (hf:t.fits es.size=true) (hr:Ris t.place) (hled:t.led = !byTextW w) (hz:es.size<=sizeLine)
  (hQ : ∀ (I:Addr) (fp:List Addr) (vs:List Value) (St:Nat->Heap->Prop) (h':Heap) d,Walks prog w A I fp [I] vs.length (fun i v=>vs[i]?=some v) St->St 0 h'->vs.Perm (es.toList.map (·.2))->(∀ b o,s.heap.get? b=some o->h'.get? b=some o) ->
   s.heap.objs.size<=I->(∀ b ∈ fp,b=a\/s.heap.objs.size<=b)->Q (.ref I) { s with heap:=h',drawn:=d }):wpAny (model prog w) A (pyIter (.ref a)) Q E s:= by
 have hlt:=hm.lt_size
 refine wpAny_pyIter_setR hm hf hz (fun hd ps d hp=>?_) fun hnd=>?_
 ·have hT : (s.heap.push { cls:=.type "tuple",data:=.seq (ps.map fun (i : Nat)=>Value.int i 0).toArray }).get? s.heap.objs.size = some { cls:=.type "tuple",data:=.seq (ps.map fun (i : Nat)=>Value.int i 0).toArray }:=Heap.get?_push_size _ rfl
  have hsz : (s.heap.push { cls:=.type "tuple",data:=.seq (ps.map fun (i : Nat)=>Value.int i 0).toArray }).objs.size = s.heap.objs.size + 1:=PyProof.Rows.size_push' ..
  have hl:(ps.map fun p=>(es.getD p default).2).length=es.size:=by rw[List.length_map,hp.length_eq,List.length_range]
  refine hQ (s.heap.objs.size+1) [s.heap.objs.size+1,a,s.heap.objs.size] (ps.map fun p=>(es.getD p default).2) _ _ d (walks_len hl (Walks.setD hh (s.heap.objs.size+1) a s.heap.objs.size (Nat.ne_of_lt (Nat.lt_succ_of_lt hlt)) (Nat.ne_of_lt (Nat.lt_succ_self _)) es t ep hf ps hp)) ?_ ?_ ?_ (Nat.le_succ _) ?_
  ·refine ⟨⟨iterObj (.ref s.heap.objs.size) a es.size ep,?_,rfl,rfl⟩,hm.at fun o e=>Heap.get?_push_of_some _ (Heap.get?_push_of_some _ e),Heap.get?_push_of_some _ hT⟩
   rw[<- hsz];exact Heap.get?_push_size _ rfl
  ·refine (hp.map _).trans ?_
   refine List.Perm.of_eq (List.ext_getElem (by simp) fun i h1 h2=>?_)
   simp at h1 h2 ⊢
   simp [h2]
  ·exact fun b o e=>Heap.get?_push_of_some _ (Heap.get?_push_of_some _ e)
  ·intro b hb;simp at hb;rcases hb with rfl | rfl | rfl
   ·exact .inr (Nat.le_succ _)
   ·exact .inl rfl
   ·exact .inr (Nat.le_refl _)
 ·cases hb:byTextW w with
  | true=>
   have hp:=pick_perm (w.params.setOrder a ep) es
   have hsz:(pickOrder (w.params.setOrder a ep) es).size=es.size:=by rw[<- Array.length_toList,hp.length_eq,Array.length_toList]
   have hl:((pickOrder (w.params.setOrder a ep) es).toList.map (·.2)).length=es.size:=by rw[List.length_map,Array.length_toList,hsz]
   refine hQ s.heap.objs.size [s.heap.objs.size,a] _ _ _ s.drawn (walks_len hl (Walks.setT hh s.heap.objs.size a (Nat.ne_of_lt hlt) es t ep hf hnd hled hb hsz)) ⟨⟨_,Heap.get?_push_size _ rfl,rfl,rfl⟩,hm.at fun o e=>Heap.get?_push_of_some _ e⟩ (hp.map _) (fun b o e=>Heap.get?_push_of_some _ e) (Nat.le_refl _) ?_
   intro b hb;simp at hb;rcases hb with rfl | rfl
   ·exact .inr (Nat.le_refl _)
   ·exact .inl rfl
  | false=>
   have hl:(es.toList.map (·.2)).length=es.size:=by rw[List.length_map,Array.length_toList]
   refine hQ s.heap.objs.size [s.heap.objs.size,a] _ _ _ s.drawn (walks_len hl (Walks.setP hh s.heap.objs.size a (Nat.ne_of_lt hlt) es t ep hf hr hnd hled hb)) ⟨⟨_,Heap.get?_push_size _ rfl,rfl,rfl⟩,hm.at fun o e=>Heap.get?_push_of_some _ e⟩ (.refl _) (fun b o e=>Heap.get?_push_of_some _ e) (Nat.le_refl _) ?_
   intro b hb;simp at hb;rcases hb with rfl | rfl
   ·exact .inr (Nat.le_refl _)
   ·exact .inl rfl
theorem hint_set {r : Addr} {Q : Bool -> Shared -> Prop} (hT : s.TypeIs (.ref r) "set") (h : Q false s) : wpAny (model prog w) A (Builtin.List.listLengthHint (.ref r)) Q E s:= by
 unfold Builtin.List.listLengthHint
 refine wpAny_bind (wpAny_specialOf hT PySem.F.slot_set_len.lookup ?_)
 generalize hid : ("set.__len__" : String) = id0
 wp_delta
 rw[show splitId id0 = some ("set","__len__") from by subst hid; decide +kernel]
 subst hid
 refine wpAny_bind (wpAny_isInstance (T:="set") (b:=true) hT (by rw[isSubtype_type]; kernel_rfl) ?_)
 refine wpAny_ite_split (fun hab=>absurd hab (by decide)) (fun _=>?_)
 refine wpAny_ite_split (fun _=>?_) (fun hab=>absurd (by decide +kernel) hab)
 refine wpAny_bind (wpAny_typeOf hT ?_)
 exact wpAny_pure h
end
end PySem
namespace PySem.W
open PySem PySem.Calls PyProof.Rows PyProof.V PySem.Spec
section
variable {prog:Program} {w:World} {A:Around} {E:Value->Shared->Prop} {s:Shared} {a:Addr} {es:Array (Int × Value)} {ep:Nat} {t:SetTable}
theorem ints_num : ∀ {vs:List Value} {ns:List Int},IntsAre vs ns->(∀ v ∈ vs,∃ n t,v=Value.int n t)/\ns=vs.map numOf
 | _,_,.nil=>⟨fun v hv=>by simp at hv,rfl⟩
 | _,_,.cons n t r=>by
  obtain ⟨h1,h2⟩:=ints_num r
  refine ⟨fun v hv=>?_,by rw[List.map_cons,h2];rfl⟩
  rcases List.mem_cons.mp hv with e | e
  ·exact ⟨n,t,e⟩
  ·exact h1 v e
theorem num_ints : ∀ {vs:List Value},(∀ v ∈ vs,∃ n t,v=Value.int n t)->IntsAre vs (vs.map numOf)
 | [],_=>.nil
 | v::vs,h=>by
  obtain ⟨n,t,rfl⟩:=h v (.head _)
  exact .cons n t (num_ints fun u hu=>h u (.tail _ hu))
theorem extend_set {R : Result -> Shared -> Prop} (hh : A.handled = none) (hm : s.heap.SetA a es ep t) (hf : t.fits es.size = true) (hr : Ris t.place) (hled : t.led = !byTextW w) (hn : es.size <= sizeLine) (S : Addr) (hSr : S ≠ a) (res : Value) (c₀ : Nat) (hS : s.heap.get? S = some { cls:=.type "list",data:=.seq #[] c₀ })
  (hR : ∀ h' tk d acc' c',(∀ b o,b ≠ S -> s.heap.get? b = some o -> h'.get? b = some o) -> h'.get? S = some { cls:=.type "list",dict:=none,data:=.seq acc' c',slots:=#[] } -> acc'.toList.Perm (es.toList.map (·.2)) -> R (.ok (.ret res)) { s with heap:=h',toks:=tk,drawn:=d }) :
  wpAny (model prog w) A.in1 (Builtin.List.listExtendWith (.ref S) (.ref a) res)
   (fun fin s'=>match fin with | .done f=>R (.ok f) s' | .again c'=>c'.quiet=true/\codeAny (model prog w) A c' R s') (fun e s'=>R (.error e) s') s:= by
 unfold Builtin.List.listExtendWith
 refine wpAny_bind (wpAny_typeOf (T:="set") hm.typeIs ?_)
 have h1:Builtin.List.listSameRef (.ref S) (.ref a)=false:=by simp [Builtin.List.listSameRef,hSr]
 have notList : (Value.type "set" == Value.type "list") = false:=by decide
 have notTuple : (Value.type "set" == Value.type "tuple") = false:=by decide
 simp only [h1,notList,notTuple,Bool.or_false,Bool.false_eq_true,if_false]
 refine wpAny_bind (wpAny_pyIter_set (A:=A.in1) hh hm hf hr hled hn fun I fp vs St h₁ d W st hp hk hI hfp=>?_)
 have hSlt:S<s.heap.objs.size:=Heap.lt_size hS
 have hSf:S ∉ fp:=fun hc=>(hfp S hc).elim hSr fun e=>absurd hSlt (Nat.not_lt.mpr e)
 have hvl:vs.length=es.size:=by rw[hp.length_eq,List.length_map,Array.length_toList]
 have key : ∀ (h:Heap) (c₁ tk:Nat),St 0 h->(∀ b o,b≠S->s.heap.get? b=some o->h.get? b=some o) ->
   h.get? S = some { cls:=.type "list",data:=.seq #[] c₁ } -> codeAny (model prog w) A (.builtin "list.extend.loop" ⟨[.ref S,.ref I,res],[]⟩) R { s with heap:=h,toks:=tk,drawn:=d }:= by
  intro h c₁ tk hst hk hS₁
  refine codeAny_extend_loopS W.toS (by rw[hvl];exact hn) S hSf res vs.length 0 _ #[] c₁ rfl (Nat.zero_le _) hst hS₁ (ItemsOf.nil _) fun s' acc' c' hm' hS' hacc=>?_
  rw[Moved.eq_with hm']
  have e:acc'.toList=vs:= by
   refine List.ext_getElem? fun j=>?_
   by_cases hj:j<acc'.size
   ·have h2:=hacc.2 j acc'[j] (Array.getElem?_eq_getElem hj)
    rw[Array.getElem?_toList,Array.getElem?_eq_getElem hj,h2]
   ·rw[List.getElem?_eq_none (by rw[Array.length_toList];omega),List.getElem?_eq_none (by have:=hacc.1;omega)]
  refine hR s'.heap s'.toks d acc' c' (fun b o hb e=>hm'.heap b o (fun hmem=>?_) (hk b o hb e)) hS' (e ▸ hp)
  rcases List.mem_cons.mp hmem with e' | hmem
  ·exact hb e'
  ·have:=Heap.lt_size e
   rw[List.mem_singleton.mp hmem] at this
   exact absurd this (Nat.not_lt.mpr hI)
 have hS₁:=hk _ _ hS
 refine wpAny_bind (wpAny_holding (hint_set (s:={ s with heap:=h₁,drawn:=d }) (hm.at fun o e=>hk _ _ e:h₁.SetA a es ep t).typeIs ?_))
 refine wpAny_ite_split (fun _=>?_) (fun _=>wpAny_pure ⟨plainId_quiet PySem.F.plain_extend_loop _,key _ c₀ _ st (fun b o _ e=>hk b o e) hS₁⟩)
 refine wpAny_bind (wpAny_rule ?_)
 refine wpAny_bind ?_
 show wpAny _ _ (updateSeq S (·.push .none) >>= fun _=>updateSeq S (·.pop)) _ _ _
 refine wpAny_bind (wpAny_updateSeq (s:={ s with heap:=h₁,drawn:=d }) hS₁ rfl ?_)
 have hS₂:=Heap.get?_update_self (Obj.mapSeq (·.push Value.none)) hS₁ rfl
 refine wpAny_updateSeq (s:={ s with heap:=h₁.update S (Obj.mapSeq (·.push Value.none)),drawn:=d }) (hz:=by seq_fits) hS₂ rfl ?_
 have hS₃:=Heap.get?_update_self (Obj.mapSeq (·.pop)) hS₂ rfl
 refine wpAny_pure ⟨plainId_quiet PySem.F.plain_extend_loop _,key _ _ _ ?_ (fun b o hb e=>?_) hS₃⟩
 ·refine W.frame 0 _ _ st fun b hb o e=>?_
  have hbS:b≠S:=fun h=>hSf (h ▸ hb)
  exact (Heap.get?_update_other _ _ (Ne.symm hbS)).trans ((Heap.get?_update_other _ _ (Ne.symm hbS)).trans e)
 ·exact (Heap.get?_update_other _ _ (Ne.symm hb)).trans ((Heap.get?_update_other _ _ (Ne.symm hb)).trans (hk b o e))
theorem collect_set {R:List Value->Shared->Prop} (hh:A.handled=none) (hm:s.heap.SetA a es ep t) (hf:t.fits es.size=true) (hr:Ris t.place) (hled:t.led = !byTextW w) (hn:es.size<=sizeLine)
  (h : ∀ (h':Heap) (tk:Nat) d (acc:List Value),(∀ b o,s.heap.get? b=some o->h'.get? b=some o)->s.heap.objs.size<=h'.objs.size->acc.Perm (es.toList.map (·.2))->R acc { s with heap:=h',toks:=tk,drawn:=d }) :
  wpAny (model prog w) A (collect (.ref a)) R E s:= by
 have hlt:=hm.lt_size
 unfold collect
 refine wpAny_bind (wpAny_runValue (codeAny_builtin entry_proto_collect' ?_))
 rw[Around.under_plainId PySem.F.plain_proto_collect _]
 show wpAny _ A.in1 (newList [] >>= fun l=>again (.builtin "list.__iadd__" ⟨[l,.ref a],[]⟩)) _ _ s
 refine wpAny_bind (wpAny_newObj_type ?_)
 refine wpAny_pure ⟨plainId_quiet PySem.F.plain_list_iadd _,codeAny_builtin entry_list_iadd' ?_⟩
 rw[Around.under_plainId PySem.F.plain_list_iadd _]
 have hS₁ : (s.heap.push { cls:=.type "list",data:=.seq ([] : List Value).toArray }).get? s.heap.objs.size = some { cls:=.type "list",data:=.seq #[] }:=Heap.get?_push_size _ rfl
 show wpAny _ A.in1 (Builtin.List.listExtendWith (.ref s.heap.objs.size) (.ref a) (.ref s.heap.objs.size)) _ _ _
 have key:=extend_set (A:=A) (s:={ s with heap:=s.heap.push { cls:=.type "list",data:=.seq ([] : List Value).toArray } }) (prog:=prog) (w:=w) (t:=t)
  (R:=fun (q:Result) (s':Shared)=>∃ (h':Heap) (tk:Nat) (d:_) (acc':Array Value) (c':Nat),q = .ok (.ret (.ref s.heap.objs.size))/\s'={ s with heap:=h',toks:=tk,drawn:=d } /\
   (∀ b o,s.heap.get? b = some o -> h'.get? b = some o) /\ h'.get? s.heap.objs.size = some { cls:=.type "list",dict:=none,data:=.seq acc' c',slots:=#[] } /\ acc'.toList.Perm (es.toList.map (·.2)))
  hh (hm.at fun o e=>Heap.get?_push_of_some _ e) hf hr hled hn s.heap.objs.size (Nat.ne_of_gt hlt) (.ref s.heap.objs.size) 0 hS₁
  (fun h' tk d acc' c' hk hS' hacc=>⟨h',tk,d,acc',c',rfl,rfl,fun b o e=>hk b o (Nat.ne_of_lt (Heap.lt_size e)) (Heap.get?_push_of_some _ e),hS',hacc⟩)
 refine wpAny_mono key (fun fin s' x=>?_) fun e s' x=>?_
 ·cases fin with
  | done f=>
   obtain ⟨h',tk,d,acc',c',e,rfl,hk,hS',hacc⟩:=x
   cases e
   show wpAny _ A (load s.heap.objs.size >>= _) _ _ _
   refine wpAny_bind (wpAny_load hS' ?_)
   exact wpAny_pure (h h' tk d acc'.toList hk (Nat.le_of_lt (Heap.lt_size hS')) hacc)
  | again c₁=>
   refine ⟨x.1,codeAny_mono x.2 fun q s₂ y=>?_⟩
   obtain ⟨h',tk,d,acc',c',rfl,rfl,hk,hS',hacc⟩:=y
   show wpAny _ A (load s.heap.objs.size >>= _) _ _ _
   refine wpAny_bind (wpAny_load hS' ?_)
   exact wpAny_pure (h h' tk d acc'.toList hk (Nat.le_of_lt (Heap.lt_size hS')) hacc)
 ·obtain ⟨_,_,_,_,_,e',_⟩:=x
  cases e'
theorem sorted_set {ns:List Int} {Q:Value->Shared->Prop} (hh:A.handled=none) (hm:s.heap.SetA a es ep t) (hf:t.fits es.size=true) (hr:Ris t.place) (hled:t.led = !byTextW w) (h64:es.size<64) (hI:IntsAre (es.toList.map (·.2)) ns)
  (h : ∀ (h':Heap) (tk:Nat) d (D:Addr) (e:Nat) (out:List Value) (ns':List Int),IntsAre out ns'->ns'.Perm ns->ns'.Pairwise (· <= ·)->(∀ b o,s.heap.get? b=some o->h'.get? b=some o)->s.heap.objs.size<=D ->
   h'.get? D = some (seqObj "list" out.toArray e) -> Q (.ref D) { s with heap:=h',toks:=tk,drawn:=d }) :
  wpAny (model prog w) A (call (.builtin "sorted") [.ref a]) Q E s:= by
 refine call_function_entry kind_sorted plain_sorted entry_sorted (args_sorted1 _) ?_
 unfold Builtin.«sorted»
 refine wpAny_bind (m:=checkCount "sorted" 1 1 _) (wpAny_pure ?_)
 refine wpAny_bind (collect_set (A:=A.in1) hh hm hf hr hled (by rw[sizeLine_eq];omega) fun h' tk d acc hk hDs hacc=>?_)
 have hl:acc.length=es.size:=by rw[hacc.length_eq,List.length_map,Array.length_toList]
 obtain ⟨ms,hms,hmp⟩ : ∃ ms,IntsAre acc ms/\ms.Perm ns:= by
  obtain ⟨g1,g2⟩:=ints_num hI
  refine ⟨acc.map numOf,num_ints fun v hv=>g1 v (hacc.mem_iff.mp hv),?_⟩
  rw[g2]
  exact hacc.map numOf
 refine wpAny_bind (wpAny_newList ?_ (by rw[hl,sizeLine_eq];omega))
 have hoL : (h'.push (seqObj "list" acc.toArray 0)).get? h'.objs.size = some (seqObj "list" acc.toArray 0):=Heap.get?_push_size _ rfl
 refine wpAny_bind (wpAny_holding (wpAny_call_entry slot_list_sort ⟨_,hoL,rfl⟩ entry_list_sort (list_sort_tree (s:={ s with heap:=h'.push (seqObj "list" acc.toArray 0),toks:=tk,drawn:=d }) hoL hms (by rw[hl]; exact h64) fun out ns' a1 a2 a3=>⟨_,rfl,?_⟩) (args_list_sort _)))
 obtain ⟨e,he⟩:=sortedHeap_at (out:=out) hoL (vs:=acc)
 refine wpAny_pure ⟨_,rfl,h _ tk d h'.objs.size e out.toList ns' a1 (a2.trans hmp) a3 (fun b o e'=>?_) hDs (by rw[Array.toArray_toList];exact he)⟩
 have h2:=Heap.get?_push_of_some (seqObj "list" acc.toArray 0) (hk b o e')
 rw[sortedHeap_old (Nat.ne_of_lt (Heap.lt_size (hk b o e'))) (Heap.lt_size h2)]
 exact h2
end
end PySem.W
namespace L2
open PySem PySem.Spec PyProof.Rows
section
variable {X:Cx} {K:PySem.W.Frag}
theorem Inv.drawn {pins:List (Addr × Obj)} {σ:St} {H:Hp} {s:Shared} (I:Inv X pins σ H s) (d:PySem.Drawn):Inv X pins σ H { s with drawn:=d }:=
 ⟨I.ok,I.os,I.bare,I.base,I.loc,I.cell,I.free,I.freeC,I.pin,I.hok,I.len⟩
theorem call_sortedX (hc : X.calm = true:=by rfl) (h : X.K = K:=by rfl) : CallR X (.builtin "sorted") (fun xs H Q=>∃ (a : Addr) (ms : List Int),xs = [.ref a] /\ H a = some (SetX X.w a ms) /\ ms.length < 64 /\
  ∀ (l:Addr) (ks:List Int),ks.Perm ms->ks.Pairwise (· <= ·)->H l=none->Q (.ref l) (upd H l (.lst (ks.map V.int)))):= by
 subst h
 intro pins s σ H xs us Q I r h
 obtain ⟨a,ms,rfl,ha,hl,q⟩:=h
 obtain ⟨u,rfl,ru⟩:=vals1 r
 cases ru
 obtain ⟨⟨o,es,ep,t,g1,g2,g3,g4,g5,g6,g7⟩,_⟩:=(show ObjOk X.prog X.w H s.heap a (SetX X.w a ms) from I.hok a _ ha)
 have h64:es.size<64:=by rw[<- Array.length_toList,<- List.length_map (f:=fun e=>numOf e.2),g7];exact hl
 have hI:IntsAre (es.toList.map (·.2)) ms:= by
  have:=PySem.W.num_ints (vs:=es.toList.map (·.2)) fun v hv=>by
   obtain ⟨e,he,rfl⟩:=List.mem_map.mp hv
   exact g6.2.1 e he
  rw[List.map_map] at this
  rw[<- g7];exact this
 refine PySem.W.sorted_set (I.ok.hd hc) ⟨o,g1,g2,g3⟩ g5 g6.1.1 g6.1.2 h64 hI fun h' tk d D e out ns' a1 a2 a3 hk hD he=>?_
 have hl2:ns'.length<64:=by rw[a2.length_eq];exact hl
 exact ⟨.ref D,_,(I.laid (t':=tk) (o:=.lst (ns'.map V.int)) hk hD (show ObjOk X.prog X.w _ _ _ (.lst (ns'.map V.int)) from ⟨le_line (by rw[List.length_map];omega),out,e,vals_ints a1,he⟩)).drawn d,rfl,q D ns' a2 a3 (I.hok.fresh hD)⟩
end
end L2
namespace L2
open PySem PySem.Spec PyProof.Rows
section
variable {prog:Program} {w:World} {A:Around} {R:Result->Shared->Prop} {s:Shared}
theorem compLoop_genD {kx vx target iter:Expr} {ifs:List Expr} {scope:Scope} {pos:Pos} {it:Value} {D:Addr} {env:Env} (Iv:Nat->Shared->Prop)
  (turn : ∀ n s,Iv n s->wpAny (model prog w) A (pyNext it) (fun r s₁=>match r with
   | none=>R (.ok .next) s₁
   | some v=>wpAny (model prog w) A (letOwnedTupleGo target it v) (fun _ s₁'=>wpAny (model prog w) A (assign target env v) (fun _ s₂=>
     wpAny (model prog w) A (forIn ifs true fun c r=>if r=true then do let ok <- isTrue c env (eval c env);pure (ForInStep.yield ok) else pure (ForInStep.yield r)) (fun ok s₃=>
      if ok=true then wpAny (model prog w) A (eval kx env) (fun kv s₄=>wpAny (model prog w) A (eval vx env) (fun vv s₅=>
       wpAny (model prog w) A (dictSet D kv vv) (fun _ s₆=>∃ m,m<n/\Iv m s₆) (fun _ _=>False) s₅) (fun _ _=>False) s₄) (fun _ _=>False) s₃
      else ∃ m,m<n/\Iv m s₃) (fun _ _=>False) s₂) (fun _ _=>False) s₁') (fun _ _=>False) s₁) (fun _ _=>False) s)
  (n:Nat) (h:Iv n s) :
  codeAny (model prog w) A (.compLoop (.DictComp kx vx [⟨target,iter,ifs,0⟩] scope pos) 0 it (.ref D) env) R s:= by
 refine codeAny_loop rfl Iv (fun n s hI=>?_) n h
 show wpAny _ A ((compTurn (.DictComp kx vx [⟨target,iter,ifs,0⟩] scope pos) 0 it (.ref D) env).onRaise (fun x=>do noteFrame x env;theTreesLotGoes x)) _ _ s
 refine wpAny_noted ?_
 rw[compTurn_dict]
 refine wpAny_bind (wpAny_standAt (wpAny_bind (wpAny_mono (turn n s hI) (fun r s₁ h₁=>?_) fun _ _ z=>z.elim)))
 cases r with
 | none=>exact wpAny_pure h₁
 | some v=>
  refine wpAny_bind (wpAny_mono h₁ (fun _ s₁' h₁'=>?_) fun _ _ z=>z.elim)
  refine wpAny_bind (wpAny_mono h₁' (fun _ s₂ h₂=>wpAny_bind (wpAny_mono h₂ (fun ok s₃ h₃=>?_) fun _ _ z=>z.elim)) fun _ _ z=>z.elim)
  cases ok with
  | false=>exact wpAny_pure ⟨rfl,h₃⟩
  | true=>
   exact wpAny_bind (wpAny_bind (wpAny_mono h₃ (fun kv s₄ h₄=>wpAny_bind (wpAny_holding (wpAny_mono h₄ (fun vv s₅ h₅=>wpAny_bind (wpAny_standAt (wpAny_holding (wpAny_mono h₅ (fun _ s₆ h₆=>wpAny_pure ⟨rfl,h₆⟩) fun _ _ z=>z.elim)))) fun _ _ z=>z.elim))) fun _ _ z=>z.elim))
end
section
variable {X:Cx} {pins:List (Addr × Obj)} {σ:St} {H:Hp} {s:Shared} {a:Addr} {A:Around} {E:Value->Shared->Prop} {y v:V} {u r:Value}
theorem d_dictSet {H':Hp} {Q:Unit->Shared->Prop} (hu:A.units<cLine) (I:Inv X pins σ H s) (g:DPut H a y v H') (ry:RelV y u) (rv:RelV v r) (h : ∀ s',Inv X pins σ H' s'->Q () s') :
  wpAny (model X.prog X.w) A (dictSet a u r) Q E s:= by
 rcases g with ⟨kvs,k,e,ey,l,eH⟩ | ⟨kvs,k,b,e,ey,eb,l,eH⟩
 ·subst ey eH
  obtain ⟨z,hd,vs,rel,dd⟩:=dk_of I.hok e
  have hz:vs.length<=sizeLine:=by rw[<- rel.length];exact z
  have hl:(putK kvs k v).length<=sizeLine:=by have:=length_putK kvs k v;omega
  refine wpAny_dictSet_pairs (hsz:=hz) (kV_is ry) dd fun h' dd' hs=>h _ ?_
  have he : ∃ q,h'.get? a=some q:=let ⟨q,_,_,hq,_⟩:=dd';⟨q,hq⟩
  exact d_write I (by rw[e];exact True.intro) hs he (dk_new hl hd (rel.put k rv) dd')
 ·subst ey eH
  cases (show u=Value.ref b from ry)
  obtain ⟨z,hd,xs,rel,dd⟩:=dt_of I.hok e
  have hz:xs.length<=sizeLine:=by rw[<- Paired.length rel];exact z
  have hl:(putK kvs k v).length<=sizeLine:=by have:=length_putK kvs k v;omega
  refine wpAny_dictSet_heap (hsz:=hz) (show (tupleKind (mixKind X.prog X.w)).room A from hu) (key_of I.hok eb) dd fun h' dd' hs=>h _ ?_
  obtain ⟨q,es,ep,hq,h2,h3,h4,_,h5⟩:=dd'
  refine d_write I (by rw[e];exact True.intro) hs ⟨q,hq⟩ ⟨hl,hd,_,(rel.put k eb rv).keeps fun c ys ec=>?_,q,es,ep,hq,h2,h3,h4,h5⟩
  rw[upd_ne (ne_of ec e (fun z=>nomatch z))]
  exact ec
end
theorem dc_block {X:Cx} {N':List Str} {M:List (Option Nat)} {scope:Scope} {cl:List (Str × Addr)} {tg kx vx iter:Expr} {ifs:List Expr} {pos:Pos} {g:TG} {tc:TT} {tk tv:TE} {pins:List (Addr × Obj)} {σ:St} {H2:Hp} {s2:Shared}
  {it D:Addr} {fp:List Addr} {tn:Nat->Heap->Prop} {J:It} {F:Hp->Prop} {RR:Value->Addr->Result->Shared->Prop} {E:Value->Shared->Prop} (hu:X.A.units<cLine)
  (S:LcSc X.N N' M scope X.env.scope) (hc:X.calm=true) (q1 : ∀ y c,cl.lookup y=some c->X.env.cells.lookup y=some c) (q2 : ∀ y,(y,NameKind.free) ∈ scope.names -> ∃ c,cl.lookup y=some c)
  (hg : ∀ C s H fp,PG (cxLc X N' scope cl C s H fp) tg g) (hf:Frm M g) (ht : ∀ C s H fp,PTs (cxLc X N' scope cl C s H fp) ifs tc) (hk : ∀ C s H fp,PE (cxLc X N' scope cl C s H fp) kx tk) (hv : ∀ C s H fp,PE (cxLc X N' scope cl C s H fp) vx tv)
  (I2:Inv X pins σ H2 s2) (T:Turn X.prog X.w X.K tg J fp it tn) (st2:tn 0 s2.heap) (f2 : ∀ b ∈ fp,FpOk X pins H2 b)
  (hw : ∃ W:Nat->Nat->Hp->Prop,(∃ m,W 0 m H2) /\ ∀ i m H,W i m H ->
   ((J.stop i H/\F H)\/(J.go i H /\ ∃ N:Hp->Prop,(∀ H',N H' -> ∃ m',m'<m/\W (i+1) m' H') /\ ∀ x H',J.yld i H x H'->g x (inSt M σ) H' fun σ2 H2=>tc σ2 H2 fun b H3=>
    if b=true then tk σ2 H3 fun kv H4=>tv σ2 H4 fun vv H5=>∃ H6,DPut H5 D kv vv H6/\N H6 else N H3)))
  (hend : ∀ (C:Addr) (s':Shared) (H':Hp),Inv X pins σ H' s'->s2.heap.objs.size<=C->(∃ m,s'.heap.Ns C m)->H' C=none->F H'->RR (.ref D) C (.ok .next) s') :
  wpAny (model X.prog X.w) X.A (newFunctionEnv scope X.env.globals cl [] X.env.qual none .none (some X.env)) (fun cenv s₄=>
   codeAny (model X.prog X.w) X.A (.compStart (.DictComp kx vx [⟨tg,iter,ifs,0⟩] scope pos) 0 (.ref it) (.ref D) { cenv with scope:=relabel scope X.env }) (RR (.ref D) cenv.locals) s₄) E s2:= by
 obtain ⟨W,⟨m0,w0⟩,turn⟩:=hw
 refine wpAny_newFunctionEnv S.cell (by intro y hy;simp at hy) (fun h₁ hns₁ hsb₁=>?_) S.kind
 try dsimp only at hns₁ hsb₁ ⊢
 generalize hCC:s2.heap.objs.size=C at *
 have lo : ∀ b o,s2.heap.get? b=some o->b<C:=fun b o e=>hCC ▸ Heap.lt_size e
 have old : ∀ b o,s2.heap.get? b=some o->h₁.get? b=some o:=fun b o e=>hsb₁.extBut b o (Nat.ne_of_lt (lo b o e)) (Heap.get?_push_of_some _ e)
 have fpl : ∀ b ∈ fp,b<C:=fun b hb=>by
  obtain ⟨o,e,_⟩:=T.obj _ _ st2 b hb
  exact lo b o e
 have cel : ∀ y c,cl.lookup y=some c->c<C:=fun y c e=>by
  obtain ⟨v,z⟩:=I2.cell y c (q1 y c e)
  exact hCC ▸ z.lt
 generalize hX':cxLc X N' scope cl C s2 H2 fp=X'
 have envE:X'.env=compEnvC scope cl C X.env:=by rw[<- hX'];rfl
 have locE:X'.env.locals=C:=by rw[envE];rfl
 have fsE:X'.fs=frs X.stack:=by rw[<- hX'];rfl
 have fsl : ∀ b ∈ frs X.stack,b<C:=fun b hb=>by
  rcases List.mem_cons.mp (I2.stkSub b hb) with z | z
  ·rw[z];exact hCC ▸ I2.lt
  ·exact Nat.lt_of_not_le fun q=>I2.nofs (hCC ▸ q) z
 have relS : ∀ x k,scope.names.lookup x=some k -> ∃ k',X'.env.kindOf x=some k'/\(k'=k\/(k = .free/\k' = .cell)):=fun x k e=>by
  obtain ⟨k',e',q⟩:=relabel_some (env:=X.env) e
  exact ⟨k',by rw[envE];exact e',q⟩
 have relN : ∀ x,scope.names.lookup x=none->X'.env.kindOf x=none:=fun x e=>by
  rw[envE];exact relabel_none (env:=X.env) e
 have cellsE:X'.env.cells=cl:=by rw[envE];rfl
 have ok':X'.Ok:= by
  refine ⟨?mod,?kind,?glob,?blt,?above,?inj,?has,?cab,?hd,?frames,?stk,?exf,?bs,?bsz,?noex,?exfs,?funs,?frf⟩
  case mod=>rw[<- hX'];exact I2.ok.mod
  case kind=>rw[envE];exact S.kind
  case glob=>rw[envE];exact I2.ok.glob
  case blt=>rw[envE];exact I2.ok.blt
  case above=>rw[locE,<- hX'];show s2.heap.objs.size<=C;rw[hCC];exact Nat.le_refl _
  case inj=>intro x y c e1 e2;rw[cellsE] at e1 e2;exact I2.ok.inj x y c (q1 x c e1) (q1 y c e2)
  case has=>
   intro x hx
   rw[cellsE]
   cases e:scope.names.lookup x with
   | none=>rw[relN x e] at hx;rcases hx with z | z <;> cases z
   | some k=>
    obtain ⟨k',e',q⟩:=relS x k e
    rw[e'] at hx
    have kf:k = .free:= by
     rcases q with q | q
     ·rcases hx with z | z
      ·cases z;exact absurd q.symm (S.cell _ (PySem.mem_of_lookup e))
      ·cases z;exact q.symm
     ·exact q.1
    subst kf
    exact q2 x (PySem.mem_of_lookup e)
  case cab=>intro x c h;rw[<- hX'] at h;exact absurd h (by show ¬ (false=true);decide)
  case hd=>rw[<- hX'];exact I2.ok.hd
  case frames=>rw[<- hX'];exact I2.ok.frames
  case stk=>rw[<- hX'];exact .inl rfl
  case exf=>
   intro b hb
   have hb':b ∈ fp:=by rw[<- hX'] at hb;exact hb
   refine ⟨by rw[locE];exact Nat.ne_of_lt (fpl b hb'),fun x c e=>?_⟩
   rw[cellsE] at e
   exact (f2 b hb').2.2.2.2.1 x c (q1 x c e)
  case bs=>rw[<- hX'];exact I2.bs
  case bsz=>rw[<- hX'];exact Nat.le_trans I2.ok.bsz I2.sz
  case noex=>
   intro b o e hb
   have hb':b ∈ fp:=by rw[<- hX'] at hb;exact hb
   have e':X.base.get? b=some o:=by rw[<- hX'] at e;exact e
   rcases (f2 b hb').2.2.2.1 with z | z
   ·exact I2.ok.noex b o e' z
   ·exact absurd (Nat.lt_of_lt_of_le (Heap.lt_size e') (Nat.le_trans I2.ok.bsz z)) (Nat.lt_irrefl _)
  case exfs=>
   intro b hb
   have hb':b ∈ fp:=by rw[<- hX'] at hb;exact hb
   rw[fsE]
   intro z
   rcases List.mem_cons.mp (I2.stkSub b z) with q | q
   ·exact (f2 b hb').2.1 q
   ·exact (f2 b hb').2.2.1 q
  case funs=>rw[<- hX'];exact I2.stack
  case frf=>rw[fsE,<- hX'];exact I2.stkFree
 have c0:H2 C=none:=I2.hok.fresh (by rw[hCC];exact Nat.le_refl _)
 have I3:Inv X' [] (inSt M σ) H2 { s2 with heap:=h₁,toks:=s2.toks+([]:List (Str × Value)).length }:= by
  refine ⟨ok',?os,?bare,?base,?loc,?cell,?free,?freeC,?pin,?hok,?len⟩
  case os=>rw[<- hX'];rfl
  case bare=>exact I2.bare
  case base=>rw[fsE,<- hX'];exact Un.kept old
  case loc=>
   refine ⟨_,by rw[locE];exact hns₁,fun i x v e1 e2 _=>?_⟩
   obtain ⟨j,eM,eσ⟩:=inSt_get e2
   obtain ⟨y,n1,n2,n3⟩:=S.at_ i j eM
   have e1':N'[i]?=some x:=by rw[<- hX'] at e1;exact e1
   rw[n1] at e1';cases e1'
   have hyf:(x,NameKind.free) ∈ scope.names:=PySem.mem_of_lookup n3
   have kd:=S.fre _ hyf rfl
   obtain ⟨m,hn,hl⟩:=id I2.loc
   obtain ⟨u,ru,lk⟩:=hl j x v n2 eσ (kd.elim (fun z=>.inr (.inl z)) fun z=>.inr (.inr z))
   refine ⟨u,ru,?_⟩
   rcases lk with ⟨k,_⟩ | ⟨k,c,ec,z⟩
   ·have k':X.env.scope.names.lookup x=some NameKind.local:=k
    rcases kd with q | q <;> (rw[k'] at q;cases q)
   ·obtain ⟨c',ec'⟩:=q2 x hyf
    have hcc:=q1 x c' ec'
    rw[ec] at hcc;cases hcc
    obtain ⟨k',e',q⟩:=relS x _ n3
    refine .inr ⟨?_,c,by rw[cellsE];exact ec',?_⟩
    ·rw[e'];rcases q with q | q
     ·right;rw[q]
     ·left;rw[q.2]
    ·obtain ⟨o,ho,hd'⟩:=z
     exact ⟨o,old _ _ ho,hd'⟩
  case cell=>
   intro x c e
   rw[cellsE] at e
   obtain ⟨v,o,ho,hd'⟩:=I2.cell x c (q1 x c e)
   exact ⟨v,o,old _ _ ho,hd'⟩
  case free=>rw[locE];exact c0
  case freeC=>intro x c e;rw[cellsE] at e;exact I2.freeC x c (q1 x c e)
  case pin=>intro p hp;rw[<- hX'] at hp;exact absurd (show p ∈ ([]:List (Addr × Obj)) from hp) (by simp)
  case hok=>rw[<- hX'];exact I2.hok.kept old
  case len=>rw[inSt_length,<- hX'];exact S.len.symm
 have xE : ∀ (e:Value) (s':Shared),¬ X'.xe e s':=fun e s' z=>by rw[<- hX'] at z;exact z
 have progE:X'.prog=X.prog:=by rw[<- hX'];rfl
 have wE:X'.w=X.w:=by rw[<- hX'];rfl
 have KE':X'.K=X.K:=by rw[<- hX'];rfl
 have AE:X'.A=X.A:=by rw[<- hX'];rfl
 have cE:X'.calm=true:=by rw[<- hX'];exact hc
 have exE:X'.ex=fp:=by rw[<- hX'];rfl
 have s0E:X'.s₀=s2:=by rw[<- hX'];rfl
 have pnE:X'.pn=[]:=by rw[<- hX'];rfl
 have hgX:PG X' tg g:=by rw[<- hX'];exact hg C s2 H2 fp
 have htX:PTs X' ifs tc:=by rw[<- hX'];exact ht C s2 H2 fp
 have hkX:PE X' kx tk:=by rw[<- hX'];exact hk C s2 H2 fp
 have hvX:PE X' vx tv:=by rw[<- hX'];exact hv C s2 H2 fp
 have stat : ∀ {H':Hp},(∀ b ∈ fp,H' b=none) -> ∀ b ∈ fp,FpOk X' [] H' b:=fun {H'} hn b hb=>by
  refine ⟨hn b hb,by rw[locE];exact Nat.ne_of_lt (fpl b hb),?_,.inl (by rw[exE];exact hb),fun x c e=>?_,fun p hp=>?_⟩
  ·exact ok'.exfs b (by rw[exE];exact hb)
  ·rw[cellsE] at e;exact (f2 b hb).2.2.2.2.1 x c (q1 x c e)
  ·rw[pnE,List.nil_append] at hp
   exact absurd hp (by simp)
 have loop:codeAny (model X.prog X.w) X.A (.compLoop (.DictComp kx vx [⟨tg,iter,ifs,0⟩] scope pos) 0 (.ref it) (.ref D) X'.env) (RR (.ref D) C) { s2 with heap:=h₁,toks:=s2.toks+([]:List (Str × Value)).length }:= by
  refine compLoop_genD (fun n s'=>∃ i H',Inv X' [] (inSt M σ) H' s'/\tn i s'.heap/\(∀ b ∈ fp,H' b=none)/\W i n H') ?_ m0
   ⟨0,H2,I3,T.keep _ _ _ st2 fun b hb o e=>old b o e,fun b hb=>(f2 b hb).1,w0⟩
  rintro n s3 ⟨i,H3,J3,st3,fr3,w3⟩
  rcases turn i n H3 w3 with ⟨stop,qF⟩ | ⟨go,N,hN,step⟩
  ·have q:=T.done X' progE wE KE' cE i _ s3 _ H3 (fun _ _=>False) J3 (stat fr3) st3 stop
   rw[AE] at q
   refine thn q fun r s4 ⟨hr,J4⟩=>?_
   subst hr
   obtain ⟨mC,hnC,_⟩:=id J4.loc
   rw[locE] at hnC
   have b4:=J4.base
   rw[fsE,exE,s0E,show X'.H₀=H2 by rw[<- hX'];rfl] at b4
   refine hend C s4 H3 ?_ (Nat.le_refl _) ⟨mC,hnC⟩ (by have:=J4.free;rw[locE] at this;exact this) qF
   have hok4:=J4.hok
   rw[progE,wE] at hok4
   refine I2.call' (ch:=fp) (H':=H3) (by rw[J4.os,s0E]) b4 hok4 J4.bare fun b hb=>?_
   obtain ⟨f0,f1,f3,f4,f5,f6⟩:=f2 b hb
   exact ⟨f4,f1,f5,f6⟩
  ·have q:=T.item X' progE wE KE' cE i _ s3 _ H3 (fun _ _=>False) J3 (stat fr3) st3 go
   rw[AE] at q
   refine thn q fun r s4 ⟨u,hr,h4⟩=>?_
   subst hr
   dsimp only
   refine thn h4 fun _ s5 ⟨x,H5,J5,r5,y5,st5,fr5⟩=>?_
   have J5':=J5.pinned (stat fr5) (T.obj _ _ st5)
   have qg:=hgX _ s5 (inSt M σ) H5 x u _ J5' r5 (hf _ _ _ _ (step x H5 y5))
   rw[progE,wE,AE] at qg
   refine wpAny_mono qg (fun _ s6 h6=>?_) fun e s' z=>xE e s' z
   obtain ⟨σ6,H6,J6,q6,l6,k6⟩:=h6
   have qt:=htX _ s6 σ6 H6 _ J6 q6
   rw[progE,wE,AE] at qt
   refine wpAny_mono qt (fun b s7 h7=>?_) fun e s' z=>xE e s' z
   obtain ⟨H7,J7,q7⟩:=h7
   have fin : ∀ {σ8:St} {H8:Hp} {s8:Shared},σ8=σ6->Inv X' ([]++pinsAt fp s5.heap) σ8 H8 s8 ->
     tn (i+1) s8.heap/\(∀ b ∈ fp,H8 b=none)/\Inv X' [] (inSt M σ) H8 s8:=fun {σ8 H8 s8} e8 J8=>by
    subst e8
    refine ⟨T.keep _ _ _ st5 fun b hb o e=>(J8.pin (b,o) (List.mem_append_right _ (List.mem_append_right _ (mem_pinsAt hb e)))).1,fun b hb=>?_,?_⟩
    ·obtain ⟨o,e,d⟩:=T.obj _ _ st5 b hb
     exact (J8.pin (b,o) (List.mem_append_right _ (List.mem_append_right _ (mem_pinsAt hb e)))).2.1
    ·have J9:Inv X' [] σ8 H8 s8:=J8.pins_of fun p hp=>absurd hp (by simp)
     refine J9.weak (l6.symm) fun a v e=>?_
     obtain ⟨j,eM,_⟩:=inSt_get e
     rw[k6 a j eM];exact e
   cases b with
   | false=>
    rw[if_neg (by decide)] at q7
    rw[if_neg (by decide)]
    obtain ⟨m',hm,w7⟩:=hN _ q7
    obtain ⟨a3,a4,a5⟩:=fin rfl J7
    exact ⟨m',hm,i+1,H7,a5,a3,a4,w7⟩
   | true=>
    rw[if_pos rfl] at q7
    rw[if_pos rfl]
    have qe:=hkX _ s7 σ6 H7 _ J7 q7
    rw[progE,wE,AE] at qe
    refine wpAny_mono qe (fun v8 s8 h8=>?_) fun e s' z=>xE e s' z
    obtain ⟨y8,H8,J8,r8,n8⟩:=h8
    have qv:=hvX _ s8 σ6 H8 _ J8 n8
    rw[progE,wE,AE] at qv
    refine wpAny_mono qv (fun v9 s9 h9=>?_) fun e s' z=>xE e s' z
    obtain ⟨y9,H9,J9,r9,H10,g10,n10⟩:=h9
    obtain ⟨m',hm,w8⟩:=hN _ n10
    rw[<- progE,<- wE]
    refine d_dictSet hu J9 g10 r8 r9 fun s10 J10=>?_
    obtain ⟨a3,a4,a5⟩:=fin rfl J10
    exact ⟨m',hm,i+1,H10,a5,a3,a4,w8⟩
 have loop':codeAny (model X.prog X.w) X.A (.compLoop (.DictComp kx vx [⟨tg,iter,ifs,0⟩] scope pos) 0 (.ref it) (.ref D) (compEnvC scope cl C X.env)) (RR (.ref D) C) { s2 with heap:=h₁,toks:=s2.toks+([]:List (Str × Value)).length }:=envE ▸ loop
 exact codeAny_compStart_dict loop' (T.self _ 0 _ _ _ (T.keep _ _ _ st2 fun b hb o e=>old b o e) loop')
section
variable {X:Cx} {K:PySem.W.Frag} {N':List Str} {M:List (Option Nat)} {scope:Scope} {tg kx vx iter:Expr} {ifs:List Expr} {pos:Pos} {g:TG} {tc:TT} {tk tv:TE} {wi:TI}
def tDc (wi:TI) (M:List (Option Nat)) (g:TG) (tc:TT) (tk tv:TE):TE:=fun σ H Q=>wi σ H fun J H1=>∀ D,H1 D=none ->
 ∃ W:Nat->Nat->Hp->Prop,(∃ m,W 0 m (upd H1 D (.dT []))) /\ ∀ i m H,W i m H ->
  ((J.stop i H/\Q (.ref D) H)\/(J.go i H /\ ∃ N:Hp->Prop,(∀ H',N H' -> ∃ m',m'<m/\W (i+1) m' H') /\ ∀ x H',J.yld i H x H'->g x (inSt M σ) H' fun σ2 H2=>tc σ2 H2 fun b H3=>
   if b=true then tk σ2 H3 fun kv H4=>tv σ2 H4 fun vv H5=>∃ H6,DPut H5 D kv vv H6/\N H6 else N H3))
theorem pe_dc (hu:X.A.units<cLine) (S:LcSc X.N N' M scope X.env.scope) (hc:X.calm=true) (hi:PI X tg iter wi) (hg : ∀ cl C s H fp,PG (cxLc X N' scope cl C s H fp) tg g) (hf:Frm M g)
  (ht : ∀ cl C s H fp,PTs (cxLc X N' scope cl C s H fp) ifs tc) (hk : ∀ cl C s H fp,PE (cxLc X N' scope cl C s H fp) kx tk) (hv : ∀ cl C s H fp,PE (cxLc X N' scope cl C s H fp) vx tv)
  (hs : ∀ x,foldedSetIterable iter X.env x=pure x:=by intro _;rfl) :
  PE X (.DictComp kx vx [⟨tg,iter,ifs,0⟩] scope pos) (tDc wi M g tc tk tv):= by
 intro pins s σ H Q I h
 obtain ⟨cl,hclos,q1,q2⟩:=lc_clos S I
 rw[show eval (.DictComp kx vx [⟨tg,iter,ifs,0⟩] scope pos) X.env=comprehension (.DictComp kx vx [⟨tg,iter,ifs,0⟩] scope pos) scope X.env (firstIterPos [⟨tg,iter,ifs,0⟩] pos) newDict (firstAsync [⟨tg,iter,ifs,0⟩]) (firstIter [⟨tg,iter,ifs,0⟩] X.env) from rfl]
 refine wpAny_comprehension_free (use:=none) rfl hs hclos S.kind S.own (thn (hi pins s σ H _ I h) fun v s1 h1=>thn h1 fun itv s2 h2=>?_)
 obtain ⟨it,fp,tn,J,H2,e,I2,T,st2,f2,hw⟩:=h2
 subst e
 have hDn:H2 s2.heap.objs.size=none:=I2.hok.fresh (Nat.le_refl _)
 refine wpAny_newObj_type ?_
 have I3 : Inv X pins σ (upd H2 s2.heap.objs.size (.dT [])) { s2 with heap:=s2.heap.push { cls:=.type "dict",data:=.dict #[] },toks:=s2.toks }:=I2.laid (a:=s2.heap.objs.size) (o:=.dT []) (t':=s2.toks) (fun _ _ q=>Heap.get?_push_of_some _ q) (Nat.le_refl _) (dt_empty s2.heap I2.big)
 have f3 : ∀ b ∈ fp,FpOk X pins (upd H2 s2.heap.objs.size (.dT [])) b:=fun b hb=>by
  obtain ⟨f0,f1⟩:=f2 b hb
  obtain ⟨o,e,_⟩:=T.obj _ _ st2 b hb
  exact ⟨by rw[upd_ne (Nat.ne_of_lt (Heap.lt_size e))];exact f0,f1⟩
 refine dc_block (RR:=fun acc C=>compPost (model X.prog X.w) X.A X.xe none (EP X pins σ Q) acc C) hu S hc q1 q2 (hg cl) hf (ht cl) (hk cl) (hv cl) I3 T (T.keep _ _ _ st2 fun b hb o e=>Heap.get?_push_of_some _ e) f3 (hw _ hDn) ?_
 intro C s' H' I' hC ⟨m,hn⟩ hCn q
 obtain ⟨y1,y2,y3,y4⟩:=I3.young hC
 exact ⟨m,hn,fun h' hs'=>⟨.ref s2.heap.objs.size,_,I'.gone (s':=s') hs' hCn y1 y2 y3 y4,rfl,q⟩⟩
theorem Inv.thawT {pins pins':List (Addr × Obj)} {σ σ':St} {H H':Hp} {s s':Shared} {d:Addr} {kvs kvs':List (List Key × V)} {o:Obj} (I:Inv X pins σ H s) (h:H d=some (.dT kvs)) (J:Inv X pins' σ' H' s') (h':H' d=some (.frz o (.dT kvs'))):Inv X pins' σ' (upd H' d (.dT kvs')) s':= by
 have nf : ∀ b ob u,X.H₀ b=some (.frz ob u)->b≠d:=fun b ob u e z=>by
  have:=I.base.frzs b ob u e
  rw[z,h] at this;cases this
 have nt : ∀ {b:Addr} {u:HO},H' b=some u->(∀ ob,u ≠ .frz ob (.dT kvs'))->b≠d:=fun {b u} e n z=>by rw[z,h'] at e;cases e;exact n _ rfl
 have nn : ∀ {b:Addr},H' b=none->upd H' d (.dT kvs') b=none:=fun {b} e=>by
  rw[upd_ne (fun z=>by rw[z,h'] at e;cases e)];exact e
 refine ⟨J.ok,J.os,J.bare,⟨J.base.keep,J.base.slot,fun b o e n hx=>nn (J.base.free b o e n hx),J.base.there,fun b xs e=>?_,fun b ob u e=>?_,fun b ps e=>?_⟩,J.loc,J.cell,nn J.free,fun x c e=>nn (J.freeC x c e),fun p hp=>?_,fun b u e=>?_,J.len⟩
 ·have:=J.base.tups b xs e
  rw[upd_ne (nt this fun _ z=>by cases z)];exact this
 ·rw[upd_ne (nf b ob u e)];exact J.base.frzs b ob u e
 ·obtain ⟨more,e1⟩:=J.base.tbls b ps e
  exact ⟨more,by rw[upd_ne (nt e1 fun _ z=>by cases z)];exact e1⟩
 ·obtain ⟨a1,a2,a3⟩:=J.pin p hp
  exact ⟨a1,nn a2,a3⟩
 ·by_cases hb:b=d
  ·subst hb
   rw[upd_same] at e;cases e
   obtain ⟨_,q⟩:=(show s'.heap.get? b=some o/\ObjOk X.prog X.w H' s'.heap b (.dT kvs') from J.hok b _ h')
   refine q.stay (fun c v _ q=>q) (fun c q=>?_) fun c xs q=>?_
   ·rw[upd_ne (nt q fun _ z=>by cases z)];exact q
   ·rw[upd_ne (nt q fun _ z=>by cases z)];exact q
  ·rw[upd_ne hb] at e
   refine (J.hok b u e).stay (fun c v _ q=>q) (fun c q=>?_) fun c xs q=>?_
   ·rw[upd_ne (nt q fun _ z=>by cases z)];exact q
   ·rw[upd_ne (nt q fun _ z=>by cases z)];exact q
def tThawT (t:TE):TE:=fun σ H Q=>∃ d kvs,H d=some (.dT kvs)/\t σ H fun v H'=>∃ o,H' d=some (.frz o (.dT kvs))/\Q v (upd H' d (.dT kvs))
theorem pe_thawT {e:Expr} {t:TE} (h:PE X e t):PE X e (tThawT t):= by
 intro pins s σ H Q I q
 obtain ⟨d,kvs,hd,q⟩:=q
 refine thn (h pins s σ H _ I q) fun u s' ⟨v,H',J,r,o,e1,q1⟩=>?_
 exact ⟨v,_,Inv.thawT I hd J e1,r,q1⟩
def IkT (o:Obj) (d:Addr):It:=
  ⟨fun i H=>∃ kvs kv,H d=some (.frz o (.dT kvs))/\kvs[i]?=some kv,
   fun i H x H'=>∃ b k,x = .ref b/\H'=H/\H b=some (.tup (k.map kV)) /\ ∀ kvs,H d=some (.frz o (.dT kvs)) -> ∃ v,kvs[i]?=some (k,v),
   fun i H=>∃ kvs,H d=some (.frz o (.dT kvs))/\kvs.length<=i⟩
theorem turn_keysT {P:Program} {w:World} {tg:Expr} {es:Array DictEntry} (o:Obj) (d it:Addr) (n ep:Nat) (hod:o.data = .dict es ep) (hn:es.size=n):Turn P w K tg (IkT o d) [it] it (fun i h=>h.IsKeyIter it d i n ep) where
 mem:=by simp
 obj:=fun i h st b hb=>by
  have:b=it:=by simpa using hb
  subst this
  obtain ⟨ob,e,_,hd⟩:=st
  exact ⟨ob,e,fun v z=>by rw[hd] at z;cases z⟩
 keep:=fun i h h' st k=>st.at fun o e=>k it (by simp) o e
 item:= by
  intro X hP hw hK hc i pins s σ H E I hf st hg
  subst hP hw
  obtain ⟨kvs,⟨k,v⟩,hd,hx⟩:=hg
  obtain ⟨ho,hz,lo,qs,vs,es',ep',hod',hq,hm,hv⟩:=I.dictF hd
  rw[hod] at hod'
  injection hod' with e1 e2
  subst e1 e2
  obtain ⟨b,hb,hbi⟩:=paired_getM hq hx
  obtain ⟨u,hu,ru⟩:=hv.get (show (kvs.map (·.2))[i]?=some v by rw[List.getElem?_map,hx];rfl)
  have hz':((qs.map Value.ref).zip vs)[i]?=some (Value.ref b,u):=by rw[List.getElem?_zip_eq_some];exact ⟨by rw[List.getElem?_map,hbi];rfl,hu⟩
  have hlen:((qs.map Value.ref).zip vs).length=n:= by
   obtain ⟨o1,es1,h1,_,h3,h4⟩:=hm
   rw[ho] at h1;cases h1
   rw[hod] at h3;injection h3 with e3 _
   subst e3
   rw[<- h4,List.length_map,Array.length_toList,hn]
  rw[<- hlen] at st
  refine wpAny_pyNext_dictE_item st hm hz' fun key h' ek it' hs=>?_
  subst ek
  obtain ⟨f0,f1,f2,f3,f4,f5⟩:=hf it (by simp)
  have I1:Inv X pins σ H { s with heap:=h',toks:=s.toks }:=I.turned (t':=s.toks) (fun c oc hc e=>(hs.2 c hc).trans e) f0 f1 f3 f4 f5
  obtain ⟨oi,hoi,hci,hdi⟩:=id it'
  rw[hlen] at it'
  refine ⟨_,rfl,go_of (s:={ s with heap:=h' }) hoi hci hdi (by decide) ⟨.ref b,H,I1,rfl,⟨b,k,rfl,rfl,hb,fun kvs' h'=>?_⟩,it',fun c hc=>(hf c hc).1⟩⟩
  rw[hd] at h';cases h';exact ⟨v,hx⟩
 done:= by
  intro X hP hw hK hc i pins s σ H E I hf st hg
  subst hP hw
  obtain ⟨kvs,hd,hx⟩:=hg
  obtain ⟨ho,hz,lo,qs,vs,es',ep',hod',hq,hm,hv⟩:=I.dictF hd
  rw[hod] at hod'
  injection hod' with e1 e2
  subst e1 e2
  have hlen:((qs.map Value.ref).zip vs).length=n:= by
   obtain ⟨o1,es1,h1,_,h3,h4⟩:=hm
   rw[ho] at h1;cases h1
   rw[hod] at h3;injection h3 with e3 _
   subst e3
   rw[<- h4,List.length_map,Array.length_toList,hn]
  have hle:((qs.map Value.ref).zip vs).length<=i:= by
   rw[List.length_zip,List.length_map,<- hq.length]
   omega
  rw[<- hlen] at st
  obtain ⟨f0,f1,f2,f3,f4,f5⟩:=hf it (by simp)
  exact wpAny_pyNext_dictE_end (I.ok.hd hc) st hm (List.getElem?_eq_none hle) fun h' he=>⟨rfl,I.turned (t':=s.toks) (fun c oc hc q=>he c oc hc q) f0 f1 f3 f4 f5⟩
 self:=fun _ _ _ _ _ st h=>wpAny_pyIter_keyiter st h
def iKeysT (te:TE):TI:=fun σ H R=>te σ H fun x H1=>∃ d kvs,x = .ref d/\H1 d=some (.dT kvs) /\ ∀ o,R (IkT o d) (upd H1 d (.frz o (.dT kvs)))
theorem pi_keysT {tg e:Expr} {te:TE} (he:PE X e te):PI X tg e (iKeysT te):= by
 intro pins s σ H R I h
 refine thn (he pins s σ H _ I h) fun v s1 ⟨x1,H1,I1,r1,q1⟩=>?_
 obtain ⟨d,kvs,rfl,hd,hR⟩:=q1
 cases r1
 obtain ⟨hz,lo,qs,vs,ep,hq,hm,hv⟩:=I1.dictT hd
 obtain ⟨o,es,h1,h2,h3,h4⟩:=id hm
 have hn:es.size=((qs.map Value.ref).zip vs).length:=by rw[<- h4,List.length_map,Array.length_toList]
 refine wpAny_pyIter_dictE lo hm ?_
 have I2:=I1.freeze hd h1
 refine ⟨s1.heap.objs.size,[s1.heap.objs.size],_,_,_,rfl,I2.kept (t':=s1.toks) fun b ob e=>Heap.get?_push_of_some _ e,turn_keysT o d _ ((qs.map Value.ref).zip vs).length ep h3 hn,⟨_,Heap.get?_push_size _ rfl,rfl,rfl⟩,fun b hb=>?_,hR o⟩
 have e:b=s1.heap.objs.size:=by simpa using hb
 subst e
 exact I2.fpOk (Nat.le_refl _) (I2.hok.fresh (Nat.le_refl _))
def sThawT (t:TS):TS:=fun D σ H=>∃ d kvs,H d=some (.dT kvs)/\t ⟨fun σ' H'=>∃ o,H' d=some (.frz o (.dT kvs))/\D.nx σ' (upd H' d (.dT kvs)),fun v H'=>∃ o,H' d=some (.frz o (.dT kvs))/\D.rt v (upd H' d (.dT kvs)),fun _ _=>False,fun _ _=>False⟩ σ H
theorem ps_thawT {st:Stmt} {t:TS} (h:PS X st t):PS X st (sThawT t):= by
 intro pins s σ H D I q
 obtain ⟨d,kvs,hd,q⟩:=q
 refine thn (h pins s σ H _ I q) fun f s' q=>?_
 cases f with
 | next=>
  obtain ⟨σ',H',J,o,e,q⟩:=q
  exact ⟨σ',_,Inv.thawT I hd J e,q⟩
 | brk=>obtain ⟨_,_,_,z⟩:=q;exact z.elim
 | cont=>obtain ⟨_,_,_,z⟩:=q;exact z.elim
 | ret u=>
  obtain ⟨v,σ',H',J,r,o,e,q⟩:=q
  exact ⟨v,σ',_,Inv.thawT I hd J e,r,q⟩
end
end L2
namespace L2
open PySem PySem.Spec PyProof.Rows
inductive Say where
 | pair (u:Bool) (i j:Int)
 | cnt (m:Bool) (k:Int)
 deriving DecidableEq
def sayV:Say->List V
 | .pair u i j=>[.str (if u then "unlike" else "alike"),.int i,.int j]
 | .cnt m k=>[.str (if m then "most" else "least"),.int k]
def sayOk (n:Int):Say->Prop
 | .pair _ i j=>0<=i/\i<n/\0<=j/\j<n/\i≠j
 | .cnt _ k=>1<=k/\k<=n
structure Gst where
 L:List Int
 U:List (Int × Int)
 lo:Int
 hi:Int
def gat (L:List Int) (i:Int):Int:=L.getD i.toNat 0
def putP (U:List (Int × Int)) (p:Int × Int):List (Int × Int):=if p ∈ U then U else U++[p]
theorem mem_putP {U:List (Int × Int)} {p q:Int × Int}:q ∈ putP U p ↔ q ∈ U\/q=p:= by
 unfold putP
 split
 ·rename_i h
  exact ⟨.inl,fun z=>z.elim id fun e=>e ▸ h⟩
 ·rw[List.mem_append,List.mem_singleton]
theorem nodup_putP {U:List (Int × Int)} {p:Int × Int} (h:U.Nodup):(putP U p).Nodup:= by
 unfold putP
 split
 ·exact h
 ·rename_i hn
  refine List.nodup_append.mpr ⟨h,by simp,fun a ha b hb=>?_⟩
  rw[List.mem_singleton] at hb
  subst hb
  rintro rfl
  exact hn ha
theorem putP_length (U:List (Int × Int)) (p:Int × Int):(putP U p).length<=U.length+1:= by
 unfold putP;split
 ·omega
 ·simp
def pKey (p:Int × Int):List Key:=[.inl p.1,.inl p.2]
theorem pKey_inj {p q:Int × Int}:pKey p=pKey q ↔ p=q:= by
 constructor
 ·intro h
  obtain ⟨a,b⟩:=p;obtain ⟨c,d⟩:=q
  simp [pKey] at h
  rw[h.1,h.2]
 ·rintro rfl;rfl
def uKv (U:List (Int × Int)):List (List Key × V):=U.map fun p=>(pKey p,.bl true)
theorem uKv_length (U:List (Int × Int)):(uKv U).length=U.length:=by unfold uKv;rw[List.length_map]
theorem valV_uKv (p:Int × Int) : ∀ U:List (Int × Int),valV (uKv U) (pKey p)=if p ∈ U then some (.bl true) else none
 | []=>rfl
 | q::U=>by
  show valV ((pKey q,V.bl true)::uKv U) _=_
  by_cases e:q=p
  ·rw[valV_pos (by rw[e]),if_pos (by rw[e];exact List.mem_cons_self)]
  ·rw[valV_neg (fun z=>e (pKey_inj.mp z)),valV_uKv p U]
   by_cases h:p ∈ U
   ·rw[if_pos h,if_pos (List.mem_cons_of_mem _ h)]
   ·rw[if_neg h,if_neg (fun z=>(List.mem_cons.mp z).elim (fun z=>e z.symm) h)]
theorem putK_uKv (U:List (Int × Int)) (p:Int × Int):putK (uKv U) (pKey p) (.bl true)=uKv (putP U p):= by
 unfold putP
 by_cases h:p ∈ U
 ·rw[if_pos h]
  unfold putK
  rw[valV_any,valV_uKv,if_pos h,if_pos (show (some (V.bl true)).isSome=true from rfl)]
  unfold uKv
  rw[List.map_map]
  refine List.map_congr_left fun q _=>?_
  show (if pKey q=pKey p then (pKey q,V.bl true) else (pKey q,V.bl true))=_
  split <;> rfl
 ·rw[if_neg h,putK_new _ (by rw[valV_uKv,if_neg h])]
  unfold uKv
  rw[List.map_append];rfl
def Gst.take (g:Gst):Say->Gst
 | .cnt false k=>{ g with lo:=max g.lo k }
 | .cnt true k=>{ g with hi:=min g.hi k }
 | .pair true i j=>{ g with U:=putP (putP g.U (i,j)) (j,i) }
 | .pair false i j=>{ g with L:=relab g.L (max (gat g.L i) (gat g.L j)) (min (gat g.L i) (gat g.L j)) }
def gist0 (n:Nat):Gst:=⟨rg n,[],1,n⟩
def gistOf (n:Nat) (ss:List Say):Gst:=ss.foldl Gst.take (gist0 n)
theorem gistOf_snoc (n:Nat) (ss:List Say) (s:Say):gistOf n (ss++[s])=(gistOf n ss).take s:=by unfold gistOf;rw[List.foldl_append];rfl
structure Gok (n:Nat) (g:Gst):Prop where
 len:g.L.length=n
 lab : ∀ i,i<n->0<=g.L.getD i 0/\g.L.getD i 0<=i/\g.L.getD (g.L.getD i 0).toNat 0=g.L.getD i 0
 un : ∀ p ∈ g.U,(0<=p.1/\p.1<n)/\(0<=p.2/\p.2<n)
 sy : ∀ p ∈ g.U,(p.2,p.1) ∈ g.U
 nd:g.U.Nodup
 lo1:1<=g.lo
 hi1:1<=g.hi
 lon:g.lo<=n
 hin:g.hi<=n
theorem rg_at {n i:Nat} (h:i<n):(rg n).getD i 0=i:=by rw[List.getD_eq_getElem?_getD,rg_get h];rfl
theorem gok0 {n:Nat} (h1:1<=n):Gok n (gist0 n):= by
 refine ⟨rg_length n,fun i hi=>?_,fun p hp=>by simp [gist0] at hp,fun p hp=>by simp [gist0] at hp,List.nodup_nil,Int.le_refl _,?_,?_,Int.le_refl _⟩
 ·show 0<=(rg n).getD i 0/\(rg n).getD i 0<=i/\(rg n).getD ((rg n).getD i 0).toNat 0=(rg n).getD i 0
  rw[rg_at hi]
  refine ⟨by omega,by omega,?_⟩
  rw[Int.toNat_natCast,rg_at hi]
 ·show (1:Int)<=(n:Int);omega
 ·show (1:Int)<=(n:Int);omega
theorem lab_merge {n:Nat} {L:List Int} {a b:Int} (len:L.length=n) (lab : ∀ i,i<n->0<=L.getD i 0/\L.getD i 0<=i/\L.getD (L.getD i 0).toNat 0=L.getD i 0) (ha:L.getD a.toNat 0=a) (h0:0<=a) (hab:a<=b) (hbn:b<n) :
  ∀ i,i<n->0<=(relab L b a).getD i 0/\(relab L b a).getD i 0<=i/\(relab L b a).getD ((relab L b a).getD i 0).toNat 0=(relab L b a).getD i 0:= by
 intro i hi
 obtain ⟨l0,l1,l2⟩:=lab i hi
 rw[relab_at (by omega)]
 by_cases e:L.getD i 0=b
 ·rw[if_pos e]
  refine ⟨h0,by omega,?_⟩
  rw[relab_at (by omega),ha]
  split <;> rfl
 ·rw[if_neg e]
  refine ⟨l0,l1,?_⟩
  rw[relab_at (by omega),l2,if_neg e]
theorem Gok.at {n:Nat} {g:Gst} (h:Gok n g) {i:Int} (h0:0<=i) (hn:i<n):0<=gat g.L i/\gat g.L i<=i/\gat g.L (gat g.L i)=gat g.L i:= by
 have:=h.lab i.toNat (by omega)
 unfold gat
 exact ⟨this.1,by omega,this.2.2⟩
theorem Gok.take {n:Nat} {g:Gst} (h:Gok n g) {s:Say} (hs:sayOk n s):Gok n (g.take s):= by
 obtain ⟨len,lab,un,sy,nd,lo1,hi1,lon,hin⟩:=id h
 cases s with
 | cnt m k=>
  obtain ⟨k1,k2⟩:=hs
  cases m
  ·exact ⟨len,lab,un,sy,nd,by show 1<=max _ _;omega,hi1,by show max _ _<=_;omega,hin⟩
  ·exact ⟨len,lab,un,sy,nd,lo1,by show 1<=min _ _;omega,lon,by show min _ _<=_;omega⟩
 | pair u i j=>
  obtain ⟨i0,i1,j0,j1,hij⟩:=hs
  cases u
  ·obtain ⟨a0,a1,a2⟩:=h.at i0 i1
   obtain ⟨b0,b1,b2⟩:=h.at j0 j1
   refine ⟨by show (relab _ _ _).length=n;rw[relab_length];exact len,?_,un,sy,nd,lo1,hi1,lon,hin⟩
   refine lab_merge len lab ?_ (by omega) (by omega) (by omega)
   rcases Int.le_total (gat g.L i) (gat g.L j) with e | e
   ·rw[show min (gat g.L i) (gat g.L j)=gat g.L i by omega];exact a2
   ·rw[show min (gat g.L i) (gat g.L j)=gat g.L j by omega];exact b2
  ·refine ⟨len,lab,fun p hp=>?_,fun p hp=>?_,nodup_putP (nodup_putP nd),lo1,hi1,lon,hin⟩
   ·rcases mem_putP.mp hp with hp | rfl
    ·rcases mem_putP.mp hp with hp | rfl
     ·exact un p hp
     ·exact ⟨⟨i0,i1⟩,j0,j1⟩
    ·exact ⟨⟨j0,j1⟩,i0,i1⟩
   ·show (p.2,p.1) ∈ putP (putP g.U (i,j)) (j,i)
    rcases mem_putP.mp hp with hp | rfl
    ·rcases mem_putP.mp hp with hp | rfl
     ·exact mem_putP.mpr (.inl (mem_putP.mpr (.inl (sy p hp))))
     ·exact mem_putP.mpr (.inr rfl)
    ·exact mem_putP.mpr (.inl (mem_putP.mpr (.inr rfl)))
theorem gok_fold {n:Nat} : ∀ (ss:List Say) (g:Gst),Gok n g->(∀ s ∈ ss,sayOk n s)->Gok n (ss.foldl Gst.take g)
 | [],_,h,_=>h
 | s::ss,g,h,hs=>gok_fold ss _ (h.take (hs s List.mem_cons_self)) fun t ht=>hs t (List.mem_cons_of_mem _ ht)
theorem gok_of {n:Nat} {ss:List Say} (h1:1<=n) (hs : ∀ s ∈ ss,sayOk n s):Gok n (gistOf n ss):=gok_fold ss _ (gok0 h1) hs
def fitsS (w:List Int):Say->Prop
 | .pair false i j=>gat w i=gat w j
 | .pair true i j=>gat w i≠gat w j
 | .cnt false k=>k<=fresh 0 w
 | .cnt true k=>fresh 0 w<=k
structure fitsG (n:Nat) (g:Gst) (w:List Int):Prop where
 al : ∀ i j,i<n->j<n->g.L.getD i 0=g.L.getD j 0->w.getD i 0=w.getD j 0
 un : ∀ p ∈ g.U,gat w p.1≠gat w p.2
 lo:g.lo<=fresh 0 w
 hi:fresh 0 w<=g.hi
theorem merge_al {n:Nat} {L:List Int} {i j:Nat} {w:Nat->Int} (len:L.length=n) (hi:i<n) (hj:j<n) :
  (∀ x y,x<n->y<n->(relab L (max (L.getD i 0) (L.getD j 0)) (min (L.getD i 0) (L.getD j 0))).getD x 0=(relab L (max (L.getD i 0) (L.getD j 0)) (min (L.getD i 0) (L.getD j 0))).getD y 0->w x=w y) ↔
  (∀ x y,x<n->y<n->L.getD x 0=L.getD y 0->w x=w y)/\w i=w j:= by
 generalize ha:L.getD i 0=a
 generalize hb:L.getD j 0=b
 constructor
 ·intro h
  refine ⟨fun x y hx hy e=>h x y hx hy ?_,h i j hi hj ?_⟩
  ·rw[relab_at (by omega),relab_at (by omega),e]
  ·rw[relab_at (by omega),relab_at (by omega),ha,hb]
   split <;> split <;> omega
 ·rintro ⟨h1,h2⟩ x y hx hy e
  rw[relab_at (by omega),relab_at (by omega)] at e
  have wi : ∀ x,x<n->L.getD x 0=a->w x=w i:=fun x hx e=>h1 x i hx hi (by rw[e,ha])
  have wj : ∀ x,x<n->L.getD x 0=b->w x=w j:=fun x hx e=>h1 x j hx hj (by rw[e,hb])
  have wm : ∀ x,x<n->(L.getD x 0=a\/L.getD x 0=b)->w x=w i:=fun x hx e=>e.elim (wi x hx) fun e=>(wj x hx e).trans h2.symm
  by_cases e1:L.getD x 0=max a b
  ·rw[if_pos e1] at e
   by_cases e2:L.getD y 0=max a b
   ·exact h1 x y hx hy (by rw[e1,e2])
   ·rw[if_neg e2] at e
    rw[wm x hx (by omega),wm y hy (by omega)]
  ·rw[if_neg e1] at e
   by_cases e2:L.getD y 0=max a b
   ·rw[if_pos e2] at e
    rw[wm x hx (by omega),wm y hy (by omega)]
   ·rw[if_neg e2] at e
    exact h1 x y hx hy e
theorem fits_take {n:Nat} {g:Gst} {w:List Int} {s:Say} (h:Gok n g) (hs:sayOk n s):fitsG n (g.take s) w ↔ fitsG n g w/\fitsS w s:= by
 cases s with
 | cnt m k=>
  cases m
  ·constructor
   ·rintro ⟨a,b,c,d⟩
    have c:max g.lo k<=fresh 0 w:=c
    exact ⟨⟨a,b,by omega,d⟩,by show k<=_;omega⟩
   ·rintro ⟨⟨a,b,c,d⟩,e⟩
    have e:k<=fresh 0 w:=e
    exact ⟨a,b,by show max g.lo k<=_;omega,d⟩
  ·constructor
   ·rintro ⟨a,b,c,d⟩
    have d:fresh 0 w<=min g.hi k:=d
    exact ⟨⟨a,b,c,by omega⟩,by show _<=k;omega⟩
   ·rintro ⟨⟨a,b,c,d⟩,e⟩
    have e:fresh 0 w<=k:=e
    exact ⟨a,b,c,by show _<=min g.hi k;omega⟩
 | pair u i j=>
  obtain ⟨i0,i1,j0,j1,hij⟩:=hs
  cases u
  ·have M:=merge_al (L:=g.L) (w:=fun x=>w.getD x 0) h.len (show i.toNat<n by omega) (show j.toNat<n by omega)
   constructor
   ·rintro ⟨a,b,c,d⟩
    obtain ⟨a1,a2⟩:=M.mp a
    exact ⟨⟨a1,b,c,d⟩,a2⟩
   ·rintro ⟨⟨a,b,c,d⟩,e⟩
    exact ⟨M.mpr ⟨a,e⟩,b,c,d⟩
  ·constructor
   ·rintro ⟨a,b,c,d⟩
    exact ⟨⟨a,fun p hp=>b p (mem_putP.mpr (.inl (mem_putP.mpr (.inl hp)))),c,d⟩,b (i,j) (mem_putP.mpr (.inl (mem_putP.mpr (.inr rfl))))⟩
   ·rintro ⟨⟨a,b,c,d⟩,e⟩
    refine ⟨a,fun p hp=>?_,c,d⟩
    rcases mem_putP.mp hp with hp | rfl
    ·rcases mem_putP.mp hp with hp | rfl
     ·exact b p hp
     ·exact e
    ·exact fun z=>e z.symm
theorem fits_fold {n:Nat} {w:List Int} : ∀ (ss:List Say) (g:Gst),Gok n g->(∀ s ∈ ss,sayOk n s)->(fitsG n (ss.foldl Gst.take g) w ↔ fitsG n g w /\ ∀ s ∈ ss,fitsS w s)
 | [],g,h,hs=>⟨fun a=>⟨a,fun s hs=>by simp at hs⟩,fun a=>a.1⟩
 | s::ss,g,h,hs=>by
  have h1:=hs s List.mem_cons_self
  rw[List.foldl_cons,fits_fold ss _ (h.take h1) fun t ht=>hs t (List.mem_cons_of_mem _ ht),fits_take h h1]
  exact ⟨fun ⟨⟨a,b⟩,c⟩=>⟨a,fun t ht=>(List.mem_cons.mp ht).elim (fun e=>e ▸ b) (c t)⟩,fun ⟨a,b⟩=>⟨⟨a,b s List.mem_cons_self⟩,fun t ht=>b t (List.mem_cons_of_mem _ ht)⟩⟩
theorem fits0 {n:Nat} {w:List Int} (h1:1<=n) (hw:wayGo 0 w=true) (hl:w.length=n):fitsG n (gist0 n) w:= by
 refine ⟨fun i j hi hj e=>?_,fun p hp=>by simp [gist0] at hp,?_,?_⟩
 ·have e:(rg n).getD i 0=(rg n).getD j 0:=e
  rw[rg_at hi,rg_at hj] at e
  rw[show i=j by omega]
 ·exact (fresh_pos hw (by rintro rfl;simp at hl;omega)).1
 ·show fresh 0 w<=(n:Int)
  have:=fresh_le w;omega
theorem fits_of {n:Nat} {ss:List Say} {w:List Int} (h1:1<=n) (hs : ∀ s ∈ ss,sayOk n s) (hw:wayGo 0 w=true) (hl:w.length=n):fitsG n (gistOf n ss) w ↔ ∀ s ∈ ss,fitsS w s:= by
 unfold gistOf
 rw[fits_fold ss _ (gok0 h1) hs]
 exact ⟨fun a=>a.2,fun a=>⟨fits0 h1 hw hl,a⟩⟩
def homesN (n:Nat) (L:List Int):List Int:=(rg n).filter fun h=>decide (gat L h=h)
theorem rg_lt (n:Nat):(rg n).Pairwise (· < ·):= by
 unfold rg
 rw[List.pairwise_map]
 exact List.pairwise_lt_range.imp fun h=>by omega
theorem homes_lt (n:Nat) (L:List Int):(homesN n L).Pairwise (· < ·):=(rg_lt n).sublist List.filter_sublist
theorem mem_homes {n:Nat} {g:Gst} (h:Gok n g) {x:Int}:x ∈ homesN n g.L ↔ x ∈ g.L:= by
 unfold homesN
 rw[List.mem_filter,mem_rg,decide_eq_true_eq]
 constructor
 ·rintro ⟨⟨x0,x1⟩,e⟩
  exact mem_getD.mpr ⟨x.toNat,by rw[h.len];omega,e⟩
 ·intro hx
  obtain ⟨i,hi,e⟩:=mem_getD.mp hx
  rw[h.len] at hi
  obtain ⟨l0,l1,l2⟩:=h.lab i hi
  rw[e] at l0 l1 l2
  exact ⟨⟨l0,by omega⟩,l2⟩
theorem lt_uniq : ∀ {xs ys:List Int},xs.Pairwise (· < ·)->ys.Pairwise (· < ·)->(∀ x,x ∈ xs ↔ x ∈ ys)->xs=ys
 | [],[],_,_,_=>rfl
 | [],y::ys,_,_,h=>absurd ((h y).mpr List.mem_cons_self) (by simp)
 | x::xs,[],_,_,h=>absurd ((h x).mp List.mem_cons_self) (by simp)
 | x::xs,y::ys,hx,hy,h=>by
  rw[List.pairwise_cons] at hx hy
  have e:x=y:= by
   rcases List.mem_cons.mp ((h x).mp List.mem_cons_self) with e | e
   ·exact e
   ·rcases List.mem_cons.mp ((h y).mpr List.mem_cons_self) with e2 | e2
    ·exact e2.symm
    ·have:=hy.1 x e;have:=hx.1 y e2;omega
  subst e
  rw[lt_uniq hx.2 hy.2 fun z=>⟨fun hz=>?_,fun hz=>?_⟩]
  ·rcases List.mem_cons.mp ((h z).mp (List.mem_cons_of_mem _ hz)) with e | e
   ·have:=hx.1 z hz;omega
   ·exact e
  ·rcases List.mem_cons.mp ((h z).mpr (List.mem_cons_of_mem _ hz)) with e | e
   ·have:=hy.1 z hz;omega
   ·exact e
theorem lt_of_le {xs:List Int} (h:xs.Pairwise (· <= ·)) (hn:xs.Nodup):xs.Pairwise (· < ·):=
 (List.Pairwise.and h hn).imp fun ⟨a,b⟩=>by omega
theorem homes_of {n:Nat} {g:Gst} (h:Gok n g) {ms ks:List Int} (hn:ms.Nodup) (hm : ∀ k,k ∈ ms ↔ k ∈ g.L) (hp:ks.Perm ms) (hs:ks.Pairwise (· <= ·)):ks=homesN n g.L:=
 lt_uniq (lt_of_le hs (hp.nodup_iff.mpr hn)) (homes_lt n _) fun x=>by rw[hp.mem_iff,hm,mem_homes h]
theorem homes_length (n:Nat) (L:List Int):(homesN n L).length<=n:= by
 have:=List.length_filter_le (fun h=>decide (gat L h=h)) (rg n)
 rw[rg_length] at this
 exact this
theorem perm_of_mem {xs ys:List Int} (hx:xs.Nodup) (hy:ys.Nodup) (h : ∀ z,z ∈ xs ↔ z ∈ ys):xs.Perm ys:=(List.perm_ext_iff_of_nodup hx hy).mpr h
theorem lt_nodup {xs:List Int} (h:xs.Pairwise (· < ·)):xs.Nodup:=h.imp fun h=>by omega
theorem woods_homes {n:Nat} {g:Gst} (h:Gok n g):fresh 0 (numRow g.L)=(homesN n g.L).length:= by
 rw[(numRow_way g.L).2]
 congr 1
 exact (perm_of_mem (seen_nodup _) (lt_nodup (homes_lt n _)) fun z=>by rw[mem_seen,mem_homes h]).length_eq
def wallsL (L:List Int) (U:List (Int × Int)):List (Int × Int):=U.foldl (fun W p=>putP W (gat L p.1,gat L p.2)) []
theorem mem_fold_put {L:List Int} {q:Int × Int} : ∀ (U W:List (Int × Int)),q ∈ U.foldl (fun W p=>putP W (gat L p.1,gat L p.2)) W ↔ q ∈ W \/ ∃ p ∈ U,q=(gat L p.1,gat L p.2)
 | [],W=>⟨.inl,fun z=>z.elim id fun ⟨p,hp,_⟩=>by simp at hp⟩
 | p::U,W=>by
  rw[List.foldl_cons,mem_fold_put U,mem_putP]
  constructor
  ·rintro ((h | h) | ⟨p',hp,h⟩)
   ·exact .inl h
   ·exact .inr ⟨p,List.mem_cons_self,h⟩
   ·exact .inr ⟨p',List.mem_cons_of_mem _ hp,h⟩
  ·rintro (h | ⟨p',hp,h⟩)
   ·exact .inl (.inl h)
   ·rcases List.mem_cons.mp hp with rfl | hp
    ·exact .inl (.inr h)
    ·exact .inr ⟨p',hp,h⟩
theorem mem_walls {L:List Int} {U:List (Int × Int)} {q:Int × Int}:q ∈ wallsL L U ↔ ∃ p ∈ U,q=(gat L p.1,gat L p.2):= by
 unfold wallsL
 rw[mem_fold_put]
 exact ⟨fun z=>z.elim (fun z=>by simp at z) id,.inr⟩
theorem walls_snoc (L:List Int) (U:List (Int × Int)) (p:Int × Int):wallsL L (U++[p])=putP (wallsL L U) (gat L p.1,gat L p.2):=by unfold wallsL;rw[List.foldl_append];rfl
theorem walls_length (L:List Int) : ∀ U:List (Int × Int),(wallsL L U).length<=U.length:=fun U=>by
 refine snoc_ind (P:=fun U=>(wallsL L U).length<=U.length) (by simp [wallsL]) (fun xs z ih=>?_) U
 rw[walls_snoc,List.length_append]
 have:=putP_length (wallsL L xs) (gat L z.1,gat L z.2)
 simp;omega
inductive Pap where
 | ring (i j:Int)
 | counts
 | few
 | many (c:List Int)
 | cases (i j:Int) (p q:Pap)
def PapOk (n:Nat):Gst->Pap->Prop
 | g,.ring i j=>(i,j) ∈ g.U/\gat g.L i=gat g.L j
 | g,.counts=>g.hi<g.lo
 | g,.few=>((homesN n g.L).length:Int)<g.lo
 | g,.many c=>c.Nodup/\(∀ x ∈ c,0<=x/\x<n)/\g.hi<c.length/\c.Pairwise fun a b=>(gat g.L a,gat g.L b) ∈ wallsL g.L g.U
 | g,.cases i j p q=>(0<=i/\i<n)/\(0<=j/\j<n)/\i≠j/\PapOk n (g.take (.pair false i j)) p/\PapOk n (g.take (.pair true i j)) q
theorem way_fits {n:Nat} {g:Gst} (h:Gok n g) (h1 : ∀ p ∈ g.U,gat g.L p.1≠gat g.L p.2) (h2:g.lo<=(homesN n g.L).length) (h3:((homesN n g.L).length:Int)<=g.hi):fitsG n g (numRow g.L):= by
 refine ⟨fun i j hi hj e=>(numRow_pat (by rw[h.len];exact hi) (by rw[h.len];exact hj)).mpr e,fun p hp e=>?_,by rw[woods_homes h];exact h2,by rw[woods_homes h];exact h3⟩
 obtain ⟨u1,u2⟩:=h.un p hp
 exact h1 p hp ((numRow_pat (by rw[h.len];omega) (by rw[h.len];omega)).mp e)
def openPs (n:Nat) (g:Gst):List (Int × Int):=(homesN n g.L).flatMap fun x=>((homesN n g.L).filter fun y=>decide (x<y) && !decide ((x,y) ∈ wallsL g.L g.U)).map fun y=>(x,y)
theorem mem_open {n:Nat} {g:Gst} {q:Int × Int}:q ∈ openPs n g ↔ q.1 ∈ homesN n g.L/\q.2 ∈ homesN n g.L/\q.1<q.2/\q ∉ wallsL g.L g.U:= by
 unfold openPs
 obtain ⟨a,b⟩:=q
 simp only [List.mem_flatMap,List.mem_map,List.mem_filter,Bool.and_eq_true,decide_eq_true_eq,Bool.not_eq_true',decide_eq_false_iff_not,Prod.mk.injEq]
 constructor
 ·rintro ⟨x,hx,y,⟨hy,h1,h2⟩,rfl,rfl⟩
  exact ⟨hx,hy,h1,h2⟩
 ·rintro ⟨hx,hy,h1,h2⟩
  exact ⟨a,hx,b,⟨hy,h1,h2⟩,rfl,rfl⟩
theorem open_nodup (n:Nat) (g:Gst):(openPs n g).Nodup:= by
 unfold openPs
 have hn:=lt_nodup (homes_lt n g.L)
 generalize homesN n g.L=hs at hn ⊢
 suffices h : ∀ (l:List Int),l.Nodup->(l.flatMap fun x=>(hs.filter fun y=>decide (x<y) && !decide ((x,y) ∈ wallsL g.L g.U)).map fun y=>(x,y)).Nodup from h hs hn
 intro l
 induction l with
 | nil=>intro _;simp
 | cons a l ih=>
  intro hl
  rw[List.nodup_cons] at hl
  rw[List.flatMap_cons,List.nodup_append]
  refine ⟨?_,ih hl.2,fun p hp q hq e=>?_⟩
  ·unfold List.Nodup
   rw[List.pairwise_map]
   exact (hn.sublist List.filter_sublist).imp fun h e=>h (congrArg Prod.snd e)
  ·obtain ⟨y,_,rfl⟩:=List.mem_map.mp hp
   obtain ⟨x,hx,hq⟩:=List.mem_flatMap.mp hq
   obtain ⟨z,_,rfl⟩:=List.mem_map.mp hq
   exact hl.1 (by rw[show a=x from congrArg Prod.fst e];exact hx)
theorem shorter {α:Type} [DecidableEq α] {xs ys:List α} {a:α} (hx:xs.Nodup) (h : ∀ x ∈ xs,x ∈ ys) (ha:a ∈ ys) (hn:a ∉ xs):xs.length<ys.length:= by
 have:(a::xs).Nodup:=List.nodup_cons.mpr ⟨hn,hx⟩
 have:=sub_lenK this (fun x hx=>(List.mem_cons.mp hx).elim (fun e=>e ▸ ha) (h x))
 rw[List.length_cons] at this;omega
theorem open_unlike {n:Nat} {g:Gst} (hg:Gok n g) {x y:Int} (h:(x,y) ∈ openPs n g):(openPs n (g.take (.pair true x y))).length<(openPs n g).length:= by
 obtain ⟨h1,h2,h3,h4⟩:=mem_open.mp h
 have fx:gat g.L x=x:=by have:=(List.mem_filter.mp h1).2;simpa using this
 have fy:gat g.L y=y:=by have:=(List.mem_filter.mp h2).2;simpa using this
 have sub : ∀ q,q ∈ wallsL g.L g.U->q ∈ wallsL g.L (g.take (.pair true x y)).U:=fun q hq=>by
  obtain ⟨p,hp,e⟩:=mem_walls.mp hq
  exact mem_walls.mpr ⟨p,mem_putP.mpr (.inl (mem_putP.mpr (.inl hp))),e⟩
 refine shorter (open_nodup n _) (fun q hq=>?_) h fun hc=>?_
 ·obtain ⟨a,b,c,d⟩:=mem_open.mp hq
  exact mem_open.mpr ⟨a,b,c,fun z=>d (sub q z)⟩
 ·obtain ⟨_,_,_,d⟩:=mem_open.mp hc
  refine d (mem_walls.mpr ⟨(x,y),mem_putP.mpr (.inl (mem_putP.mpr (.inr rfl))),?_⟩)
  show (x,y)=(gat g.L x,gat g.L y)
  rw[fx,fy]
theorem relab_gat {L:List Int} {o m i:Int} {n:Nat} (hl:L.length=n) (h0:0<=i) (h1:i<n):gat (relab L o m) i=if gat L i=o then m else gat L i:=relab_at (by omega)
theorem open_alike {n:Nat} {g:Gst} (hg:Gok n g) {x y:Int} (h:(x,y) ∈ openPs n g):(openPs n (g.take (.pair false x y))).length<(openPs n g).length:= by
 obtain ⟨h1,h2,h3,h4⟩:=mem_open.mp h
 have fx:gat g.L x=x:=by have:=(List.mem_filter.mp h1).2;simpa using this
 have fy:gat g.L y=y:=by have:=(List.mem_filter.mp h2).2;simpa using this
 have eL:(g.take (.pair false x y)).L=relab g.L y x:= by
  show relab g.L (max (gat g.L x) (gat g.L y)) (min (gat g.L x) (gat g.L y))=_
  rw[fx,fy,show max x y=y by omega,show min x y=x by omega]
 have rx:=mem_rg.mp (List.mem_filter.mp h1).1
 have ry:=mem_rg.mp (List.mem_filter.mp h2).1
 have hh : ∀ z,z ∈ homesN n (relab g.L y x)->z ∈ homesN n g.L/\z≠y:=fun z hz=>by
  obtain ⟨a,b⟩:=List.mem_filter.mp hz
  have b:gat (relab g.L y x) z=z:=by simpa using b
  have rz:=mem_rg.mp a
  rw[relab_gat hg.len rz.1 rz.2] at b
  by_cases e:gat g.L z=y
  ·rw[if_pos e] at b
   subst b
   rw[fx] at e;omega
  ·rw[if_neg e] at b
   exact ⟨List.mem_filter.mpr ⟨a,by simpa using b⟩,fun z'=>e (by rw[b];exact z')⟩
 refine shorter (open_nodup n _) (fun q hq=>?_) h fun hc=>?_
 ·obtain ⟨a,b,c,d⟩:=mem_open.mp hq
  rw[eL] at a b d
  obtain ⟨a1,a2⟩:=hh _ a
  obtain ⟨b1,b2⟩:=hh _ b
  refine mem_open.mpr ⟨a1,b1,c,fun z=>d ?_⟩
  obtain ⟨p,hp,e⟩:=mem_walls.mp z
  have e1:q.1=gat g.L p.1:=congrArg Prod.fst e
  have e2:q.2=gat g.L p.2:=congrArg Prod.snd e
  obtain ⟨u1,u2⟩:=hg.un p hp
  refine mem_walls.mpr ⟨p,hp,?_⟩
  rw[relab_gat hg.len u1.1 u1.2,relab_gat hg.len u2.1 u2.2,if_neg (by rw[<- e1];exact a2),if_neg (by rw[<- e2];exact b2)]
  exact e
 ·obtain ⟨_,b,_,_⟩:=mem_open.mp hc
  rw[eL] at b
  exact (hh _ b).2 rfl
def allPs:List (Int × Int):=(rg 9).flatMap fun x=>((rg 9).filter fun y=>decide (x<y)).map fun y=>(x,y)
theorem allPs_length:allPs.length=36:=by decide +kernel
theorem open_36 {n:Nat} (g:Gst) (h9:n<=9):(openPs n g).length<=36:= by
 rw[<- allPs_length]
 refine sub_lenK (open_nodup n g) fun q hq=>?_
 obtain ⟨a,b,c,d⟩:=mem_open.mp hq
 have a:=mem_rg.mp (List.mem_filter.mp a).1
 have b:=mem_rg.mp (List.mem_filter.mp b).1
 unfold allPs
 refine List.mem_flatMap.mpr ⟨q.1,mem_rg.mpr (by omega),List.mem_map.mpr ⟨q.2,List.mem_filter.mpr ⟨mem_rg.mpr (by omega),by simpa using c⟩,rfl⟩⟩
end L2
namespace PySem
section
variable {prog:Program} {w:World} {A:Around} {E:Value->Shared->Prop} {s:Shared}
theorem wpAny_mergeDict0 {nm:String} {d o:Addr} {oo:Obj} {epo:Nat} {Q:Unit->Shared->Prop} (hdo:d≠o) (hoS:(o==sysModules)=false)
  (hoo:s.heap.get? o=some oo) (hdo':oo.data = .dict #[] epo) (hQ:Q () s):wpAny (model prog w) A (Builtin.Dict.mergeDict nm d o) Q E s:= by
 unfold Builtin.Dict.mergeDict
 rw[if_neg (by simpa using hdo)]
 unfold Builtin.Dict.showsAll
 rw[if_neg (by rw[hoS];exact Bool.false_ne_true)]
 refine wpAny_bind (wpAny_pure ?_)
 refine wpAny_bind (wpAny_dictEntries hoo hdo' ?_)
 dsimp only
 rw[if_neg (by simp)]
 refine wpAny_bind (wpAny_dictEpoch hoo hdo' ?_)
 refine wpAny_bind (wpAny_dictEntries hoo hdo' ?_)
 refine wpAny_bind ?_
 rw[show (#[]:Array DictEntry).size=0 from rfl]
 simp only [Std.Legacy.Range.forIn_eq_forIn_range',Std.Legacy.Range.size,List.range',List.forIn_nil]
 exact wpAny_pure (wpAny_pure hQ)
theorem call_dict0 {o:Addr} {oo:Obj} {epo:Nat} {Q:Value->Shared->Prop} (hoS:(o==sysModules)=false) (hoo:s.heap.get? o=some oo) (hoc:oo.ExactDict) (hdo':oo.data = .dict #[] epo)
  (h : Q (.ref s.heap.objs.size) { s with heap:=s.heap.push { cls:=.type "dict",data:=.dict #[] } }) :
  wpAny (model prog w) A (call (.type "dict") [.ref o]) Q E s:= by
 refine callType_codes (Q₁:=fun obj s₁=>obj = .ref s.heap.objs.size /\ s₁ = { s with heap:=s.heap.push { cls:=.type "dict",data:=.dict #[] } }) F.kt_called_dict (F.kt_typeCall_dict_1 _) F.entry_dict_init (kt_code_dict_new _ ⟨rfl,rfl⟩) ?_
 rintro obj s₁ ⟨rfl,rfl⟩
 have hnew : (s.heap.push { cls:=.type "dict",data:=.dict #[] }).get? s.heap.objs.size = some { cls:=.type "dict",data:=.dict #[] }:=Heap.get?_push_size _ rfl
 have hT1 : (⟨s.heap.push { cls:=.type "dict",data:=.dict #[] },s.gens,s.drawn,s.toks,s.os⟩ : Shared).TypeIs (.ref s.heap.objs.size) "dict":=⟨_,hnew,rfl⟩
 have hoo':=Heap.get?_push_of_some { cls:=.type "dict",data:=.dict #[] } hoo
 have hT2 : (⟨s.heap.push { cls:=.type "dict",data:=.dict #[] },s.gens,s.drawn,s.toks,s.os⟩ : Shared).TypeIs (.ref o) "dict":=⟨_,hoo',hoc.1⟩
 have hdo:s.heap.objs.size≠o:=fun e=>absurd (Heap.lt_size hoo) (by rw[e];exact Nat.lt_irrefl _)
 refine ⟨hT1,F.args_dict_init_2 _ _,?_⟩
 unfold Builtin.«dict.__init__»
 refine wpAny_bind ?_
 unfold Builtin.Dict.selfAndRest
 refine wpAny_bind (wpAny_notOrdered_dict hT1 ?_)
 show wpAny _ _ (pure (s.heap.objs.size,[Value.ref o])) _ _ _
 refine wpAny_pure ?_
 show wpAny _ _ (Builtin.Dict.updateFrom "dict.__init__" s.heap.objs.size (.ref o) [] .none) _ _ _
 unfold Builtin.Dict.updateFrom
 refine wpAny_bind (wpAny_typeOf hT2 ?_)
 rw[if_neg (by decide)]
 refine wpAny_bind ?_
 unfold Builtin.Dict.merge
 refine wpAny_bind ?_
 unfold Builtin.Dict.readDirectly
 refine wpAny_bind (wpAny_isInstance hT2 isSubtype_dict_dict ?_)
 simp only [Bool.not_true,Bool.false_eq_true,if_false]
 refine wpAny_bind (wpAny_specialOf hT2 F.slot_dict_iter.lookup (wpAny_pure ?_))
 simp only [beq_self_eq_true,if_true]
 refine wpAny_bind (wpAny_pure ?_)
 refine wpAny_mergeDict0 hdo hoS hoo' hdo' ?_
 show wpAny _ _ (Builtin.Dict.addKeywords s.heap.objs.size [] >>= _) _ _ _
 refine wpAny_bind (wpAny_pure (wpAny_pure ⟨rfl,h⟩))
end
end PySem
namespace L2
open PySem PySem.Spec PyProof.Rows
section
variable {X:Cx} {K:PySem.W.Frag}
theorem call_dictU : CallR X (.type "dict") (fun xs H Q=>∃ (d : Addr) (kvs : List (List Key × V)),xs = [.ref d] /\ H d = some (.dT kvs) /\ (kvs.map fun kv=>hT X.prog X.w kv.1).Nodup /\ ∀ p,H p = none -> Q (.ref p) (upd H p (.dT kvs))):= by
 intro pins s σ H xs us Q I r h
 obtain ⟨d,kvs,rfl,hd,hnd,q⟩:=h
 by_cases hne:kvs=[]
 ·subst hne
  obtain ⟨u,rfl,ru⟩:=vals1 r
  cases (show u=Value.ref d from ru)
  obtain ⟨z,lo,xs,rel,o,es,ep,h1,h2,h3,h4,h5⟩:=(show ObjOk X.prog X.w H s.heap d (.dT []) from I.hok d _ hd)
  cases rel
  have he:es = #[]:=by rw[<- Array.toList_inj];exact h4
  subst he
  refine call_dict0 lo h1 h2 h3 ?_
  exact ⟨.ref s.heap.objs.size,_,I.laid (a:=s.heap.objs.size) (o:=.dT []) (t':=s.toks) (fun _ _ q=>Heap.get?_push_of_some _ q) (Nat.le_refl _) (dt_empty s.heap I.big),rfl,q _ (I.hok.fresh (Nat.le_refl _))⟩
 ·exact call_dictT pins s σ H _ us Q I r ⟨d,kvs,rfl,hd,hne,hnd,q⟩
theorem relV_uniq : ∀ {v v':V} {u:Value},RelV v u->RelV v' u->v=v':= by
 intro v v' u h h'
 cases v <;> cases v' <;> simp only [RelV] at h h' <;> first
  | rfl
  | (subst h;cases h';rfl)
  | (obtain ⟨t,rfl⟩:=h;obtain ⟨t',e⟩:=h';cases e;rfl)
  | (subst h;obtain ⟨t',e⟩:=h';cases e)
  | (obtain ⟨t,rfl⟩:=h;cases h';done)
  | (obtain ⟨t,rfl⟩:=h;obtain ⟨t',e⟩:=h';cases e)
def rInD (K:PySem.W.Frag) (g:Bool->V):R2:=fun x y H Q=>∃ (p:Addr) (vs:List V) (ds:List Dd) (d:Dd),y = .ref p/\SqL K H p vs/\DAts K H ds vs/\DAt K H d x/\depDs ds<=30/\Q (g (ds.any fun e=>eqD e d)) H
open Classical in
theorem inD_at {pins:List (Addr × Obj)} {σ:St} {H:Hp} {s:Shared} {vs:List V} {ds:List Dd} {its:List Value} (I:Inv X pins σ H s) (r:Vals vs its) (hD:DAts X.K H ds vs) (d:Dd) :
  ∃ e:Value->Bool,(∀ j u,its[j]?=some u->e u=eqD (ds.getD j .non) d)/\its.toArray.any e=ds.any fun e=>eqD e d:= by
 have hl:its.length=ds.length:=by rw[<- r.length,hD.length]
 have key : ∀ j u,its[j]?=some u->(decide (∃ i,its[i]?=some u/\eqD (ds.getD i .non) d=true))=eqD (ds.getD j .non) d:= by
  intro j u hj
  have hjl:j<its.length:=(List.getElem?_eq_some_iff.mp hj).1
  rw[Bool.eq_iff_iff,decide_eq_true_iff]
  constructor
  ·rintro ⟨i,hi,e⟩
   have hil:i<its.length:=(List.getElem?_eq_some_iff.mp hi).1
   obtain ⟨v,hv,dv⟩:=hD.get (j:=j) (by omega)
   obtain ⟨v',hv',dv'⟩:=hD.get (j:=i) (by omega)
   obtain ⟨u1,e1,R1⟩:=r.get hv
   obtain ⟨u2,e2,R2⟩:=r.get hv'
   rw[hj] at e1;cases e1
   rw[hi] at e2;cases e2
   have:=relV_uniq R1 R2
   subst this
   rw[dat_uniq I _ _ _ dv dv'];exact e
  ·exact fun e=>⟨j,hj,e⟩
 refine ⟨fun u=>decide (∃ i,its[i]?=some u/\eqD (ds.getD i .non) d=true),key,?_⟩
 rw[List.any_toArray,Bool.eq_iff_iff,List.any_eq_true,List.any_eq_true]
 constructor
 ·rintro ⟨u,hu,e⟩
  obtain ⟨j,hj,e2⟩:=List.getElem_of_mem hu
  rw[key j u (by rw[List.getElem?_eq_getElem hj,e2])] at e
  refine ⟨ds.getD j .non,?_,e⟩
  rw[List.getD_eq_getElem?_getD,List.getElem?_eq_getElem (by omega)]
  exact List.getElem_mem _
 ·rintro ⟨e,he,h⟩
  obtain ⟨j,hj,e2⟩:=List.getElem_of_mem he
  refine ⟨its[j]'(by omega),List.getElem_mem _,?_⟩
  rw[key j _ (List.getElem?_eq_getElem (by omega)),List.getD_eq_getElem?_getD,List.getElem?_eq_getElem hj,e2]
  exact h
theorem op_inD (hu:X.A.units+40<cLine) (h:X.K=K:=by rfl):OpR X (compareOp .In) (rInD K V.bl):= by
 subst h
 intro pins s σ H x y v u Q I rx ry h
 obtain ⟨p,vs,ds,d,rfl,hS,hD,hd,hdep,q⟩:=h
 cases ry
 obtain ⟨its,r,pl,_⟩:=I.list hS
 obtain ⟨e,he,ha⟩:=inD_at I r hD d
 refine SeqAt.in_listAt e pl.isList (fun w hw=>?_) ⟨.bl _,H,I,rfl,by rw[ha];exact q⟩
 obtain ⟨j,hj,rfl⟩:=Array.mem_iff_getElem.mp hw
 have hj':j<its.length:=by simpa using hj
 have ej:its[j]?=some (its.toArray[j]):=by rw[List.getElem?_eq_getElem hj'];simp
 rw[he j _ ej]
 obtain ⟨v1,g1,d1⟩:=hD.get (j:=j) (by rw[<- hD.length,r.length];exact hj')
 obtain ⟨u1,e1,R1⟩:=r.get g1
 rw[ej] at e1;cases e1
 exact eqAt_D I 30 _ _ (Nat.le_trans (depD_get (by rw[<- hD.length,r.length];exact hj')) hdep) (show X.A.units+1+30<cLine by omega) d1 hd R1 rx
open PyProof.Rows.KTD in
def NumTab (base:Heap) (a:Addr) (D:List (Str × Int)):Prop:=TextTab base a (D.map fun p=>(p.1,Dat.flat (PyData.int p.2)))
def entB (e:DictEntry) (p:Str × Int):Bool:=(match e.key with | .str x _=>x==p.1 | _=>false)&&(match e.val with | .int n _=>n==p.2 | _=>false)
def entsB:List DictEntry->List (Str × Int)->Bool
 | [],[]=>true
 | e::es,p::D=>entB e p&&entsB es D
 | _,_=>false
def tabIn (K:PySem.W.Frag) (a:Addr) (D:List (Str × Int)):Bool:=!(a==sysModules)&&match K.lookup a with
 | some ⟨.type "dict",none,.dict es _,sl⟩=>sl.isEmpty && entsB es.toList D
 | _=>false
theorem entB_ok {e:DictEntry} {p:Str × Int} (h:entB e p=true) : ∃ t,e.key = .str p.1 t /\ ∃ t',e.val = .int p.2 t':= by
 unfold entB at h
 rw[Bool.and_eq_true] at h
 obtain ⟨h1,h2⟩:=h
 cases hk:e.key <;> rw[hk] at h1 <;> try cases h1
 cases hv:e.val <;> rw[hv] at h2 <;> try cases h2
 rename_i x t n t'
 have e1:=eq_of_beq h1
 have e2:=eq_of_beq h2
 subst e1 e2
 exact ⟨t,rfl,t',rfl⟩
open PyProof.Rows.KTD in
theorem rows_ok {h:Heap} : ∀ {es:List DictEntry} {D:List (Str × Int)},entsB es D=true->Rows (Dat.At h) es (D.map fun p=>(p.1,Dat.flat (PyData.int p.2)))
 | [],[],_=>.nil
 | [],_::_,h=>by cases h
 | _::_,[],h=>by cases h
 | e::es,p::D,h=>by
  rw[entsB,Bool.and_eq_true] at h
  obtain ⟨t,hk,t',hv⟩:=entB_ok h.1
  refine .cons hk ?_ (rows_ok h.2)
  rw[hv]
  exact PyProof.V.Flat.int _ _
theorem numTab_of {K:PySem.W.Frag} {base:Heap} {a:Addr} {D:List (Str × Int)} (kb:K.In base) (h:tabIn K a D=true):NumTab base a D:= by
 unfold tabIn at h
 rw[Bool.and_eq_true] at h
 obtain ⟨h1,h2⟩:=h
 split at h2
 ·rename_i es ep sl e
  rw[Bool.and_eq_true] at h2
  refine ⟨by simpa using h1,_,es,ep,kb _ _ e,⟨rfl,rfl,Array.isEmpty_iff.mp h2.1⟩,rfl,rows_ok h2.2⟩
 ·cases h2
def lkD:List (Str × Int)->Str->V
 | [],_=>.non
 | (x,n)::D,k=>if k=x then .int n else lkD D k
open PyProof.Rows.KTD in
theorem each_lk {h:Heap} {P:Value->Prop} {k:Str} : ∀ {D:List (Str × Int)},(∀ v,RelV (lkD D k) v->P v)->Each h k P (P .none) (D.map fun p=>(p.1,Dat.flat (PyData.int p.2)))
 | [],q=>q _ rfl
 | (x,n)::D,q=>by
  rw[lkD] at q
  show if decide (k=x)=true then Opened h P (.flat (.int n)) else Each h k P (P .none) _
  by_cases e:k=x
  ·rw[if_pos (decide_eq_true e)]
   rw[if_pos e] at q
   exact opened_int fun t=>q _ ⟨t,rfl⟩
  ·rw[if_neg (by simpa using e)]
   rw[if_neg e] at q
   exact each_lk q
def tGGet (D:List (Str × Int)) (ty:TE):TE:=fun σ H Q=>ty σ H fun y H1=>∃ k,y = .str k/\Q (lkD D k) H1
theorem pe_gget {o e : Expr} {apos cpos : Pos} {ty : TE} {a : Addr} {D : List (Str × Int)} (T : NumTab X.base a D) (ho : PE X o (tC (.ref a))) (he : PE X e ty) (m : M1 X o "get" apos e cpos) : PE X (.Call (.Attribute o "get" apos) [e] [] cpos) (tGGet D ty):= by
 intro pins s σ H Q I h
 refine wpAny_Call_method m.base m.few m.line PySem.F.plainAttrs_dict PySem.F.slot_dict_get PySem.F.type_dict_get (thn (ho pins s σ H (fun x H'=>x = .ref a/\H'=H) I ⟨rfl,rfl⟩) fun u s1 ⟨x,H1,I1,rx,ex,eH⟩=>?_)
 subst ex eH
 obtain rfl:u=Value.ref a:=rx
 have hh : ∀ s':Shared,Inv X pins σ H1 s'->PyProof.Rows.KTD.Here X.base s'.heap a (D.map fun p=>(p.1,PyProof.Rows.KTD.Dat.flat (PyData.int p.2))):=fun s' I'=>⟨T,I'.bk⟩
 refine ⟨(hh s1 I1).typeIs,(hh s1 I1).noDict,?_⟩
 rw[m.trees]
 refine Calls.callWith_builtin rfl (Calls.evalArgs_plain (Calls.spliced_cons (thn (he pins s1 σ H1 _ I1 h) fun iv s2 ⟨y,H2,I2,ry,k,ey,q2⟩=>Calls.spliced_nil ?_)))
 subst ey
 obtain ⟨t,rfl⟩:=ry
 have h2:PyProof.Rows.KTD.Here X.base s2.heap a (D.map fun p=>(p.1,PyProof.Rows.KTD.Dat.flat (PyData.int p.2))):=⟨T,I2.bk⟩
 exact PyProof.Rows.KTD.get1_text h2 (each_lk fun v rv=>⟨_,H2,I2.tok _,rv,q2⟩)
end
end L2
namespace L2
open PySem PySem.Spec PyProof.Rows
def gF (l d : Addr) (lo hi : Int) : List (Str × V):=[("labels",.ref l),("unlikes",.ref d),("low",.int lo),("high",.int hi)]
theorem gF_made (l d : Addr) (lo hi : Int) : putF "high" (.int hi) (putF "low" (.int lo) (putF "unlikes" (.ref d) (putF "labels" (.ref l) []))) = gF l d lo hi:= by
 have n1 : ¬ ("labels" : Str) = "unlikes":=by decide +kernel
 have n2 : ¬ ("labels" : Str) = "low":=by decide +kernel
 have n3 : ¬ ("labels" : Str) = "high":=by decide +kernel
 have n4 : ¬ ("unlikes" : Str) = "low":=by decide +kernel
 have n5 : ¬ ("unlikes" : Str) = "high":=by decide +kernel
 have n6 : ¬ ("low" : Str) = "high":=by decide +kernel
 simp only [putF,if_neg n1,if_neg n2,if_neg n3,if_neg n4,if_neg n5,if_neg n6,gF]
theorem gF_low (l d : Addr) (lo hi z : Int) : putF "low" (.int z) (gF l d lo hi) = gF l d z hi:= by
 have n2 : ¬ ("labels" : Str) = "low":=by decide +kernel
 have n4 : ¬ ("unlikes" : Str) = "low":=by decide +kernel
 simp only [gF,putF,if_neg n2,if_neg n4,if_pos]
theorem gF_high (l d : Addr) (lo hi z : Int) : putF "high" (.int z) (gF l d lo hi) = gF l d lo z:= by
 have n3 : ¬ ("labels" : Str) = "high":=by decide +kernel
 have n5 : ¬ ("unlikes" : Str) = "high":=by decide +kernel
 have n6 : ¬ ("low" : Str) = "high":=by decide +kernel
 simp only [gF,putF,if_neg n3,if_neg n5,if_neg n6,if_pos]
theorem gF_labels (l m d : Addr) (lo hi : Int) : putF "labels" (.ref m) (gF l d lo hi) = gF m d lo hi:= by
 simp only [gF,putF,if_pos]
theorem lk_gF (l d : Addr) (lo hi : Int) (x : Str) : (gF l d lo hi).lookup x = if x = "high" then some (.int hi) else if x = "low" then some (.int lo) else if x = "unlikes" then some (.ref d) else if x = "labels" then some (.ref l) else none:= by
 rw[<- gF_made];simp only [lookup_putF,List.lookup_nil]
theorem gF_atL (l d : Addr) (lo hi : Int) : (gF l d lo hi).lookup ("labels" : Str) = some (.ref l):=by rw[lk_gF,if_neg (by decide +kernel),if_neg (by decide +kernel),if_neg (by decide +kernel),if_pos rfl]
theorem gF_atU (l d : Addr) (lo hi : Int) : (gF l d lo hi).lookup ("unlikes" : Str) = some (.ref d):=by rw[lk_gF,if_neg (by decide +kernel),if_neg (by decide +kernel),if_pos rfl]
theorem gF_atLo (l d : Addr) (lo hi : Int) : (gF l d lo hi).lookup ("low" : Str) = some (.int lo):=by rw[lk_gF,if_neg (by decide +kernel),if_pos rfl]
theorem gF_atHi (l d : Addr) (lo hi : Int) : (gF l d lo hi).lookup ("high" : Str) = some (.int hi):=by rw[lk_gF,if_pos rfl]
theorem gF_no (l d : Addr) (lo hi : Int) {m : Str} (h1 : ¬ m = "high") (h2 : ¬ m = "low") (h3 : ¬ m = "unlikes") (h4 : ¬ m = "labels") : (gF l d lo hi).lookup m = none:=by rw[lk_gF,if_neg h1,if_neg h2,if_neg h3,if_neg h4]
structure GiAt (C:Addr) (H:Hp) (x dx l d:Addr) (g:Gst):Prop where
 ob:H x=some (.ins C dx (gF l d g.lo g.hi))
 hl:H l=some (.lst (g.L.map V.int))
 hd:H d=some (.dT (uKv g.U))
theorem GiAt.same {C:Addr} {H H':Hp} {x dx l d:Addr} {g:Gst} (h:GiAt C H x dx l d g) (s:Same H H'):GiAt C H' x dx l d g:=⟨s _ _ h.ob,s _ _ h.hl,s _ _ h.hd⟩
abbrev SyAt (H:Hp):List Addr->List Say->Prop:=Paired fun a s=>H a=some (.tup (sayV s))
theorem SyAt.same {H H':Hp} {as:List Addr} {ss:List Say} (h:SyAt H as ss) (s:Same H H'):SyAt H' as ss:= by
 induction h with
 | nil=>exact .nil
 | cons a _ ih=>exact .cons (s _ _ a) ih
def PapAt (H:Hp):Pap->V->Prop
 | .ring i j,v=>∃ a,v = .ref a /\ H a = some (.tup [.str "ring",.int i,.int j])
 | .counts,v=>∃ a,v = .ref a /\ H a = some (.tup [.str "counts"])
 | .few,v=>∃ a,v = .ref a /\ H a = some (.tup [.str "few"])
 | .many c,v=>∃ a b,v = .ref a /\ H a = some (.tup [.str "many",.ref b]) /\ H b = some (.tup (c.map V.int))
 | .cases i j p q,v=>∃ a v1 v2,v = .ref a /\ H a = some (.tup [.str "cases",.int i,.int j,v1,v2]) /\ PapAt H p v1 /\ PapAt H q v2
theorem PapAt.same {H H':Hp} (s : ∀ a xs,H a=some (.tup xs)->H' a=some (.tup xs)) : ∀ {p:Pap} {v:V},PapAt H p v->PapAt H' p v
 | .ring i j,v,⟨a,e,h⟩=>⟨a,e,s _ _ h⟩
 | .counts,v,⟨a,e,h⟩=>⟨a,e,s _ _ h⟩
 | .few,v,⟨a,e,h⟩=>⟨a,e,s _ _ h⟩
 | .many c,v,⟨a,b,e,h,h2⟩=>⟨a,b,e,s _ _ h,s _ _ h2⟩
 | .cases i j p q,v,⟨a,v1,v2,e,h,h1,h2⟩=>⟨a,v1,v2,e,s _ _ h,PapAt.same s h1,PapAt.same s h2⟩
def prs9:List (List Int):=(rg 9).flatMap fun x=>(rg 9).map fun y=>[x,y]
def hs9:List Int:=[-8458139203682520985,-1950498447580522560,7204814214171964562,-4734289103435588629,1773351652666409796,-3119722376306286570,-1010439003188656273,-5903513032161352639,604127723940645786,-5164621852614943976,8389048192121911274,-3550055125485641917,-1440771752368011620,-6333845781340707986,173794974761290439,-4719279054211405927,-2609995681093775630,3897645075008222795,4685526799349444076,6794810172467074373,1901736143494378007,8409376899596376432,3516302870623680066,-8422800446983873125,-6313517073866242828,7240152970870612422,-4698950346736940769,2248468952609198383,8756109708711196808,3863035679738500442,5972319052856130739,1079245023883434373,7586885779985432798,-4352217537622120393,4803095124130366729,-7136008193477186462,-6348126469135965181,159514286966033244,-9131917124991031250,-2624276368889032825,3883364387212965600,-1009709641759730766,1099573731357899531,-3793500297614796835,2714140458487201590,-3054609118068388172,3453031638033610253,-5838399773923454241,669240982178544184,-4223833046794152182,2283807709307846243,-7007623702649218251,-499982946547219826,6007657809554778599,-5491666964808633865,8062003079928221385,-3877100237679331806,2630540518422666619,-6660890893534397875,-153250137432399450,-5046324166405095816,1461316589696902609,3570599962814532906,4358481687155754187,-7580621630451799004,5973048414285056246,8082331787402686543,3189257758429990177,-8749845559177563014,-2242204803075564589,6913107858676922533,-5025995458930630658,1921423840415508494,8429064596517506919,3535990567544810553,-8403112750062742638,752199911689744484,7259840667791742909,-4679262649815810282,8874407394921044968,-7463053305670876351]
theorem prs9_hs:prs9.map hI=hs9:=by decide +kernel
def ndB:List Int->Bool
 | []=>true
 | a::t=>!(t.any fun b=>b==a)&&ndB t
theorem ndB_ok : ∀ {l:List Int},ndB l=true->l.Nodup
 | [],_=>List.nodup_nil
 | a::t,h=>by
  rw[ndB,Bool.and_eq_true,Bool.not_eq_true',<- Bool.not_eq_true,List.any_eq_true] at h
  exact List.nodup_cons.mpr ⟨fun hm=>h.1 ⟨a,hm,by simp⟩,ndB_ok h.2⟩
theorem hs9_nd:ndB hs9=true:=by decide +kernel
theorem prs9_hash:(prs9.map hI).Nodup:=prs9_hs ▸ ndB_ok hs9_nd
theorem pair_hash {P:Program} {w:World} {U:List (Int × Int)} (hn:U.Nodup) (hu : ∀ p ∈ U,(0<=p.1/\p.1<9)/\(0<=p.2/\p.2<9)):((uKv U).map fun kv=>hT P w kv.1).Nodup:= by
 have e:(uKv U).map (fun kv=>hT P w kv.1)=U.map fun p=>hI [p.1,p.2]:= by
  unfold uKv
  rw[List.map_map]
  refine List.map_congr_left fun p _=>?_
  have e1:pKey p=[p.1,p.2].map Sum.inl:=rfl
  have e2:=hT_int P w [p.1,p.2]
  rw[<- e1] at e2
  rw[Function.comp_apply]
  exact e2
 rw[e]
 unfold List.Nodup
 rw[List.pairwise_map]
 refine hn.imp_of_mem fun {p q} hp hq ne e=>ne ?_
 have mem : ∀ p ∈ U,[p.1,p.2] ∈ prs9:=fun p hp=>by
  unfold prs9
  rw[List.mem_flatMap]
  refine ⟨p.1,?_,?_⟩
  ·rw[mem_rg];exact (hu p hp).1
  ·rw[List.mem_map]
   refine ⟨p.2,?_,rfl⟩
   rw[mem_rg];exact (hu p hp).2
 have:=nodup_on hI prs9_hash (mem p hp) (mem q hq) e
 injection this with a b
 injection b with b _
 exact Prod.ext a b
theorem Gok.uLen {n:Nat} {g:Gst} (h:Gok n g) (h9:n<=9):g.U.length<=81:= by
 have:((rg 9).flatMap fun x=>(rg 9).map fun y=>(x,y)).length=81:=by decide +kernel
 rw[<- this]
 refine sub_lenK h.nd fun p hp=>?_
 obtain ⟨a,b⟩:=h.un p hp
 exact List.mem_flatMap.mpr ⟨p.1,mem_rg.mpr (by omega),List.mem_map.mpr ⟨p.2,mem_rg.mpr (by omega),rfl⟩⟩
theorem Gok.hash {n:Nat} {g:Gst} (h:Gok n g) (h9:n<=9) {P:Program} {w:World}:((uKv g.U).map fun kv=>hT P w kv.1).Nodup:=
 pair_hash h.nd fun p hp=>by have:=h.un p hp;omega
theorem sort2 {a b:Int} {ms:List Int} (hp:ms.Perm [a,b]) (hs:ms.Pairwise (· <= ·)):ms=[min a b,max a b]:= by
 have hl:=hp.length_eq
 match ms,hl with
 | [x,y],_=>
  have hxy:x<=y:=(List.pairwise_cons.mp hs).1 y (by simp)
  have hx:x ∈ [a,b]:=hp.mem_iff.mp (by simp)
  have ha:a ∈ [x,y]:=hp.mem_iff.mpr (by simp)
  have hb:b ∈ [x,y]:=hp.mem_iff.mpr (by simp)
  have hy:y ∈ [a,b]:=hp.mem_iff.mp (by simp)
  simp at hx ha hb hy
  rw[show min a b=x by omega,show max a b=y by omega]
theorem yesI {σ:St} {H:Hp} {A B:Hp->Prop} (h:A H):tYes σ H fun b H3=>if b=true then A H3 else B H3:= by
 show if true=true then A H else B H
 rw[if_pos rfl];exact h
theorem isSome_uKv (W:List (Int × Int)) (p:Int × Int):(valV (uKv W) (pKey p)).isSome=decide (p ∈ W):= by
 rw[valV_uKv]
 by_cases h:p ∈ W
 ·rw[if_pos h,decide_eq_true h];rfl
 ·rw[if_neg h,decide_eq_false h];rfl
theorem in_pair {ta tb td:TE} {σ:St} {H:Hp} {a b:Int} {q:Addr} {W:List (Int × Int)} {N:Bool->Hp->Prop} (ha : ∀ (H:Hp) (Q:VK),Q (.int a) H->ta σ H Q) (hb : ∀ (H:Hp) (Q:VK),Q (.int b) H->tb σ H Q) (hd : ∀ (H:Hp) (Q:VK),Q (.ref q) H->td σ H Q)
  (hq:H q=some (.dT (uKv W))) (h : ∀ H',Same H H'->N (decide ((a,b) ∈ W)) H'):tB (tDIn (tTup (tCons ta (tCons tb tNil))) td) σ H N:= by
 refine ha _ _ (hb _ _ ⟨le_line (by simp),fun c hc=>hd _ _ ⟨q,_,rfl,DGet.t (k:=pKey (a,b)) (by rw[upd_ne (ne_of_none hq hc)];exact hq) upd_same,_,rfl,?_⟩⟩)
 rw[isSome_uKv]
 exact h _ (Same.new hc)
theorem notin_pair {ta tb td:TE} {σ:St} {H:Hp} {a b:Int} {q:Addr} {W:List (Int × Int)} {N:Bool->Hp->Prop} (ha : ∀ (H:Hp) (Q:VK),Q (.int a) H->ta σ H Q) (hb : ∀ (H:Hp) (Q:VK),Q (.int b) H->tb σ H Q) (hd : ∀ (H:Hp) (Q:VK),Q (.ref q) H->td σ H Q)
  (hq:H q=some (.dT (uKv W))) (h : ∀ H',Same H H'->N (!decide ((a,b) ∈ W)) H'):tB (tDNotIn (tTup (tCons ta (tCons tb tNil))) td) σ H N:= by
 refine ha _ _ (hb _ _ ⟨le_line (by simp),fun c hc=>hd _ _ ⟨q,_,rfl,DGet.t (k:=pKey (a,b)) (by rw[upd_ne (ne_of_none hq hc)];exact hq) upd_same,_,rfl,?_⟩⟩)
 rw[isSome_uKv]
 exact h _ (Same.new hc)
theorem for_keysT {o:Obj} {d:Addr} {U:List (Int × Int)} {g:TG} {tb:TS} {D:Ends} {σ:St} {H:Hp} (Pv:Nat->St->Hp->Prop) (h0:Pv 0 σ H) (hl : ∀ i σ H,i<=U.length->Pv i σ H->H d=some (.frz o (.dT (uKv U))))
  (hs : ∀ i p b σ H,U[i]?=some p->Pv i σ H->H b=some (.tup [.int p.1,.int p.2])->g (.ref b) σ H fun σ2 H2=>tb { D with nx:=Pv (i+1),ct:=Pv (i+1),bk:=D.nx } σ2 H2) (hd : ∀ σ H,Pv U.length σ H->D.nx σ H) :
  ∃ W:Nat->Nat->St->Hp->Prop,(∃ m,W 0 m σ H) /\ ∀ i m σ H,W i m σ H ->
   ((IkT o d).stop i H/\D.nx σ H)\/((IkT o d).go i H /\ ∃ N:St->Hp->Prop,(∀ σ' H',N σ' H' -> ∃ m',m'<m/\W (i+1) m' σ' H') /\ ∀ x H',(IkT o d).yld i H x H'->g x σ H' fun σ2 H2=>tb { D with nx:=N,ct:=N,bk:=D.nx } σ2 H2):= by
 refine ⟨fun i m σ H=>m=U.length-i/\i<=U.length/\Pv i σ H,⟨U.length,by simp,Nat.zero_le _,h0⟩,?_⟩
 rintro i m σ H ⟨rfl,hi,p⟩
 have q:=hl i σ H hi p
 by_cases hlt:i<U.length
 ·have hui:U[i]?=some U[i]:=List.getElem?_eq_getElem hlt
  have hki:(uKv U)[i]?=some (pKey U[i],V.bl true):=by unfold uKv;rw[List.getElem?_map,hui];rfl
  refine .inr ⟨⟨_,_,q,hki⟩,Pv (i+1),fun σ' H' p'=>⟨U.length-(i+1),by omega,rfl,hlt,p'⟩,?_⟩
  rintro x H' ⟨b,kk,rfl,rfl,hb,hkk⟩
  obtain ⟨v,hv⟩:=hkk _ q
  rw[hki] at hv
  cases hv
  exact hs i U[i] b σ _ hui p hb
 ·have e:i=U.length:=by omega
  subst e
  exact .inl ⟨⟨_,q,by rw[uKv_length];exact Nat.le_refl _⟩,hd σ H p⟩
abbrev PqAt (H:Hp):List Addr->List (Int × Int)->Prop:=Paired fun a p=>H a=some (.tup [.int p.1,.int p.2])
theorem PqAt.same {H H':Hp} {as:List Addr} {ps:List (Int × Int)} (h:PqAt H as ps) (s:Same H H'):PqAt H' as ps:= by
 induction h with
 | nil=>exact .nil
 | cons a _ ih=>exact .cons (s _ _ a) ih
theorem hole_nt {H:Hp} {P:Addr} {pos:Pos} {q:Str} (h:TabOk H P pos q) {b:Addr} {o:HO} (e:H b=some o) (hn : ∀ ps,o ≠ .tbl ps):hole H P b=some o:= by
 obtain ⟨ps,h1,_⟩:=h
 unfold hole
 rw[if_neg (fun z=>by rw[z,h1] at e;cases e;exact hn _ rfl)];exact e
theorem hole_two {H H1 H2:Hp} {P:Addr} (a:Same (hole H P) H1) (b:Same (hole H1 P) H2):Same (hole H P) H2:=fun c o e=>by
 have hc:c≠P:=fun z=>by unfold hole at e;rw[if_pos z] at e;cases e
 exact b c o (by unfold hole;rw[if_neg hc];exact a c o e)
theorem GiAt.beside {C:Addr} {H H':Hp} {x dx l d:Addr} {g:Gst} {P:Addr} {pos:Pos} {q:Str} (h:GiAt C H x dx l d g) (ht:TabOk H P pos q) (s:Same (hole H P) H'):GiAt C H' x dx l d g:=
 ⟨s _ _ (hole_nt ht h.ob fun _ z=>nomatch z),s _ _ (hole_nt ht h.hl fun _ z=>nomatch z),s _ _ (hole_nt ht h.hd fun _ z=>nomatch z)⟩
theorem PapAt.beside {H H':Hp} {P:Addr} {pos:Pos} {q:Str} {p:Pap} {v:V} (h:PapAt H p v) (ht:TabOk H P pos q) (s:Same (hole H P) H'):PapAt H' p v:=PapAt.same (fun a xs e=>s _ _ (hole_nt ht e fun _ z=>nomatch z)) h
theorem tup_beside {H H':Hp} {P:Addr} {pos:Pos} {q:Str} {a:Addr} {xs:List V} (h:H a=some (.tup xs)) (ht:TabOk H P pos q) (s:Same (hole H P) H'):H' a=some (.tup xs):=s _ _ (hole_nt ht h fun _ z=>nomatch z)
theorem SyAt.beside {H H':Hp} {P:Addr} {pos:Pos} {q:Str} {as:List Addr} {ss:List Say} (h:SyAt H as ss) (ht:TabOk H P pos q) (s:Same (hole H P) H'):SyAt H' as ss:=L2.Paired.mapP h fun _ _ z=>tup_beside z ht s
theorem same_hole {H H':Hp} {P:Addr} (s:Same H H'):Same (hole H P) H':=(hole_le H P).trans s
theorem open_nil {n:Nat} {g:Gst} (h:openPs n g=[]):(homesN n g.L).Pairwise fun a b=>(a,b) ∈ wallsL g.L g.U:= by
 refine (homes_lt n g.L).imp_of_mem fun {a b} ha hb hab=>?_
 by_cases hw:(a,b) ∈ wallsL g.L g.U
 ·exact hw
 ·have:(a,b) ∈ openPs n g:=mem_open.mpr ⟨ha,hb,hab,hw⟩
  rw[h] at this;cases this
end L2
namespace L2
open PySem PySem.Spec PyProof.Rows
def alPs (ss:List Say):List (Nat × Nat):=ss.filterMap fun s=>match s with | .pair false i j=>some (i.toNat,j.toNat) | _=>none
def unPs (ss:List Say):List (Int × Int):=ss.filterMap fun s=>match s with | .pair true i j=>some (i,j) | _=>none
def lsts (ss:List Say):List Int:=ss.filterMap fun s=>match s with | .cnt false k=>some k | _=>none
def msts (ss:List Say):List Int:=ss.filterMap fun s=>match s with | .cnt true k=>some k | _=>none
theorem alPs_ok {n:Nat} {ss:List Say} (hs : ∀ s ∈ ss,sayOk n s) : ∀ p ∈ alPs ss,p.1<n/\p.2<n:=fun p hp=>by
 obtain ⟨s,hm,e⟩:=List.mem_filterMap.mp hp
 have h:=hs s hm
 cases s with
 | cnt m k=>cases e
 | pair u i j=>
  cases u
  ·cases e
   obtain ⟨i0,i1,j0,j1,_⟩:=h
   exact ⟨by omega,by omega⟩
  ·cases e
theorem lab_least {n:Nat} {w:Nat->Int} : ∀ (ss:List Say) (g:Gst),Gok n g->(∀ s ∈ ss,sayOk n s) ->
  ((∀ x y,x<n->y<n->(ss.foldl Gst.take g).L.getD x 0=(ss.foldl Gst.take g).L.getD y 0->w x=w y) ↔ (∀ x y,x<n->y<n->g.L.getD x 0=g.L.getD y 0->w x=w y) /\ ∀ p ∈ alPs ss,w p.1=w p.2)
 | [],g,h,hs=>⟨fun a=>⟨a,fun p hp=>by simp [alPs] at hp⟩,fun a=>a.1⟩
 | s::ss,g,h,hs=>by
  have h1:=hs s List.mem_cons_self
  rw[List.foldl_cons,lab_least ss _ (h.take h1) fun t ht=>hs t (List.mem_cons_of_mem _ ht)]
  cases s with
  | cnt m k=>cases m <;> exact Iff.rfl
  | pair u i j=>
   cases u
   ·obtain ⟨i0,i1,j0,j1,_⟩:=h1
    have M:=merge_al (L:=g.L) (w:=w) h.len (show i.toNat<n by omega) (show j.toNat<n by omega)
    constructor
    ·rintro ⟨a,b⟩
     obtain ⟨a1,a2⟩:=M.mp a
     exact ⟨a1,fun p hp=>(List.mem_cons.mp hp).elim (fun e=>by rw[e];exact a2) (b p)⟩
    ·rintro ⟨a,b⟩
     exact ⟨M.mpr ⟨a,b (i.toNat,j.toNat) List.mem_cons_self⟩,fun p hp=>b p (List.mem_cons_of_mem _ hp)⟩
   ·exact Iff.rfl
theorem rg_inj {n i j:Nat} (hi:i<n) (hj:j<n) (e:(rg n).getD i 0=(rg n).getD j 0):i=j:= by
 rw[rg_at hi,rg_at hj] at e;omega
theorem lnk_pat {n:Nat} {ss:List Say} (h1:1<=n) (hs : ∀ s ∈ ss,sayOk n s) {i j:Nat} (hi:i<n) (hj:j<n) :
  (mgs (rg n) (alPs ss)).getD i 0=(mgs (rg n) (alPs ss)).getD j 0 ↔ (gistOf n ss).L.getD i 0=(gistOf n ss).L.getD j 0:= by
 have ok:=alPs_ok hs
 have ok' : ∀ p ∈ alPs ss,p.1<(rg n).length/\p.2<(rg n).length:=fun p hp=>by rw[rg_length];exact ok p hp
 constructor
 ·intro e
  have L:=(lab_least (w:=fun x=>(gistOf n ss).L.getD x 0) ss _ (gok0 h1) hs).mp (fun x y _ _ e=>e)
  exact mgs_least (alPs ss) (L:=rg n) (g:=fun x=>(gistOf n ss).L.getD x 0) ok' (fun x y hx hy e=>by rw[rg_length] at hx hy;rw[rg_inj hx hy e]) L.2 i j (by rw[rg_length];exact hi) (by rw[rg_length];exact hj) e
 ·intro e
  exact (lab_least (w:=fun x=>(mgs (rg n) (alPs ss)).getD x 0) ss _ (gok0 h1) hs).mpr ⟨fun x y hx hy e=>by rw[rg_inj hx hy e],mgs_pairs (alPs ss) ok'⟩ i j hi hj e
theorem lnk_row {n:Nat} {ss:List Say} (h1:1<=n) (hs : ∀ s ∈ ss,sayOk n s):numRow (mgs (rg n) (alPs ss))=numRow (gistOf n ss).L:=
 pat_numRow n _ _ (by rw[mgs_length,rg_length]) (gok_of h1 hs).len fun i j hi hj=>lnk_pat h1 hs hi hj
theorem lo_max {n:Nat} (ss:List Say):IsMax (1::lsts ss) (gistOf n ss).lo:= by
 refine snoc_ind (P:=fun ss=>IsMax (1::lsts ss) (gistOf n ss).lo) ?_ (fun ss s ih=>?_) ss
 ·exact ⟨List.mem_cons_self,fun x hx=>by simp [lsts] at hx;rw[hx];exact Int.le_refl _⟩
 ·rw[gistOf_snoc]
  unfold lsts
  rw[List.filterMap_append,<- List.cons_append]
  obtain ⟨m1,m2⟩:=ih
  have same : ∀ (l':List Int),l'=[]->IsMax (1::lsts ss++l') (gistOf n ss).lo:=fun l' e=>by rw[e,List.append_nil];exact ⟨m1,m2⟩
  cases s with
  | pair u i j=>cases u <;> exact same _ rfl
  | cnt m k=>
   cases m
   ·show IsMax (1::lsts ss++[k]) (max (gistOf n ss).lo k)
    refine ⟨?_,fun x hx=>?_⟩
    ·rcases Int.le_total (gistOf n ss).lo k with e | e
     ·rw[show max (gistOf n ss).lo k=k by omega];exact List.mem_append_right _ (List.mem_singleton.mpr rfl)
     ·rw[show max (gistOf n ss).lo k=(gistOf n ss).lo by omega];exact List.mem_append_left _ m1
    ·rcases List.mem_append.mp hx with hx | hx
     ·have:=m2 x hx;omega
     ·rw[List.mem_singleton.mp hx];omega
   ·exact same _ rfl
theorem hi_min {n:Nat} (ss:List Say):IsMin ((n:Int)::msts ss) (gistOf n ss).hi:= by
 refine snoc_ind (P:=fun ss=>IsMin ((n:Int)::msts ss) (gistOf n ss).hi) ?_ (fun ss s ih=>?_) ss
 ·exact ⟨List.mem_cons_self,fun x hx=>by simp [msts] at hx;rw[hx];exact Int.le_refl _⟩
 ·rw[gistOf_snoc]
  unfold msts
  rw[List.filterMap_append,<- List.cons_append]
  obtain ⟨m1,m2⟩:=ih
  have same : ∀ (l':List Int),l'=[]->IsMin ((n:Int)::msts ss++l') (gistOf n ss).hi:=fun l' e=>by rw[e,List.append_nil];exact ⟨m1,m2⟩
  cases s with
  | pair u i j=>cases u <;> exact same _ rfl
  | cnt m k=>
   cases m
   ·exact same _ rfl
   ·show IsMin ((n:Int)::msts ss++[k]) (min (gistOf n ss).hi k)
    refine ⟨?_,fun x hx=>?_⟩
    ·rcases Int.le_total (gistOf n ss).hi k with e | e
     ·rw[show min (gistOf n ss).hi k=(gistOf n ss).hi by omega];exact List.mem_append_left _ m1
     ·rw[show min (gistOf n ss).hi k=k by omega];exact List.mem_append_right _ (List.mem_singleton.mpr rfl)
    ·rcases List.mem_append.mp hx with hx | hx
     ·have:=m2 x hx;omega
     ·rw[List.mem_singleton.mp hx];omega
theorem IsMin.uniq {l:List Int} {m n:Int} (h:IsMin l m) (h':IsMin l n):m=n:=Int.le_antisymm (h.2 n h'.1) (h'.2 m h.1)
theorem mem_U {n:Nat} {ss:List Say} {p:Int × Int}:p ∈ (gistOf n ss).U ↔ p ∈ unPs ss\/(p.2,p.1) ∈ unPs ss:= by
 refine snoc_ind (P:=fun ss=>p ∈ (gistOf n ss).U ↔ p ∈ unPs ss\/(p.2,p.1) ∈ unPs ss) ?_ (fun ss s ih=>?_) ss
 ·exact ⟨fun h=>by simp [gistOf,gist0] at h,fun h=>by simp [unPs] at h⟩
 ·rw[gistOf_snoc]
  have e0 : ∀ q,q ∈ unPs (ss++[s]) ↔ q ∈ unPs ss\/q ∈ unPs [s]:=fun q=>by unfold unPs;rw[List.filterMap_append,List.mem_append]
  rw[e0,e0]
  have same:unPs [s]=[]->(p ∈ (gistOf n ss).U ↔ (p ∈ unPs ss\/p ∈ unPs [s])\/(p.2,p.1) ∈ unPs ss\/(p.2,p.1) ∈ unPs [s]):=fun e=>by rw[e,ih];simp
  cases s with
  | cnt m k=>cases m <;> exact same rfl
  | pair u i j=>
   cases u
   ·exact same rfl
   ·show p ∈ putP (putP (gistOf n ss).U (i,j)) (j,i) ↔ _
    rw[mem_putP,mem_putP,ih,show unPs [.pair true i j]=[(i,j)] from rfl,List.mem_singleton,List.mem_singleton]
    obtain ⟨a,b⟩:=p
    simp only [Prod.mk.injEq]
    constructor
    ·rintro (((h | h) | h) | h)
     ·exact .inl (.inl h)
     ·exact .inr (.inl h)
     ·exact .inl (.inr h)
     ·exact .inr (.inr ⟨h.2,h.1⟩)
    ·rintro ((h | h) | (h | h))
     ·exact .inl (.inl (.inl h))
     ·exact .inl (.inr h)
     ·exact .inl (.inl (.inr h))
     ·exact .inr ⟨h.2,h.1⟩
theorem mem_unPs {ss:List Say} {i j:Int}:(i,j) ∈ unPs ss ↔ Say.pair true i j ∈ ss:= by
 unfold unPs
 rw[List.mem_filterMap]
 constructor
 ·rintro ⟨s,hs,e⟩
  cases s with
  | cnt m k=>cases e
  | pair u a b=>
   cases u
   ·cases e
   ·cases e;exact hs
 ·exact fun h=>⟨_,h,rfl⟩
theorem unPs_ok {n:Nat} {ss:List Say} (hs : ∀ s ∈ ss,sayOk n s) : ∀ p ∈ unPs ss,(0<=p.1/\p.1<n)/\(0<=p.2/\p.2<n):=fun p hp=>by
 obtain ⟨i0,i1,j0,j1,_⟩:=hs _ (mem_unPs (i:=p.1) (j:=p.2).mp hp)
 exact ⟨⟨i0,i1⟩,j0,j1⟩
def endsR (R:List Int) (ss:List Say):List (Int × Int):=(unPs ss).map fun p=>(gat R p.1,gat R p.2)
theorem num_gat {n:Nat} {g:Gst} (h:Gok n g) {a b:Int} (ha:0<=a/\a<n) (hb:0<=b/\b<n):gat (numRow g.L) a=gat (numRow g.L) b ↔ gat g.L a=gat g.L b:=
 numRow_pat (by rw[h.len];omega) (by rw[h.len];omega)
theorem apart_iff {n:Nat} {ss:List Say} (h1:1<=n) (hs : ∀ s ∈ ss,sayOk n s) {a b:Int} (ha:0<=a/\a<n) (hb:0<=b/\b<n) :
  ((gat (numRow (gistOf n ss).L) a,gat (numRow (gistOf n ss).L) b) ∈ endsR (numRow (gistOf n ss).L) ss\/(gat (numRow (gistOf n ss).L) b,gat (numRow (gistOf n ss).L) a) ∈ endsR (numRow (gistOf n ss).L) ss) ↔ (gat (gistOf n ss).L a,gat (gistOf n ss).L b) ∈ wallsL (gistOf n ss).L (gistOf n ss).U:= by
 have hg:=gok_of h1 hs
 have key : ∀ {a b:Int},0<=a/\a<n->0<=b/\b<n->((gat (numRow (gistOf n ss).L) a,gat (numRow (gistOf n ss).L) b) ∈ endsR (numRow (gistOf n ss).L) ss ↔ ∃ p ∈ unPs ss,gat (gistOf n ss).L a=gat (gistOf n ss).L p.1/\gat (gistOf n ss).L b=gat (gistOf n ss).L p.2):=fun {a b} ha hb=>by
  unfold endsR
  rw[List.mem_map]
  constructor
  ·rintro ⟨p,hp,e⟩
   obtain ⟨u1,u2⟩:=unPs_ok hs p hp
   have e1:=congrArg Prod.fst e
   have e2:=congrArg Prod.snd e
   exact ⟨p,hp,((num_gat hg u1 ha).mp e1).symm,((num_gat hg u2 hb).mp e2).symm⟩
  ·rintro ⟨p,hp,e1,e2⟩
   obtain ⟨u1,u2⟩:=unPs_ok hs p hp
   refine ⟨p,hp,?_⟩
   rw[(num_gat hg u1 ha).mpr e1.symm,(num_gat hg u2 hb).mpr e2.symm]
 rw[key ha hb,key hb ha,mem_walls]
 constructor
 ·rintro (⟨p,hp,e1,e2⟩ | ⟨p,hp,e1,e2⟩)
  ·exact ⟨p,mem_U.mpr (.inl hp),by rw[e1,e2]⟩
  ·exact ⟨(p.2,p.1),mem_U.mpr (.inr hp),by rw[e1,e2]⟩
 ·rintro ⟨p,hp,e⟩
  have e1:gat (gistOf n ss).L a=gat (gistOf n ss).L p.1:=congrArg Prod.fst e
  have e2:gat (gistOf n ss).L b=gat (gistOf n ss).L p.2:=congrArg Prod.snd e
  rcases mem_U.mp hp with hp | hp
  ·exact .inl ⟨p,hp,e1,e2⟩
  ·exact .inr ⟨(p.2,p.1),hp,e2,e1⟩
def fitsB (w:List Int):Say->Bool
 | .pair false i j=>decide (gat w i=gat w j)
 | .pair true i j=>!decide (gat w i=gat w j)
 | .cnt false k=>decide (k<=fresh 0 w)
 | .cnt true k=>decide (fresh 0 w<=k)
theorem fitsB_iff (w:List Int) (s:Say):fitsB w s=true ↔ fitsS w s:= by
 cases s with
 | pair u i j=>cases u <;> simp [fitsB,fitsS]
 | cnt m k=>cases m <;> simp [fitsB,fitsS]
def papD:Pap->Nat
 | .cases _ _ p q=>max (papD p) (papD q)+1
 | _=>0
def sayD:Say->Dd
 | .pair u i j=>.tup [.str (if u then "unlike" else "alike"),.int i,.int j]
 | .cnt m k=>.tup [.str (if m then "most" else "least"),.int k]
theorem dat_say {K:PySem.W.Frag} {H:Hp} {a:Addr} {s:Say} (h:H a=some (.tup (sayV s))):DAt K H (sayD s) (.ref a):= by
 cases s with
 | pair u i j=>
  rw[sayD,DAt]
  refine ⟨a,_,rfl,SqT.of h,?_⟩
  simp only [sayV,DAts,DAt]
  exact ⟨_,_,rfl,rfl,_,_,rfl,rfl,_,_,rfl,rfl,rfl⟩
 | cnt m k=>
  rw[sayD,DAt]
  refine ⟨a,_,rfl,SqT.of h,?_⟩
  simp only [sayV,DAts,DAt]
  exact ⟨_,_,rfl,rfl,_,_,rfl,rfl,rfl⟩
theorem dats_say {K:PySem.W.Frag} {H:Hp} : ∀ {as:List Addr} {ss:List Say},SyAt H as ss->DAts K H (ss.map sayD) (as.map V.ref)
 | _,_,.nil=>by rw[List.map_nil,List.map_nil,DAts]
 | _,_,.cons h t=>by
  rw[List.map_cons,List.map_cons,DAts]
  exact ⟨_,_,rfl,dat_say h,dats_say t⟩
theorem dat_says {K:PySem.W.Frag} {H:Hp} {b:Addr} {as:List Addr} {ss:List Say} (hb:SqL K H b (as.map V.ref)) (h:SyAt H as ss):DAt K H (.lst (ss.map sayD)) (.ref b):= by
 rw[DAt];exact ⟨b,_,rfl,hb,dats_say h⟩
theorem depD_say (s:Say):depD (sayD s)<=1:= by
 cases s <;> simp [sayD,depD,depDs]
theorem depDs_say : ∀ ss:List Say,depDs (ss.map sayD)<=1
 | []=>by simp [depDs]
 | s::ss=>by
  rw[List.map_cons,depDs]
  have:=depD_say s
  have:=depDs_say ss
  omega
theorem eqD_say (s t:Say):eqD (sayD s) (sayD t)=decide (s=t):= by
 have n1 : ¬ ("unlike" : Str) = "alike":=by decide +kernel
 have n2 : ¬ ("alike" : Str) = "unlike":=by decide +kernel
 have n3 : ¬ ("most" : Str) = "least":=by decide +kernel
 have n4 : ¬ ("least" : Str) = "most":=by decide +kernel
 have n5 : ∀ u m : Bool,¬ (if u = true then ("unlike" : Str) else "alike") = (if m = true then "most" else "least"):=by decide +kernel
 cases s with
 | pair u i j=>
  cases t with
  | pair u' i' j'=>
   cases u <;> cases u' <;> simp [sayD,eqD,eqDs,n1,n2] <;> rfl
  | cnt m k=>cases u <;> cases m <;> simp [sayD,eqD,eqDs]
 | cnt m k=>
  cases t with
  | pair u i j=>cases u <;> cases m <;> simp [sayD,eqD,eqDs]
  | cnt m' k'=>cases m <;> cases m' <;> simp [sayD,eqD,eqDs,n3,n4] <;> rfl
theorem any_say (ss:List Say) (t:Say):(ss.map sayD).any (fun e=>eqD e (sayD t))=decide (t ∈ ss):= by
 rw[List.any_map,Bool.eq_iff_iff,List.any_eq_true,decide_eq_true_iff]
 constructor
 ·rintro ⟨s,hs,e⟩
  have e:eqD (sayD s) (sayD t)=true:=e
  rw[eqD_say,decide_eq_true_iff] at e
  rw[<- e];exact hs
 ·exact fun h=>⟨t,h,by show eqD (sayD t) (sayD t)=true;rw[eqD_say];simp⟩
theorem alPs_snoc (ss:List Say) (s:Say):alPs (ss++[s])=alPs ss++alPs [s]:=by unfold alPs;rw[List.filterMap_append]
theorem unPs_snoc (ss:List Say) (s:Say):unPs (ss++[s])=unPs ss++unPs [s]:=by unfold unPs;rw[List.filterMap_append]
theorem lsts_snoc (ss:List Say) (s:Say):lsts (ss++[s])=lsts ss++lsts [s]:=by unfold lsts;rw[List.filterMap_append]
theorem msts_snoc (ss:List Say) (s:Say):msts (ss++[s])=msts ss++msts [s]:=by unfold msts;rw[List.filterMap_append]
theorem lsts_len (ss:List Say):(lsts ss).length<=ss.length:=List.length_filterMap_le _ _
theorem msts_len (ss:List Say):(msts ss).length<=ss.length:=List.length_filterMap_le _ _
theorem alPs_len (ss:List Say):(alPs ss).length<=ss.length:=List.length_filterMap_le _ _
theorem unPs_len (ss:List Say):(unPs ss).length<=ss.length:=List.length_filterMap_le _ _
def prD (p:Int × Int):Dd:=.tup [.int p.1,.int p.2]
theorem dat_pr {K:PySem.W.Frag} {H:Hp} {a:Addr} {p:Int × Int} (h:H a=some (.tup [.int p.1,.int p.2])):DAt K H (prD p) (.ref a):= by
 rw[prD,DAt]
 refine ⟨a,_,rfl,SqT.of h,?_⟩
 simp only [DAts,DAt]
 exact ⟨_,_,rfl,rfl,_,_,rfl,rfl,rfl⟩
theorem dats_pr {K:PySem.W.Frag} {H:Hp} : ∀ {as:List Addr} {ps:List (Int × Int)},PqAt H as ps->DAts K H (ps.map prD) (as.map V.ref)
 | _,_,.nil=>by rw[List.map_nil,List.map_nil,DAts]
 | _,_,.cons h t=>by
  rw[List.map_cons,List.map_cons,DAts]
  exact ⟨_,_,rfl,dat_pr h,dats_pr t⟩
theorem depDs_pr : ∀ ps:List (Int × Int),depDs (ps.map prD)<=1
 | []=>by simp [depDs]
 | p::ps=>by
  rw[List.map_cons,depDs]
  have h1:depD (prD p)<=1:=by simp [prD,depD,depDs]
  have:=depDs_pr ps
  omega
theorem any_pr (ps:List (Int × Int)) (q:Int × Int):(ps.map prD).any (fun e=>eqD e (prD q))=decide (q ∈ ps):= by
 rw[List.any_map,Bool.eq_iff_iff,List.any_eq_true,decide_eq_true_iff]
 have e0 : ∀ p:Int × Int,eqD (prD p) (prD q)=true ↔ p=q:=fun p=>by
  obtain ⟨a,b⟩:=p
  obtain ⟨c,d⟩:=q
  simp [prD,eqD,eqDs]
 constructor
 ·rintro ⟨s,hs,e⟩
  rw[<- (e0 s).mp e];exact hs
 ·exact fun h=>⟨q,h,(e0 q).mpr rfl⟩
end L2
set_option maxHeartbeats 4000000
local macro_rules | `(tactic| trivial)=>`(tactic| exact ⟨rfl,rfl,rfl,by decide +kernel,rfl,by decide +kernel,by decide +kernel⟩)
namespace Lw
open PySem L2
def top (i:Nat):Stmt:=PySem.Challenge.pw_censers_k34_whole_a_way_or_a_paper.main.body.getD i (.Pass ⟨0,0,0,0⟩)
abbrev s_law_draw:Stmt:=top 26
abbrev s_law_cell:Stmt:=top 27
abbrev s_law_many:Stmt:=top 28
abbrev scheck_many:Stmt:=top 8
abbrev scheck_censer:Stmt:=top 9
abbrev sway_of:Stmt:=top 10
abbrev srelabelled:Stmt:=top 11
abbrev scheck_saying:Stmt:=top 14
abbrev sGist___init__:Stmt:=inClass (top 15) 0
abbrev sGist_take:Stmt:=inClass (top 15) 1
abbrev sGist_longer:Stmt:=inClass (top 15) 2
abbrev sGist_homes:Stmt:=inClass (top 15) 3
abbrev sGist_walls:Stmt:=inClass (top 15) 4
abbrev sgist_of:Stmt:=top 16
abbrev schecked_gist:Stmt:=top 18
abbrev scrowd:Stmt:=top 19
abbrev splain_paper:Stmt:=top 20
abbrev sapart_from_both:Stmt:=top 21
abbrev sopen_pair:Stmt:=top 22
abbrev ssettle:Stmt:=top 23
abbrev ssettled:Stmt:=top 24
abbrev s_law_num:Stmt:=top 29
abbrev s_law_row_ok:Stmt:=top 30
abbrev s_law_way_ok:Stmt:=top 31
abbrev s_law_pairs:Stmt:=top 32
abbrev s_law_number_row:Stmt:=top 33
abbrev s_law_linked:Stmt:=top 34
abbrev s_law_saying:Stmt:=top 35
abbrev s_law_fits:Stmt:=top 36
abbrev s_law_fits_all:Stmt:=top 37
abbrev s_law_links:Stmt:=top 38
abbrev s_law_least:Stmt:=top 39
abbrev s_law_most:Stmt:=top 40
abbrev s_law_apart:Stmt:=top 41
abbrev s_law_two:Stmt:=top 42
abbrev s_law_crowd_ok:Stmt:=top 43
abbrev s_law_paper_ok:Stmt:=top 44
abbrev s_law_settled_ok:Stmt:=top 45
abbrev s_law_said_list:Stmt:=top 46
abbrev s_law_size_some:Stmt:=top 47
abbrev s_law_asked:Stmt:=top 48
abbrev slaw:Stmt:=top 49
structure Bs (mg:Str->Option Value):Prop where
 all : mg "all" = none
 bool : mg "bool" = none
 dict : mg "dict" = none
 enumerate : mg "enumerate" = none
 int : mg "int" = none
 isinstance : mg "isinstance" = none
 len : mg "len" = none
 list : mg "list" = none
 max : mg "max" = none
 min : mg "min" = none
 range : mg "range" = none
 set : mg "set" = none
 sorted : mg "sorted" = none
 str : mg "str" = none
 sum : mg "sum" = none
 tuple : mg "tuple" = none
structure Gs (mg:Str->Option Value):Prop where
 yes:True
 MOST_CENSERS : ∃ t,mg "MOST_CENSERS" = some (.int 9 t)
theorem paired_get {α β:Type} {R:α->β->Prop} : ∀ {l1:List α} {l2:List β} {j:Nat} {a:α},Paired R l1 l2->l1[j]?=some a -> ∃ b,R a b/\l2[j]?=some b
 | _,_,_,_,.nil,h=>by simp at h
 | _,_,0,_,.cons r t,h=>by simp at h;subst h;exact ⟨_,r,rfl⟩
 | _,_,j+1,_,.cons r t,h=>by
  obtain ⟨b,q,e⟩:=paired_get (j:=j) t (by simpa using h)
  exact ⟨b,q,by simpa using e⟩
theorem paired_app {α β:Type} {R:α->β->Prop} : ∀ {l1:List α} {l2:List β} {k1:List α} {k2:List β},Paired R l1 l2->Paired R k1 k2->Paired R (l1++k1) (l2++k2)
 | _,_,_,_,.nil,h=>h
 | _,_,_,_,.cons r t,h=>.cons r (paired_app t h)
def spWayOfG (K:PySem.W.Frag):Sp:=fun vs H Q _=>∃ (a:Addr) (ns:List Int),vs=[.ref a]/\SqL K H a (ns.map V.int)/\1<=ns.length/\ns.length<=9 /\ ∀ (p:Addr) (H':Hp),H p=none->Same H H'->H' p=some (.tup ((numRow ns).map V.int))->Q (.ref p) H'
def spRelab (K:PySem.W.Frag):Sp:=fun vs H Q _=>∃ (a:Addr) (L:List Int) (o n:Int),vs=[.ref a,.int o,.int n]/\SqL K H a (L.map V.int)/\L.length<=900 /\ ∀ (p:Addr) (H':Hp),H p=none->Same H H'->H' p=some (.lst ((relab L o n).map V.int))->Q (.ref p) H'
abbrev lq34 : Str:=(("open_pair" : Str) ++ ".<locals>.") ++ "<lambda>"
def spCM0:Sp:=fun vs H Q _=>∃ n:Int,vs=[.int n]/\1<=n/\n<=9/\Q .non H
def spCC0:Sp:=fun vs H Q _=>∃ n i:Int,vs=[.int n,.int i]/\0<=i/\i<n/\Q .non H
def spCS0 (K:PySem.W.Frag):Sp:=fun vs H Q _=>∃ (n:Int) (a:Addr) (s:Say),vs=[.int n,.ref a]/\H a=some (.tup (sayV s))/\sayOk n s/\Q .non H
def spGI (K:PySem.W.Frag) (C:Addr):Sp:=fun vs H Q _=>∃ (x dx l d:Addr) (lo hi:Int),vs=[.ref x,.ref l,.ref d,.int lo,.int hi]/\H x=some (.ins C dx []) /\ ∀ H',H' x=some (.ins C dx (gF l d lo hi))->FrP H H' x->Q .non H'
def spTK (K:PySem.W.Frag) (C:Addr):Sp:=fun vs H Q _=>∃ (x dx l d a:Addr) (g:Gst) (n:Nat) (s:Say),vs=[.ref x,.ref a]/\GiAt C H x dx l d g/\H a=some (.tup (sayV s))/\Gok n g/\sayOk n s/\n<=9 /\ ∀ (m:Addr) (H':Hp),GiAt C H' x dx m d (g.take s)->FrL [x,d] H H'->Q .non H'
def spLO (K:PySem.W.Frag) (C:Addr):Sp:=fun vs H Q _=>∃ (x dx l d a:Addr) (g:Gst) (n:Nat) (s:Say),vs=[.ref x,.ref a]/\GiAt C H x dx l d g/\H a=some (.tup (sayV s))/\Gok n g/\sayOk n s/\n<=9 /\ ∀ (y dy m e:Addr) (H':Hp),Same H H'->GiAt C H' y dy m e (g.take s)->Q (.ref y) H'
def spHO (K:PySem.W.Frag) (C:Addr):Sp:=fun vs H Q _=>∃ (x dx l d:Addr) (g:Gst) (n:Nat),vs=[.ref x]/\GiAt C H x dx l d g/\Gok n g/\n<=9 /\ ∀ (p:Addr) (H':Hp),Same H H'->H' p=some (.lst ((homesN n g.L).map V.int))->Q (.ref p) H'
def spWA (K:PySem.W.Frag) (C:Addr):Sp:=fun vs H Q _=>∃ (x dx l d:Addr) (g:Gst) (n:Nat),vs=[.ref x]/\GiAt C H x dx l d g/\Gok n g/\n<=9 /\ ∀ (p:Addr) (H':Hp),Same H H'->H' p=some (.dT (uKv (wallsL g.L g.U)))->Q (.ref p) H'
def spGO (K:PySem.W.Frag) (C:Addr):Sp:=fun vs H Q _=>∃ (n:Nat) (b:Addr) (as:List Addr) (ss:List Say),vs=[.int n,.ref b]/\1<=n/\n<=9/\SqL K H b (as.map V.ref)/\SyAt H as ss/\(∀ s ∈ ss,sayOk n s)/\ss.length<=1000 /\ ∀ (x dx l d:Addr) (H':Hp),Same H H'->GiAt C H' x dx l d (gistOf n ss)->Q (.ref x) H'
def spCR (K:PySem.W.Frag) (dd:Nat):Sp:=fun vs H Q _=>0<dd /\ ∃ (p q:Addr) (hs:List Int) (W:List (Int × Int)) (s:Nat),vs=[.ref p,.ref q,.int s]/\H p=some (.lst (hs.map V.int))/\H q=some (.dT (uKv W))/\s<dd/\hs.length<=9/\(∀ H',Same H H'->(hs.Pairwise (fun a b=>(a,b) ∈ W)->hs.length<s)->Q .non H') /\ ∀ (r:Addr) (xs:List Int) (H':Hp),Same H H'->H' r=some (.lst (xs.map V.int))->xs.Sublist hs->xs.length=s->xs.Pairwise (fun a b=>(a,b) ∈ W)->Q (.ref r) H'
def spPP (K:PySem.W.Frag) (C:Addr):Sp:=fun vs H Q _=>∃ (x dx l d:Addr) (g:Gst) (n:Nat),vs=[.ref x]/\GiAt C H x dx l d g/\Gok n g/\1<=n/\n<=9/\(∀ H',Same H H'->(∀ p ∈ g.U,gat g.L p.1≠gat g.L p.2)->g.lo<=(homesN n g.L).length->((homesN n g.L).Pairwise (fun a b=>(a,b) ∈ wallsL g.L g.U)->((homesN n g.L).length:Int)<=g.hi)->Q .non H') /\ ∀ (p:Pap) (v:V) (H':Hp),Same H H'->PapAt H' p v->PapOk n g p->papD p=0->Q v H'
def apB (hs:List Int) (W:List (Int × Int)) (a b:Int):Nat:=(hs.filter fun h=>decide ((a,h) ∈ W)&&decide ((b,h) ∈ W)).length
def spAB (K:PySem.W.Frag):Sp:=fun vs H Q _=>∃ (p q:Addr) (hs:List Int) (W:List (Int × Int)) (a b:Int),vs=[.ref p,.ref q,.int a,.int b]/\SqL K H p (hs.map V.int)/\H q=some (.dT (uKv W))/\hs.length<=9 /\ ∀ H',Same H H'->Q (.int (apB hs W a b)) H'
def spOP (K:PySem.W.Frag) (C PT:Addr):Sp:=fun vs H Q _=>∃ (x dx l d:Addr) (g:Gst) (n:Nat),vs=[.ref x]/\GiAt C H x dx l d g/\Gok n g/\n<=9/\openPs n g≠[]/\TabOk H PT ⟨113,26,113,86⟩ lq34 /\ ∀ (t:Addr) (q:Int × Int) (H':Hp),Same (hole H PT) H'->TabOk H' PT ⟨113,26,113,86⟩ lq34->H' t=some (.tup [.int q.1,.int q.2])->q ∈ openPs n g->Q (.ref t) H'
def spSE (K : PySem.W.Frag) (C PT : Addr) (dd : Nat) : Sp:=fun vs H Q _=>0 < dd /\ ∃ (x dx l d : Addr) (g : Gst) (n : Nat),vs = [.ref x] /\ GiAt C H x dx l d g /\ Gok n g /\ 1 <= n /\ n <= 9 /\ (openPs n g).length < dd /\ TabOk H PT ⟨113,26,113,86⟩ lq34 /\ (∀ (t a : Addr) (w : List Int) (H' : Hp),Same (hole H PT) H' -> TabOk H' PT ⟨113,26,113,86⟩ lq34 -> H' t = some (.tup [.str "way",.ref a]) -> H' a = some (.tup (w.map V.int)) -> isWay w = true -> w.length = n -> fitsG n g w -> Q (.ref t) H') /\ ∀ (t : Addr) (v : V) (p : Pap) (H' : Hp),Same (hole H PT) H' -> TabOk H' PT ⟨113,26,113,86⟩ lq34 -> H' t = some (.tup [.str "none",v]) -> PapAt H' p v -> PapOk n g p -> papD p <= (openPs n g).length -> Q (.ref t) H'
def spST (K : PySem.W.Frag) (PT : Addr) : Sp:=fun vs H Q _=>∃ (n : Nat) (b : Addr) (as : List Addr) (ss : List Say),vs = [.int n,.ref b] /\ 1 <= n /\ n <= 9 /\ SqL K H b (as.map V.ref) /\ SyAt H as ss /\ (∀ s ∈ ss,sayOk n s) /\ ss.length <= 1000 /\ TabOk H PT ⟨113,26,113,86⟩ lq34 /\ (∀ (t a : Addr) (w : List Int) (H' : Hp),Same (hole H PT) H' -> TabOk H' PT ⟨113,26,113,86⟩ lq34 -> H' t = some (.tup [.str "way",.ref a]) -> H' a = some (.tup (w.map V.int)) -> isWay w = true -> w.length = n -> fitsG n (gistOf n ss) w -> Q (.ref t) H') /\ ∀ (t : Addr) (v : V) (p : Pap) (H' : Hp),Same (hole H PT) H' -> TabOk H' PT ⟨113,26,113,86⟩ lq34 -> H' t = some (.tup [.str "none",v]) -> PapAt H' p v -> PapOk n (gistOf n ss) p -> papD p <= 36 -> Q (.ref t) H'
def spRowOk (K:PySem.W.Frag):Sp:=fun vs H Q _=>∃ (a:Addr) (ns:List Int),vs=[.ref a]/\SqT K H a (ns.map V.int)/\ns.length<=1000 /\ ∀ H',Same H H'->Q (.bl (rowOk ns)) H'
def spNum:Sp:=fun vs H Q _=>∃ z:Int,vs=[.int z]/\Q (.bl true) H
def spWayOk (K:PySem.W.Frag):Sp:=fun vs H Q _=>∃ (a:Addr) (ns:List Int) (n:Int),vs=[.ref a,.int n]/\H a=some (.tup (ns.map V.int))/\ns.length<=1000 /\ ∀ H',Same H H'->Q (.bl (decide ((ns.length:Int)=n)&&rowOk ns)) H'
def spPairs (K:PySem.W.Frag):Sp:=fun vs H Q _=>∃ n:Int,vs=[.int n]/\0<=n/\n<=9 /\ ∀ (p:Addr) (ps:List Addr) (H':Hp),Same H H'->H' p=some (.lst (ps.map V.ref))->Paired (fun a (q:Nat × Nat)=>SqT K H' a [.int ((q.1:Nat):Int),.int ((q.2:Nat):Int)]) ps (pairsN n.toNat)->Q (.ref p) H'
def spLinked (K:PySem.W.Frag):Sp:=fun vs H Q _=>∃ (n:Int) (b:Addr) (ps:List Addr) (qs:List (Nat × Nat)),vs=[.int n,.ref b]/\0<=n/\n<=9/\SqL K H b (ps.map V.ref)/\Paired (fun a (q:Nat × Nat)=>SqT K H a [.int ((q.1:Nat):Int),.int ((q.2:Nat):Int)]) ps qs/\(∀ q ∈ qs,q.1<n.toNat/\q.2<n.toNat) /\ ∀ (p:Addr) (H':Hp),Same H H'->H' p=some (.tup ((numRow (mgs (rg n.toNat) qs)).map V.int))->Q (.ref p) H'
def spNumRow (K:PySem.W.Frag):Sp:=fun vs H Q _=>∃ (a:Addr) (ns:List Int),vs=[.ref a]/\SqL K H a (ns.map V.int)/\ns.length<=900 /\ ∀ (p:Addr) (H':Hp),H p=none->Same H H'->H' p=some (.tup ((numRow ns).map V.int))->Q (.ref p) H'
def spLSay:Sp:=fun vs H Q _=>∃ (c:Int) (n:Nat),vs=[.int c,.int n]/\1<=n/\n<=9 /\ ∀ (t:Addr) (s:Say) (H':Hp),Same H H'->H' t=some (.tup (sayV s))->sayOk n s->Q (.ref t) H'
def spLFit (K:PySem.W.Frag):Sp:=fun vs H Q _=>∃ (p a:Addr) (w:List Int) (s:Say) (n:Nat),vs=[.ref p,.ref a]/\SqT K H p (w.map V.int)/\H a=some (.tup (sayV s))/\isWay w=true/\w.length=n/\sayOk n s/\Q (.bl (fitsB w s)) H
def spLFits (K:PySem.W.Frag):Sp:=fun vs H Q _=>∃ (p b:Addr) (w:List Int) (as:List Addr) (ss:List Say) (n:Nat),vs=[.ref p,.ref b]/\SqT K H p (w.map V.int)/\isWay w=true/\w.length=n/\SqL K H b (as.map V.ref)/\SyAt H as ss/\(∀ s ∈ ss,sayOk n s)/\ss.length<=1000 /\ ∀ H',Same H H'->Q (.bl (ss.all (fitsB w))) H'
def spLLnk (K:PySem.W.Frag):Sp:=fun vs H Q _=>∃ (n:Nat) (b:Addr) (as:List Addr) (ss:List Say),vs=[.int n,.ref b]/\1<=n/\n<=9/\SqL K H b (as.map V.ref)/\SyAt H as ss/\(∀ s ∈ ss,sayOk n s)/\ss.length<=1000 /\ ∀ (p:Addr) (H':Hp),Same H H'->H' p=some (.tup ((numRow (gistOf n ss).L).map V.int))->Q (.ref p) H'
def spLLeast (K:PySem.W.Frag):Sp:=fun vs H Q _=>∃ (n:Nat) (b:Addr) (as:List Addr) (ss:List Say),vs=[.ref b]/\SqL K H b (as.map V.ref)/\SyAt H as ss/\(∀ s ∈ ss,sayOk n s)/\ss.length<=1000 /\ ∀ H',Same H H'->Q (.int (gistOf n ss).lo) H'
def spLMost (K:PySem.W.Frag):Sp:=fun vs H Q _=>∃ (n:Nat) (b:Addr) (as:List Addr) (ss:List Say),vs=[.int n,.ref b]/\SqL K H b (as.map V.ref)/\SyAt H as ss/\(∀ s ∈ ss,sayOk n s)/\ss.length<=1000 /\ ∀ H',Same H H'->Q (.int (gistOf n ss).hi) H'
def spLApart (K:PySem.W.Frag):Sp:=fun vs H Q _=>∃ (p b:Addr) (i j:Int) (n:Nat) (as:List Addr) (ss:List Say),vs=[.ref p,.ref b,.int i,.int j]/\SqT K H p ((numRow (gistOf n ss).L).map V.int)/\1<=n/\n<=9/\SqL K H b (as.map V.ref)/\SyAt H as ss/\(∀ s ∈ ss,sayOk n s)/\ss.length<=1000/\(0<=i/\i<n)/\(0<=j/\j<n) /\ ∀ H',Same H H'->Q (.bl (decide ((gat (gistOf n ss).L i,gat (gistOf n ss).L j) ∈ wallsL (gistOf n ss).L (gistOf n ss).U))) H'
def spLTwo:Sp:=fun vs H Q _=>∃ n i j:Int,vs=[.int n,.int i,.int j]/\(0<=i/\i<n)/\(0<=j/\j<n)/\i≠j/\Q (.bl true) H
def spLCrowd (K:PySem.W.Frag):Sp:=fun vs H Q _=>∃ (n:Nat) (b p:Addr) (as:List Addr) (ss:List Say) (c:List Int),vs=[.int n,.ref b,.ref p]/\1<=n/\n<=9/\SqL K H b (as.map V.ref)/\SyAt H as ss/\(∀ s ∈ ss,sayOk n s)/\ss.length<=1000/\H p=some (.tup (c.map V.int))/\PapOk n (gistOf n ss) (.many c) /\ ∀ H',Same H H'->Q (.bl true) H'
def spLaPaper (K:PySem.W.Frag) (dd:Nat):Sp:=fun vs H Q _=>0<dd /\ ∃ (n:Nat) (b:Addr) (as:List Addr) (ss:List Say) (p:Pap) (v:V),vs=[.int n,.ref b,v]/\1<=n/\n<=9/\H b=some (.lst (as.map V.ref))/\SyAt H as ss/\(∀ s ∈ ss,sayOk n s)/\ss.length+dd<=300/\PapAt H p v/\PapOk n (gistOf n ss) p/\papD p<dd /\ ∀ H',Same H H'->Q (.bl true) H'
def spLSok (K : PySem.W.Frag) : Sp:=fun vs H Q _=>∃ (t : Addr) (n : Nat) (b : Addr) (as : List Addr) (ss : List Say),vs = [.ref t,.int n,.ref b] /\ 1 <= n /\ n <= 9 /\ H b = some (.lst (as.map V.ref)) /\ SyAt H as ss /\ (∀ s ∈ ss,sayOk n s) /\ ss.length <= 200 /\ ((∃ (a : Addr) (w : List Int),H t = some (.tup [.str "way",.ref a]) /\ H a = some (.tup (w.map V.int)) /\ isWay w = true /\ w.length = n /\ fitsG n (gistOf n ss) w) \/ ∃ (v : V) (p : Pap),H t = some (.tup [.str "none",v]) /\ PapAt H p v /\ PapOk n (gistOf n ss) p /\ papD p <= 36) /\ ∀ H',Same H H' -> Q (.bl true) H'
def spLSl (K:PySem.W.Frag):Sp:=fun vs H Q _=>∃ (a:Addr) (ns:List Int) (st:Nat) (n:Nat) (m:Int),vs=[.ref a,.int st,.int n,.int m]/\SqL K H a (ns.map V.int)/\ns.length<=63/\0<=st/\st<=5/\1<=n/\n<=9/\0<=m /\ ∀ (p:Addr) (as:List Addr) (ss:List Say) (H':Hp),H p=none->Same H H'->H' p=some (.lst (as.map V.ref))->SyAt H' as ss->(∀ s ∈ ss,sayOk n s)->ss.length<=70->Q (.ref p) H'
def spLSize:Sp:=fun vs H Q _=>∃ (c:Int) (t:Nat),vs=[.int c,.int t]/\1<=t/\t<=9 /\ ∀ (n:Nat) (H':Hp),Same H H'->1<=n->n<=t->Q (.int n) H'
def spLAsk (K:PySem.W.Frag) (PT:Addr):Sp:=fun vs H Q _=>∃ (n:Nat) (b:Addr) (as:List Addr) (ss:List Say),vs=[.int n,.ref b]/\1<=n/\n<=9/\H b=some (.lst (as.map V.ref))/\SyAt H as ss/\(∀ s ∈ ss,sayOk n s)/\ss.length<=200/\TabOk H PT ⟨113,26,113,86⟩ lq34 /\ ∀ H',Same (hole H PT) H'->TabOk H' PT ⟨113,26,113,86⟩ lq34->Q (.bl true) H'
def spLawT (K:PySem.W.Frag) (tabs:List (Addr × Addr)):Sp:=fun vs H Q _=>∃ (a:Addr) (ns:List Int),vs=[.ref a]/\SqL K H a (ns.map V.int)/\ns.length<=63/\(∀ q ∈ tabs,H q.2=some (.tbl #[])) /\ ∀ H',Q (.bl true) H'
section
variable {P:Program} {w:World} {K:PySem.W.Frag} {mg:Str->Option Value} {base:Heap} {CGist:Addr} {DTHINGS:Addr} {CTopen_pair PTopen_pair:Addr}
theorem sc_law_draw : FnScope (["_law_cell_here","_law_limits","_law_rest","_law_seed","_law_row","_law_limit"]) (["_law_cell_here","_law_limits"]) (defScope s_law_draw):=by trivial
theorem ok_law_draw {f : Addr} {fd : FuncData} (F : Fun K "_law_draw" "_law_draw" s_law_draw f fd) (B : Bs mg) (T : Gs mg)   : FnOk P w K mg base CX0 1 f fd ["_law_cell_here","_law_limits"] (spDraw K):= by
 have sc:=sc_law_draw
 refine F.ok sc (fun vs H Q E h=>?_) (fun cdv A outer s H vs Q E hr h=>?_)
 ·obtain ⟨c,a,ls,rfl,_⟩:=h;rfl
 ·obtain ⟨c,a,ls,rfl,hS,hL,hlen,k⟩:=h
  refine ⟨_,(pss_cons (ps_set (i:=2) sc.nd rfl (Or.inl rfl) (pe_ifExp (pt_cmpR op_ge (pv 0) (pe_op op_pow pe_int pe_int) (nomark _)) (pv 0) pe_int))
   (pss_cons (ps_set (i:=3) sc.nd rfl (Or.inl rfl) (pe_op op_mod (pe_op op_add (pe_op op_mulW (pe_op op_mod (pv 0) pe_int) pe_int) pe_int) pe_int))
   (pss_cons (ps_set (i:=4) sc.nd rfl (Or.inl rfl) (pe_lst pa_nil))
   (pss_cons (ps_for PassesOwn.never rfl (kpi_list (K:=K) (pv 1)) (pg_name (i:=5) sc.nd rfl (Or.inl rfl))
   (pss_cons (ps_set (i:=3) sc.nd rfl (Or.inl rfl) (pe_op op_mod (pe_op op_add (pe_op op_mulW (pe_op op_mod (pe_op op_mulW (pv 3) (pv 3)) pe_int) (pe_op op_add (pv 3) pe_int)) pe_int) pe_int))
   (pss_cons (ps_expr (pe_bm PySem.F.plainAttrs_list PySem.F.slot_list_append PySem.F.type_list_append mt_append (pv 4) (pa_cons (pe_ifExp (pt_cmpR op_gt (pv 2) pe_int (nomark _)) (pe_op op_mod (pv 2) (pv 5)) (pe_op op_mod (pe_op op_add (pe_op op_fdivW (pv 3) pe_int) (pe_op op_mulW (pe_op op_mod (pv 3) pe_int) pe_int)) (pv 5))) pa_nil)))
   (pss_one (ps_set (i:=2) sc.nd rfl (Or.inl rfl) (pe_op op_fdivW (pv 2) (pv 5)))))))
   (pss_one (ps_ret (pv 4))))))),?_⟩
  refine ⟨_,rfl,_,_,rfl,rfl,⟨by decide,by decide,by decide⟩,_,_,rfl,rfl,_,rfl,?_⟩
  refine ite_P (fun _=>True) (fun r _=>?_) (fun Q' h=>⟨_,rfl,h _ trivial⟩) (fun Q' h=>h _ trivial)
  refine ⟨_,rfl,_,_,rfl,rfl,p0,_,_,rfl,rfl,mulOk_r ⟨by decide,by decide⟩,_,_,rfl,rfl,_,_,rfl,rfl,p0,?_⟩
  refine ⟨Nat.zero_le _,fun p hp=>?_⟩
  have hS1:SqL K (upd H p (.lst [])) a (ls.map V.int):=(Same.new hp).seq hS
  refine ⟨_,rfl,a,rfl,⟨_,hS1⟩,for_list (K:=K) (a:=a) (xs:=ls.map V.int) (fun i σ H2=>∃ (r seed:Int) (rs:List Int) (v:Option V),σ=[some (.int c),some (.ref a),some (.int r),some (.int seed),some (.ref p),v]/\0<=seed/\seed<2147483647/\Same H H2/\H2 p=some (.lst (rs.map V.int))/\Drawn' (ls.take i) rs)
   ⟨r,_,[],none,rfl,(modB _ (by decide)).1,(modB _ (by decide)).2,Same.new hp,upd_same,.nil⟩ (fun i σ H2 _ ⟨_,_,_,_,_,_,_,s2,_,_⟩=>s2.seq hS) ?_ ?_⟩
  ·rintro i y σ H2 hi ⟨r,seed,rs,v,rfl,hs0,hs1,s2,hp2,hD⟩
   obtain ⟨l,rfl,hl,hil⟩:=getI hi
   have hlim:=hL l (List.mem_of_getElem? hl)
   have hrl:rs.length=i:=by have:=hD.length;rw[List.length_take] at this;omega
   refine ⟨_,rfl,_,rfl,_,_,rfl,rfl,mulOk_r ⟨by omega,by omega⟩,_,_,rfl,rfl,p0,_,rfl,_,_,rfl,rfl,_,_,rfl,rfl,mulOk_r ⟨by omega,by omega⟩,_,_,rfl,rfl,_,_,rfl,rfl,p0,?_⟩
   refine ⟨_,rfl,.inl ⟨rfl,_,SqL.of hp2⟩,_,rfl,_,_,rfl,rfl,_,rfl,?_⟩
   refine ite_P (fun q=>0<=q/\q<l) (fun q hq=>?_) (fun Q' h=>⟨_,rfl,_,rfl,_,_,rfl,rfl,hlim.1,h _ (modB _ hlim.1)⟩)
    (fun Q' h=>⟨_,rfl,_,_,rfl,rfl,⟨by decide,by decide⟩,_,rfl,_,_,rfl,rfl,p0,_,_,rfl,rfl,mulOk_r ⟨by decide,by decide⟩,_,_,rfl,rfl,_,rfl,_,_,rfl,rfl,hlim.1,h _ (modB _ hlim.1)⟩)
   obtain ⟨q0,q1⟩:=hq
   refine ⟨p,_,_,rfl,rfl,hp2,lt_line (by rw[ltm];omega),?_⟩
   refine ⟨_,rfl,_,rfl,_,_,rfl,rfl,hlim,?_⟩
   refine ⟨_,_,rs++[q],_,rfl,(modB _ (by decide)).1,(modB _ (by decide)).2,s2.put hp,by rw[upd_same,mapV],?_⟩
   rw[take_snoc hl]
   exact drawn_snoc hD q0 q1
  ·rintro σ H2 ⟨r,seed,rs,v,rfl,hs0,hs1,s2,hp2,hD⟩
   rw[ltm,List.take_length] at hD
   exact ⟨_,rfl,k p rs H2 hp s2 hp2 hD⟩
theorem sc_law_cell : FnScope (["_law_script","_law_k"]) (["_law_script","_law_k"]) (defScope s_law_cell):=by trivial
theorem ok_law_cell {f : Addr} {fd : FuncData} (F : Fun K "_law_cell" "_law_cell" s_law_cell f fd) (B : Bs mg) (T : Gs mg)   : FnOk P w K mg base CX0 1 f fd ["_law_script","_law_k"] (spCell K):= by
 have sc:=sc_law_cell
 refine F.ok sc (fun vs H Q E h=>?_) (fun cdv A outer s H vs Q E hr h=>?_)
 ·obtain ⟨a,ns,kk,rfl,_⟩:=h;rfl
 ·obtain ⟨a,ns,kk,rfl,hS,h0,h1,hl,k⟩:=h
  refine ⟨_,(pss_cons (ps_if (pt_cmpR op_lt (pv 1) (pe_callB (kc_len (K:=K)) (by rfl) B.len PyProof.Rows.Boot.«len» (pa_cons (pv 0) pa_nil)) (nomark _)) (pss_one (ps_ret (pe_ix (kix_list (K:=K)) (pv 0) (pv 1) (fun _ _=>rfl)))) pss_nil)
   (pss_one (ps_ret (pe_op op_add (pe_op op_add (pe_op op_mulW (pe_op op_mod (pe_callB (kc_sum (K:=K)) (by rfl) B.sum PyProof.Rows.Boot.«sum» (pa_cons (pv 0) pa_nil)) pe_int) pe_int) (pe_op op_mulW (pe_callB (kc_len (K:=K)) (by rfl) B.len PyProof.Rows.Boot.«len» (pa_cons (pv 0) pa_nil)) pe_int)) (pe_op op_mulW (pv 1) pe_int))))),?_⟩
  refine ⟨_,rfl,_,rfl,a,_,rfl,.inl hS,_,_,rfl,rfl,_,rfl,?_⟩
  rw[ltm]
  refine ite2 (fun hk=>?_) (fun _=>?_)
  ·have hk:kk<(ns.length:Int):=of_decide_eq_true hk
   obtain ⟨j,rfl⟩:=Int.eq_ofNat_of_zero_le h0
   have hj:j<ns.length:=by omega
   refine ⟨_,rfl,_,rfl,a,_,_,_,rfl,rfl,hS,atI_nat (v:=V.int (ns[j])) (by rw[List.getElem?_map,List.getElem?_eq_getElem hj];rfl),k _⟩
  ·refine ⟨_,rfl,a,ns,rfl,.inl hS,_,_,rfl,rfl,p0,_,_,rfl,rfl,mulOk_r ⟨by decide,by decide⟩,_,rfl,a,_,rfl,.inl hS,_,_,rfl,rfl,mulOk_r ⟨by decide,by decide⟩,_,_,rfl,rfl,_,rfl,_,_,rfl,rfl,mulOk_r ⟨by decide,by decide⟩,_,_,rfl,rfl,k _⟩
theorem sc_law_many : FnScope (["_law_script","_law_few"]) (["_law_script","_law_few"]) (defScope s_law_many):=by trivial
theorem ok_law_many {f : Addr} {fd : FuncData} (F : Fun K "_law_many" "_law_many" s_law_many f fd) (B : Bs mg) (T : Gs mg)   : FnOk P w K mg base CX0 1 f fd ["_law_script","_law_few"] (spMany K):= by
 have sc:=sc_law_many
 refine F.ok sc (fun vs H Q E h=>?_) (fun cdv A outer s H vs Q E hr h=>?_)
 ·obtain ⟨a,ns,f,rfl,_⟩:=h;rfl
 ·obtain ⟨a,ns,f,rfl,hS,k⟩:=h
  refine ⟨_,(pss_one (ps_ret (pe_callB kc_max2 (by rfl) B.max PyProof.Rows.Boot.«max» (pa_cons (pv 1) (pa_cons (pe_callB kc_min2 (by rfl) B.min PyProof.Rows.Boot.«min» (pa_cons (pe_callB (kc_len (K:=K)) (by rfl) B.len PyProof.Rows.Boot.«len» (pa_cons (pv 0) pa_nil)) (pa_cons pe_int pa_nil))) pa_nil))))),?_⟩
  refine ⟨_,rfl,_,rfl,a,_,rfl,.inl hS,_,_,rfl,_,_,rfl,k _ ?_ ?_⟩
  ·split <;> omega
  ·split <;> split <;> omega
theorem sccheck_many : FnScope (["censers"]) (["censers"]) (defScope scheck_many):=by trivial
theorem okcheck_many {f : Addr} {fd : FuncData} (F : Fun K "check_many" "check_many" scheck_many f fd) (B : Bs mg) (T : Gs mg)   : FnOk P w K mg base CX0 1 f fd ["censers"] spCM0:= by
 have sc:=sccheck_many
 refine F.ok sc (fun vs H Q E h=>?_) (fun cdv A outer s H vs Q E hr h=>?_)
 ·obtain ⟨n,rfl,_⟩:=h;rfl
 ·obtain ⟨tM,gMOST_CENSERS⟩:=T.MOST_CENSERS
  obtain ⟨n,rfl,n1,n9,k⟩:=h
  refine ⟨_,(pss_one (ps_if (pt_not (pt_chain op_le op_le pe_int (pv 0) (pe_glob (v:=.int 9) rfl gMOST_CENSERS ⟨_,rfl⟩))) (pss_one ps_never) pss_nil)),?_⟩
  refine if_N (b:=!(decide (1<=n)&&decide (n<=9))) (P:=fun H'=>H'=H) (fun N hN=>chainI (x:=n) (H':=H) (fun Q' h'=>⟨_,rfl,h'⟩) (hN _ rfl)) (fun g H5 e=>?_) (fun g H5 e=>?_)
  ·rw[decide_eq_true n1,decide_eq_true n9] at g;simp at g
  ·rw[e];exact k
theorem sccheck_censer : FnScope (["censers","censer"]) (["censers","censer"]) (defScope scheck_censer):=by trivial
theorem okcheck_censer {f : Addr} {fd : FuncData} (F : Fun K "check_censer" "check_censer" scheck_censer f fd) (B : Bs mg) (T : Gs mg)   : FnOk P w K mg base CX0 1 f fd ["censers","censer"] spCC0:= by
 have sc:=sccheck_censer
 refine F.ok sc (fun vs H Q E h=>?_) (fun cdv A outer s H vs Q E hr h=>?_)
 ·obtain ⟨n,i,rfl,_⟩:=h;rfl
 ·obtain ⟨n,i,rfl,i0,i1,k⟩:=h
  refine ⟨_,(pss_one (ps_if (pt_not (pt_chain op_le op_lt pe_int (pv 1) (pv 0))) (pss_one ps_never) pss_nil)),?_⟩
  exact ⟨_,rfl,_,_,rfl,rfl,_,rfl,iteD i0 ⟨_,rfl,_,_,rfl,rfl,_,rfl,iteNS i1 k⟩⟩
theorem scway_of : FnScope (["numbers","renamed","given"]) (["numbers"]) (defScope sway_of):=by trivial
theorem okway_of {f : Addr} {fd : FuncData} (F : Fun K "way_of" "way_of" sway_of f fd) (B : Bs mg) (T : Gs mg)   : FnOk P w K mg base CX0 1 f fd ["numbers"] (spWayOfG K):= by
 have sc:=scway_of
 refine F.ok sc (fun vs H Q E h=>?_) (fun cdv A outer s H vs Q E hr h=>?_)
 ·obtain ⟨a,ns,rfl,_⟩:=h;rfl
 ·obtain ⟨a,ns,rfl,hS,m1,m9,k0⟩:=h
  obtain ⟨tM,gMOST_CENSERS⟩:=T.MOST_CENSERS
  have k:=fun (_:1<=ns.length/\ns.length<=9)=>k0
  refine ⟨_,(pss_cons (ps_if (pt_not (pt_chain op_le op_le pe_int (pe_callB (kc_len (K:=K)) (by rfl) B.len PyProof.Rows.Boot.«len» (pa_cons (pv 0) pa_nil)) (pe_glob (v:=.int 9) rfl gMOST_CENSERS ⟨_,rfl⟩))) (pss_one ps_never) pss_nil)
   (pss_cons (ps_set (i:=1) sc.nd rfl (Or.inr rfl) pe_dnewK)
   (pss_cons (ps_for PassesOwn.never rfl (kpi_list (K:=K) (pv 0)) (pg_name (i:=2) sc.nd rfl (Or.inl rfl))
   (pss_one (ps_if (pt_cmp (pc_dnotin (hu_of hr) (pv 2) (pv 1))) (pss_one (ps_dput (hu_of hr) (pv 1) (pv 2) (pe_callB call_lenD (by rfl) B.len PyProof.Rows.Boot.«len» (pa_cons (pv 1) pa_nil)) rfl)) pss_nil)))
   (pss_one (ps_ret (pe_callTy (kc_tuple (K:=K)) (by rfl) B.tuple PyProof.Rows.Boot.«tuple» (pa_cons (pe_lc (N':=["given","renamed"]) (M:=[none,some 1]) (lcSc_of (by rfl)) rfl (kpi_list (K:=K) (pv 0)) (fun _ _ _ _ _=>pg_name (i:=0) (show (["given","renamed"] : List Str).Nodup by decide +kernel) rfl (Or.inl rfl) (.inr rfl)) (frm_name rfl) (fun _ _ _ _ _=>pts_nil) (fun _ _ _ _ _=>(pe_dget (hu_of hr) (pv 1) (pv 0) (fun _ _=>rfl)))) pa_nil))))))),?_⟩
  refine ⟨_,rfl,a,_,rfl,.inl hS,_,_,rfl,rfl,_,rfl,?_⟩
  rw[ltm]
  refine ite2 (fun h1=>⟨_,_,rfl,rfl,_,rfl,ite2 (fun h2=>?_) (fun h2=>?_)⟩) (fun h1=>⟨_,rfl,iteT ?_⟩)
  ·exact absurd h2 (by simp;omega)
  ·have h1:(1:Int)<=(ns.length:Int):=of_decide_eq_true h1
   have h2:(ns.length:Int)<=9:=by simp at h2;omega
   intro d hd
   refine ⟨_,rfl,a,rfl,⟨_,(Same.new hd).seq hS⟩,for_list (K:=K) (a:=a) (xs:=ns.map V.int) (fun i σ H2=>∃ (v:Option V),σ=[some (.ref a),some (.ref d),v]/\H2=upd H d (.dK (kvOf (seen (ns.take i)) 0)))
    ⟨none,rfl,by rw[List.take_zero];rfl⟩ (fun i σ H2 _ ⟨_,_,e⟩=>by rw[e];exact (Same.new hd).seq hS) ?_ ?_⟩
   ·rintro i y σ H2 hi ⟨v,rfl,rfl⟩
    obtain ⟨z,rfl,hz,hil⟩:=getI hi
    refine ⟨_,rfl,_,rfl,d,_,rfl,DGet.k (k:=Sum.inl z) upd_same,_,rfl,?_⟩
    rw[valV_kvOf]
    have hts:=take_snoc hz
    by_cases hm:z ∈ seen (ns.take i)
    ·rw[if_pos hm]
     refine iteF ?_
     refine ⟨_,rfl,?_⟩
     rw[hts,seen_snoc];unfold seenP;rw[if_pos hm]
    ·rw[if_neg hm]
     refine iteT ?_
     have hsl:(seen (ns.take i)).length<=9:=by have:=seen_length (ns.take i);rw[List.length_take] at this;omega
     refine ⟨_,rfl,d,_,rfl,upd_same,_,rfl,_,rfl,d,_,rfl,DPut.k (k:=Sum.inl z) upd_same (lt_line (by rw[kvOf_length];omega)),?_⟩
     refine ⟨_,rfl,?_⟩
     rw[upd_upd,kvOf_length,putK_new _ (by rw[valV_kvOf,if_neg hm]),hts,seen_snoc]
     have e2:seenP (seen (ns.take i)) z=seen (ns.take i)++[z]:=by unfold seenP;rw[if_neg hm]
     rw[e2,kvOf_snoc,Nat.zero_add]
   ·rintro σ H2 ⟨v,rfl,rfl⟩
    rw[ltm,List.take_length]
    have hS2:SqL K (upd H d (.dK (kvOf (seen ns) 0))) a (ns.map V.int):=(Same.new hd).seq hS
    refine ⟨_,rfl,a,rfl,⟨_,hS2⟩,lc_list (xs:=ns.map V.int) (fun i ys H4=>H4=upd H d (.dK (kvOf (seen ns) 0))/\ys=(numRow ns |>.take i).map V.int) (le_line (by rw[ltm];omega)) ⟨rfl,rfl⟩
     (fun i ys H4 _ ⟨e,e2⟩=>⟨by rw[e];exact hS2,by rw[e2,ltm,List.length_take];omega⟩) ?_ ?_⟩
    ·rintro i y ys H4 hi ⟨rfl,rfl⟩
     obtain ⟨z,rfl,hz,hil⟩:=getI hi
     refine lcN ?_
     have hzs:z ∈ seen ns:=(mem_seen ns z).mpr (List.mem_of_getElem? hz)
     refine ⟨_,rfl,_,rfl,d,V.int ((seen ns).idxOf z:Int),rfl,?_,rfl,?_⟩
     ·have:=DGet.k (k:=Sum.inl z) (kvs:=kvOf (seen ns) 0) (H:=upd H d (.dK (kvOf (seen ns) 0))) (a:=d) upd_same
      rw[valV_kvOf,if_pos hzs,Nat.zero_add] at this
      exact this
     ·have:(numRow ns)[i]?=some ((seen ns).idxOf z:Int):=by unfold numRow;rw[List.getElem?_map,hz];rfl
      rw[take_snoc this,mapV]
    ·rintro ys H4 ⟨rfl,rfl⟩ p hp
     rw[ltm,<- numRow_length,List.take_length]
     refine ⟨p,_,rfl,.inl ⟨SqL.of upd_same,fun t ht=>?_⟩⟩
     have S1:Same H (upd (upd H d (.dK (kvOf (seen ns) 0))) p (.lst ((numRow ns).map V.int))):=(Same.new hd).new2 hp
     exact k (by omega) t _ (S1.free ht) (S1.new2 ht) upd_same
  ·have h1 : ¬ (1:Int)<=(ns.length:Int):=fun e=>h1 (decide_eq_true e)
   exact absurd m1 (by omega)
theorem screlabelled : FnScope (["labels","old","new"]) (["labels","old","new"]) (defScope srelabelled):=by trivial
theorem okrelabelled {f : Addr} {fd : FuncData} (F : Fun K "relabelled" "relabelled" srelabelled f fd) (B : Bs mg) (T : Gs mg)   : FnOk P w K mg base CX0 1 f fd ["labels","old","new"] (spRelab K):= by
 have sc:=screlabelled
 refine F.ok sc (fun vs H Q E h=>?_) (fun cdv A outer s H vs Q E hr h=>?_)
 ·obtain ⟨a,L,o,n,rfl,_⟩:=h;rfl
 ·obtain ⟨a,L,o,n,rfl,hS,hl,k⟩:=h
  refine ⟨_,(pss_one (ps_ret (pe_lc (N':=["label","new","old"]) (M:=[none,some 2,some 1]) (lcSc_of (by rfl)) rfl (kpi_list (K:=K) (pv 0)) (fun _ _ _ _ _=>pg_name (i:=0) (show (["label","new","old"] : List Str).Nodup by decide +kernel) rfl (Or.inl rfl) (.inr rfl)) (frm_name rfl) (fun _ _ _ _ _=>pts_nil) (fun _ _ _ _ _=>(pe_ifExp (pt_cmpR op_eq (pv 0) (pv 2) (nomark _)) (pv 1) (pv 0)))))),?_⟩
  refine ⟨_,rfl,a,rfl,⟨_,hS⟩,lc_list (xs:=L.map V.int) (fun i ys H4=>H4=H/\ys=((relab L o n).take i).map V.int) (le_line (by rw[ltm];omega)) ⟨rfl,rfl⟩
   (fun i ys H4 _ ⟨e,e2⟩=>⟨by rw[e];exact hS,by rw[e2,ltm,List.length_take];omega⟩) ?_ ?_⟩
  ·rintro i y ys H4 hi ⟨rfl,rfl⟩
   obtain ⟨z,rfl,hz,hil⟩:=getI hi
   refine lcN ?_
   have hr:(relab L o n)[i]?=some (if z=o then n else z):=by unfold relab;rw[List.getElem?_map,hz];rfl
   refine ⟨_,rfl,_,rfl,rfl,_,rfl,ite2 (fun g=>⟨_,rfl,rfl,?_⟩) (fun g=>⟨_,rfl,rfl,?_⟩)⟩
   ·have g:z=o:=V.int.inj (of_decide_eq_true g)
    rw[if_pos g] at hr
    rw[take_snoc hr,mapV]
   ·have g : ¬ z=o:=fun e=>g (decide_eq_true (congrArg V.int e))
    rw[if_neg g] at hr
    rw[take_snoc hr,mapV]
  ·rintro ys H4 ⟨rfl,rfl⟩ p hp
   rw[ltm,<- relab_length L o n,List.take_length]
   exact k p _ hp (Same.new hp) upd_same
theorem sccheck_saying : FnScope (["censers","saying"]) (["censers","saying"]) (defScope scheck_saying):=by trivial
theorem okcheck_saying {f : Addr} {fd : FuncData} (F : Fun K "check_saying" "check_saying" scheck_saying f fd) (B : Bs mg) (T : Gs mg) (gTHINGS : mg "THINGS" = some (.ref DTHINGS)) (tTHINGS : NumTab base DTHINGS [("alike",3),("unlike",3),("least",2),("most",2)]) (ccheck_censer : Cal P w K mg base 1 "check_censer" [] spCC0) : FnOk P w K mg base CX0 2 f fd ["censers","saying"] (spCS0 K):= by
 have sc:=sccheck_saying
 refine F.ok sc (fun vs H Q E h=>?_) (fun cdv A outer s H vs Q E hr h=>?_)
 ·obtain ⟨n,a,s,rfl,_⟩:=h;rfl
 ·obtain ⟨n,a,s,rfl,ha,hs,k⟩:=h
  refine ⟨_,(pss_cons (ps_if (PW.pt (pw_or (pt_cmpR op_eq (pe_callB (kc_len (K:=K)) (by rfl) B.len PyProof.Rows.Boot.«len» (pa_cons (pv 1) pa_nil)) pe_int (nomark _)) (pw_or1 (pt_cmpR op_ne (pe_gget tTHINGS (pe_glob (v:=.ref DTHINGS) rfl gTHINGS rfl) (pe_ix (kix_tup (K:=K)) (pv 1) pe_int (fun _ _=>rfl)) ⟨rfl,rfl,rfl,rfl⟩) (pe_callB (kc_len (K:=K)) (by rfl) B.len PyProof.Rows.Boot.«len» (pa_cons (pv 1) pa_nil)) (nomark _))))) (pss_one ps_never) pss_nil)
   (pss_cons (ps_if (pt_cmpR op_eq (pe_callB (kc_len (K:=K)) (by rfl) B.len PyProof.Rows.Boot.«len» (pa_cons (pv 1) pa_nil)) pe_int (nomark _)) (pss_cons (ps_if (pt_not (pt_chain op_le op_le pe_int (pe_ix (kix_tup (K:=K)) (pv 1) pe_int (fun _ _=>rfl)) (pv 0))) (pss_one ps_never) pss_nil)
   (pss_one ps_retN)) pss_nil)
   (pss_cons (ps_if (pt_cmpR op_eq (pe_ix (kix_tup (K:=K)) (pv 1) pe_int (fun _ _=>rfl)) (pe_ix (kix_tup (K:=K)) (pv 1) pe_int (fun _ _=>rfl)) (nomark _)) (pss_one ps_never) pss_nil)
   (pss_cons (ps_expr (pe_cal ccheck_censer (hr.mono (by decide)) rfl (pa_cons (pv 0) (pa_cons (pe_ix (kix_tup (K:=K)) (pv 1) pe_int (fun _ _=>rfl)) pa_nil))))
   (pss_one (ps_expr (pe_cal ccheck_censer (hr.mono (by decide)) rfl (pa_cons (pv 0) (pa_cons (pe_ix (kix_tup (K:=K)) (pv 1) pe_int (fun _ _=>rfl)) pa_nil))))))))),?_⟩
  cases s with
  | pair u i j=>
   obtain ⟨i0,i1,j0,j1,hij⟩:=hs
   have ha : H a = some (.tup [V.str (if u = true then "unlike" else "alike"),V.int i,V.int j]):=ha
   have hlk : lkD [("alike",3),("unlike",3),("least",2),("most",2)] (if u = true then "unlike" else "alike") = V.int 3:= by
    cases u <;> decide +kernel
   generalize (if u = true then ("unlike" : Str) else "alike") = t at ha hlk
   refine seq_ifN (b:=false) (P:=fun H'=>H'=H) (fun N hN=>⟨_,rfl,a,_,rfl,.inr (SqT.of ha),rfl,_,rfl,iteF ⟨_,rfl,a,_,_,_,rfl,rfl,SqT.of ha,rfl,t,rfl,?_⟩⟩) (fun g=>absurd g (by decide)) (fun _ H5 e=>?_)
   ·rw[hlk]
    exact ⟨_,rfl,a,_,rfl,.inr (SqT.of ha),rfl,_,rfl,hN _ rfl⟩
   rw[e]
   refine seq_ifN (b:=false) (P:=fun H'=>H'=H) (fun N hN=>⟨_,rfl,a,_,rfl,.inr (SqT.of ha),rfl,_,rfl,hN _ rfl⟩) (fun g=>absurd g (by decide)) (fun _ H5 e=>?_)
   rw[e]
   refine seq_ifN (b:=false) (P:=fun H'=>H'=H) (fun N hN=>⟨_,rfl,a,_,_,_,rfl,rfl,SqT.of ha,rfl,_,rfl,a,_,_,_,rfl,rfl,SqT.of ha,rfl,rfl,_,rfl,?_⟩) (fun g=>absurd g (by decide)) (fun _ H5 e=>?_)
   ·rw[dInt,decide_eq_false hij];exact hN _ rfl
   rw[e]
   exact ⟨_,rfl,_,rfl,a,_,_,_,rfl,rfl,SqT.of ha,rfl,n,i,rfl,i0,i1,_,rfl,_,rfl,a,_,_,_,rfl,rfl,SqT.of ha,rfl,n,j,rfl,j0,j1,k⟩
  | cnt m kk=>
   obtain ⟨k1,k2⟩:=hs
   have ha : H a = some (.tup [V.str (if m = true then "most" else "least"),V.int kk]):=ha
   have hlk : lkD [("alike",3),("unlike",3),("least",2),("most",2)] (if m = true then "most" else "least") = V.int 2:= by
    cases m <;> decide +kernel
   generalize (if m = true then ("most" : Str) else "least") = t at ha hlk
   refine seq_ifN (b:=false) (P:=fun H'=>H'=H) (fun N hN=>⟨_,rfl,a,_,rfl,.inr (SqT.of ha),rfl,_,rfl,iteF ⟨_,rfl,a,_,_,_,rfl,rfl,SqT.of ha,rfl,t,rfl,?_⟩⟩) (fun g=>absurd g (by decide)) (fun _ H5 e=>?_)
   ·rw[hlk]
    exact ⟨_,rfl,a,_,rfl,.inr (SqT.of ha),rfl,_,rfl,hN _ rfl⟩
   rw[e]
   refine seq_ifN (b:=true) (P:=fun H'=>H'=H) (fun N hN=>⟨_,rfl,a,_,rfl,.inr (SqT.of ha),rfl,_,rfl,hN _ rfl⟩) (fun _ H5 e=>?_) (fun g=>absurd g (by decide))
   rw[e]
   refine seq_ifN (b:=false) (P:=fun H'=>H'=H) (fun N hN=>⟨_,rfl,a,_,_,_,rfl,rfl,SqT.of ha,rfl,_,_,rfl,rfl,_,rfl,iteD k1 ⟨_,rfl,_,_,rfl,rfl,_,rfl,?_⟩⟩) (fun g=>absurd g (by decide)) (fun _ H5 e=>?_)
   ·rw[decide_eq_true k2];exact hN _ rfl
   rw[e]
   exact k
theorem scGist___init__ : FnScope (["self","labels","unlikes","low","high"]) (["self","labels","unlikes","low","high"]) (defScope sGist___init__):=by trivial
theorem okGist___init__ {f : Addr} {fd : FuncData} (F : Fun K "__init__" "Gist.__init__" sGist___init__ f fd) (B : Bs mg) (T : Gs mg) (clGist : Cls K CGist) (nGist_labels : NoAttr K CGist "labels") (nGist_unlikes : NoAttr K CGist "unlikes") (nGist_low : NoAttr K CGist "low") (nGist_high : NoAttr K CGist "high")  : FnOk P w K mg base CX0 1 f fd ["self","labels","unlikes","low","high"] (spGI K CGist):= by
 have sc:=scGist___init__
 refine F.ok sc (fun vs H Q E h=>?_) (fun cdv A outer s H vs Q E hr h=>?_)
 ·obtain ⟨x,dx,l,d,lo,hi,rfl,_⟩:=h;rfl
 ·obtain ⟨x,dx,l,d,lo,hi,rfl,hx,k⟩:=h
  refine ⟨_,(pss_cons (ps_fld (pv 0) (pv 1) rfl)
   (pss_cons (ps_fld (pv 0) (pv 2) rfl)
   (pss_cons (ps_fld (pv 0) (pv 3) rfl)
   (pss_one (ps_fld (pv 0) (pv 4) rfl))))),?_⟩
  have l1 : (putF "labels" (V.ref l) []).length <= 1:=length_putF ..
  have l2 : (putF "unlikes" (V.ref d) (putF "labels" (V.ref l) [])).length <= 2:=Nat.le_trans (length_putF ..) (Nat.succ_le_succ l1)
  have l3 : (putF "low" (V.int lo) (putF "unlikes" (V.ref d) (putF "labels" (V.ref l) []))).length <= 3:=Nat.le_trans (length_putF ..) (Nat.succ_le_succ l2)
  refine ⟨_,rfl,_,rfl,x,CGist,dx,[],rfl,hx,clGist,nGist_labels,by decide,?_⟩
  refine ⟨_,rfl,_,rfl,x,CGist,dx,_,rfl,upd_same,clGist,nGist_unlikes,by omega,?_⟩
  refine ⟨_,rfl,_,rfl,x,CGist,dx,_,rfl,upd_same,clGist,nGist_low,by omega,?_⟩
  refine ⟨_,rfl,_,rfl,x,CGist,dx,_,rfl,upd_same,clGist,nGist_high,by omega,?_⟩
  refine k _ (by rw[upd_same,gF_made]) fun b o e n=>?_
  rw[upd_ne n,upd_ne n,upd_ne n,upd_ne n];exact e
theorem scGist_take : FnScope (["self","saying","word","first","low","high"]) (["self","saying"]) (defScope sGist_take):=by trivial
theorem okGist_take {f : Addr} {fd : FuncData} (F : Fun K "take" "Gist.take" sGist_take f fd) (B : Bs mg) (T : Gs mg) (clGist : Cls K CGist) (nGist_labels : NoAttr K CGist "labels") (nGist_unlikes : NoAttr K CGist "unlikes") (nGist_low : NoAttr K CGist "low") (nGist_high : NoAttr K CGist "high") (crelabelled : Cal P w K mg base 1 "relabelled" [] (spRelab K)) : FnOk P w K mg base CX0 2 f fd ["self","saying"] (spTK K CGist):= by
 have sc:=scGist_take
 refine F.ok sc (fun vs H Q E h=>?_) (fun cdv A outer s H vs Q E hr h=>?_)
 ·obtain ⟨x,dx,l,d,a,g,n,s,rfl,_⟩:=h;rfl
 ·obtain ⟨x,dx,l,d,a,g,n,s,rfl,hG,ha,hg,hs,h9,k⟩:=h
  refine ⟨_,(pss_cons (ps_asg (pe_slice (ksl_tup (K:=K)) (pv 1) po_none (po_some pe_int)) (pg_tup rfl (pgs_cons (pg_name (i:=2) sc.nd rfl (Or.inl rfl)) (pgs_cons (pg_name (i:=3) sc.nd rfl (Or.inl rfl)) pgs_nil))))
   (pss_one (ps_if (pt_cmpR op_eq (pv 2) pe_str (nomark _)) (pss_one (ps_fld (pv 0) (pe_callB kc_max2 (by rfl) B.max PyProof.Rows.Boot.«max» (pa_cons (pe_fld (pv 0) rfl) (pa_cons (pv 3) pa_nil))) rfl)) (pss_one (ps_if (pt_cmpR op_eq (pv 2) pe_str (nomark _)) (pss_one (ps_fld (pv 0) (pe_callB kc_min2 (by rfl) B.min PyProof.Rows.Boot.«min» (pa_cons (pe_fld (pv 0) rfl) (pa_cons (pv 3) pa_nil))) rfl)) (pss_one (ps_if (pt_cmpR op_eq (pv 2) pe_str (nomark _)) (pss_cons (ps_dput (hu_of hr) (pe_fld (pv 0) rfl) (pe_tup (pa_cons (pv 3) (pa_cons (pe_ix (kix_tup (K:=K)) (pv 1) pe_int (fun _ _=>rfl)) pa_nil))) pe_bl rfl)
   (pss_one (ps_dput (hu_of hr) (pe_fld (pv 0) rfl) (pe_tup (pa_cons (pe_ix (kix_tup (K:=K)) (pv 1) pe_int (fun _ _=>rfl)) (pa_cons (pv 3) pa_nil))) pe_bl rfl))) (pss_cons (ps_asg (pe_callB (call_sorted (K:=K)) (by rfl) B.sorted PyProof.Rows.Boot.«sorted» (pa_cons (pe_lst (pa_cons (pe_ix (kix_list (K:=K)) (pe_fld (pv 0) rfl) (pv 3) (fun _ _=>rfl)) (pa_cons (pe_ix (kix_list (K:=K)) (pe_fld (pv 0) rfl) (pe_ix (kix_tup (K:=K)) (pv 1) pe_int (fun _ _=>rfl)) (fun _ _=>rfl)) pa_nil))) pa_nil)) (pg_lst rfl (pgs_cons (pg_name (i:=4) sc.nd rfl (Or.inl rfl)) (pgs_cons (pg_name (i:=5) sc.nd rfl (Or.inl rfl)) pgs_nil))))
   (pss_one (ps_fld (pv 0) (pe_cal crelabelled (hr.mono (by decide)) rfl (pa_cons (pe_fld (pv 0) rfl) (pa_cons (pv 5) (pa_cons (pv 4) pa_nil)))) rfl)))))))))),?_⟩
  have G1':=hG
  refine ⟨_,rfl,_,rfl,a,_,rfl,SqT.of ha,fun p H1 s1 hp1=>?_⟩
  have G1:=hG.same s1
  have ha1:=s1 _ _ ha
  have nxd:x≠d:=ne_of G1.ob G1.hd (fun z=>nomatch z)
  have nxl:x≠l:=ne_of G1.ob G1.hl (fun z=>nomatch z)
  have ndl:d≠l:=ne_of G1.hd G1.hl (fun z=>nomatch z)
  cases s with
  | cnt m kk=>
   have ecut : cutV (sayV (.cnt m kk)) none (some 2) = [V.str (if m = true then "most" else "least"),V.int kk]:=cut_take _ 2
   rw[ecut] at hp1
   refine ⟨p,_,rfl,hp1,rfl,_,_,rfl,_,_,rfl,rfl,?_⟩
   try dsimp only
   refine nrm (σ':=[some (.ref x),some (.ref a),some (V.str (if m = true then "most" else "least")),some (.int kk),none,none]) rfl ?_
   cases m with
   | false=>
    refine if_dec (b:=true) (fun N hN=>⟨_,rfl,rfl,_,rfl,by rw[dStr,decide_eq_true (by decide +kernel)];exact hN⟩) (fun _=>?_) (fun g=>absurd g (by decide))
    refine ⟨_,rfl,x,CGist,dx,_,_,rfl,G1.ob,clGist,nGist_low,gF_atLo _ _ _ _,_,rfl,_,_,rfl,_,rfl,x,CGist,dx,_,rfl,G1.ob,clGist,nGist_low,(show 4<1000 by decide),?_⟩
    rw[gF_low]
    refine k l _ ⟨?_,?_,?_⟩ fun b o e nb=>?_
    ·rw[upd_same]
     have:(if kk > g.lo then kk else g.lo)=max g.lo kk:=by split <;> omega
     rw[this];rfl
    ·rw[upd_ne nxl.symm];exact G1.hl
    ·rw[upd_ne nxd.symm];exact G1.hd
    ·rw[upd_ne (fun z=>nb (by rw[z];simp))];exact s1 _ _ e
   | true=>
    refine if_dec (b:=false) (fun N hN=>⟨_,rfl,rfl,_,rfl,by rw[dStr,decide_eq_false (by decide +kernel)];exact hN⟩) (fun g=>absurd g (by decide)) (fun _=>?_)
    refine if_dec (b:=true) (fun N hN=>⟨_,rfl,rfl,_,rfl,by rw[dStr,decide_eq_true (by decide +kernel)];exact hN⟩) (fun _=>?_) (fun g=>absurd g (by decide))
    refine ⟨_,rfl,x,CGist,dx,_,_,rfl,G1.ob,clGist,nGist_high,gF_atHi _ _ _ _,_,rfl,_,_,rfl,_,rfl,x,CGist,dx,_,rfl,G1.ob,clGist,nGist_high,(show 4<1000 by decide),?_⟩
    rw[gF_high]
    refine k l _ ⟨?_,?_,?_⟩ fun b o e nb=>?_
    ·rw[upd_same]
     have:(if kk<g.hi then kk else g.hi)=min g.hi kk:=by split <;> omega
     rw[this];rfl
    ·rw[upd_ne nxl.symm];exact G1.hl
    ·rw[upd_ne nxd.symm];exact G1.hd
    ·rw[upd_ne (fun z=>nb (by rw[z];simp))];exact s1 _ _ e
  | pair u i j=>
   have ecut : cutV (sayV (.pair u i j)) none (some 2) = [V.str (if u = true then "unlike" else "alike"),V.int i]:=cut_take _ 2
   rw[ecut] at hp1
   refine ⟨p,_,rfl,hp1,rfl,_,_,rfl,_,_,rfl,rfl,?_⟩
   try dsimp only
   refine nrm (σ':=[some (.ref x),some (.ref a),some (V.str (if u = true then "unlike" else "alike")),some (.int i),none,none]) rfl ?_
   have ha2 : SqT K H1 a [V.str (if u = true then "unlike" else "alike"),V.int i,V.int j]:=SqT.of ha1
   obtain ⟨i0,i1,j0,j1,hij⟩:=hs
   cases u with
   | true=>
    refine if_dec (b:=false) (fun N hN=>⟨_,rfl,rfl,_,rfl,by rw[dStr,decide_eq_false (by decide +kernel)];exact hN⟩) (fun g=>absurd g (by decide)) (fun _=>?_)
    refine if_dec (b:=false) (fun N hN=>⟨_,rfl,rfl,_,rfl,by rw[dStr,decide_eq_false (by decide +kernel)];exact hN⟩) (fun g=>absurd g (by decide)) (fun _=>?_)
    refine if_dec (b:=true) (fun N hN=>⟨_,rfl,rfl,_,rfl,by rw[dStr,decide_eq_true (by decide +kernel)];exact hN⟩) (fun _=>?_) (fun g=>absurd g (by decide))
    have hul:=hg.uLen h9
    refine ⟨_,rfl,x,CGist,dx,_,_,rfl,G1.ob,clGist,nGist_unlikes,gF_atU _ _ _ _,_,rfl,_,rfl,a,_,_,_,rfl,rfl,ha2,rfl,le_line (by simp),fun b hb=>?_⟩
    have nb : ∀ {y o},H1 y=some o->y≠b:=fun e=>ne_of_none e hb
    refine ⟨d,_,rfl,DPut.t (k:=pKey (i,j)) (by rw[upd_ne (nb G1.hd)];exact G1.hd) upd_same (lt_line (by rw[uKv_length];omega)),?_⟩
    rw[putK_uKv]
    generalize hH2:upd (upd H1 b (HO.tup [V.int i,V.int j])) d (HO.dT (uKv (putP g.U (i,j))))=H2
    have ob2:H2 x=some (.ins CGist dx (gF l d g.lo g.hi)):=by rw[<- hH2,upd_ne nxd,upd_ne (nb G1.ob)];exact G1.ob
    have hl2:H2 l=some (.lst (g.L.map V.int)):=by rw[<- hH2,upd_ne ndl.symm,upd_ne (nb G1.hl)];exact G1.hl
    have hd2:H2 d=some (.dT (uKv (putP g.U (i,j)))):=by rw[<- hH2,upd_same]
    have ha3 : SqT K H2 a [V.str "unlike",V.int i,V.int j]:=SqT.of (by rw[<- hH2,upd_ne (ne_of ha1 G1.hd (fun z=>nomatch z)),upd_ne (nb ha1)]; exact ha1)
    have f2:FrL [x,d] H H2:=fun y o e n2=>by rw[<- hH2,upd_ne (fun z=>n2 (by rw[z];simp)),upd_ne (nb (s1 _ _ e))];exact s1 _ _ e
    have hpl:=putP_length g.U (i,j)
    refine ⟨_,rfl,x,CGist,dx,_,_,rfl,ob2,clGist,nGist_unlikes,gF_atU _ _ _ _,_,rfl,a,_,_,_,rfl,rfl,ha3,rfl,_,rfl,le_line (by simp),fun c hc=>?_⟩
    have nc : ∀ {y o},H2 y=some o->y≠c:=fun e=>ne_of_none e hc
    refine ⟨d,_,rfl,DPut.t (k:=pKey (j,i)) (by rw[upd_ne (nc hd2)];exact hd2) upd_same (lt_line (by rw[uKv_length];omega)),?_⟩
    rw[putK_uKv]
    refine k l _ ⟨?_,?_,upd_same⟩ fun y o e n2=>?_
    ·rw[upd_ne nxd,upd_ne (nc ob2)];exact ob2
    ·rw[upd_ne ndl.symm,upd_ne (nc hl2)];exact hl2
    ·rw[upd_ne (fun z=>n2 (by rw[z];simp)),upd_ne (nc (f2 _ _ e n2))];exact f2 _ _ e n2
   | false=>
    refine if_dec (b:=false) (fun N hN=>⟨_,rfl,rfl,_,rfl,by rw[dStr,decide_eq_false (by decide +kernel)];exact hN⟩) (fun g=>absurd g (by decide)) (fun _=>?_)
    refine if_dec (b:=false) (fun N hN=>⟨_,rfl,rfl,_,rfl,by rw[dStr,decide_eq_false (by decide +kernel)];exact hN⟩) (fun g=>absurd g (by decide)) (fun _=>?_)
    refine if_dec (b:=false) (fun N hN=>⟨_,rfl,rfl,_,rfl,by rw[dStr,decide_eq_false (by decide +kernel)];exact hN⟩) (fun g=>absurd g (by decide)) (fun _=>?_)
    have hL1:SqL K H1 l (g.L.map V.int):=SqL.of G1.hl
    have ai:atI (g.L.map V.int) i=some (V.int (gat g.L i)):=atI_lt i0 (by rw[hg.len];omega)
    have aj:atI (g.L.map V.int) j=some (V.int (gat g.L j)):=atI_lt j0 (by rw[hg.len];omega)
    refine ⟨_,rfl,x,CGist,dx,_,_,rfl,G1.ob,clGist,nGist_labels,gF_atL _ _ _ _,_,rfl,l,_,_,_,rfl,rfl,hL1,ai,_,rfl,x,CGist,dx,_,_,rfl,G1.ob,clGist,nGist_labels,gF_atL _ _ _ _,_,rfl,a,_,_,_,rfl,rfl,ha2,rfl,l,_,_,_,rfl,rfl,hL1,aj,le_line (by simp),fun b hb=>?_⟩
    refine ⟨b,[gat g.L i,gat g.L j],rfl,SqL.of upd_same,by simp,fun c ms hp hs hc=>?_⟩
    have ems:ms=[min (gat g.L i) (gat g.L j),max (gat g.L i) (gat g.L j)]:=sort2 hp hs
    subst ems
    have nb : ∀ {y o},H1 y=some o->y≠b:=fun e=>ne_of_none e hb
    generalize hH2:upd H1 b (HO.lst [V.int (gat g.L i),V.int (gat g.L j)])=H2 at hc
    have s2:Same H1 H2:=by rw[<- hH2];exact Same.new hb
    have s3:Same H1 (upd H2 c (HO.lst ([min (gat g.L i) (gat g.L j),max (gat g.L i) (gat g.L j)].map V.int))):=s2.new2 hc
    have hc3:upd H2 c (HO.lst ([min (gat g.L i) (gat g.L j),max (gat g.L i) (gat g.L j)].map V.int)) c=some (.lst [V.int (min (gat g.L i) (gat g.L j)),V.int (max (gat g.L i) (gat g.L j))]):=upd_same
    generalize upd H2 c (HO.lst ([min (gat g.L i) (gat g.L j),max (gat g.L i) (gat g.L j)].map V.int))=H3 at s3 hc3 ⊢
    have G3:=G1.same s3
    refine ⟨c,_,rfl,SqL.of hc3,rfl,_,_,rfl,_,_,rfl,rfl,?_⟩
    try dsimp only
    refine ⟨_,rfl,x,CGist,dx,_,_,rfl,G3.ob,clGist,nGist_labels,gF_atL _ _ _ _,_,rfl,_,rfl,l,g.L,_,_,rfl,SqL.of G3.hl,by rw[hg.len];omega,fun m H4 hm s4 hm4=>?_⟩
    have G4:=G3.same s4
    refine ⟨_,rfl,x,CGist,dx,_,rfl,G4.ob,clGist,nGist_labels,(show 4<1000 by decide),?_⟩
    rw[gF_labels]
    have nxm:x≠m:=ne_of G4.ob hm4 (fun z=>nomatch z)
    refine k m _ ⟨upd_same,?_,?_⟩ fun y o e n2=>?_
    ·rw[upd_ne nxm.symm];exact hm4
    ·rw[upd_ne nxd.symm];exact G4.hd
    ·rw[upd_ne (fun z=>n2 (by rw[z];simp))];exact s4 _ _ (s3 _ _ (s1 _ _ e))
theorem scGist_longer : FnScope (["self","saying","other"]) (["self","saying"]) (defScope sGist_longer):=by trivial
theorem okGist_longer {f : Addr} {fd : FuncData} (F : Fun K "longer" "Gist.longer" sGist_longer f fd) (B : Bs mg) (T : Gs mg) (clGist : Cls K CGist) (nGist_labels : NoAttr K CGist "labels") (nGist_unlikes : NoAttr K CGist "unlikes") (nGist_low : NoAttr K CGist "low") (nGist_high : NoAttr K CGist "high") (kGist : CalK P w K mg base CGist 1 "Gist" (spGI K CGist)) (cGist_take : CalM P w K mg base CGist 2 "take" (spTK K CGist)) : FnOk P w K mg base CX0 3 f fd ["self","saying"] (spLO K CGist):= by
 have sc:=scGist_longer
 refine F.ok sc (fun vs H Q E h=>?_) (fun cdv A outer s H vs Q E hr h=>?_)
 ·obtain ⟨x,dx,l,d,a,g,n,s,rfl,_⟩:=h;rfl
 ·obtain ⟨x,dx,l,d,a,g,n,s,rfl,hG,ha,hg,hs,h9,k⟩:=h
  refine ⟨_,(pss_cons (ps_set (i:=2) sc.nd rfl (Or.inl rfl) (pe_calK kGist (hr.mono (by decide)) rfl (pa_cons (pe_fld (pv 0) rfl) (pa_cons (pe_callTy call_dictU (by rfl) B.dict PyProof.Rows.Boot.«dict» (pa_cons (pe_fld (pv 0) rfl) pa_nil)) (pa_cons (pe_fld (pv 0) rfl) (pa_cons (pe_fld (pv 0) rfl) pa_nil))))))
   (pss_cons (ps_expr (pe_calM cGist_take clGist (hr.mono (by decide)) (pv 2) (pa_cons (pv 1) pa_nil)))
   (pss_one (ps_ret (pv 2))))),?_⟩
  refine ⟨_,rfl,x,CGist,dx,_,_,rfl,hG.ob,clGist,nGist_labels,gF_atL _ _ _ _,_,rfl,x,CGist,dx,_,_,rfl,hG.ob,clGist,nGist_unlikes,gF_atU _ _ _ _,d,_,rfl,hG.hd,hg.hash h9,fun e he=>?_⟩
  have s1:Same H (upd H e (.dT (uKv g.U))):=Same.new he
  have he1:upd H e (.dT (uKv g.U)) e=some (.dT (uKv g.U)):=upd_same
  generalize upd H e (.dT (uKv g.U))=H1 at s1 he1
  have G1:=hG.same s1
  refine ⟨_,rfl,x,CGist,dx,_,_,rfl,G1.ob,clGist,nGist_low,gF_atLo _ _ _ _,_,rfl,x,CGist,dx,_,_,rfl,G1.ob,clGist,nGist_high,gF_atHi _ _ _ _,fun y dy hy hdy ne=>?_⟩
  refine ⟨y,dy,l,e,_,_,rfl,upd_same,fun H2 hy2 f2=>⟨rfl,?_⟩⟩
  have s2:Same H1 H2:=made_same hy hdy fun b o q n=>f2 b o q n
  have G2:GiAt CGist H2 y dy l e g:=⟨hy2,s2 _ _ G1.hl,s2 _ _ he1⟩
  try dsimp only
  refine ⟨_,rfl,y,dy,_,rfl,hy2,gF_no _ _ _ _ (by decide +kernel) (by decide +kernel) (by decide +kernel) (by decide +kernel),_,rfl,y,dy,l,e,a,g,n,s,rfl,G2,s2 _ _ (s1 _ _ ha),hg,hs,h9,fun m H3 G3 f3=>?_⟩
  refine ⟨_,rfl,k y dy m e H3 (fun b o q=>?_) G3⟩
  refine f3 b o (s2 _ _ (s1 _ _ q)) fun z=>?_
  rcases List.mem_cons.mp z with z | z
  ·rw[z] at q;rw[s1 _ _ q] at hy;cases hy
  ·rw[List.mem_singleton.mp z] at q;rw[q] at he;cases he
theorem scGist_homes : FnScope (["self"]) (["self"]) (defScope sGist_homes):=by trivial
theorem okGist_homes {f : Addr} {fd : FuncData} (F : Fun K "homes" "Gist.homes" sGist_homes f fd) (B : Bs mg) (T : Gs mg) (clGist : Cls K CGist) (nGist_labels : NoAttr K CGist "labels")  : FnOk P w K mg base CX0 1 f fd ["self"] (spHO K CGist):= by
 have sc:=scGist_homes
 refine F.ok sc (fun vs H Q E h=>?_) (fun cdv A outer s H vs Q E hr h=>?_)
 ·obtain ⟨x,dx,l,d,g,n,rfl,_⟩:=h;rfl
 ·obtain ⟨x,dx,l,d,g,n,rfl,hG,hg,h9,k⟩:=h
  refine ⟨_,(pss_one (ps_ret (pe_callB (call_sortedX (K:=K)) (by rfl) B.sorted PyProof.Rows.Boot.«sorted» (pa_cons (pe_callTy (kc_setX (K:=K)) (by rfl) B.set PyProof.Rows.Boot.«set» (pa_cons (pe_fld (pv 0) rfl) pa_nil)) pa_nil)))),?_⟩
  refine ⟨_,rfl,x,CGist,dx,_,_,rfl,hG.ob,clGist,nGist_labels,gF_atL _ _ _ _,l,g.L,rfl,SqL.of hG.hl,by rw[hg.len];omega,fun p ms hp hn hm=>?_⟩
  have hml:ms.length<=g.L.length:=sub_lenK hn fun z hz=>(hm z).mp hz
  rw[hg.len] at hml
  refine ⟨p,ms,rfl,upd_same,by omega,fun q ks h1 h2 hq=>?_⟩
  refine k q _ ((Same.new hp).new2 hq) ?_
  rw[upd_same,homes_of hg hn hm h1 h2]
theorem scGist_walls : FnScope (["self"]) (["self"]) (defScope sGist_walls):=by trivial
theorem okGist_walls {f : Addr} {fd : FuncData} (F : Fun K "walls" "Gist.walls" sGist_walls f fd) (B : Bs mg) (T : Gs mg) (clGist : Cls K CGist) (nGist_labels : NoAttr K CGist "labels") (nGist_unlikes : NoAttr K CGist "unlikes")  : FnOk P w K mg base CX0 1 f fd ["self"] (spWA K CGist):= by
 have sc:=scGist_walls
 refine F.ok sc (fun vs H Q E h=>?_) (fun cdv A outer s H vs Q E hr h=>?_)
 ·obtain ⟨x,dx,l,d,g,n,rfl,_⟩:=h;rfl
 ·obtain ⟨x,dx,l,d,g,n,rfl,hG,hg,h9,k⟩:=h
  refine ⟨_,(pss_one (ps_ret (pe_thawT (pe_dc (Nat.lt_of_succ_lt (hu_of hr)) (N':=["one","other","self"]) (M:=[none,none,some 0]) (lcSc_of (by rfl)) rfl (pi_keysT (pe_fld (pv 0) rfl)) (fun _ _ _ _ _=>kpg_tup (K:=K) (n:=2) rfl (pgs_cons (pg_name (i:=0) (show (["one","other","self"] : List Str).Nodup by decide +kernel) rfl (Or.inl rfl) (.inr rfl)) (pgs_cons (pg_name (i:=1) (show (["one","other","self"] : List Str).Nodup by decide +kernel) rfl (Or.inl rfl) (.inr rfl)) pgs_nil))) frm_two (fun _ _ _ _ _=>pts_nil) (fun _ _ _ _ _=>(pe_tup (pa_cons (pe_ix (kix_list (K:=K)) (kpe_fld (K:=K) (pv 2) rfl) (pv 0) (fun _ _=>rfl)) (pa_cons (pe_ix (kix_list (K:=K)) (kpe_fld (K:=K) (pv 2) rfl) (pv 1) (fun _ _=>rfl)) pa_nil)))) (fun _ _ _ _ _=>pe_bl))))),?_⟩
  refine ⟨d,uKv g.U,hG.hd,_,rfl,x,CGist,dx,_,_,rfl,hG.ob,clGist,nGist_unlikes,gF_atU _ _ _ _,d,_,rfl,hG.hd,fun o D hD=>?_⟩
  have nxd:x≠d:=ne_of hG.ob hG.hd (fun z=>nomatch z)
  have ndl:d≠l:=ne_of hG.hd hG.hl (fun z=>nomatch z)
  have hul:=hg.uLen h9
  generalize hH0:upd H d (HO.frz o (.dT (uKv g.U)))=H0 at hD ⊢
  have ob0:H0 x=some (.ins CGist dx (gF l d g.lo g.hi)):=by rw[<- hH0,upd_ne nxd];exact hG.ob
  have hl0:H0 l=some (.lst (g.L.map V.int)):=by rw[<- hH0,upd_ne ndl.symm];exact hG.hl
  have hd0:H0 d=some (.frz o (.dT (uKv g.U))):=by rw[<- hH0,upd_same]
  refine ⟨fun i m H2=>m+i=g.U.length/\Same H0 H2/\H2 D=some (.dT (uKv (wallsL g.L (g.U.take i)))),⟨g.U.length,rfl,Same.new hD,upd_same⟩,?_⟩
  rintro i m H2 ⟨hm,s2,hD2⟩
  by_cases hi:i<g.U.length
  ·have hui:g.U[i]?=some g.U[i]:=List.getElem?_eq_getElem hi
   generalize g.U[i]=p at hui
   have hki:(uKv g.U)[i]?=some (pKey p,V.bl true):=by unfold uKv;rw[List.getElem?_map,hui];rfl
   obtain ⟨⟨p0,p1⟩,q0,q1⟩:=hg.un p (List.mem_of_getElem? hui)
   refine .inr ⟨⟨_,_,s2 _ _ hd0,hki⟩,fun H3=>Same H0 H3/\H3 D=some (.dT (uKv (wallsL g.L (g.U.take (i+1))))),fun H3 h=>⟨m-1,by omega,by omega,h⟩,?_⟩
   rintro y H3 ⟨b,kk,rfl,rfl,hb,hkk⟩
   obtain ⟨v,hv⟩:=hkk _ (s2 _ _ hd0)
   rw[hki] at hv;cases hv
   have hL3:SqL K H3 l (g.L.map V.int):=SqL.of (s2 _ _ hl0)
   refine ⟨b,[V.int p.1,V.int p.2],rfl,SqT.of hb,rfl,_,_,rfl,_,_,rfl,rfl,?_⟩
   refine yesI ?_
   refine ⟨_,rfl,x,CGist,dx,_,_,rfl,s2 _ _ ob0,clGist,nGist_labels,gF_atL _ _ _ _,_,rfl,l,_,_,_,rfl,rfl,hL3,atI_lt p0 (by rw[hg.len];omega),_,rfl,x,CGist,dx,_,_,rfl,s2 _ _ ob0,clGist,nGist_labels,gF_atL _ _ _ _,_,rfl,l,_,_,_,rfl,rfl,hL3,atI_lt q0 (by rw[hg.len];omega),le_line (by simp),fun c hc=>?_⟩
   have hwl:=walls_length g.L (g.U.take i)
   rw[List.length_take] at hwl
   refine ⟨_,DPut.t (k:=pKey (gat g.L p.1,gat g.L p.2)) (by rw[upd_ne (ne_of_none hD2 hc)];exact hD2) upd_same (lt_line (by rw[uKv_length];omega)),?_,?_⟩
   ·exact (s2.new2 hc).put hD
   ·rw[upd_same,putK_uKv,take_snoc hui,walls_snoc]
  ·refine .inl ⟨⟨_,s2 _ _ hd0,by rw[uKv_length];omega⟩,o,s2 _ _ hd0,?_⟩
   have ed:D≠d:=fun z=>by rw[z,hd0] at hD;cases hD
   refine k D _ (fun b u e=>?_) ?_
   ·by_cases hb:b=d
    ·subst hb
     rw[upd_same];rw[hG.hd] at e;exact e
    ·rw[upd_ne hb]
     exact s2 b u (by rw[<- hH0,upd_ne hb];exact e)
   ·rw[upd_ne ed,hD2,List.take_of_length_le (by omega)]
theorem scgist_of : FnScope (["censers","sayings","gist","saying"]) (["censers","sayings"]) (defScope sgist_of):=by trivial
theorem okgist_of {f : Addr} {fd : FuncData} (F : Fun K "gist_of" "gist_of" sgist_of f fd) (B : Bs mg) (T : Gs mg) (clGist : Cls K CGist) (kGist : CalK P w K mg base CGist 1 "Gist" (spGI K CGist)) (cGist_take : CalM P w K mg base CGist 2 "take" (spTK K CGist)) : FnOk P w K mg base CX0 4 f fd ["censers","sayings"] (spGO K CGist):= by
 have sc:=scgist_of
 refine F.ok sc (fun vs H Q E h=>?_) (fun cdv A outer s H vs Q E hr h=>?_)
 ·obtain ⟨n,b,as,ss,rfl,_⟩:=h;rfl
 ·obtain ⟨n,b,as,ss,rfl,n1,n9,hb,hS,hs,hl,k⟩:=h
  refine ⟨_,(pss_cons (ps_set (i:=2) sc.nd rfl (Or.inl rfl) (pe_calK kGist (hr.mono (by decide)) rfl (pa_cons (pe_callTy call_listR (by rfl) B.list PyProof.Rows.Boot.«list» (pa_cons (pe_callTy call_rangeV (by rfl) B.range PyProof.Rows.Boot.«range» (pa_cons (pv 0) pa_nil)) pa_nil)) (pa_cons pe_dnewT (pa_cons pe_int (pa_cons (pv 0) pa_nil))))))
   (pss_cons (ps_for PassesOwn.never rfl (kpi_list (K:=K) (pv 1)) (pg_name (i:=3) sc.nd rfl (Or.inl rfl))
   (pss_one (ps_expr (pe_calM cGist_take clGist (hr.mono (by decide)) (pv 2) (pa_cons (pv 3) pa_nil)))))
   (pss_one (ps_ret (pv 2))))),?_⟩
  refine ⟨_,rfl,_,rfl,fun rp hrp=>⟨rp,_,rfl,upd_same,by omega,by omega,fun l hl=>?_⟩⟩
  have s1:=(Same.new (o:=HO.rng 0 (n:Int)) hrp).new2 (o:=HO.lst (((List.range (n:Int).toNat).map fun (k:Nat)=>(k:Int)).map V.int)) hl
  have hl1:upd (upd H rp (HO.rng 0 (n:Int))) l (HO.lst (((List.range (n:Int).toNat).map fun (k:Nat)=>(k:Int)).map V.int)) l=some (.lst ((rg n).map V.int)):=by rw[upd_same,Int.toNat_natCast];rfl
  generalize upd (upd H rp (HO.rng 0 (n:Int))) l (HO.lst (((List.range (n:Int).toNat).map fun (k:Nat)=>(k:Int)).map V.int))=H1 at s1 hl1
  intro d hd
  have s2:=s1.new2 (o:=HO.dT []) hd
  have hd2:upd H1 d (HO.dT []) d=some (.dT []):=upd_same
  have hl2:=Same.new (o:=HO.dT []) hd _ _ hl1
  generalize upd H1 d (HO.dT [])=H2 at s2 hd2 hl2
  refine ⟨_,rfl,fun x dx hx hdx ne=>⟨x,dx,l,d,_,_,rfl,upd_same,fun H3 hx3 f3=>⟨rfl,?_⟩⟩⟩
  have s3:Same H2 H3:=made_same hx hdx fun b o q n=>f3 b o q n
  have S3:=s2.trans s3
  have G3:GiAt CGist H3 x dx l d (gistOf n []):=⟨hx3,s3 _ _ hl2,s3 _ _ hd2⟩
  have hxn:H x=none:=s2.free hx
  have hdn:H d=none:=s1.free hd
  try dsimp only
  have hal:=hS.length
  refine ⟨_,rfl,b,rfl,⟨_,S3.seq hb⟩,for_list (K:=K) (a:=b) (xs:=as.map V.ref) (fun m σ H4=>∃ (l:Addr) (o1:Option V),σ=[some (.int n),some (.ref b),some (.ref x),o1]/\Same H H4/\GiAt CGist H4 x dx l d (gistOf n (ss.take m)))
   ⟨l,none,rfl,S3,G3⟩ (fun m σ H4 _ ⟨_,_,_,s4,_⟩=>s4.seq hb) ?_ ?_⟩
  ·rintro m y σ H4 hm ⟨l4,o1,rfl,s4,G4⟩
   obtain ⟨a,rfl,ham,hml⟩:=getRef hm
   obtain ⟨s,hs4,hsm⟩:=paired_getM hS ham
   refine ⟨_,rfl,x,dx,_,rfl,G4.ob,gF_no _ _ _ _ (by decide +kernel) (by decide +kernel) (by decide +kernel) (by decide +kernel),_,rfl,x,dx,l4,d,a,_,n,s,rfl,G4,s4 _ _ hs4,gok_of n1 (fun t ht=>hs t (List.mem_of_mem_take ht)),hs s (List.mem_of_getElem? hsm),n9,fun m5 H5 G5 f5=>?_⟩
   refine ⟨m5,_,rfl,fun c o e=>f5 c o (s4 _ _ e) fun z=>?_,?_⟩
   ·rcases List.mem_cons.mp z with z | z
    ·rw[z,hxn] at e;cases e
    ·rw[List.mem_singleton.mp z,hdn] at e;cases e
   ·rw[take_snoc hsm,gistOf_snoc];exact G5
  ·rintro σ H4 ⟨l4,o1,rfl,s4,G4⟩
   rw[List.length_map,hal,List.take_length] at G4
   exact ⟨_,rfl,k x dx l4 d H4 s4 G4⟩
theorem scchecked_gist : FnScope (["censers","sayings","saying"]) (["censers","sayings"]) (defScope schecked_gist):=by trivial
theorem okchecked_gist {f : Addr} {fd : FuncData} (F : Fun K "checked_gist" "checked_gist" schecked_gist f fd) (B : Bs mg) (T : Gs mg)  (ccheck_many : Cal P w K mg base 1 "check_many" [] spCM0) (ccheck_saying : Cal P w K mg base 2 "check_saying" [] (spCS0 K)) (cgist_of : Cal P w K mg base 4 "gist_of" [] (spGO K CGist)) : FnOk P w K mg base CX0 5 f fd ["censers","sayings"] (spGO K CGist):= by
 have sc:=scchecked_gist
 refine F.ok sc (fun vs H Q E h=>?_) (fun cdv A outer s H vs Q E hr h=>?_)
 ·obtain ⟨n,b,as,ss,rfl,_⟩:=h;rfl
 ·obtain ⟨n,b,as,ss,rfl,n1,n9,hb,hS,hs,hl,k⟩:=h
  refine ⟨_,(pss_cons (ps_expr (pe_cal ccheck_many (hr.mono (by decide)) rfl (pa_cons (pv 0) pa_nil)))
   (pss_cons (ps_for PassesOwn.never rfl (kpi_list (K:=K) (pv 1)) (pg_name (i:=2) sc.nd rfl (Or.inl rfl))
   (pss_one (ps_expr (pe_cal ccheck_saying (hr.mono (by decide)) rfl (pa_cons (pv 0) (pa_cons (pv 2) pa_nil))))))
   (pss_one (ps_ret (pe_cal cgist_of (hr.mono (by decide)) rfl (pa_cons (pv 0) (pa_cons (pv 1) pa_nil))))))),?_⟩
  refine ⟨_,rfl,n,rfl,by omega,by omega,?_⟩
  have hal:=hS.length
  refine ⟨_,rfl,b,rfl,⟨_,hb⟩,for_list (K:=K) (a:=b) (xs:=as.map V.ref) (fun m σ H4=>∃ (o1:Option V),σ=[some (.int n),some (.ref b),o1]/\H4=H)
   ⟨none,rfl,rfl⟩ (fun m σ H4 _ ⟨_,_,e⟩=>by rw[e];exact hb) ?_ ?_⟩
  ·rintro m y σ H4 hm ⟨o1,rfl,rfl⟩
   obtain ⟨a,rfl,ham,hml⟩:=getRef hm
   obtain ⟨s,hs4,hsm⟩:=paired_getM hS ham
   exact ⟨_,rfl,_,rfl,n,a,s,rfl,hs4,hs s (List.mem_of_getElem? hsm),_,rfl,rfl⟩
  ·rintro σ H4 ⟨o1,rfl,rfl⟩
   exact ⟨_,rfl,_,rfl,n,b,as,ss,rfl,n1,n9,hb,hS,hs,hl,k⟩
theorem sccrowd : FnScope (["homes","walls","size","place","home","others"]) (["homes","walls","size"]) (defScope scrowd):=by trivial
theorem okcrowd {dd : Nat} {f : Addr} {fd : FuncData} (F : Fun K "crowd" "crowd" scrowd f fd) (B : Bs mg) (T : Gs mg)  (ccrowd : Cal P w K mg base (1 + dd) "crowd" [] (spCR K dd)) : FnOk P w K mg base CX0 (1 + dd + 1) f fd ["homes","walls","size"] (spCR K (dd + 1)):= by
 have sc:=sccrowd
 refine F.ok sc (fun vs H Q E h=>?_) (fun cdv A outer s H vs Q E hr h=>?_)
 ·obtain ⟨_,p,q,hs,W,s,rfl,_⟩:=h;rfl
 ·obtain ⟨hd0,p,q,hs,W,s,rfl,hp,hq,hsd,h9,kN,kS⟩:=h
  refine ⟨_,(pss_cons (ps_if (pt_cmpR op_eq (pv 2) pe_int (nomark _)) (pss_one (ps_ret (pe_lst pa_nil))) pss_nil)
   (pss_cons (ps_for PassesOwn.never rfl (pi_enumL (K:=K) rfl B.enumerate (pa_cons (pv 0) pa_nil)) (pg_tup rfl (pgs_cons (pg_name (i:=3) sc.nd rfl (Or.inl rfl)) (pgs_cons (pg_name (i:=4) sc.nd rfl (Or.inr rfl)) pgs_nil)))
   (pss_cons (ps_if (pt_cmpR op_lt (pe_op op_sub (pe_callB (kc_len (K:=K)) (by rfl) B.len PyProof.Rows.Boot.«len» (pa_cons (pv 0) pa_nil)) (pv 3)) (pv 2) (nomark _)) (pss_one ps_break) pss_nil)
   (pss_cons (ps_set (i:=5) sc.nd rfl (Or.inl rfl) (pe_cal ccrowd (hr.mono (by omega)) rfl (pa_cons (pe_lc (N':=["later","walls","home"]) (M:=[none,some 1,some 4]) (lcSc_of (by rfl)) rfl (kpi_list (K:=K) (pe_slice (ksl_list (K:=K)) (pv 0) (po_some (pe_op op_add (pv 3) pe_int)) po_none)) (fun _ _ _ _ _=>pg_name (i:=0) (show (["later","walls","home"] : List Str).Nodup by decide +kernel) rfl (Or.inl rfl) (.inr rfl)) (frm_name rfl) (fun _ _ _ _ _=>pts_one (pt_cmp (pc_din (hu_of hr) (pe_tup (pa_cons (pv 2) (pa_cons (pv 0) pa_nil))) (pv 1)))) (fun _ _ _ _ _=>(pv 0))) (pa_cons (pv 1) (pa_cons (pe_op op_sub (pv 2) pe_int) pa_nil)))))
   (pss_one (ps_if (pt_cmpR op_notN (pv 5) pe_non (nomark _)) (pss_one (ps_ret (pe_op op_cat (pe_lst (pa_cons (pv 4) pa_nil)) (pv 5)))) pss_nil)))))
   (pss_one (ps_ret pe_non)))),?_⟩
  refine seq_ifN (b:=decide (s=0)) (P:=fun H'=>H'=H) (fun N hN=>⟨_,rfl,rfl,_,rfl,?_⟩) (fun g H5 e=>?_) (fun g H5 e=>?_)
  ·have e:decide (V.int (s:Int)=V.int 0)=decide (s=0):=by rw[dInt];exact decide_eq_decide.mpr ⟨fun z=>by omega,fun z=>by omega⟩
   rw[e];exact hN _ rfl
  ·rw[e]
   have g:=of_decide_eq_true g
   exact ⟨Nat.zero_le _,fun r hr=>kS r [] _ (Same.new hr) upd_same (List.nil_sublist _) (by rw[g];rfl) .nil⟩
  rw[e]
  have hs0:0<s:=by have:=of_decide_eq_false g;omega
  refine ⟨_,rfl,p,rfl,⟨_,SqL.of hp⟩,for_enumL (K:=K) (a:=p) (xs:=hs.map V.int) (fun i σ H2=>∃ (o1 o2 o3:Option V),σ=[some (.ref p),some (.ref q),some (.int s),o1,o2,o3]/\Same H H2/\(1<=i->hs.Pairwise (fun a b=>(a,b) ∈ W)->hs.length<s))
   ⟨none,none,none,rfl,Same.refl H,fun z=>by omega⟩ (fun i σ H2 _ ⟨_,_,_,_,s2,_⟩=>SqL.of (s2 _ _ hp)) ?_ ?_⟩
  ·rintro i y σ H2 t hi ⟨o1,o2,o3,rfl,s2,hw⟩ ht
   obtain ⟨h,rfl,hh,hil⟩:=getI hi
   refine ⟨t,[V.int (i:Int),V.int h],rfl,SqT.of upd_same,rfl,_,_,rfl,_,_,rfl,rfl,?_⟩
   have s3:Same H (upd H2 t (.tup [V.int (i:Int),V.int h])):=s2.new2 ht
   generalize upd H2 t (.tup [V.int (i:Int),V.int h])=H3 at s3
   try dsimp only
   refine nrm (σ':=[some (.ref p),some (.ref q),some (.int s),some (.int (i:Int)),some (.int h),o3]) rfl ?_
   have hp3:=s3 _ _ hp
   have hq3:=s3 _ _ hq
   refine seq_ifN (b:=decide ((hs.length:Int)-i<s)) (P:=fun H'=>H'=H3) (fun N hN=>⟨_,rfl,p,_,rfl,.inl (SqL.of hp3),_,rfl,_,_,rfl,rfl,_,rfl,_,_,rfl,rfl,_,rfl,?_⟩) (fun g H5 e=>?_) (fun g H5 e=>?_)
   ·rw[ltm];exact hN _ rfl
   ·rw[e]
    have g:=of_decide_eq_true g
    show Q V.non H3
    refine kN H3 s3 fun hP=>?_
    by_cases i1:1<=i
    ·exact hw i1 hP
    ·omega
   rw[e]
   have g:=of_decide_eq_false g
   refine seq_a ?_
   refine ⟨_,rfl,_,rfl,_,_,rfl,rfl,_,rfl,p,_,rfl,SqL.of hp3,fun v hv=>?_⟩
   have s4:=s3.new2 (o:=HO.lst (cutV (hs.map V.int) (some ((i:Int)+1)) none)) hv
   have hv4:upd H3 v (HO.lst (cutV (hs.map V.int) (some ((i:Int)+1)) none)) v=some (.lst ((hs.drop (i+1)).map V.int)):= by
    rw[upd_same]
    exact congrArg (fun z=>some (HO.lst z)) (cut_drop_int hs (i+1))
   generalize upd H3 v (HO.lst (cutV (hs.map V.int) (some ((i:Int)+1)) none))=H4 at s4 hv4
   have hq4:=s4 _ _ hq
   refine ⟨v,rfl,⟨_,SqL.of hv4⟩,lc_list (xs:=(hs.drop (i+1)).map V.int) (fun j ys H5=>Same H4 H5/\ys=(((hs.drop (i+1)).take j).filter fun z=>decide ((h,z) ∈ W)).map V.int) (le_line (by rw[ltm,List.length_drop];omega)) ⟨Same.refl H4,rfl⟩ (fun j ys H5 hj h=>⟨SqL.of (h.1 _ _ hv4),by rw[h.2,ltm];exact Nat.le_trans (List.length_filter_le _ _) (by rw[List.length_take];omega)⟩) ?_ ?_⟩
   ·rintro j y ys H5 hj ⟨s5,rfl⟩
    obtain ⟨z,rfl,hz,hjl⟩:=getI hj
    refine gN ?_
    refine in_pair (a:=h) (b:=z) (q:=q) (W:=W) (fun H Q h=>⟨_,rfl,h⟩) (fun H Q h=>⟨_,rfl,h⟩) (fun H Q h=>⟨_,rfl,h⟩) (s5 _ _ hq4) fun H6 s6=>?_
    by_cases g1:(h,z) ∈ W
    ·refine iteD g1 ⟨_,rfl,s5.trans s6,?_⟩
     rw[take_snoc hz,List.filter_append,List.filter_cons,if_pos (decide_eq_true g1),List.filter_nil,List.map_append];rfl
    ·refine iteDF g1 ⟨s5.trans s6,?_⟩
     rw[take_snoc hz,List.filter_append,List.filter_cons,if_neg (by simpa using g1),List.filter_nil,List.append_nil]
   rintro ys H5 ⟨s5,rfl⟩ c hc
   rw[ltm,List.take_length]
   have s6:=(s4.trans s5).new2 (o:=HO.lst (((hs.drop (i+1)).filter fun z=>decide ((h,z) ∈ W)).map V.int)) hc
   have hc6:upd H5 c (HO.lst (((hs.drop (i+1)).filter fun z=>decide ((h,z) ∈ W)).map V.int)) c=some (.lst (((hs.drop (i+1)).filter fun z=>decide ((h,z) ∈ W)).map V.int)):=upd_same
   generalize upd H5 c (HO.lst (((hs.drop (i+1)).filter fun z=>decide ((h,z) ∈ W)).map V.int))=H6 at s6 hc6
   have hfl:=List.length_filter_le (fun z=>decide ((h,z) ∈ W)) (hs.drop (i+1))
   rw[List.length_drop] at hfl
   have hdr:hs.drop i=h::hs.drop (i+1):=drop_at hh
   refine ⟨_,rfl,_,rfl,_,_,rfl,rfl,by omega,c,q,_,W,s-1,?_,hc6,s6 _ _ hq,by omega,by omega,fun H7 s7 hn=>?_,fun r xs H7 s7 hr hsub hxl hxp=>?_⟩
   ·rw[show ((s-1:Nat):Int)=(s:Int)-1 by omega];rfl
   ·refine ⟨_,rfl,rfl,_,rfl,iteF ⟨_,_,_,rfl,s6.trans s7,fun _ hP=>?_⟩⟩
    by_cases i1:1<=i
    ·exact hw i1 hP
    ·have i0:i=0:=by omega
     subst i0
     rw[List.drop_zero] at hdr
     rw[hdr,List.pairwise_cons] at hP
     have hf:(hs.drop (0+1)).filter (fun z=>decide ((h,z) ∈ W))=hs.drop (0+1):=List.filter_eq_self.mpr fun z hz=>decide_eq_true (hP.1 z hz)
     rw[hf] at hn
     have:=hn hP.2
     rw[List.length_drop] at this
     omega
   ·refine ⟨_,rfl,rfl,_,rfl,iteT ⟨_,rfl,le_line (by simp),fun u hu=>?_⟩⟩
    have hru:r≠u:=ne_of_none hr hu
    refine ⟨_,rfl,u,r,_,_,rfl,rfl,upd_same,by rw[upd_ne hru];exact hr,le_line (by rw[ltm];show 1+_<=_;omega),fun u2 hu2=>?_⟩
    refine kS u2 (h::xs) _ (((s6.trans s7).new2 hu).new2 hu2) upd_same ?_ (by rw[List.length_cons];omega) ?_
    ·have h1:(h::xs).Sublist (hs.drop i):=by rw[hdr];exact (hsub.trans List.filter_sublist).cons₂ h
     exact h1.trans (List.drop_sublist _ _)
    ·refine List.pairwise_cons.mpr ⟨fun z hz=>?_,hxp⟩
     exact of_decide_eq_true (List.mem_filter.mp (hsub.subset hz)).2
  ·rintro σ H2 ⟨o1,o2,o3,rfl,s2,hw⟩
   rw[ltm] at hw
   refine kN H2 s2 fun hP=>?_
   by_cases i1:1<=hs.length
   ·exact hw i1 hP
   ·omega
theorem scplain_paper : FnScope (["gist","one","other","found"]) (["gist"]) (defScope splain_paper):=by trivial
theorem okplain_paper {f : Addr} {fd : FuncData} (F : Fun K "plain_paper" "plain_paper" splain_paper f fd) (B : Bs mg) (T : Gs mg) (clGist : Cls K CGist) (nGist_labels : NoAttr K CGist "labels") (nGist_unlikes : NoAttr K CGist "unlikes") (nGist_low : NoAttr K CGist "low") (nGist_high : NoAttr K CGist "high") (cGist_homes : CalM P w K mg base CGist 1 "homes" (spHO K CGist)) (cGist_walls : CalM P w K mg base CGist 1 "walls" (spWA K CGist)) (ccrowd : Cal P w K mg base 13 "crowd" [] (spCR K 12)) : FnOk P w K mg base CX0 14 f fd ["gist"] (spPP K CGist):= by
 have sc:=scplain_paper
 refine F.ok sc (fun vs H Q E h=>?_) (fun cdv A outer s H vs Q E hr h=>?_)
 ·obtain ⟨x,dx,l,d,g,n,rfl,_⟩:=h;rfl
 ·obtain ⟨x,dx,l,d,g,n,rfl,hG,hg,n1,h9,kN,kP⟩:=h
  refine ⟨_,(pss_cons (ps_thawT (ps_for PassesOwn.never rfl (pi_keysT (pe_fld (pv 0) rfl)) (pg_tup rfl (pgs_cons (pg_name (i:=1) sc.nd rfl (Or.inl rfl)) (pgs_cons (pg_name (i:=2) sc.nd rfl (Or.inl rfl)) pgs_nil)))
   (pss_one (ps_if (pt_cmpR op_eq (pe_ix (kix_list (K:=K)) (pe_fld (pv 0) rfl) (pv 1) (fun _ _=>rfl)) (pe_ix (kix_list (K:=K)) (pe_fld (pv 0) rfl) (pv 2) (fun _ _=>rfl)) (nomark _)) (pss_one (ps_ret (pe_tup (pa_cons pe_str (pa_cons (pv 1) (pa_cons (pv 2) pa_nil)))))) pss_nil))))
   (pss_cons (ps_if (pt_cmpR op_gt (pe_fld (pv 0) rfl) (pe_fld (pv 0) rfl) (nomark _)) (pss_one (ps_ret (pe_tup (pa_cons pe_str pa_nil)))) pss_nil)
   (pss_cons (ps_if (pt_cmpR op_lt (pe_callB (kc_len (K:=K)) (by rfl) B.len PyProof.Rows.Boot.«len» (pa_cons (pe_calM0 cGist_homes clGist (hr.mono (by decide)) (pv 0)) pa_nil)) (pe_fld (pv 0) rfl) (nomark _)) (pss_one (ps_ret (pe_tup (pa_cons pe_str pa_nil)))) pss_nil)
   (pss_cons (ps_set (i:=3) sc.nd rfl (Or.inl rfl) (pe_cal ccrowd (hr.mono (by decide)) rfl (pa_cons (pe_calM0 cGist_homes clGist (hr.mono (by decide)) (pv 0)) (pa_cons (pe_calM0 cGist_walls clGist (hr.mono (by decide)) (pv 0)) (pa_cons (pe_op op_add (pe_fld (pv 0) rfl) pe_int) pa_nil)))))
   (pss_cons (ps_if (pt_cmpR op_notN (pv 3) pe_non (nomark _)) (pss_one (ps_ret (pe_tup (pa_cons pe_str (pa_cons (pe_callTy (kc_tuple (K:=K)) (by rfl) B.tuple PyProof.Rows.Boot.«tuple» (pa_cons (pv 3) pa_nil)) pa_nil))))) pss_nil)
   (pss_one (ps_ret pe_non))))))),?_⟩
  have nxd:x≠d:=ne_of hG.ob hG.hd (fun z=>nomatch z)
  have ndl:d≠l:=ne_of hG.hd hG.hl (fun z=>nomatch z)
  have gno : ∀ {m : Str},¬ m = "high" -> ¬ m = "low" -> ¬ m = "unlikes" -> ¬ m = "labels" -> (gF l d g.lo g.hi).lookup m = none:=fun h1 h2 h3 h4=>gF_no _ _ _ _ h1 h2 h3 h4
  have n1' : (gF l d g.lo g.hi).lookup ("homes" : Str) = none:=gno (by decide +kernel) (by decide +kernel) (by decide +kernel) (by decide +kernel)
  have n2' : (gF l d g.lo g.hi).lookup ("walls" : Str) = none:=gno (by decide +kernel) (by decide +kernel) (by decide +kernel) (by decide +kernel)
  refine seq_by2 (fun σ H'=>∃ o1 o2:Option V,σ=[some (.ref x),o1,o2,none]/\Same H H' /\ ∀ p ∈ g.U,gat g.L p.1≠gat g.L p.2) (fun N hN=>?_) ?_
  ·refine ⟨d,uKv g.U,hG.hd,_,rfl,x,CGist,dx,_,_,rfl,hG.ob,clGist,nGist_unlikes,gF_atU _ _ _ _,d,_,rfl,hG.hd,fun o=>?_⟩
   have back : ∀ H2:Hp,Same (upd H d (HO.frz o (.dT (uKv g.U)))) H2->H2 d=some (.frz o (.dT (uKv g.U)))/\Same H (upd H2 d (.dT (uKv g.U))):=fun H2 s2=>⟨s2 _ _ upd_same,fun b u e=>by
    by_cases hb:b=d
    ·subst hb
     rw[upd_same];rw[hG.hd] at e;exact e
    ·rw[upd_ne hb]
     exact s2 b u (by rw[upd_ne hb];exact e)⟩
   have ob0:upd H d (HO.frz o (.dT (uKv g.U))) x=some (.ins CGist dx (gF l d g.lo g.hi)):=by rw[upd_ne nxd];exact hG.ob
   have hl0:upd H d (HO.frz o (.dT (uKv g.U))) l=some (.lst (g.L.map V.int)):=by rw[upd_ne ndl.symm];exact hG.hl
   generalize upd H d (HO.frz o (.dT (uKv g.U)))=H0 at back ob0 hl0
   refine for_keysT (o:=o) (d:=d) (U:=g.U) (fun i σ H2=>∃ o1 o2:Option V,σ=[some (.ref x),o1,o2,none]/\Same H0 H2 /\ ∀ p ∈ g.U.take i,gat g.L p.1≠gat g.L p.2)
    ⟨none,none,rfl,Same.refl H0,fun p hp=>by simp at hp⟩ (fun i σ H2 _ ⟨_,_,_,s2,_⟩=>(back H2 s2).1) ?_ ?_
   ·rintro i p b σ H2 hui ⟨o1,o2,rfl,s2,hU⟩ hb
    obtain ⟨⟨p0,p1⟩,q0,q1⟩:=hg.un p (List.mem_of_getElem? hui)
    refine ⟨b,_,rfl,SqT.of hb,rfl,_,_,rfl,_,_,rfl,rfl,?_⟩
    try dsimp only
    refine if_dec (b:=decide (gat g.L p.1=gat g.L p.2)) (fun N hN=>⟨_,rfl,x,CGist,dx,_,_,rfl,s2 _ _ ob0,clGist,nGist_labels,gF_atL _ _ _ _,_,rfl,l,_,_,_,rfl,rfl,SqL.of (s2 _ _ hl0),atI_lt p0 (by rw[hg.len];omega),_,rfl,x,CGist,dx,_,_,rfl,s2 _ _ ob0,clGist,nGist_labels,gF_atL _ _ _ _,_,rfl,l,_,_,_,rfl,rfl,SqL.of (s2 _ _ hl0),atI_lt q0 (by rw[hg.len];omega),rfl,_,rfl,?_⟩) (fun e=>?_) (fun e=>?_)
    ·rw[dInt];exact hN
    ·have e:=of_decide_eq_true e
     refine ⟨_,rfl,_,rfl,le_line (by simp),fun c hc=>?_⟩
     obtain ⟨b1,b2⟩:=back _ (s2.new2 (o:=HO.tup [V.str "ring",V.int p.1,V.int p.2]) hc)
     refine ⟨o,b1,kP (.ring p.1 p.2) _ _ b2 ⟨c,rfl,?_⟩ ⟨List.mem_of_getElem? hui,e⟩ rfl⟩
     rw[upd_ne (fun z=>by rw[z,(back H2 s2).1] at hc;cases hc),upd_same]
    ·have e:=of_decide_eq_false e
     refine ⟨_,_,rfl,s2,fun q hq=>?_⟩
     rw[take_snoc hui] at hq
     rcases List.mem_append.mp hq with hq | hq
     ·exact hU q hq
     ·rw[List.mem_singleton.mp hq];exact e
   ·rintro σ H2 ⟨o1,o2,rfl,s2,hU⟩
    rw[List.take_length] at hU
    obtain ⟨b1,b2⟩:=back H2 s2
    exact ⟨o,b1,hN _ _ ⟨o1,o2,rfl,b2,hU⟩⟩
  rintro σ H1 ⟨o1,o2,rfl,s1,hU⟩
  have G1:=hG.same s1
  refine seq_ifN (b:=decide (g.hi<g.lo)) (P:=fun H'=>H'=H1) (fun N hN=>⟨_,rfl,x,CGist,dx,_,_,rfl,G1.ob,clGist,nGist_low,gF_atLo _ _ _ _,_,rfl,x,CGist,dx,_,_,rfl,G1.ob,clGist,nGist_high,gF_atHi _ _ _ _,_,_,rfl,rfl,_,rfl,hN _ rfl⟩) (fun e H5 eH=>?_) (fun e H5 eH=>?_)
  ·rw[eH]
   exact ⟨le_line (by simp),fun c hc=>kP .counts _ _ (s1.new2 hc) ⟨c,rfl,upd_same⟩ (show g.hi<g.lo from of_decide_eq_true e) rfl⟩
  rw[eH]
  have hlh:=of_decide_eq_false e
  refine seq_ifN (b:=decide (((homesN n g.L).length:Int)<g.lo)) (P:=fun H'=>Same H1 H') (fun N hN=>⟨_,rfl,x,dx,_,rfl,G1.ob,n1',x,dx,l,d,g,n,rfl,G1,hg,h9,fun p H2 s2 hp=>⟨p,_,rfl,.inl (SqL.of hp),_,rfl,x,CGist,dx,_,_,rfl,s2 _ _ G1.ob,clGist,nGist_low,gF_atLo _ _ _ _,_,_,rfl,rfl,_,rfl,?_⟩⟩) (fun e H5 s5=>?_) (fun e H5 s5=>?_)
  ·rw[ltm];exact hN _ s2
  ·exact ⟨le_line (by simp),fun c hc=>kP .few _ _ ((s1.trans s5).new2 hc) ⟨c,rfl,upd_same⟩ (show ((homesN n g.L).length:Int)<g.lo from of_decide_eq_true e) rfl⟩
  have hfew:=of_decide_eq_false e
  have G5:=G1.same s5
  refine seq_a ?_
  refine ⟨_,rfl,x,dx,_,rfl,G5.ob,n1',x,dx,l,d,g,n,rfl,G5,hg,h9,fun p H6 s6 hp=>?_⟩
  have G6:=G5.same s6
  refine ⟨_,rfl,x,dx,_,rfl,G6.ob,n2',x,dx,l,d,g,n,rfl,G6,hg,h9,fun q H7 s7 hq=>?_⟩
  have G7:=G6.same s7
  have hhl:=homes_length n g.L
  refine ⟨_,rfl,x,CGist,dx,_,_,rfl,G7.ob,clGist,nGist_high,gF_atHi _ _ _ _,_,_,rfl,rfl,by decide,p,q,_,_,(g.hi+1).toNat,?_,s7 _ _ hp,hq,?_,by omega,fun H8 s8 hn=>?_,fun r xs H8 s8 hr hsub hxl hxp=>?_⟩
  ·rw[show (((g.hi+1).toNat:Nat):Int)=g.hi+1 by have:=hg.hi1;omega];rfl
  ·have:=hg.hin;omega
  ·refine ⟨_,rfl,rfl,_,rfl,iteF ?_⟩
   refine kN H8 ((((s1.trans s5).trans s6).trans s7).trans s8) hU (by omega) fun hP=>?_
   have:=hn hP
   have:=hg.hi1
   omega
  ·refine ⟨_,rfl,rfl,_,rfl,iteT ⟨_,rfl,r,_,rfl,.inl ⟨SqL.of hr,fun u hu=>?_⟩⟩⟩
   have S8:=(((s1.trans s5).trans s6).trans s7).trans s8
   refine ⟨le_line (by simp),fun c hc=>?_⟩
   have huc:u≠c:=ne_of_none upd_same hc
   refine kP (.many xs) _ _ ((S8.new2 hu).new2 hc) ⟨c,u,rfl,upd_same,by rw[upd_ne huc,upd_same]⟩ ?_ rfl
   have hmem : ∀ z ∈ xs,z ∈ homesN n g.L:=fun z hz=>hsub.subset hz
   have hfix : ∀ z ∈ xs,gat g.L z=z/\0<=z/\z<n:=fun z hz=>by
    obtain ⟨a1,a2⟩:=List.mem_filter.mp (hmem z hz)
    exact ⟨of_decide_eq_true a2,mem_rg.mp a1⟩
   refine ⟨lt_nodup ((homes_lt n g.L).sublist hsub),fun z hz=>(hfix z hz).2,by rw[hxl];have:=hg.hi1;omega,?_⟩
   refine hxp.imp_of_mem fun {y z} hy hz e=>?_
   rw[(hfix y hy).1,(hfix z hz).1];exact e
theorem scapart_from_both : FnScope (["homes","walls","one","other"]) (["homes","walls","one","other"]) (defScope sapart_from_both):=by trivial
theorem okapart_from_both {f : Addr} {fd : FuncData} (F : Fun K "apart_from_both" "apart_from_both" sapart_from_both f fd) (B : Bs mg) (T : Gs mg)   : FnOk P w K mg base CX0 1 f fd ["homes","walls","one","other"] (spAB K):= by
 have sc:=scapart_from_both
 refine F.ok sc (fun vs H Q E h=>?_) (fun cdv A outer s H vs Q E hr h=>?_)
 ·obtain ⟨p,q,hs,W,a,b,rfl,_⟩:=h;rfl
 ·obtain ⟨p,q,hs,W,a,b,rfl,hp,hq,hl,k⟩:=h
  refine ⟨_,(pss_one (ps_ret (pe_callB (kc_len (K:=K)) (by rfl) B.len PyProof.Rows.Boot.«len» (pa_cons (pe_lc (N':=["home","walls","one","other"]) (M:=[none,some 1,some 2,some 3]) (lcSc_of (by rfl)) rfl (kpi_list (K:=K) (pv 0)) (fun _ _ _ _ _=>pg_name (i:=0) (show (["home","walls","one","other"] : List Str).Nodup by decide +kernel) rfl (Or.inl rfl) (.inr rfl)) (frm_name rfl) (fun _ _ _ _ _=>pts_one (PW.pt (pw_and (pt_cmp (pc_din (hu_of hr) (pe_tup (pa_cons (pv 2) (pa_cons (pv 0) pa_nil))) (pv 1))) (pw_and1 (pt_cmp (pc_din (hu_of hr) (pe_tup (pa_cons (pv 3) (pa_cons (pv 0) pa_nil))) (pv 1))))))) (fun _ _ _ _ _=>(pv 0))) pa_nil)))),?_⟩
  refine ⟨_,rfl,p,rfl,⟨_,hp⟩,lc_list (xs:=hs.map V.int) (fun i ys H2=>Same H H2/\ys=((hs.take i).filter fun h=>decide ((a,h) ∈ W)&&decide ((b,h) ∈ W)).map V.int) (le_line (by rw[ltm];omega)) ⟨Same.refl H,rfl⟩ (fun i ys H2 hi h=>⟨h.1.seq hp,by rw[h.2,ltm];exact Nat.le_trans (List.length_filter_le _ _) (by rw[List.length_take];omega)⟩) ?_ ?_⟩
  ·rintro i y ys H2 hi ⟨s2,rfl⟩
   obtain ⟨h,rfl,hh,hil⟩:=getI hi
   have hq2:=s2 _ _ hq
   have fin : ∀ (H3:Hp) (c:Bool),Same H2 H3->(decide ((a,h) ∈ W)&&decide ((b,h) ∈ W))=c->(if c=true then Same H H3/\((hs.take i).filter fun h=>decide ((a,h) ∈ W)&&decide ((b,h) ∈ W)).map V.int++[V.int h]=((hs.take (i+1)).filter fun h=>decide ((a,h) ∈ W)&&decide ((b,h) ∈ W)).map V.int else Same H H3/\((hs.take i).filter fun h=>decide ((a,h) ∈ W)&&decide ((b,h) ∈ W)).map V.int=((hs.take (i+1)).filter fun h=>decide ((a,h) ∈ W)&&decide ((b,h) ∈ W)).map V.int):=fun H3 c s3 e=>by
    rw[take_snoc hh,List.filter_append,List.filter_cons,e,List.filter_nil]
    cases c
    ·rw[if_neg (by decide),if_neg (by decide),List.append_nil];exact ⟨s2.trans s3,rfl⟩
    ·rw[if_pos rfl,if_pos rfl,List.map_append];exact ⟨s2.trans s3,rfl⟩
   refine gN ?_
   refine in_pair (a:=a) (b:=h) (q:=q) (W:=W) (fun H Q h=>⟨_,rfl,h⟩) (fun H Q h=>⟨_,rfl,h⟩) (fun H Q h=>⟨_,rfl,h⟩) hq2 fun H3 s3=>?_
   by_cases g1:(a,h) ∈ W
   ·refine iteD g1 ?_
    refine in_pair (a:=b) (b:=h) (q:=q) (W:=W) (fun H Q h=>⟨_,rfl,h⟩) (fun H Q h=>⟨_,rfl,h⟩) (fun H Q h=>⟨_,rfl,h⟩) (s3 _ _ hq2) fun H4 s4=>?_
    have:=fin H4 (decide ((b,h) ∈ W)) (s3.trans s4) (by rw[decide_eq_true g1,Bool.true_and])
    by_cases g2:(b,h) ∈ W
    ·rw[decide_eq_true g2,if_pos rfl] at this
     exact iteD g2 ⟨_,rfl,this⟩
    ·rw[decide_eq_false g2,if_neg (by decide)] at this
     exact iteDF g2 this
   ·refine iteDF g1 ?_
    have:=fin H3 false s3 (by rw[decide_eq_false g1,Bool.false_and])
    rw[if_neg (by decide)] at this
    exact iteF this
  ·rintro ys H2 ⟨s2,rfl⟩ c hc
   refine ⟨c,_,rfl,.inl (SqL.of upd_same),?_⟩
   rw[ltm,ltm,List.take_length]
   exact k _ (s2.new2 hc)
theorem scopen_pair : FnScope (["gist","homes","walls","pairs"]) (["gist"]) (defScope sopen_pair):=by trivial
theorem okopen_pair {f : Addr} {fd : FuncData} (F : Fun K "open_pair" "open_pair" sopen_pair f fd) (hfc9 : fd.code = .ref CTopen_pair) (hC9 : PySem.W.CodeHd base CTopen_pair PTopen_pair) (bm9 : BmAt mg base) (B : Bs mg) (T : Gs mg) (clGist : Cls K CGist) (cGist_homes : CalM P w K mg base CGist 1 "homes" (spHO K CGist)) (cGist_walls : CalM P w K mg base CGist 1 "walls" (spWA K CGist)) (capart_from_both : Cal P w K mg base 1 "apart_from_both" [] (spAB K)) : FnOk P w K mg base CX0 4 f fd ["gist"] (spOP K CGist PTopen_pair):= by
 have sc:=scopen_pair
 refine F.okC hfc9 sc (fun vs H Q E h=>?_) (fun cdv hcd9 A outer s H vs Q E hr h=>?_)
 ·obtain ⟨x,dx,l,d,g,n,rfl,_⟩:=h;rfl
 ·subst hcd9
  obtain ⟨x,dx,l,d,g,n,rfl,hG,hg,h9,hne,hTab,k⟩:=h
  refine ⟨_,(pss_cons (ps_set (i:=1) sc.nd rfl (Or.inr rfl) (pe_calM0 cGist_homes clGist (hr.mono (by decide)) (pv 0)))
   (pss_cons (ps_set (i:=2) sc.nd rfl (Or.inr rfl) (pe_calM0 cGist_walls clGist (hr.mono (by decide)) (pv 0)))
   (pss_cons (ps_lc2 (i:=3) sc.nd rfl rfl (N':=["one","other","walls","homes"]) (M:=[none,none,some 2,some 1]) (lcSc_of (by rfl)) rfl (kpi_list (K:=K) (pv 1)) (fun _ _ _ _ _=>pg_name (i:=0) (show (["one","other","walls","homes"] : List Str).Nodup by decide +kernel) rfl (Or.inl rfl) (.inr rfl)) own_name (fun _ _ _ _ _=>pts_nil) (by decide) (by decide) (fun _ _ _ _ _=>(kpi_list (K:=K) (pv 3))) (fun _ _ _ _ _=>pg_name (i:=1) (show (["one","other","walls","homes"] : List Str).Nodup by decide +kernel) rfl (Or.inl rfl) (.inr rfl)) own_name (fun _ _ _ _ _=>pts_one (PW.pt (pw_and (pt_cmpR op_lt (pv 0) (pv 1) (nomark _)) (pw_and1 (pt_cmp (pc_dnotin (hu_of hr) (pe_tup (pa_cons (pv 0) (pa_cons (pv 1) pa_nil))) (pv 2))))))) (fun _ _ _ _ _=>(pe_tup (pa_cons (pv 0) (pa_cons (pv 1) pa_nil)))))
   (pss_one (ps_ret (pe_maxL (x:="pair") (fr:=["homes","walls"]) (ix:=[1,2]) hr (by rfl) B.max rfl rfl rfl hC9 bm9 (by exact ⟨rfl,rfl,rfl,rfl,by decide +kernel,by decide +kernel,(List.forall_mem_cons.mpr ⟨rfl,(List.forall_mem_cons.mpr ⟨rfl,(fun _ h=>nomatch h)⟩)⟩),(List.forall_mem_cons.mpr ⟨⟨_,rfl⟩,(List.forall_mem_cons.mpr ⟨⟨_,rfl⟩,(fun _ h=>nomatch h)⟩)⟩),(List.forall_mem_cons.mpr ⟨⟨rfl,rfl⟩,(List.forall_mem_cons.mpr ⟨⟨rfl,rfl⟩,(fun _ h=>nomatch h)⟩)⟩),(.cons rfl (.cons rfl .nil)),fun _ _ _ _ _=>rfl⟩) (fun _ _ _ _=>(pe_cal capart_from_both ((hr.in1.deeper _).mono (by decide)) rfl (pa_cons (pv 1) (pa_cons (pv 2) (pa_cons (pe_ix (kix_tup (K:=K)) (pv 0) pe_int (fun _ _=>rfl)) (pa_cons (pe_ix (kix_tup (K:=K)) (pv 0) pe_int (fun _ _=>rfl)) pa_nil)))))) (pa_cons (pv 3) pa_nil))))))),?_⟩
  have n1' : (gF l d g.lo g.hi).lookup ("homes" : Str) = none:=gF_no _ _ _ _ (by decide +kernel) (by decide +kernel) (by decide +kernel) (by decide +kernel)
  have n2' : (gF l d g.lo g.hi).lookup ("walls" : Str) = none:=gF_no _ _ _ _ (by decide +kernel) (by decide +kernel) (by decide +kernel) (by decide +kernel)
  refine seq_a ?_
  refine ⟨_,rfl,x,dx,_,rfl,hG.ob,n1',x,dx,l,d,g,n,rfl,hG,hg,h9,fun p H1 s1 hp1=>?_⟩
  have G1:=hG.same s1
  refine seq_a ?_
  refine ⟨_,rfl,x,dx,_,rfl,G1.ob,n2',x,dx,l,d,g,n,rfl,G1,hg,h9,fun q H2 s2 hq=>?_⟩
  have hp:=s2 _ _ hp1
  have hhl:=homes_length n g.L
  have eO:openPs n g=(homesN n g.L).flatMap fun x=>((homesN n g.L).filter fun y=>decide (x<y) && !decide ((x,y) ∈ wallsL g.L g.U)).map fun y=>(x,y):=rfl
  generalize hhs:homesN n g.L=hs at hp hhl eO
  generalize hWW:wallsL g.L g.U=W at hq eO
  refine ⟨_,rfl,p,rfl,⟨_,SqL.of hp⟩,?_⟩
  refine lcw_list (xs:=hs.map V.int) (fun m ys H3=>Same H2 H3 /\ ∃ qs:List Addr,ys=qs.map V.ref/\PqAt H3 qs ((hs.take m).flatMap fun x=>(hs.filter fun y=>decide (x<y) && !decide ((x,y) ∈ W)).map fun y=>(x,y))/\qs.length<=9*m) ⟨Same.refl H2,[],rfl,.nil,Nat.le_refl _⟩ (fun m ys H3 hm h=>by
    obtain ⟨s3,qs,e,_,h3⟩:=h
    rw[ltm] at hm
    exact ⟨SqL.of (s3 _ _ hp),by rw[e,List.length_map];exact le_line (by omega)⟩) ?_ ?_
  ·rintro m y ys H3 hm ⟨s3,qs,rfl,hQ,hql⟩
   obtain ⟨h,rfl,hh,hml⟩:=getI hm
   refine lcM ?_
   refine ⟨_,rfl,p,rfl,⟨_,SqL.of (s3 _ _ hp)⟩,?_⟩
   refine lcw_list (xs:=hs.map V.int) (fun j ys H4=>Same H2 H4 /\ ∃ qs:List Addr,ys=qs.map V.ref/\PqAt H4 qs (((hs.take m).flatMap fun x=>(hs.filter fun y=>decide (x<y) && !decide ((x,y) ∈ W)).map fun y=>(x,y))++((hs.take j).filter fun y=>decide (h<y) && !decide ((h,y) ∈ W)).map fun y=>(h,y))/\qs.length<=9*m+j) ⟨s3,qs,rfl,by simpa using hQ,by omega⟩ (fun j ys H4 hj h=>by
    obtain ⟨s4,qs,e,_,h3⟩:=h
    rw[ltm] at hj
    exact ⟨SqL.of (s4 _ _ hp),by rw[e,List.length_map];exact le_line (by omega)⟩) ?_ ?_
   ·rintro j y ys H4 hj ⟨s4,qs,rfl,hQ,hql⟩
    obtain ⟨z,rfl,hz,hjl⟩:=getI hj
    refine gN ?_
    have no : ∀ H5:Hp,Same H4 H5 -> ¬ (h<z/\(h,z) ∉ W)->Same H2 H5 /\ ∃ qs':List Addr,qs.map V.ref=qs'.map V.ref/\PqAt H5 qs' (((hs.take m).flatMap fun x=>(hs.filter fun y=>decide (x<y) && !decide ((x,y) ∈ W)).map fun y=>(x,y))++((hs.take (j+1)).filter fun y=>decide (h<y) && !decide ((h,y) ∈ W)).map fun y=>(h,y))/\qs'.length<=9*m+(j+1):=fun H5 s5 hno=>by
     refine ⟨s4.trans s5,qs,rfl,?_,by omega⟩
     rw[take_snoc hz,List.filter_append,List.filter_cons,if_neg (by simpa using hno),List.filter_nil,List.append_nil]
     exact hQ.same s5
    refine ⟨_,rfl,_,rfl,_,_,rfl,rfl,_,rfl,?_⟩
    by_cases g1:h<z
    ·refine iteD g1 ?_
     refine notin_pair (a:=h) (b:=z) (q:=q) (W:=W) (fun H Q h=>⟨_,rfl,h⟩) (fun H Q h=>⟨_,rfl,h⟩) (fun H Q h=>⟨_,rfl,h⟩) (s4 _ _ hq) fun H5 s5=>?_
     by_cases g2:(h,z) ∈ W
     ·rw[decide_eq_true g2]
      exact iteF (no H5 s5 fun w=>w.2 g2)
     ·rw[decide_eq_false g2]
      refine iteT ⟨lt_line (by rw[List.length_map];omega),_,rfl,_,rfl,le_line (by simp),fun c hc=>⟨(s4.trans s5).new2 hc,qs++[c],ref_snoc,?_,by rw[List.length_append];simp;omega⟩⟩
      rw[take_snoc hz,List.filter_append,List.filter_cons,if_pos (by simp [g1,g2]),List.filter_nil,List.map_append,<- List.append_assoc]
      exact Paired.snoc (hQ.same (s5.new2 hc)) upd_same
    ·exact iteDF g1 (iteF (no H4 (Same.refl _) fun w=>g1 w.1))
   ·rintro ys H4 ⟨s4,qs,rfl,hQ,hql⟩
    rw[ltm,List.take_length] at hQ
    rw[ltm] at hql
    refine ⟨s4,qs,rfl,?_,by omega⟩
    rw[take_snoc hh,List.flatMap_append]
    simpa using hQ
  rintro ys H3 ⟨s3,qs,rfl,hQ,hql⟩ u hu
  rw[ltm,List.take_length,<- eO] at hQ
  have S3:=(s1.trans s2).trans s3
  have n4:=Same.new (o:=HO.lst (qs.map V.ref)) hu
  have S4:=S3.trans n4
  have hQ4:=hQ.same n4
  have hu4:upd H3 u (HO.lst (qs.map V.ref)) u=some (.lst (qs.map V.ref)):=upd_same
  have hp4:=(s3.trans n4) _ _ hp
  have hq4:=(s3.trans n4) _ _ hq
  have hl4:=hQ4.length
  generalize upd H3 u (HO.lst (qs.map V.ref))=H4 at n4 S4 hQ4 hu4 hp4 hq4
  have hTab4:=hTab.same S4
  obtain ⟨tp,hP0,_⟩:=id hTab4
  have nP : ∀ {b:Addr} {o:HO},H4 b=some o->(∀ ps,o ≠ .tbl ps)->hole H4 PTopen_pair b=some o:=fun {b o} e hne'=>by
   unfold hole
   rw[if_neg (fun z=>by rw[z,hP0] at e;cases e;exact hne' _ rfl)];exact e
  have hQz:PqAt (hole H4 PTopen_pair) qs (openPs n g):=L2.Paired.mapP hQ4 fun _ _ z=>nP z (fun _ z=>by cases z)
  have hpz:=nP hp4 (fun _ z=>by cases z)
  have hqz:=nP hq4 (fun _ z=>by cases z)
  try dsimp only
  refine ⟨_,rfl,u,qs,fun i=>(apB hs W ((openPs n g).getD i (0,0)).1 ((openPs n g).getD i (0,0)).2:Nat),rfl,SqL.of (nP hu4 (fun _ z=>by cases z)),?_,hTab4,fun i a hi H' s'=>?_,fun i a H' hi htop s' hT'=>?_⟩
  ·rw[hl4];exact List.length_pos_iff.mpr hne
  ·obtain ⟨pr,hpr,hpi⟩:=paired_getM hQz hi
   have epr:(openPs n g).getD i (0,0)=pr:=by rw[List.getD_eq_getElem?_getD,hpi];rfl
   refine ⟨_,rfl,_,rfl,_,rfl,a,_,_,_,rfl,rfl,SqT.of (s' _ _ hpr),rfl,_,rfl,a,_,_,_,rfl,rfl,SqT.of (s' _ _ hpr),rfl,p,q,hs,W,_,_,rfl,SqL.of (s' _ _ hpz),s' _ _ hqz,by omega,fun H5 s5=>⟨by dsimp only;rw[epr],s5⟩⟩
  ·obtain ⟨pr,hpr,hpi⟩:=paired_getM hQz hi
   exact k a pr H' ((hole_same S4).trans s') hT' (s' _ _ hpr) (List.mem_of_getElem? hpi)
theorem scsettle : FnScope (["gist","paper","one","other","first","second"]) (["gist"]) (defScope ssettle):=by trivial
theorem oksettle {dd : Nat} {f : Addr} {fd : FuncData} (F : Fun K "settle" "settle" ssettle f fd) (B : Bs mg) (T : Gs mg) (clGist : Cls K CGist) (nGist_labels : NoAttr K CGist "labels") (nGist_high : NoAttr K CGist "high") (cGist_homes : CalM P w K mg base CGist 1 "homes" (spHO K CGist)) (cGist_longer : CalM P w K mg base CGist 3 "longer" (spLO K CGist)) (copen_pair : Cal P w K mg base 4 "open_pair" [] (spOP K CGist PTopen_pair)) (cplain_paper : Cal P w K mg base 14 "plain_paper" [] (spPP K CGist)) (csettle : Cal P w K mg base (20 + dd) "settle" [] (spSE K CGist PTopen_pair dd)) (cway_of : Cal P w K mg base 1 "way_of" [] (spWayOfG K)) : FnOk P w K mg base CX0 (20 + dd + 1) f fd ["gist"] (spSE K CGist PTopen_pair (dd + 1)):= by
 have sc:=scsettle
 refine F.ok sc (fun vs H Q E h=>?_) (fun cdv A outer s H vs Q E hr h=>?_)
 ·obtain ⟨_,x,dx,l,d,g,n,rfl,_⟩:=h;rfl
 ·obtain ⟨hd0,x,dx,l,d,g,n,rfl,hG,hg,n1,h9,hfu,hTab,kW,kP⟩:=h
  refine ⟨_,(pss_cons (ps_set (i:=1) sc.nd rfl (Or.inl rfl) (pe_cal cplain_paper (hr.mono (by omega)) rfl (pa_cons (pv 0) pa_nil)))
   (pss_cons (ps_if (pt_cmpR op_notN (pv 1) pe_non (nomark _)) (pss_one (ps_ret (pe_tup (pa_cons pe_str (pa_cons (pv 1) pa_nil))))) pss_nil)
   (pss_cons (ps_if (pt_cmpR op_le (pe_callB (kc_len (K:=K)) (by rfl) B.len PyProof.Rows.Boot.«len» (pa_cons (pe_calM0 cGist_homes clGist (hr.mono (by omega)) (pv 0)) pa_nil)) (pe_fld (pv 0) rfl) (nomark _)) (pss_one (ps_ret (pe_tup (pa_cons pe_str (pa_cons (pe_cal cway_of (hr.mono (by omega)) rfl (pa_cons (pe_fld (pv 0) rfl) pa_nil)) pa_nil))))) pss_nil)
   (pss_cons (ps_asg (pe_cal copen_pair (hr.mono (by omega)) rfl (pa_cons (pv 0) pa_nil)) (pg_tup rfl (pgs_cons (pg_name (i:=2) sc.nd rfl (Or.inl rfl)) (pgs_cons (pg_name (i:=3) sc.nd rfl (Or.inl rfl)) pgs_nil))))
   (pss_cons (ps_set (i:=4) sc.nd rfl (Or.inl rfl) (pe_cal csettle (hr.mono (by omega)) rfl (pa_cons (pe_calM cGist_longer clGist (hr.mono (by omega)) (pv 0) (pa_cons (pe_tup (pa_cons pe_str (pa_cons (pv 2) (pa_cons (pv 3) pa_nil)))) pa_nil)) pa_nil)))
   (pss_cons (ps_if (pt_cmpR op_eq (pe_ix (kix_tup (K:=K)) (pv 4) pe_int (fun _ _=>rfl)) pe_str (nomark _)) (pss_one (ps_ret (pv 4))) pss_nil)
   (pss_cons (ps_set (i:=5) sc.nd rfl (Or.inl rfl) (pe_cal csettle (hr.mono (by omega)) rfl (pa_cons (pe_calM cGist_longer clGist (hr.mono (by omega)) (pv 0) (pa_cons (pe_tup (pa_cons pe_str (pa_cons (pv 2) (pa_cons (pv 3) pa_nil)))) pa_nil)) pa_nil)))
   (pss_cons (ps_if (pt_cmpR op_eq (pe_ix (kix_tup (K:=K)) (pv 5) pe_int (fun _ _=>rfl)) pe_str (nomark _)) (pss_one (ps_ret (pv 5))) pss_nil)
   (pss_one (ps_ret (pe_tup (pa_cons pe_str (pa_cons (pe_tup (pa_cons pe_str (pa_cons (pv 2) (pa_cons (pv 3) (pa_cons (pe_ix (kix_tup (K:=K)) (pv 4) pe_int (fun _ _=>rfl)) (pa_cons (pe_ix (kix_tup (K:=K)) (pv 5) pe_int (fun _ _=>rfl)) pa_nil)))))) pa_nil))))))))))))),?_⟩
  have n1' : (gF l d g.lo g.hi).lookup ("homes" : Str) = none:=gF_no _ _ _ _ (by decide +kernel) (by decide +kernel) (by decide +kernel) (by decide +kernel)
  have n2' : (gF l d g.lo g.hi).lookup ("longer" : Str) = none:=gF_no _ _ _ _ (by decide +kernel) (by decide +kernel) (by decide +kernel) (by decide +kernel)
  refine seq_a ?_
  refine ⟨_,rfl,x,dx,l,d,g,n,rfl,hG,hg,n1,h9,fun H1 s1 hU hlo hcl=>?_,fun p v H1 s1 hP hok hpd=>?_⟩
  ·refine seq_ifN (b:=false) (P:=fun H'=>H'=H1) (fun N hN=>⟨_,rfl,rfl,_,rfl,hN _ rfl⟩) (fun e=>absurd e (by decide)) (fun _ H5 e=>?_)
   rw[e]
   have G1:=hG.same s1
   refine seq_ifN (b:=decide (((homesN n g.L).length:Int)<=g.hi)) (P:=fun H'=>Same H1 H') (fun N hN=>⟨_,rfl,x,dx,_,rfl,G1.ob,n1',x,dx,l,d,g,n,rfl,G1,hg,h9,fun p H2 s2 hp=>⟨p,_,rfl,.inl (SqL.of hp),_,rfl,x,CGist,dx,_,_,rfl,s2 _ _ G1.ob,clGist,nGist_high,gF_atHi _ _ _ _,_,_,rfl,rfl,_,rfl,?_⟩⟩) (fun e H5 s5=>?_) (fun e H5 s5=>?_)
   ·rw[ltm];exact hN _ s2
   ·have e:=of_decide_eq_true e
    have G5:=G1.same s5
    have S5:=s1.trans s5
    refine ⟨_,rfl,x,CGist,dx,_,_,rfl,G5.ob,clGist,nGist_labels,gF_atL _ _ _ _,l,g.L,rfl,SqL.of G5.hl,by rw[hg.len];exact n1,by rw[hg.len];exact h9,fun a H6 _ s6 ha=>⟨le_line (by simp),fun t ht=>?_⟩⟩
    have S6:=(S5.trans s6).new2 (o:=HO.tup [V.str "way",V.ref a]) ht
    refine kW t a (numRow g.L) _ (same_hole S6) (hTab.same S6) upd_same (Same.new ht _ _ ha) (numRow_isWay (by rw[hg.len];exact n1) (by rw[hg.len];exact h9)) (by rw[numRow_length,hg.len]) (way_fits hg hU hlo e)
   ·have e:=of_decide_eq_false e
    have G5:=G1.same s5
    have S5:=s1.trans s5
    have hT5:=hTab.same S5
    have hne:openPs n g≠[]:=fun z=>e (hcl (open_nil z))
    have hpos:0<(openPs n g).length:=List.length_pos_iff.mpr hne
    refine ⟨_,rfl,x,dx,l,d,g,n,rfl,G5,hg,h9,hne,hT5,fun t q H6 s6 hT6 ht hq=>?_⟩
    have F6:Same (hole H PTopen_pair) H6:=hole_two (same_hole S5) s6
    have G6:=G5.beside hT5 s6
    obtain ⟨o1,o2,o3,o4⟩:=mem_open.mp hq
    have r1:=mem_rg.mp (List.mem_filter.mp o1).1
    have r2:=mem_rg.mp (List.mem_filter.mp o2).1
    have sA:sayOk n (.pair false q.1 q.2):=⟨r1.1,r1.2,r2.1,r2.2,by omega⟩
    have sU:sayOk n (.pair true q.1 q.2):=⟨r1.1,r1.2,r2.1,r2.2,by omega⟩
    have dA:=open_alike hg hq
    have dU:=open_unlike hg hq
    refine ⟨t,_,rfl,SqT.of ht,rfl,_,_,rfl,_,_,rfl,rfl,?_⟩
    try dsimp only
    refine nrm (σ':=[some (.ref x),some .non,some (.int q.1),some (.int q.2),none,none]) rfl ?_
    refine seq_a ?_
    refine ⟨_,rfl,x,dx,_,rfl,G6.ob,n2',_,rfl,_,rfl,le_line (by simp),fun a ha=>?_⟩
    have n7:=Same.new (o:=HO.tup [V.str "alike",V.int q.1,V.int q.2]) ha
    refine ⟨x,dx,l,d,a,g,n,.pair false q.1 q.2,rfl,G6.same n7,upd_same,hg,sA,h9,fun y dy m eA H8 s8 G8=>?_⟩
    have s68:=n7.trans s8
    have hT8:=hT6.same s68
    have G68:=G6.same s68
    refine ⟨by omega,y,dy,m,eA,_,n,rfl,G8,hg.take sA,n1,h9,by omega,hT8,fun t1 a1 w H9 s9 hT9 ht1 ha1 hw hwl hf=>?_,fun t1 v1 p1 H9 s9 hT9 ht1 hP1 hok1 hd1=>?_⟩
    ·have F9:Same (hole H PTopen_pair) H9:=hole_two F6 (hole_two (same_hole s68) s9)
     refine seq_ifN (b:=true) (P:=fun H'=>H'=H9) (fun N hN=>⟨_,rfl,t1,_,_,_,rfl,rfl,SqT.of ht1,rfl,rfl,_,rfl,by rw[dStr,decide_eq_true (by decide +kernel)];exact hN _ rfl⟩) (fun _ H5 e=>?_) (fun e=>absurd e (by decide))
     rw[e]
     exact ⟨_,rfl,kW t1 a1 w H9 F9 hT9 ht1 ha1 hw hwl ((fits_take hg sA).mp hf).1⟩
    ·have F9:Same (hole H PTopen_pair) H9:=hole_two F6 (hole_two (same_hole s68) s9)
     have G9:=G68.beside hT8 s9
     refine seq_ifN (b:=false) (P:=fun H'=>H'=H9) (fun N hN=>⟨_,rfl,t1,_,_,_,rfl,rfl,SqT.of ht1,rfl,rfl,_,rfl,by rw[dStr,decide_eq_false (by decide +kernel)];exact hN _ rfl⟩) (fun e=>absurd e (by decide)) (fun _ H5 e=>?_)
     rw[e]
     refine seq_a ?_
     refine ⟨_,rfl,x,dx,_,rfl,G9.ob,n2',_,rfl,_,rfl,le_line (by simp),fun b hb=>?_⟩
     have n10:=Same.new (o:=HO.tup [V.str "unlike",V.int q.1,V.int q.2]) hb
     refine ⟨x,dx,l,d,b,g,n,.pair true q.1 q.2,rfl,G9.same n10,upd_same,hg,sU,h9,fun y2 dy2 m2 e2 H11 s11 G11=>?_⟩
     have s911:=n10.trans s11
     have hT11:=hT9.same s911
     have ht11:=s911 _ _ ht1
     have hP11:PapAt H11 p1 v1:=PapAt.same (fun a xs e=>s911 _ _ e) hP1
     refine ⟨by omega,y2,dy2,m2,e2,_,n,rfl,G11,hg.take sU,n1,h9,by omega,hT11,fun t2 a2 w H12 s12 hT12 ht2 ha2 hw hwl hf=>?_,fun t2 v2 p2 H12 s12 hT12 ht2 hP2 hok2 hd2=>?_⟩
     ·have F12:Same (hole H PTopen_pair) H12:=hole_two F9 (hole_two (same_hole s911) s12)
      refine seq_ifN (b:=true) (P:=fun H'=>H'=H12) (fun N hN=>⟨_,rfl,t2,_,_,_,rfl,rfl,SqT.of ht2,rfl,rfl,_,rfl,by rw[dStr,decide_eq_true (by decide +kernel)];exact hN _ rfl⟩) (fun _ H5 e=>?_) (fun e=>absurd e (by decide))
      rw[e]
      exact ⟨_,rfl,kW t2 a2 w H12 F12 hT12 ht2 ha2 hw hwl ((fits_take hg sU).mp hf).1⟩
     ·have F12:Same (hole H PTopen_pair) H12:=hole_two F9 (hole_two (same_hole s911) s12)
      have ht12:=tup_beside ht11 hT11 s12
      have hP12:=hP11.beside hT11 s12
      refine seq_ifN (b:=false) (P:=fun H'=>H'=H12) (fun N hN=>⟨_,rfl,t2,_,_,_,rfl,rfl,SqT.of ht2,rfl,rfl,_,rfl,by rw[dStr,decide_eq_false (by decide +kernel)];exact hN _ rfl⟩) (fun e=>absurd e (by decide)) (fun _ H5 e=>?_)
      rw[e]
      refine ⟨_,rfl,_,rfl,_,rfl,t1,_,_,_,rfl,rfl,SqT.of ht12,rfl,_,rfl,t2,_,_,_,rfl,rfl,SqT.of ht2,rfl,le_line (by simp),fun c hc=>⟨le_line (by simp),fun u hu=>?_⟩⟩
      have n13:=(Same.new (o:=HO.tup [V.str "cases",V.int q.1,V.int q.2,v1,v2]) hc).new2 (o:=HO.tup [V.str "none",V.ref c]) hu
      have hcu:c≠u:=ne_of_none upd_same hu
      refine kP u (.ref c) (.cases q.1 q.2 p1 p2) _ (fun b o z=>n13 _ _ (F12 _ _ z)) (hT12.same n13) upd_same ⟨c,v1,v2,rfl,by rw[upd_ne hcu,upd_same],PapAt.same (fun a xs e=>n13 _ _ e) hP12,PapAt.same (fun a xs e=>n13 _ _ e) hP2⟩ ⟨r1,r2,by omega,hok1,hok2⟩ (by show max (papD p1) (papD p2)+1<=_;omega)
  ·have hne:v ≠ .non:=by cases p <;> (first | (obtain ⟨a,rfl,_⟩:=hP) | (obtain ⟨a,b,rfl,_⟩:=hP) | (obtain ⟨a,b,c,rfl,_⟩:=hP)) <;> exact fun z=>nomatch z
   refine seq_ifN (b:=true) (P:=fun H'=>H'=H1) (fun N hN=>⟨_,rfl,rfl,_,rfl,?_⟩) (fun _ H5 e=>?_) (fun e=>absurd e (by decide))
   ·rw[decide_eq_false hne];exact hN _ rfl
   rw[e]
   refine ⟨_,rfl,le_line (by simp),fun t ht=>?_⟩
   have s2:=s1.new2 (o:=HO.tup [V.str "none",v]) ht
   exact kP t v p _ (same_hole s2) (hTab.same s2) upd_same (PapAt.same (fun a xs e=>Same.new ht _ _ e) hP) hok (by omega)
theorem scsettled : FnScope (["censers","sayings"]) (["censers","sayings"]) (defScope ssettled):=by trivial
theorem oksettled {f : Addr} {fd : FuncData} (F : Fun K "settled" "settled" ssettled f fd) (B : Bs mg) (T : Gs mg)  (cchecked_gist : Cal P w K mg base 5 "checked_gist" [] (spGO K CGist)) (csettle : Cal P w K mg base 58 "settle" [] (spSE K CGist PTopen_pair 38)) : FnOk P w K mg base CX0 59 f fd ["censers","sayings"] (spST K PTopen_pair):= by
 have sc:=scsettled
 refine F.ok sc (fun vs H Q E h=>?_) (fun cdv A outer s H vs Q E hr h=>?_)
 ·obtain ⟨n,b,as,ss,rfl,_⟩:=h;rfl
 ·obtain ⟨n,b,as,ss,rfl,n1,n9,hb,hS,hs,hl,hTab,kW,kP⟩:=h
  refine ⟨_,(pss_one (ps_ret (pe_cal csettle (hr.mono (by decide)) rfl (pa_cons (pe_cal cchecked_gist (hr.mono (by decide)) rfl (pa_cons (pv 0) (pa_cons (pv 1) pa_nil))) pa_nil)))),?_⟩
  refine ⟨_,rfl,_,rfl,n,b,as,ss,rfl,n1,n9,hb,hS,hs,hl,fun x dx l d H1 s1 G1=>?_⟩
  refine ⟨by decide,x,dx,l,d,_,n,rfl,G1,gok_of n1 hs,n1,n9,?_,hTab.same s1,fun t a w H2 s2 hT2 ht ha hw hwl hf=>?_,fun t v p H2 s2 hT2 ht hP hok hpd=>?_⟩
  ·have:=open_36 (gistOf n ss) n9;omega
  ·exact kW t a w H2 (hole_two (same_hole s1) s2) hT2 ht ha hw hwl hf
  ·exact kP t v p H2 (hole_two (same_hole s1) s2) hT2 ht hP hok (by have:=open_36 (gistOf n ss) n9;omega)
theorem sc_law_num : FnScope (["_law_found"]) (["_law_found"]) (defScope s_law_num):=by trivial
theorem ok_law_num {f : Addr} {fd : FuncData} (F : Fun K "_law_num" "_law_num" s_law_num f fd) (B : Bs mg) (T : Gs mg)   : FnOk P w K mg base CX0 1 f fd ["_law_found"] spNum:= by
 have sc:=sc_law_num
 refine F.ok sc (fun vs H Q E h=>?_) (fun cdv A outer s H vs Q E hr h=>?_)
 ·obtain ⟨z,rfl,_⟩:=h;rfl
 ·obtain ⟨z,rfl,k⟩:=h
  refine ⟨_,(pss_one (ps_ret (pe_and (pe_callB (kc_isi (K:=K)) (by rfl) B.isinstance PyProof.Rows.Boot.«isinstance» (pa_cons (pv 0) (pa_cons (pe_bltn (v:=.ty "int") rfl B.int PyProof.Rows.Boot.«int» rfl) pa_nil))) (pe_one (pe_not (pe_callB (kc_isi (K:=K)) (by rfl) B.isinstance PyProof.Rows.Boot.«isinstance» (pa_cons (pv 0) (pa_cons (pe_bltn (v:=.ty "bool") rfl B.bool PyProof.Rows.Boot.«bool» rfl) pa_nil)))))))),?_⟩
  refine ⟨_,rfl,.int z,"int",_,true,rfl,TyOf.int z,rfl,_,rfl,iteT ?_⟩
  exact ⟨_,rfl,.int z,"bool",_,false,rfl,TyOf.int z,rfl,_,rfl,k⟩
theorem sc_law_row_ok : FnScope (["_law_row"]) (["_law_row"]) (defScope s_law_row_ok):=by trivial
theorem ok_law_row_ok {f : Addr} {fd : FuncData} (F : Fun K "_law_row_ok" "_law_row_ok" s_law_row_ok f fd) (B : Bs mg) (T : Gs mg)   : FnOk P w K mg base CX0 1 f fd ["_law_row"] (spRowOk K):= by
 have sc:=sc_law_row_ok
 refine F.ok sc (fun vs H Q E h=>?_) (fun cdv A outer s H vs Q E hr h=>?_)
 ·obtain ⟨a,ns,rfl,_⟩:=h;rfl
 ·obtain ⟨a,ns,rfl,hS,hln,k⟩:=h
  refine ⟨_,(pss_cons (ps_if (PW.pt (pw_or (pt_not (pt_chain op_le op_le pe_int (pe_callB (kc_len (K:=K)) (by rfl) B.len PyProof.Rows.Boot.«len» (pa_cons (pv 0) pa_nil)) pe_int)) (pw_or1 (pt_cmpR op_ne (pe_ix (kix_tup (K:=K)) (pv 0) pe_int (fun _ _=>rfl)) pe_int (nomark _))))) (pss_one (ps_ret pe_bl)) pss_nil)
   (pss_one (ps_ret (pe_callB (kc_all (K:=K)) (by rfl) B.all PyProof.Rows.Boot.«all» (pa_cons (pe_lc (N':=["_law_k","_law_row"]) (M:=[none,some 0]) (lcSc_of (by rfl)) rfl (pi_range2 rfl B.range (pa_cons pe_int (pa_cons (pe_callB (kc_len (K:=K)) (by rfl) B.len PyProof.Rows.Boot.«len» (pa_cons (pv 0) pa_nil)) pa_nil))) (fun _ _ _ _ _=>pg_name (i:=0) (show (["_law_k","_law_row"] : List Str).Nodup by decide +kernel) rfl (Or.inl rfl) (.inr rfl)) (frm_name rfl) (fun _ _ _ _ _=>pts_nil) (fun _ _ _ _ _=>(pe_chain op_le op_le pe_int (pe_ix (kix_tup (K:=K)) (pv 1) (pv 0) (fun _ _=>rfl)) (pe_op op_add (pe_callB (kc_max (K:=K)) (by rfl) B.max PyProof.Rows.Boot.«max» (pa_cons (pe_slice (ksl_tup (K:=K)) (pv 1) po_none (po_some (pv 0))) pa_nil)) pe_int)))) pa_nil))))),?_⟩
  refine ⟨_,rfl,a,_,rfl,.inr hS,_,_,rfl,rfl,_,rfl,?_⟩
  rw[ltm]
  have no : ¬ (1<=ns.length/\ns.length<=9)->rowOk ns=false:=fun z=>by
   unfold rowOk
   rw[<- Bool.decide_and,decide_eq_false z];rfl
  refine ite2 (fun h1=>⟨_,_,rfl,rfl,_,rfl,ite2 (fun h2=>iteT ?_) (fun h2=>?_)⟩) (fun h1=>⟨_,rfl,iteT (iteT ?_)⟩)
  ·have k:=k H (Same.refl H)
   rw[no (by simp at h2;omega)] at k
   exact k
  ·have h1:(1:Int)<=(ns.length:Int):=of_decide_eq_true h1
   have h2:(ns.length:Int)<=9:=by simp at h2;omega
   have e0:rowOk ns=(decide (ns.getD 0 1=0)&&rowAll ns):= by
    unfold rowOk
    rw[decide_eq_true (show 1<=ns.length by omega),decide_eq_true (show ns.length<=9 by omega)];rfl
   have hp0:0<ns.length:=by omega
   have g0:ns.getD 0 1=ns.getD 0 0:= by
    rw[List.getD_eq_getElem?_getD,List.getD_eq_getElem?_getD,List.getElem?_eq_getElem hp0];rfl
   rw[e0,g0] at k
   refine ⟨_,rfl,a,_,_,_,rfl,rfl,hS,atI_lt (i:=0) (by decide) (by omega),rfl,_,rfl,ite2 (fun g=>?_) (fun g=>?_)⟩
   ·have g : ¬ ns.getD 0 0=0:=fun e=>by
     have e':ns.getD (0:Int).toNat 0=0:=e
     rw[e'] at g
     exact absurd g (by decide)
    have k:=k H (Same.refl H)
    rw[decide_eq_false g,Bool.false_and] at k
    exact k
   ·have g:ns.getD 0 0=0:= by
     have g' : ¬ (!decide (V.int (ns.getD 0 0)=V.int 0))=true:=g
     rw[Bool.not_eq_true,Bool.not_eq_false'] at g'
     exact V.int.inj (of_decide_eq_true g')
    rw[decide_eq_true g,Bool.true_and] at k
    refine ⟨_,rfl,a,_,rfl,.inr hS,_,_,rfl,⟨by decide,by decide,by rw[ltm];omega,by rw[ltm];omega⟩,?_⟩
    rw[ltm,show ((ns.length:Int)-1).toNat=ns.length-1 by omega]
    refine lc_range (fun i ys H2=>Same H H2/\ys=(List.range i).map fun j=>V.bl (decide (0<=ns.getD (j+1) 0)&&decide (ns.getD (j+1) 0<=maxL (ns.take (j+1))+1))) (le_line (by omega)) ⟨Same.refl H,rfl⟩
     (fun i ys H2 _ h=>by rw[h.2,List.length_map,List.length_range];exact Nat.le_refl _) ?_ ?_
    ·rintro i ys H2 hi ⟨s2,rfl⟩
     have e1:(1:Int)+(i:Int)=((i+1:Nat):Int):=by omega
     have hS2:=s2.seqT hS
     rw[e1]
     refine lcN ?_
     refine ⟨_,rfl,_,rfl,a,_,_,_,rfl,rfl,hS2,atI_lt (by omega) (by omega),_,_,rfl,rfl,_,rfl,?_⟩
     rw[Int.toNat_natCast]
     refine ite2 (fun g1=>?_) (fun g1=>?_)
     ·refine ⟨_,rfl,_,rfl,_,rfl,a,_,rfl,hS2,fun p H3 s3 hp3=>?_⟩
      rw[cut_take_int] at hp3
      refine ⟨p,_,rfl,.inr hp3,(fun e=>by have:=congrArg List.length e;rw[List.length_take,List.length_nil] at this;omega),fun m hm=>?_⟩
      refine ⟨_,_,rfl,rfl,_,_,rfl,rfl,s2.trans s3,?_⟩
      rw[<- map_snoc]
      rw[hm.eq,of_decide_eq_true g1 |> decide_eq_true,Bool.true_and]
     ·refine ⟨s2,?_⟩
      rw[<- map_snoc]
      rw[Bool.not_eq_true] at g1
      rw[g1,Bool.false_and]
    ·rintro ys H2 ⟨s2,rfl⟩ p hp
     refine ⟨p,_,rfl,.inl (SqL.of (by rw[upd_same,mapB2])),?_⟩
     have e2:((List.range (ns.length-1)).map fun j=>decide (0<=ns.getD (j+1) 0)&&decide (ns.getD (j+1) 0<=maxL (ns.take (j+1))+1)).all id=rowAll ns:= by
      rw[List.all_map];rfl
     rw[e2]
     exact k _ (s2.new2 hp)
  ·have h1 : ¬ (1:Int)<=(ns.length:Int):=fun e=>h1 (decide_eq_true e)
   have k:=k H (Same.refl H)
   rw[no (by omega)] at k
   exact k
theorem sc_law_way_ok : FnScope (["_law_found","_law_size"]) (["_law_found","_law_size"]) (defScope s_law_way_ok):=by trivial
theorem ok_law_way_ok {f : Addr} {fd : FuncData} (F : Fun K "_law_way_ok" "_law_way_ok" s_law_way_ok f fd) (B : Bs mg) (T : Gs mg)  (c_law_num : Cal P w K mg base 1 "_law_num" [] spNum) (c_law_row_ok : Cal P w K mg base 1 "_law_row_ok" [] (spRowOk K)) : FnOk P w K mg base CX0 2 f fd ["_law_found","_law_size"] (spWayOk K):= by
 have sc:=sc_law_way_ok
 refine F.ok sc (fun vs H Q E h=>?_) (fun cdv A outer s H vs Q E hr h=>?_)
 ·obtain ⟨a,ns,n,rfl,_⟩:=h;rfl
 ·obtain ⟨a,ns,n,rfl,hT,hl,k⟩:=h
  refine ⟨_,(pss_cons (ps_if (PW.pt (pw_or (pt_not (pt_val (pe_callB (kc_isi (K:=K)) (by rfl) B.isinstance PyProof.Rows.Boot.«isinstance» (pa_cons (pv 0) (pa_cons (pe_bltn (v:=.ty "tuple") rfl B.tuple PyProof.Rows.Boot.«tuple» rfl) pa_nil))))) (pw_or (pt_cmpR op_ne (pe_callB (kc_len (K:=K)) (by rfl) B.len PyProof.Rows.Boot.«len» (pa_cons (pv 0) pa_nil)) (pv 1) (nomark _)) (pw_or1 (pt_not (pt_val (pe_callB (kc_all (K:=K)) (by rfl) B.all PyProof.Rows.Boot.«all» (pa_cons (pe_lc (N':=["_law_one"]) (M:=[none]) (lcSc_of (by rfl)) rfl (kpi_tup (K:=K) (pv 0)) (fun _ _ _ _ _=>pg_name (i:=0) (show (["_law_one"] : List Str).Nodup by decide +kernel) rfl (Or.inl rfl) (.inr rfl)) (frm_name rfl) (fun _ _ _ _ _=>pts_nil) (fun _ _ _ _ _=>(pe_cal c_law_num (hr.mono (by decide)) rfl (pa_cons (pv 0) pa_nil)))) pa_nil)))))))) (pss_one (ps_ret pe_bl)) pss_nil)
   (pss_one (ps_ret (pe_cal c_law_row_ok (hr.mono (by decide)) rfl (pa_cons (pv 0) pa_nil))))),?_⟩
  refine ⟨_,rfl,.ref a,"tuple",_,true,rfl,TyOf.tup hT,rfl,_,rfl,iteF ?_⟩
  refine ⟨_,rfl,a,_,rfl,.inr (SqT.of hT),_,rfl,rfl,_,rfl,?_⟩
  rw[ltm]
  refine ite2 (fun g=>iteT ?_) (fun g=>?_)
  ·have g : ¬ (ns.length:Int)=n:=fun e=>by rw[e] at g;exact absurd g (by simp)
   have k:=k H (Same.refl H)
   rw[decide_eq_false g,Bool.false_and] at k
   exact k
  ·have g:(ns.length:Int)=n:= by
    have g' : ¬ (!decide (V.int (ns.length:Int)=V.int n))=true:=g
    rw[Bool.not_eq_true,Bool.not_eq_false'] at g'
    exact V.int.inj (of_decide_eq_true g')
   rw[decide_eq_true g,Bool.true_and] at k
   refine ⟨_,rfl,a,rfl,⟨_,SqT.of hT⟩,lc_tup (xs:=ns.map V.int) (fun i ys H4=>H4=H/\ys=(List.replicate i true).map V.bl) (le_line (by rw[ltm];omega)) ⟨rfl,rfl⟩
    (fun i ys H4 _ ⟨e,e2⟩=>⟨by rw[e];exact SqT.of hT,by rw[e2,List.length_map,List.length_replicate];exact Nat.le_refl _⟩) ?_ ?_⟩
   ·rintro i y ys H4 hi ⟨rfl,rfl⟩
    obtain ⟨z,rfl,hz,hil⟩:=getI hi
    refine lcN ?_
    refine ⟨_,rfl,z,rfl,rfl,?_⟩
    rw[List.replicate_succ',List.map_append];rfl
   ·rintro ys H4 ⟨rfl,rfl⟩ p hp
    refine ⟨p,_,rfl,.inl (SqL.of upd_same),_,rfl,?_⟩
    rw[show (List.replicate (List.map V.int ns).length true).all id=true by simp]
    refine iteF ?_
    exact ⟨_,rfl,a,ns,rfl,(Same.new hp).seqT (SqT.of hT),hl,fun H5 s5=>k H5 ((Same.new hp).trans s5)⟩
theorem sc_law_pairs : FnScope (["_law_size","_law_found","_law_k"]) (["_law_size"]) (defScope s_law_pairs):=by trivial
theorem ok_law_pairs {f : Addr} {fd : FuncData} (F : Fun K "_law_pairs" "_law_pairs" s_law_pairs f fd) (B : Bs mg) (T : Gs mg)   : FnOk P w K mg base CX0 1 f fd ["_law_size"] (spPairs K):= by
 have sc:=sc_law_pairs
 refine F.ok sc (fun vs H Q E h=>?_) (fun cdv A outer s H vs Q E hr h=>?_)
 ·obtain ⟨n,rfl,_⟩:=h;rfl
 ·obtain ⟨n,rfl,h0,h9,k⟩:=h
  refine ⟨_,(pss_cons (ps_set (i:=1) sc.nd rfl (Or.inl rfl) (pe_lst pa_nil))
   (pss_cons (ps_for PassesOwn.never rfl (pi_range1 rfl B.range (pa_cons (pv 0) pa_nil)) (pg_name (i:=2) sc.nd rfl (Or.inr rfl))
   (pss_one (ps_expr (pe_bm PySem.F.plainAttrs_list PySem.F.slot_list_extend PySem.F.type_list_extend mt_extend (pv 1) (pa_cons (pe_lc (N':=["_law_j","_law_k"]) (M:=[none,some 2]) (lcSc_of (by rfl)) rfl (pi_range1 rfl B.range (pa_cons (pv 2) pa_nil)) (fun _ _ _ _ _=>pg_name (i:=0) (show (["_law_j","_law_k"] : List Str).Nodup by decide +kernel) rfl (Or.inl rfl) (.inr rfl)) (frm_name rfl) (fun _ _ _ _ _=>pts_nil) (fun _ _ _ _ _=>(pe_tup (pa_cons (pv 0) (pa_cons (pv 1) pa_nil))))) pa_nil)))))
   (pss_one (ps_ret (pv 1))))),?_⟩
  refine ⟨Nat.zero_le _,fun p hp=>?_⟩
  refine ⟨_,rfl,_,rfl,by omega,by omega,for_range (lo:=0) (n:=n.toNat) (fun i σ H2=>∃ (ps:List Addr) (o:Option V),σ=[some (.int n),some (.ref p),o]/\Same H H2/\H2 p=some (.lst (ps.map V.ref))/\Paired (fun a q=>SqT K H2 a [.int ((q.1:Nat):Int),.int ((q.2:Nat):Int)]) ps (pairsN i))
   ⟨[],none,rfl,Same.new hp,upd_same,.nil⟩ ?_ ?_⟩
  ·rintro i σ H2 hi ⟨ps,o,rfl,s2,hp2,hP⟩
   have hpl:=hP.length
   have hb:=pairsN_le i
   have hb':i*i<=81:=Nat.mul_le_mul (show i<=9 by omega) (show i<=9 by omega)
   refine ⟨_,rfl,.inl ⟨rfl,_,SqL.of hp2⟩,_,rfl,_,rfl,by omega,by omega,?_⟩
   rw[show ((0:Int)+(i:Int)).toNat=i by omega]
   refine lc_range (fun b ys H4=>Same H2 H4 /\ ∃ as:List Addr,ys=as.map V.ref/\as.length=b/\Paired (fun a (q:Nat × Nat)=>SqT K H4 a [.int ((q.1:Nat):Int),.int ((q.2:Nat):Int)]) as ((List.range b).map fun j=>(j,i))) (le_line (by omega)) ⟨Same.refl _,[],rfl,rfl,.nil⟩ (fun b ys H4 _ h=>by obtain ⟨_,as,e,e2,_⟩:=h;rw[e,List.length_map,e2];exact Nat.le_refl _) ?_ ?_
   ·rintro b ys H4 hb ⟨s4,as,rfl,hal,hA⟩
    refine lcN ?_
    refine ⟨_,rfl,_,rfl,le_line (by simp),fun u hu=>⟨s4.new2 hu,as++[u],by rw[List.map_append];rfl,by rw[List.length_append,hal];rfl,?_⟩⟩
    rw[List.range_succ,List.map_append]
    refine Paired.snoc (L2.Paired.mapP hA fun a' q z=>(Same.new hu).seqT z) (SqT.of ?_)
    rw[upd_same,Int.zero_add,Int.zero_add]
   ·rintro ys H4 ⟨s4,as,rfl,hal,hA⟩ u hu
    have hp4:=s4 p _ hp2
    have hpu:p≠u:=ne_of_none hp4 hu
    have hpH:H p=none:=hp
    have hp5:upd H4 u (HO.lst (as.map V.ref)) p=some (.lst (ps.map V.ref)):=by rw[upd_ne hpu];exact hp4
    have hQ:Paired (fun a (q:Nat × Nat)=>SqT K (upd H4 u (HO.lst (as.map V.ref))) a [.int ((q.1:Nat):Int),.int ((q.2:Nat):Int)]) (ps++as) (pairsN (i+1)):= by
     rw[pairsN_succ]
     exact paired_app (L2.Paired.mapP hP fun a' q z=>(s4.new2 hu).seqT z) (L2.Paired.mapP hA fun a' q z=>(Same.new hu).seqT z)
    refine ⟨p,u,_,_,rfl,rfl,hp5,upd_same,le_line (by rw[List.length_map,List.length_map];omega),?_⟩
    exact ⟨ps++as,_,rfl,(s2.trans (s4.new2 hu)).put hpH,by rw[upd_same,List.map_append],L2.Paired.mapP hQ fun a' q z=>z.put hp5⟩
  ·rintro σ H2 ⟨ps,o,rfl,s2,hp2,hP⟩
   exact ⟨_,rfl,k p ps H2 s2 hp2 hP⟩
theorem sc_law_number_row : FnScope (["_law_marks","_law_seen","_law_row","_law_one"]) (["_law_marks"]) (defScope s_law_number_row):=by trivial
theorem ok_law_number_row {f : Addr} {fd : FuncData} (F : Fun K "_law_number_row" "_law_number_row" s_law_number_row f fd) (B : Bs mg) (T : Gs mg)   : FnOk P w K mg base CX0 1 f fd ["_law_marks"] (spNumRow K):= by
 have sc:=sc_law_number_row
 refine F.ok sc (fun vs H Q E h=>?_) (fun cdv A outer s H vs Q E hr h=>?_)
 ·obtain ⟨a,ns,rfl,_⟩:=h;rfl
 ·obtain ⟨a,ns,rfl,hS,hl,k⟩:=h
  refine ⟨_,(pss_cons (ps_set (i:=1) sc.nd rfl (Or.inl rfl) (pe_lst pa_nil))
   (pss_cons (ps_set (i:=2) sc.nd rfl (Or.inl rfl) (pe_lst pa_nil))
   (pss_cons (ps_for PassesOwn.never rfl (kpi_list (K:=K) (pv 0)) (pg_name (i:=3) sc.nd rfl (Or.inl rfl))
   (pss_cons (ps_if (pt_cmpR (kop_notIn (K:=K)) (pv 3) (pv 1) rfl) (pss_one (ps_expr (pe_bm PySem.F.plainAttrs_list PySem.F.slot_list_append PySem.F.type_list_append mt_append (pv 1) (pa_cons (pv 3) pa_nil)))) pss_nil)
   (pss_one (ps_expr (pe_bm PySem.F.plainAttrs_list PySem.F.slot_list_append PySem.F.type_list_append mt_append (pv 2) (pa_cons (pe_bm PySem.F.plainAttrs_list PySem.F.slot_list_index PySem.F.type_list_index mt_index (pv 1) (pa_cons (pv 3) pa_nil)) pa_nil))))))
   (pss_one (ps_ret (pe_callTy (kc_tuple (K:=K)) (by rfl) B.tuple PyProof.Rows.Boot.«tuple» (pa_cons (pv 2) pa_nil))))))),?_⟩
  refine ⟨Nat.zero_le _,fun p hp=>⟨Nat.zero_le _,fun q hq=>?_⟩⟩
  have hpq:p≠q:=ne_of_none upd_same hq
  have S0:Same H (upd (upd H p (.lst [])) q (.lst [])):=(Same.new hp).new2 hq
  have hqH:H q=none:=(Same.new hp).free hq
  refine ⟨_,rfl,a,rfl,⟨_,S0.seq hS⟩,for_list (K:=K) (a:=a) (xs:=ns.map V.int) (fun i σ H2=>∃ (v:Option V),σ=[some (.ref a),some (.ref p),some (.ref q),v]/\Same H H2/\H2 p=some (.lst ((seen (ns.take i)).map V.int))/\H2 q=some (.lst ((numRow (ns.take i)).map V.int)))
   ⟨none,rfl,S0,by rw[upd_ne hpq,upd_same];rfl,by rw[upd_same];rfl⟩ (fun i σ H2 _ ⟨_,_,s2,_⟩=>s2.seq hS) ?_ ?_⟩
  ·rintro i y σ H2 hi ⟨v,rfl,s2,hp2,hq2⟩
   obtain ⟨z,rfl,hz,hil⟩:=getI hi
   have hts:=take_snoc hz
   have hsl:=seen_length (ns.take i)
   have htl:(ns.take i).length<=ns.length:=by rw[List.length_take];omega
   have fl : ∀ s:List Int,(s.map V.int).all flatV=true:=fun s=>by rw[List.all_map];exact List.all_eq_true.mpr fun _ _=>rfl
   have inv:inV (V.int z) ((seen (ns.take i)).map V.int)=decide (z ∈ seen (ns.take i)):= by
    unfold inV
    rw[List.any_map]
    rw[Bool.eq_iff_iff,List.any_eq_true,decide_eq_true_iff]
    constructor
    ·rintro ⟨y,hy,e⟩
     have:y=z:=by simpa [eqV] using e
     rw[<- this];exact hy
    ·intro hy;exact ⟨z,hy,by simp [eqV]⟩
   refine ⟨_,rfl,_,rfl,p,_,rfl,.inl (SqL.of hp2),rfl,fl _,_,rfl,?_⟩
   rw[inv]
   have fin : ∀ H3:Hp,Same H H3->H3 p=some (.lst ((seenP (seen (ns.take i)) z).map V.int))->H3 q=some (.lst ((numRow (ns.take i)).map V.int)) ->
     ∃ H4:Hp,H4=upd H3 q (.lst (((numRow (ns.take i))++[((seenP (seen (ns.take i)) z).idxOf z:Int)]).map V.int))/\Same H H4/\H4 p=some (.lst ((seen (ns.take (i+1))).map V.int))/\H4 q=some (.lst ((numRow (ns.take (i+1))).map V.int)):=fun H3 s3 h3 h3q=>by
    refine ⟨_,rfl,s3.put hqH,?_,?_⟩
    ·rw[upd_ne hpq,h3,hts,seen_snoc]
    ·rw[upd_same,hts,numRow_snoc]
   have zin:z ∈ seenP (seen (ns.take i)) z:=mem_seenP.mpr (.inr rfl)
   refine ite2 (fun g=>?_) (fun g=>?_)
   ·have g:z ∉ seen (ns.take i):=by simpa using g
    refine ⟨_,rfl,.inl ⟨rfl,_,SqL.of hp2⟩,_,rfl,p,_,_,rfl,rfl,hp2,lt_line (by rw[ltm];omega),?_⟩
    have e2:(seen (ns.take i)).map V.int++[V.int z]=(seenP (seen (ns.take i)) z).map V.int:=by unfold seenP;rw[if_neg g,mapV]
    rw[e2]
    have hp3:upd H2 p (.lst ((seenP (seen (ns.take i)) z).map V.int)) p=some (.lst ((seenP (seen (ns.take i)) z).map V.int)):=upd_same
    have hq3:upd H2 p (.lst ((seenP (seen (ns.take i)) z).map V.int)) q=some (.lst ((numRow (ns.take i)).map V.int)):=by rw[upd_ne hpq.symm];exact hq2
    obtain ⟨H4,e4,r4⟩:=fin _ (s2.put hp) hp3 hq3
    refine ⟨_,rfl,.inl ⟨rfl,_,SqL.of hq3⟩,_,rfl,.inl ⟨rfl,_,SqL.of hp3⟩,_,rfl,p,_,z,rfl,rfl,hp3,zin,?_,q,_,_,rfl,rfl,hq3,lt_line (by rw[ltm,numRow_length];omega),?_⟩
    ·unfold seenP;rw[if_neg g,List.length_append];show _+1<=_;omega
    ·rw[mapV,<- e4];exact ⟨_,rfl,r4⟩
   ·have g:z ∈ seen (ns.take i):=by simpa using g
    have e2:seenP (seen (ns.take i)) z=seen (ns.take i):=by unfold seenP;rw[if_pos g]
    have hp3:H2 p=some (.lst ((seenP (seen (ns.take i)) z).map V.int)):=by rw[e2];exact hp2
    obtain ⟨H4,e4,r4⟩:=fin _ s2 hp3 hq2
    refine ⟨_,rfl,.inl ⟨rfl,_,SqL.of hq2⟩,_,rfl,.inl ⟨rfl,_,SqL.of hp3⟩,_,rfl,p,_,z,rfl,rfl,hp3,zin,?_,q,_,_,rfl,rfl,hq2,lt_line (by rw[ltm,numRow_length];omega),?_⟩
    ·rw[e2];omega
    ·rw[mapV,<- e4];exact ⟨_,rfl,r4⟩
  ·rintro σ H2 ⟨v,rfl,s2,hp2,hq2⟩
   rw[ltm,List.take_length] at hq2
   exact ⟨_,rfl,q,_,rfl,.inl ⟨SqL.of hq2,fun t ht=>k t _ (s2.free ht) (s2.new2 ht) upd_same⟩⟩
theorem sc_law_linked : FnScope (["_law_size","_law_pairs_here","_law_row","_law_one","_law_other","_law_gone","_law_stays"]) (["_law_size","_law_pairs_here"]) (defScope s_law_linked):=by trivial
theorem ok_law_linked {f : Addr} {fd : FuncData} (F : Fun K "_law_linked" "_law_linked" s_law_linked f fd) (B : Bs mg) (T : Gs mg)  (c_law_number_row : Cal P w K mg base 1 "_law_number_row" [] (spNumRow K)) : FnOk P w K mg base CX0 2 f fd ["_law_size","_law_pairs_here"] (spLinked K):= by
 have sc:=sc_law_linked
 refine F.ok sc (fun vs H Q E h=>?_) (fun cdv A outer s H vs Q E hr h=>?_)
 ·obtain ⟨n,b,ps,qs,rfl,_⟩:=h;rfl
 ·obtain ⟨n,b,ps,qs,rfl,h0,h9,hb,hP,hok,k⟩:=h
  refine ⟨_,(pss_cons (ps_set (i:=2) sc.nd rfl (Or.inl rfl) (pe_callTy call_listR (by rfl) B.list PyProof.Rows.Boot.«list» (pa_cons (pe_callTy call_rangeV (by rfl) B.range PyProof.Rows.Boot.«range» (pa_cons (pv 0) pa_nil)) pa_nil)))
   (pss_cons (ps_for PassesOwn.never rfl (kpi_list (K:=K) (pv 1)) (pg_tup rfl (pgs_cons (pg_name (i:=3) sc.nd rfl (Or.inl rfl)) (pgs_cons (pg_name (i:=4) sc.nd rfl (Or.inl rfl)) pgs_nil)))
   (pss_cons (ps_set (i:=5) sc.nd rfl (Or.inr rfl) (pe_ix (kix_list (K:=K)) (pv 2) (pv 4) (fun _ _=>rfl)))
   (pss_cons (ps_set (i:=6) sc.nd rfl (Or.inr rfl) (pe_ix (kix_list (K:=K)) (pv 2) (pv 3) (fun _ _=>rfl)))
   (pss_one (ps_lc (i:=2) sc.nd rfl rfl (N':=["_law_lot","_law_stays","_law_gone"]) (M:=[none,some 6,some 5]) (lcSc_of (by rfl)) rfl (kpi_list (K:=K) (pv 2)) (fun _ _ _ _ _=>pg_name (i:=0) (show (["_law_lot","_law_stays","_law_gone"] : List Str).Nodup by decide +kernel) rfl (Or.inl rfl) (.inr rfl)) (frm_name rfl) (fun _ _ _ _ _=>pts_nil) (fun _ _ _ _ _=>(pe_ifExp (pt_cmpR op_eq (pv 0) (pv 2) (nomark _)) (pv 1) (pv 0))))))))
   (pss_one (ps_ret (pe_cal c_law_number_row (hr.mono (by decide)) rfl (pa_cons (pv 2) pa_nil)))))),?_⟩
  refine ⟨_,rfl,_,rfl,fun rp hrp=>⟨rp,_,rfl,upd_same,by omega,by omega,fun l hl=>?_⟩⟩
  have s1:=(Same.new (o:=HO.rng 0 n) hrp).new2 (o:=HO.lst (((List.range n.toNat).map fun (k:Nat)=>(k:Int)).map V.int)) hl
  have hl1:upd (upd H rp (HO.rng 0 n)) l (HO.lst (((List.range n.toNat).map fun (k:Nat)=>(k:Int)).map V.int)) l=some (.lst ((rg n.toNat).map V.int)):=upd_same
  generalize upd (upd H rp (HO.rng 0 n)) l (HO.lst (((List.range n.toNat).map fun (k:Nat)=>(k:Int)).map V.int))=H1 at s1 hl1
  have hpl:=hP.length
  refine ⟨_,rfl,b,rfl,⟨_,s1.seq hb⟩,for_list (K:=K) (a:=b) (xs:=ps.map V.ref) (fun m σ H2=>∃ (l:Addr) (o1 o2 o3 o4:Option V),σ=[some (.int n),some (.ref b),some (.ref l),o1,o2,o3,o4]/\Same H H2/\H2 l=some (.lst ((mgs (rg n.toNat) (qs.take m)).map V.int)))
   ⟨l,none,none,none,none,rfl,s1,hl1⟩ (fun m σ H2 _ ⟨_,_,_,_,_,_,s2,_⟩=>s2.seq hb) ?_ ?_⟩
  ·rintro m y σ H2 hm ⟨l,o1,o2,o3,o4,rfl,s2,hl2⟩
   obtain ⟨pa,rfl,haj,_⟩:=getRef hm
   obtain ⟨q,hq,hqj⟩:=paired_get hP haj
   obtain ⟨q1,q2⟩:=hok q (List.mem_of_getElem? hqj)
   have hLl:(mgs (rg n.toNat) (qs.take m)).length=n.toNat:=by rw[mgs_length,rg_length]
   have a1:=atI_lt (ns:=mgs (rg n.toNat) (qs.take m)) (i:=((q.1:Nat):Int)) (by omega) (by omega)
   have a2:=atI_lt (ns:=mgs (rg n.toNat) (qs.take m)) (i:=((q.2:Nat):Int)) (by omega) (by omega)
   rw[Int.toNat_natCast] at a1 a2
   refine ⟨pa,_,rfl,s2.seqT hq,rfl,_,_,rfl,_,_,rfl,rfl,?_⟩
   refine ⟨_,rfl,_,rfl,l,_,_,_,rfl,rfl,SqL.of hl2,a2,?_⟩
   refine ⟨_,rfl,_,rfl,l,_,_,_,rfl,rfl,SqL.of hl2,a1,?_⟩
   have eg:L2.mg (mgs (rg n.toNat) (qs.take m)) q=relab (mgs (rg n.toNat) (qs.take m)) ((mgs (rg n.toNat) (qs.take m)).getD q.2 0) ((mgs (rg n.toNat) (qs.take m)).getD q.1 0):=rfl
   rw[take_snoc hqj,mgs_snoc,eg]
   generalize (mgs (rg n.toNat) (qs.take m)).getD q.2 0=go at *
   generalize (mgs (rg n.toNat) (qs.take m)).getD q.1 0=st at *
   generalize mgs (rg n.toNat) (qs.take m)=L at *
   refine ⟨_,rfl,l,rfl,⟨_,SqL.of hl2⟩,lc_list (xs:=L.map V.int) (fun i ys H4=>H4=H2/\ys=((relab L go st).take i).map V.int) (le_line (by rw[ltm];omega)) ⟨rfl,rfl⟩
    (fun i ys H4 _ ⟨e,e2⟩=>⟨by rw[e];exact SqL.of hl2,by rw[e2,ltm,List.length_take];omega⟩) ?_ ?_⟩
   ·rintro i y ys H4 hi ⟨rfl,rfl⟩
    obtain ⟨z,rfl,hz,hil⟩:=getI hi
    refine lcN ?_
    have hr:(relab L go st)[i]?=some (if z=go then st else z):=by unfold relab;rw[List.getElem?_map,hz];rfl
    refine ⟨_,rfl,_,rfl,rfl,_,rfl,ite2 (fun g=>⟨_,rfl,rfl,?_⟩) (fun g=>⟨_,rfl,rfl,?_⟩)⟩
    ·have g:z=go:=V.int.inj (of_decide_eq_true g)
     rw[if_pos g] at hr
     rw[take_snoc hr,mapV]
    ·have g : ¬ z=go:=fun e=>g (decide_eq_true (congrArg V.int e))
     rw[if_neg g] at hr
     rw[take_snoc hr,mapV]
   ·rintro ys H4 ⟨rfl,rfl⟩ p hp
    rw[ltm,<- relab_length L go st,List.take_length]
    exact ⟨p,_,_,_,_,rfl,s2.new2 hp,upd_same⟩
  ·rintro σ H2 ⟨l,o1,o2,o3,o4,rfl,s2,hl2⟩
   rw[List.length_map,hpl,List.take_length] at hl2
   refine ⟨_,rfl,l,_,rfl,SqL.of hl2,by rw[mgs_length,rg_length];omega,fun p H3 _ s3 hp=>?_⟩
   exact k p H3 (s2.trans s3) hp
theorem sc_law_saying : FnScope (["_law_cell_here","_law_size","_law_row","_law_one","_law_other"]) (["_law_cell_here","_law_size"]) (defScope s_law_saying):=by trivial
theorem ok_law_saying {f : Addr} {fd : FuncData} (F : Fun K "_law_saying" "_law_saying" s_law_saying f fd) (B : Bs mg) (T : Gs mg)  (c_law_draw : Cal P w K mg base 1 "_law_draw" [] (spDraw K)) : FnOk P w K mg base CX0 2 f fd ["_law_cell_here","_law_size"] spLSay:= by
 have sc:=sc_law_saying
 refine F.ok sc (fun vs H Q E h=>?_) (fun cdv A outer s H vs Q E hr h=>?_)
 ·obtain ⟨c,n,rfl,_⟩:=h;rfl
 ·obtain ⟨c,n,rfl,n1,n9,k⟩:=h
  refine ⟨_,(pss_cons (ps_set (i:=2) sc.nd rfl (Or.inl rfl) (pe_cal c_law_draw (hr.mono (by decide)) rfl (pa_cons (pv 0) (pa_cons (pe_lst (pa_cons pe_int (pa_cons pe_int (pa_cons pe_int (pa_cons pe_int pa_nil))))) pa_nil))))
   (pss_cons (ps_if (PW.pt (pw_or (pt_cmpR op_gt (pe_ix (kix_list (K:=K)) (pv 2) pe_int (fun _ _=>rfl)) pe_int (nomark _)) (pw_or1 (pt_cmpR op_eq (pv 1) pe_int (nomark _))))) (pss_one (ps_ret (pe_tup (pa_cons (pe_ix (kix_list (K:=K)) (pe_lst (pa_cons pe_str (pa_cons pe_str pa_nil))) (pe_op op_mod (pe_ix (kix_list (K:=K)) (pv 2) pe_int (fun _ _=>rfl)) pe_int) (fun _ _=>rfl)) (pa_cons (pe_op op_add pe_int (pe_op op_mod (pe_ix (kix_list (K:=K)) (pv 2) pe_int (fun _ _=>rfl)) (pv 1))) pa_nil))))) pss_nil)
   (pss_cons (ps_set (i:=3) sc.nd rfl (Or.inl rfl) (pe_op op_mod (pe_ix (kix_list (K:=K)) (pv 2) pe_int (fun _ _=>rfl)) (pv 1)))
   (pss_cons (ps_set (i:=4) sc.nd rfl (Or.inl rfl) (pe_op op_mod (pe_op op_add (pe_op op_add (pv 3) pe_int) (pe_op op_mod (pe_ix (kix_list (K:=K)) (pv 2) pe_int (fun _ _=>rfl)) (pe_op op_sub (pv 1) pe_int))) (pv 1)))
   (pss_one (ps_ret (pe_tup (pa_cons (pe_ix (kix_list (K:=K)) (pe_lst (pa_cons pe_str (pa_cons pe_str pa_nil))) (pe_callTy kc_intB (by rfl) B.int PyProof.Rows.Boot.«int» (pa_cons (pe_cmpR op_gt (pe_ix (kix_list (K:=K)) (pv 2) pe_int (fun _ _=>rfl)) pe_int (nomark _)) pa_nil)) (fun _ _=>rfl)) (pa_cons (pv 3) (pa_cons (pv 4) pa_nil)))))))))),?_⟩
  refine seq_a ?_
  refine ⟨_,rfl,le_line (by simp),fun q1 hq1=>⟨c,q1,[9,9,8,9],rfl,SqL.of upd_same,lim_ok (by decide +kernel),by decide,fun row rs H1 _ s1 hrow hD=>?_⟩⟩
  have S1:=(Same.new (o:=HO.lst [V.int 9,V.int 9,V.int 8,V.int 9]) hq1).trans s1
  obtain ⟨r0,t0,rfl,r00,r09,hD⟩:=hD.uncons
  obtain ⟨r1,t1,rfl,r10,r19,hD⟩:=hD.uncons
  obtain ⟨r2,t2,rfl,r20,r28,hD⟩:=hD.uncons
  obtain ⟨r3,t3,rfl,r30,r39,hD⟩:=hD.uncons
  have hR:SqL K H1 row ((r0::r1::r2::r3::t3).map V.int):=SqL.of hrow
  have a0:atI ((r0::r1::r2::r3::t3).map V.int) 0=some (V.int r0):=atI_intZ (j:=0) rfl rfl
  have a1:atI ((r0::r1::r2::r3::t3).map V.int) 1=some (V.int r1):=atI_intZ (j:=1) rfl rfl
  have a2:atI ((r0::r1::r2::r3::t3).map V.int) 2=some (V.int r2):=atI_intZ (j:=2) rfl rfl
  have a3:atI ((r0::r1::r2::r3::t3).map V.int) 3=some (V.int r3):=atI_intZ (j:=3) rfl rfl
  have np:(0:Int)<n:=by omega
  have ret : ∀ (H2:Hp) (t:Addr) (s:Say),Same H H2->H2 t=none->sayOk n s->Q (.ref t) (upd H2 t (.tup (sayV s))):=fun H2 t s s2 ht hs=>k t s _ (s2.new2 ht) upd_same hs
  refine seq_ifN (b:=decide (6<r0)||decide (n=1)) (P:=fun H'=>H'=H1) (fun N hN=>?_) (fun g H5 e=>?_) (fun g H5 e=>?_)
  ·refine ⟨_,rfl,row,_,_,_,rfl,rfl,hR,a0,_,_,rfl,rfl,_,rfl,?_⟩
   have hN:=hN H1 rfl
   by_cases g:6<r0
   ·rw[decide_eq_true g,Bool.true_or] at hN
    exact iteD g hN
   ·rw[decide_eq_false g,Bool.false_or] at hN
    refine iteDF g ⟨_,rfl,rfl,_,rfl,?_⟩
    rw[dInt,show decide ((n:Int)=1)=decide (n=1) from decide_eq_decide.mpr (by omega)]
    exact hN
  ·rw[e]
   refine ⟨le_line (by simp),fun q2 hq2=>?_⟩
   have s2:=Same.new (o:=HO.lst [V.str "least",V.str "most"]) hq2
   have m2:=modB r0 (show (0:Int)<2 by decide)
   have m3:=modB r3 np
   obtain ⟨m,hm⟩ : ∃ m : Bool,atI [V.str "least",V.str "most"] (r0 % 2) = some (V.str (if m then "most" else "least")):= by
    have:r0 % 2=0\/r0 % 2=1:=by omega
    rcases this with e | e
    ·exact ⟨false,by rw[e];rfl⟩
    ·exact ⟨true,by rw[e];rfl⟩
   refine ⟨_,rfl,row,_,_,_,rfl,rfl,s2.seq hR,a0,_,_,rfl,rfl,p0,q2,_,_,_,rfl,rfl,SqL.of upd_same,hm,_,rfl,row,_,_,_,rfl,rfl,s2.seq hR,a3,_,rfl,_,_,rfl,rfl,np,_,_,rfl,rfl,le_line (by simp),fun t ht=>?_⟩
   exact ret _ t (.cnt m (1+r3 % n)) (S1.new2 hq2) ht ⟨by omega,by omega⟩
  rw[e]
  have hn2:2<=n:= by
   rw[Bool.or_eq_false_iff] at g
   have:=of_decide_eq_false g.2
   omega
  have np1:(0:Int)<(n:Int)-1:=by omega
  refine seq_a ?_
  refine ⟨_,rfl,row,_,_,_,rfl,rfl,hR,a1,_,rfl,_,_,rfl,rfl,np,?_⟩
  refine seq_a ?_
  have m1:=modB r1 np
  refine ⟨_,rfl,_,_,rfl,rfl,_,rfl,row,_,_,_,rfl,rfl,hR,a2,_,rfl,_,_,rfl,rfl,_,_,rfl,rfl,np1,_,_,rfl,rfl,_,rfl,_,_,rfl,rfl,np,?_⟩
  refine ⟨le_line (by simp),fun q2 hq2=>?_⟩
  have s2:=Same.new (o:=HO.lst [V.str "alike",V.str "unlike"]) hq2
  obtain ⟨u,hu⟩ : ∃ u : Bool,atI [V.str "alike",V.str "unlike"] (if decide (2 < r0) = true then 1 else 0) = some (V.str (if u then "unlike" else "alike")):= by
   by_cases g2:2<r0
   ·exact ⟨true,by rw[if_pos (decide_eq_true g2)];rfl⟩
   ·exact ⟨false,by rw[if_neg (by simpa using g2)];rfl⟩
  refine ⟨_,rfl,row,_,_,_,rfl,rfl,s2.seq hR,a0,_,_,rfl,rfl,_,rfl,q2,_,_,_,rfl,rfl,SqL.of upd_same,hu,_,rfl,_,rfl,le_line (by simp),fun t ht=>?_⟩
  have m2:=modB r2 np1
  have m4:=modB (r1 % n+1+r2 % ((n:Int)-1)) np
  refine ret _ t (.pair u (r1 % n) ((r1 % n+1+r2 % ((n:Int)-1)) % n)) (S1.new2 hq2) ht ⟨m1.1,m1.2,m4.1,m4.2,fun z=>?_⟩
  have h1:(0:Int)<=r1 % n+1+r2 % ((n:Int)-1):=by omega
  have h2:r1 % n+1+r2 % ((n:Int)-1)<2*n:=by omega
  by_cases h3:r1 % n+1+r2 % ((n:Int)-1)<n
  ·rw[Int.emod_eq_of_lt h1 h3] at z;omega
  ·have e2:(r1 % n+1+r2 % ((n:Int)-1)) % n=r1 % n+1+r2 % ((n:Int)-1)-n:= by
    rw[<- Int.sub_emod_right]
    exact Int.emod_eq_of_lt (by omega) (by omega)
   rw[e2] at z;omega
theorem sc_law_fits : FnScope (["_law_way","_law_saying_here","_law_count"]) (["_law_way","_law_saying_here"]) (defScope s_law_fits):=by trivial
theorem ok_law_fits {f : Addr} {fd : FuncData} (F : Fun K "_law_fits" "_law_fits" s_law_fits f fd) (B : Bs mg) (T : Gs mg)   : FnOk P w K mg base CX0 1 f fd ["_law_way","_law_saying_here"] (spLFit K):= by
 have sc:=sc_law_fits
 refine F.ok sc (fun vs H Q E h=>?_) (fun cdv A outer s H vs Q E hr h=>?_)
 ·obtain ⟨p,a,w,s,n,rfl,_⟩:=h;rfl
 ·obtain ⟨p,a,w,s,n,rfl,hp,ha,hw,hwl,hs,k⟩:=h
  refine ⟨_,(pss_cons (ps_if (pt_cmpR op_eq (pe_ix (kix_tup (K:=K)) (pv 1) pe_int (fun _ _=>rfl)) pe_str (nomark _)) (pss_one (ps_ret (pe_cmpR op_eq (pe_ix (kix_tup (K:=K)) (pv 0) (pe_ix (kix_tup (K:=K)) (pv 1) pe_int (fun _ _=>rfl)) (fun _ _=>rfl)) (pe_ix (kix_tup (K:=K)) (pv 0) (pe_ix (kix_tup (K:=K)) (pv 1) pe_int (fun _ _=>rfl)) (fun _ _=>rfl)) (nomark _)))) pss_nil)
   (pss_cons (ps_if (pt_cmpR op_eq (pe_ix (kix_tup (K:=K)) (pv 1) pe_int (fun _ _=>rfl)) pe_str (nomark _)) (pss_one (ps_ret (pe_cmpR op_ne (pe_ix (kix_tup (K:=K)) (pv 0) (pe_ix (kix_tup (K:=K)) (pv 1) pe_int (fun _ _=>rfl)) (fun _ _=>rfl)) (pe_ix (kix_tup (K:=K)) (pv 0) (pe_ix (kix_tup (K:=K)) (pv 1) pe_int (fun _ _=>rfl)) (fun _ _=>rfl)) (nomark _)))) pss_nil)
   (pss_cons (ps_set (i:=2) sc.nd rfl (Or.inl rfl) (pe_op op_add (pe_callB (kc_max (K:=K)) (by rfl) B.max PyProof.Rows.Boot.«max» (pa_cons (pv 0) pa_nil)) pe_int))
   (pss_one (ps_ret (pe_ifExp (pt_cmpR op_eq (pe_ix (kix_tup (K:=K)) (pv 1) pe_int (fun _ _=>rfl)) pe_str (nomark _)) (pe_cmpR op_ge (pv 2) (pe_ix (kix_tup (K:=K)) (pv 1) pe_int (fun _ _=>rfl)) (nomark _)) (pe_cmpR op_le (pv 2) (pe_ix (kix_tup (K:=K)) (pv 1) pe_int (fun _ _=>rfl)) (nomark _)))))))),?_⟩
  obtain ⟨w1,w9,hgo⟩:=isWay_iff.mp hw
  have hne:w≠[]:=by rintro rfl;simp at w1
  cases s with
  | pair u i j=>
   obtain ⟨i0,i1,j0,j1,hij⟩:=hs
   have ha' : SqT K H a [V.str (if u = true then "unlike" else "alike"),V.int i,V.int j]:=SqT.of ha
   have ai:atI (w.map V.int) i=some (V.int (gat w i)):=atI_lt i0 (by omega)
   have aj:atI (w.map V.int) j=some (V.int (gat w j)):=atI_lt j0 (by omega)
   cases u with
   | false=>
    refine seq_ifN (b:=true) (P:=fun H'=>H'=H) (fun N hN=>⟨_,rfl,a,_,_,_,rfl,rfl,ha',rfl,rfl,_,rfl,by rw[dStr,decide_eq_true (by decide +kernel)];exact hN _ rfl⟩) (fun _ H5 e=>?_) (fun e=>absurd e (by decide))
    rw[e]
    refine ⟨_,rfl,_,rfl,a,_,_,_,rfl,rfl,ha',rfl,p,_,_,_,rfl,rfl,hp,ai,_,rfl,_,rfl,a,_,_,_,rfl,rfl,ha',rfl,p,_,_,_,rfl,rfl,hp,aj,rfl,?_⟩
    rw[dInt];exact k
   | true=>
    refine seq_ifN (b:=false) (P:=fun H'=>H'=H) (fun N hN=>⟨_,rfl,a,_,_,_,rfl,rfl,ha',rfl,rfl,_,rfl,by rw[dStr,decide_eq_false (by decide +kernel)];exact hN _ rfl⟩) (fun e=>absurd e (by decide)) (fun _ H5 e=>?_)
    rw[e]
    refine seq_ifN (b:=true) (P:=fun H'=>H'=H) (fun N hN=>⟨_,rfl,a,_,_,_,rfl,rfl,ha',rfl,rfl,_,rfl,by rw[dStr,decide_eq_true (by decide +kernel)];exact hN _ rfl⟩) (fun _ H5 e=>?_) (fun e=>absurd e (by decide))
    rw[e]
    refine ⟨_,rfl,_,rfl,a,_,_,_,rfl,rfl,ha',rfl,p,_,_,_,rfl,rfl,hp,ai,_,rfl,_,rfl,a,_,_,_,rfl,rfl,ha',rfl,p,_,_,_,rfl,rfl,hp,aj,rfl,?_⟩
    rw[dInt];exact k
  | cnt m kk=>
   have ha' : SqT K H a [V.str (if m = true then "most" else "least"),V.int kk]:=SqT.of ha
   refine seq_ifN (b:=false) (P:=fun H'=>H'=H) (fun N hN=>⟨_,rfl,a,_,_,_,rfl,rfl,ha',rfl,rfl,_,rfl,by rw[dStr,decide_eq_false (by cases m <;> decide +kernel)];exact hN _ rfl⟩) (fun e=>absurd e (by decide)) (fun _ H5 e=>?_)
   rw[e]
   refine seq_ifN (b:=false) (P:=fun H'=>H'=H) (fun N hN=>⟨_,rfl,a,_,_,_,rfl,rfl,ha',rfl,rfl,_,rfl,by rw[dStr,decide_eq_false (by cases m <;> decide +kernel)];exact hN _ rfl⟩) (fun e=>absurd e (by decide)) (fun _ H5 e=>?_)
   rw[e]
   refine seq_a ?_
   refine ⟨_,rfl,p,w,rfl,.inr hp,hne,fun mx hmx=>?_⟩
   have em:mx+1=fresh 0 w:=by have:=(fresh_pos hgo hne).2.uniq hmx;omega
   refine ⟨_,_,rfl,rfl,?_⟩
   dsimp only
   rw[em]
   refine ⟨_,rfl,a,_,_,_,rfl,rfl,ha',rfl,rfl,_,rfl,?_⟩
   cases m with
   | false=>
    rw[dStr,decide_eq_true (by decide +kernel)]
    exact iteT ⟨_,rfl,_,rfl,a,_,_,_,rfl,rfl,ha',rfl,_,_,rfl,rfl,k⟩
   | true=>
    rw[dStr,decide_eq_false (by decide +kernel)]
    exact iteF ⟨_,rfl,_,rfl,a,_,_,_,rfl,rfl,ha',rfl,_,_,rfl,rfl,k⟩
theorem sc_law_fits_all : FnScope (["_law_way","_law_sayings"]) (["_law_way","_law_sayings"]) (defScope s_law_fits_all):=by trivial
theorem ok_law_fits_all {f : Addr} {fd : FuncData} (F : Fun K "_law_fits_all" "_law_fits_all" s_law_fits_all f fd) (B : Bs mg) (T : Gs mg)  (c_law_fits : Cal P w K mg base 1 "_law_fits" [] (spLFit K)) : FnOk P w K mg base CX0 2 f fd ["_law_way","_law_sayings"] (spLFits K):= by
 have sc:=sc_law_fits_all
 refine F.ok sc (fun vs H Q E h=>?_) (fun cdv A outer s H vs Q E hr h=>?_)
 ·obtain ⟨p,b,w,as,ss,n,rfl,_⟩:=h;rfl
 ·obtain ⟨p,b,w,as,ss,n,rfl,hp,hw,hwl,hb,hS,hs,hl,k⟩:=h
  refine ⟨_,(pss_one (ps_ret (pe_callB (kc_all (K:=K)) (by rfl) B.all PyProof.Rows.Boot.«all» (pa_cons (pe_lc (N':=["_law_saying_here","_law_way"]) (M:=[none,some 0]) (lcSc_of (by rfl)) rfl (kpi_list (K:=K) (pv 1)) (fun _ _ _ _ _=>pg_name (i:=0) (show (["_law_saying_here","_law_way"] : List Str).Nodup by decide +kernel) rfl (Or.inl rfl) (.inr rfl)) (frm_name rfl) (fun _ _ _ _ _=>pts_nil) (fun _ _ _ _ _=>(pe_cal c_law_fits (hr.mono (by decide)) rfl (pa_cons (pv 1) (pa_cons (pv 0) pa_nil))))) pa_nil)))),?_⟩
  have hal:=hS.length
  refine ⟨_,rfl,b,rfl,⟨_,hb⟩,lc_list (xs:=as.map V.ref) (fun i ys H2=>Same H H2/\ys=(ss.take i).map fun s=>V.bl (fitsB w s)) (le_line (by rw[List.length_map];omega)) ⟨Same.refl H,rfl⟩ (fun i ys H2 hi h=>⟨h.1.seq hb,by rw[h.2,List.length_map,List.length_take];omega⟩) ?_ ?_⟩
  ·rintro i y ys H2 hi ⟨s2,rfl⟩
   obtain ⟨a,rfl,ha,hil⟩:=getRef hi
   obtain ⟨s,hsa,hsi⟩:=paired_getM hS ha
   refine lcN ?_
   refine ⟨_,rfl,_,rfl,p,a,w,s,n,rfl,s2.seqT hp,s2 _ _ hsa,hw,hwl,hs s (List.mem_of_getElem? hsi),s2,?_⟩
   rw[map_take_snoc hsi]
  ·rintro ys H2 ⟨s2,rfl⟩ c hc
   rw[List.length_map,hal,List.take_length] at *
   refine ⟨c,ss.map (fitsB w),rfl,.inl (SqL.of (by rw[upd_same,List.map_map];rfl)),?_⟩
   rw[List.all_map]
   exact k _ (s2.new2 hc)
theorem sc_law_links : FnScope (["_law_size","_law_sayings"]) (["_law_size","_law_sayings"]) (defScope s_law_links):=by trivial
theorem ok_law_links {f : Addr} {fd : FuncData} (F : Fun K "_law_links" "_law_links" s_law_links f fd) (B : Bs mg) (T : Gs mg)  (c_law_linked : Cal P w K mg base 2 "_law_linked" [] (spLinked K)) : FnOk P w K mg base CX0 3 f fd ["_law_size","_law_sayings"] (spLLnk K):= by
 have sc:=sc_law_links
 refine F.ok sc (fun vs H Q E h=>?_) (fun cdv A outer s H vs Q E hr h=>?_)
 ·obtain ⟨n,b,as,ss,rfl,_⟩:=h;rfl
 ·obtain ⟨n,b,as,ss,rfl,n1,n9,hb,hS,hs,hl,k⟩:=h
  refine ⟨_,(pss_one (ps_ret (pe_cal c_law_linked (hr.mono (by decide)) rfl (pa_cons (pv 0) (pa_cons (pe_lc (N':=["_law_saying_here"]) (M:=[none]) (lcSc_of (by rfl)) rfl (kpi_list (K:=K) (pv 1)) (fun _ _ _ _ _=>pg_name (i:=0) (show (["_law_saying_here"] : List Str).Nodup by decide +kernel) rfl (Or.inl rfl) (.inr rfl)) (frm_name rfl) (fun _ _ _ _ _=>pts_one (pt_cmpR op_eq (pe_ix (kix_tup (K:=K)) (pv 0) pe_int (fun _ _=>rfl)) pe_str (nomark _))) (fun _ _ _ _ _=>(pe_slice (ksl_tup (K:=K)) (pv 0) (po_some pe_int) po_none))) pa_nil))))),?_⟩
  have hal:=hS.length
  refine ⟨_,rfl,_,rfl,b,rfl,⟨_,hb⟩,?_⟩
  refine lc_list (xs:=as.map V.ref) (fun i ys H2=>Same H H2 /\ ∃ ps:List Addr,ys=ps.map V.ref/\Paired (fun a (q:Nat × Nat)=>SqT K H2 a [.int ((q.1:Nat):Int),.int ((q.2:Nat):Int)]) ps (alPs (ss.take i))) (le_line (by rw[List.length_map];omega)) ⟨Same.refl H,[],rfl,.nil⟩ (fun i ys H2 hi h=>by
   obtain ⟨s2,ps,e,hP⟩:=h
   refine ⟨s2.seq hb,?_⟩
   rw[e,List.length_map,hP.length]
   exact Nat.le_trans (alPs_len _) (by rw[List.length_take];omega)) ?_ ?_
  ·rintro i y ys H2 hi ⟨s2,ps,rfl,hP⟩
   obtain ⟨a,rfl,ha,hil⟩:=getRef hi
   obtain ⟨s,hsa,hsi⟩:=paired_getM hS ha
   have hok:=hs s (List.mem_of_getElem? hsi)
   rw[take_snoc hsi,alPs_snoc]
   refine gN ?_
   have pl:=hP.length
   have plb:=alPs_len (ss.take i)
   rw[List.length_take] at plb
   cases s with
   | cnt m kk=>
    refine ⟨_,rfl,a,_,_,_,rfl,rfl,SqT.of (s2 _ _ hsa),rfl,rfl,_,rfl,?_⟩
    rw[dStr,decide_eq_false (by cases m <;> decide +kernel)]
    exact iteF ⟨s2,ps,rfl,by rw[show alPs [.cnt m kk]=[] from rfl,List.append_nil];exact hP⟩
   | pair u x y=>
    refine ⟨_,rfl,a,_,_,_,rfl,rfl,SqT.of (s2 _ _ hsa),rfl,rfl,_,rfl,?_⟩
    cases u with
    | true=>
     rw[dStr,decide_eq_false (by decide +kernel)]
     exact iteF ⟨s2,ps,rfl,by rw[show alPs [.pair true x y]=[] from rfl,List.append_nil];exact hP⟩
    | false=>
     rw[dStr,decide_eq_true (by decide +kernel)]
     obtain ⟨i0,i1,j0,j1,_⟩:=hok
     refine iteT ⟨_,rfl,_,rfl,a,_,rfl,SqT.of (s2 _ _ hsa),fun q H3 s3 hq=>⟨s2.trans s3,ps++[q],ref_snoc,?_⟩⟩
     refine Paired.snoc (L2.Paired.mapP hP fun _ _ z=>s3.seqT z) ?_
     have ec:cutV (sayV (.pair false x y)) (some 1) none=[V.int x,V.int y]:=cut_drop _ 1
     rw[ec] at hq
     rw[show ((x.toNat:Nat):Int)=x by omega,show ((y.toNat:Nat):Int)=y by omega]
     exact hq
  rintro ys H2 ⟨s2,ps,rfl,hP⟩ c hc
  rw[List.length_map,hal,List.take_length] at hP
  refine ⟨n,c,ps,alPs ss,rfl,by omega,by omega,SqL.of upd_same,L2.Paired.mapP hP (fun _ _ z=>(Same.new hc).seqT z),?_,?_⟩
  ·intro q hq
   rw[Int.toNat_natCast]
   exact alPs_ok hs q hq
  ·intro p H3 s3 hp
   rw[Int.toNat_natCast,lnk_row n1 hs] at hp
   exact k p H3 ((s2.new2 hc).trans s3) hp
theorem sc_law_least : FnScope (["_law_sayings"]) (["_law_sayings"]) (defScope s_law_least):=by trivial
theorem ok_law_least {f : Addr} {fd : FuncData} (F : Fun K "_law_least" "_law_least" s_law_least f fd) (B : Bs mg) (T : Gs mg)   : FnOk P w K mg base CX0 1 f fd ["_law_sayings"] (spLLeast K):= by
 have sc:=sc_law_least
 refine F.ok sc (fun vs H Q E h=>?_) (fun cdv A outer s H vs Q E hr h=>?_)
 ·obtain ⟨n,b,as,ss,rfl,_⟩:=h;rfl
 ·obtain ⟨n,b,as,ss,rfl,hb,hS,hs,hl,k⟩:=h
  refine ⟨_,(pss_one (ps_ret (pe_callB (kc_max (K:=K)) (by rfl) B.max PyProof.Rows.Boot.«max» (pa_cons (pe_op op_cat (pe_lst (pa_cons pe_int pa_nil)) (pe_lc (N':=["_law_saying_here"]) (M:=[none]) (lcSc_of (by rfl)) rfl (kpi_list (K:=K) (pv 0)) (fun _ _ _ _ _=>pg_name (i:=0) (show (["_law_saying_here"] : List Str).Nodup by decide +kernel) rfl (Or.inl rfl) (.inr rfl)) (frm_name rfl) (fun _ _ _ _ _=>pts_one (pt_cmpR op_eq (pe_ix (kix_tup (K:=K)) (pv 0) pe_int (fun _ _=>rfl)) pe_str (nomark _))) (fun _ _ _ _ _=>(pe_ix (kix_tup (K:=K)) (pv 0) pe_int (fun _ _=>rfl))))) pa_nil)))),?_⟩
  have hal:=hS.length
  refine ⟨le_line (by simp),fun o1 ho1=>?_⟩
  have s1:=Same.new (o:=HO.lst [V.int 1]) ho1
  refine ⟨_,rfl,b,rfl,⟨_,s1.seq hb⟩,?_⟩
  refine lc_list (xs:=as.map V.ref) (fun i ys H2=>Same (upd H o1 (.lst [V.int 1])) H2/\ys=(lsts (ss.take i)).map V.int) (le_line (by rw[List.length_map];omega)) ⟨Same.refl _,rfl⟩ (fun i ys H2 hi h=>by
   obtain ⟨s2,e⟩:=h
   refine ⟨(s1.trans s2).seq hb,?_⟩
   rw[e,ltm]
   exact Nat.le_trans (lsts_len _) (by rw[List.length_take];omega)) ?_ ?_
  ·rintro i y ys H2 hi ⟨s2,rfl⟩
   obtain ⟨a,rfl,ha,hil⟩:=getRef hi
   obtain ⟨s,hsa,hsi⟩:=paired_getM hS ha
   rw[take_snoc hsi,lsts_snoc]
   have hsa2:=s2 _ _ (s1 _ _ hsa)
   have plb:=lsts_len (ss.take i)
   rw[List.length_take] at plb
   refine gN ?_
   cases s with
   | pair u x y=>
    refine ⟨_,rfl,a,_,_,_,rfl,rfl,SqT.of hsa2,rfl,rfl,_,rfl,?_⟩
    rw[dStr,decide_eq_false (by cases u <;> decide +kernel)]
    exact iteF ⟨s2,by rw[show lsts [.pair u x y]=[] from rfl,List.append_nil]⟩
   | cnt m kk=>
    refine ⟨_,rfl,a,_,_,_,rfl,rfl,SqT.of hsa2,rfl,rfl,_,rfl,?_⟩
    cases m with
    | true=>
     rw[dStr,decide_eq_false (by decide +kernel)]
     exact iteF ⟨s2,by rw[show lsts [.cnt true kk]=[] from rfl,List.append_nil]⟩
    | false=>
     rw[dStr,decide_eq_true (by decide +kernel)]
     exact iteT ⟨_,rfl,a,_,_,_,rfl,rfl,SqT.of hsa2,rfl,s2,by rw[List.map_append];rfl⟩
  rintro ys H2 ⟨s2,rfl⟩ c hc
  rw[List.length_map,hal,List.take_length]
  have n1:o1≠c:=ne_of_none (s2 _ _ upd_same) hc
  refine ⟨o1,c,_,_,rfl,rfl,by rw[upd_ne n1];exact s2 _ _ upd_same,upd_same,le_line (by have:=lsts_len ss;rw[ltm];show 1+_<=_;omega),fun u hu=>⟨u,1::lsts ss,rfl,.inl (SqL.of upd_same),by simp,fun m hm=>?_⟩⟩
  rw[hm.uniq (lo_max (n:=n) ss)]
  exact k _ (((s1.trans s2).new2 hc).new2 hu)
theorem sc_law_most : FnScope (["_law_size","_law_sayings"]) (["_law_size","_law_sayings"]) (defScope s_law_most):=by trivial
theorem ok_law_most {f : Addr} {fd : FuncData} (F : Fun K "_law_most" "_law_most" s_law_most f fd) (B : Bs mg) (T : Gs mg)   : FnOk P w K mg base CX0 1 f fd ["_law_size","_law_sayings"] (spLMost K):= by
 have sc:=sc_law_most
 refine F.ok sc (fun vs H Q E h=>?_) (fun cdv A outer s H vs Q E hr h=>?_)
 ·obtain ⟨n,b,as,ss,rfl,_⟩:=h;rfl
 ·obtain ⟨n,b,as,ss,rfl,hb,hS,hs,hl,k⟩:=h
  refine ⟨_,(pss_one (ps_ret (pe_callB (kc_minL (K:=K)) (by rfl) B.min PyProof.Rows.Boot.«min» (pa_cons (pe_op op_cat (pe_lst (pa_cons (pv 0) pa_nil)) (pe_lc (N':=["_law_saying_here"]) (M:=[none]) (lcSc_of (by rfl)) rfl (kpi_list (K:=K) (pv 1)) (fun _ _ _ _ _=>pg_name (i:=0) (show (["_law_saying_here"] : List Str).Nodup by decide +kernel) rfl (Or.inl rfl) (.inr rfl)) (frm_name rfl) (fun _ _ _ _ _=>pts_one (pt_cmpR op_eq (pe_ix (kix_tup (K:=K)) (pv 0) pe_int (fun _ _=>rfl)) pe_str (nomark _))) (fun _ _ _ _ _=>(pe_ix (kix_tup (K:=K)) (pv 0) pe_int (fun _ _=>rfl))))) pa_nil)))),?_⟩
  have hal:=hS.length
  refine ⟨_,rfl,le_line (by simp),fun o1 ho1=>?_⟩
  have s1:=Same.new (o:=HO.lst [V.int (n:Int)]) ho1
  refine ⟨_,rfl,b,rfl,⟨_,s1.seq hb⟩,?_⟩
  refine lc_list (xs:=as.map V.ref) (fun i ys H2=>Same (upd H o1 (.lst [V.int (n:Int)])) H2/\ys=(msts (ss.take i)).map V.int) (le_line (by rw[List.length_map];omega)) ⟨Same.refl _,rfl⟩ (fun i ys H2 hi h=>by
   obtain ⟨s2,e⟩:=h
   refine ⟨(s1.trans s2).seq hb,?_⟩
   rw[e,ltm]
   exact Nat.le_trans (msts_len _) (by rw[List.length_take];omega)) ?_ ?_
  ·rintro i y ys H2 hi ⟨s2,rfl⟩
   obtain ⟨a,rfl,ha,hil⟩:=getRef hi
   obtain ⟨s,hsa,hsi⟩:=paired_getM hS ha
   rw[take_snoc hsi,msts_snoc]
   have hsa2:=s2 _ _ (s1 _ _ hsa)
   have plb:=msts_len (ss.take i)
   rw[List.length_take] at plb
   refine gN ?_
   cases s with
   | pair u x y=>
    refine ⟨_,rfl,a,_,_,_,rfl,rfl,SqT.of hsa2,rfl,rfl,_,rfl,?_⟩
    rw[dStr,decide_eq_false (by cases u <;> decide +kernel)]
    exact iteF ⟨s2,by rw[show msts [.pair u x y]=[] from rfl,List.append_nil]⟩
   | cnt m kk=>
    refine ⟨_,rfl,a,_,_,_,rfl,rfl,SqT.of hsa2,rfl,rfl,_,rfl,?_⟩
    cases m with
    | false=>
     rw[dStr,decide_eq_false (by decide +kernel)]
     exact iteF ⟨s2,by rw[show msts [.cnt false kk]=[] from rfl,List.append_nil]⟩
    | true=>
     rw[dStr,decide_eq_true (by decide +kernel)]
     exact iteT ⟨_,rfl,a,_,_,_,rfl,rfl,SqT.of hsa2,rfl,s2,by rw[List.map_append];rfl⟩
  rintro ys H2 ⟨s2,rfl⟩ c hc
  rw[List.length_map,hal,List.take_length]
  have n1:o1≠c:=ne_of_none (s2 _ _ upd_same) hc
  refine ⟨o1,c,_,_,rfl,rfl,by rw[upd_ne n1];exact s2 _ _ upd_same,upd_same,le_line (by have:=msts_len ss;rw[ltm];show 1+_<=_;omega),fun u hu=>⟨u,(n:Int)::msts ss,rfl,.inl (SqL.of upd_same),by simp,fun m hm=>?_⟩⟩
  rw[hm.uniq (hi_min (n:=n) ss)]
  exact k _ (((s1.trans s2).new2 hc).new2 hu)
theorem sc_law_apart : FnScope (["_law_row","_law_sayings","_law_one","_law_other","_law_ends"]) (["_law_row","_law_sayings","_law_one","_law_other"]) (defScope s_law_apart):=by trivial
theorem ok_law_apart {f : Addr} {fd : FuncData} (F : Fun K "_law_apart" "_law_apart" s_law_apart f fd) (B : Bs mg) (T : Gs mg)   : FnOk P w K mg base CX0 1 f fd ["_law_row","_law_sayings","_law_one","_law_other"] (spLApart K):= by
 have sc:=sc_law_apart
 refine F.ok sc (fun vs H Q E h=>?_) (fun cdv A outer s H vs Q E hr h=>?_)
 ·obtain ⟨p,b,i,j,n,as,ss,rfl,_⟩:=h;rfl
 ·obtain ⟨p,b,i,j,n,as,ss,rfl,hp,n1,n9,hb,hS,hs,hl,hi,hj,k⟩:=h
  refine ⟨_,(pss_cons (ps_lc (i:=4) sc.nd rfl rfl (N':=["_law_saying_here","_law_row"]) (M:=[none,some 0]) (lcSc_of (by rfl)) rfl (kpi_list (K:=K) (pv 1)) (fun _ _ _ _ _=>pg_name (i:=0) (show (["_law_saying_here","_law_row"] : List Str).Nodup by decide +kernel) rfl (Or.inl rfl) (.inr rfl)) (frm_name rfl) (fun _ _ _ _ _=>pts_one (pt_cmpR op_eq (pe_ix (kix_tup (K:=K)) (pv 0) pe_int (fun _ _=>rfl)) pe_str (nomark _))) (fun _ _ _ _ _=>(pe_tup (pa_cons (pe_ix (kix_tup (K:=K)) (pv 1) (pe_ix (kix_tup (K:=K)) (pv 0) pe_int (fun _ _=>rfl)) (fun _ _=>rfl)) (pa_cons (pe_ix (kix_tup (K:=K)) (pv 1) (pe_ix (kix_tup (K:=K)) (pv 0) pe_int (fun _ _=>rfl)) (fun _ _=>rfl)) pa_nil)))))
   (pss_one (ps_ret (pe_or (pe_cmpR (op_inD (K:=K) (hu40 hr)) (pe_tup (pa_cons (pe_ix (kix_tup (K:=K)) (pv 0) (pv 2) (fun _ _=>rfl)) (pa_cons (pe_ix (kix_tup (K:=K)) (pv 0) (pv 3) (fun _ _=>rfl)) pa_nil))) (pv 4) rfl) (pe_one (pe_cmpR (op_inD (K:=K) (hu40 hr)) (pe_tup (pa_cons (pe_ix (kix_tup (K:=K)) (pv 0) (pv 3) (fun _ _=>rfl)) (pa_cons (pe_ix (kix_tup (K:=K)) (pv 0) (pv 2) (fun _ _=>rfl)) pa_nil))) (pv 4) rfl)))))),?_⟩
  have hal:=hS.length
  have hg:=gok_of n1 hs
  have hRl:(numRow (gistOf n ss).L).length=n:=by rw[numRow_length,hg.len]
  generalize hR:numRow (gistOf n ss).L=Rw at hp hRl
  have at_ : ∀ {x:Int},0<=x/\x<n->atI (Rw.map V.int) x=some (V.int (gat Rw x)):=fun hx=>atI_lt hx.1 (by omega)
  refine ⟨_,rfl,b,rfl,⟨_,hb⟩,?_⟩
  refine lc_list (xs:=as.map V.ref) (fun m ys H2=>Same H H2 /\ ∃ qs:List Addr,ys=qs.map V.ref/\PqAt H2 qs (endsR Rw (ss.take m))) (le_line (by rw[List.length_map];omega)) ⟨Same.refl H,[],rfl,.nil⟩ (fun m ys H2 hi h=>by
   obtain ⟨s2,ps,e,hP⟩:=h
   refine ⟨s2.seq hb,?_⟩
   rw[e,List.length_map,hP.length]
   unfold endsR
   rw[List.length_map]
   exact Nat.le_trans (unPs_len _) (by rw[List.length_take];omega)) ?_ ?_
  ·rintro m y ys H2 hm ⟨s2,qs,rfl,hP⟩
   obtain ⟨a,rfl,ha,hml⟩:=getRef hm
   obtain ⟨s,hsa,hsi⟩:=paired_getM hS ha
   have hok:=hs s (List.mem_of_getElem? hsi)
   have e1:endsR Rw (ss.take (m+1))=endsR Rw (ss.take m)++endsR Rw [s]:=by unfold endsR;rw[take_snoc hsi,unPs_snoc,List.map_append]
   rw[e1]
   refine gN ?_
   cases s with
   | cnt mm kk=>
    refine ⟨_,rfl,a,_,_,_,rfl,rfl,SqT.of (s2 _ _ hsa),rfl,rfl,_,rfl,?_⟩
    rw[dStr,decide_eq_false (by cases mm <;> decide +kernel)]
    exact iteF ⟨s2,qs,rfl,by rw[show endsR Rw [.cnt mm kk]=[] from rfl,List.append_nil];exact hP⟩
   | pair u x y=>
    refine ⟨_,rfl,a,_,_,_,rfl,rfl,SqT.of (s2 _ _ hsa),rfl,rfl,_,rfl,?_⟩
    cases u with
    | false=>
     rw[dStr,decide_eq_false (by decide +kernel)]
     exact iteF ⟨s2,qs,rfl,by rw[show endsR Rw [.pair false x y]=[] from rfl,List.append_nil];exact hP⟩
    | true=>
     rw[dStr,decide_eq_true (by decide +kernel)]
     obtain ⟨i0,i1,j0,j1,_⟩:=hok
     refine iteT ⟨_,rfl,_,rfl,a,_,_,_,rfl,rfl,SqT.of (s2 _ _ hsa),rfl,p,_,_,_,rfl,rfl,s2.seqT hp,at_ ⟨i0,i1⟩,_,rfl,_,rfl,a,_,_,_,rfl,rfl,SqT.of (s2 _ _ hsa),rfl,p,_,_,_,rfl,rfl,s2.seqT hp,at_ ⟨j0,j1⟩,le_line (by simp),fun c hc=>⟨s2.new2 hc,qs++[c],ref_snoc,?_⟩⟩
     exact Paired.snoc (hP.same (Same.new hc)) upd_same
  rintro ys H2 ⟨s2,qs,rfl,hP⟩ c hc
  rw[List.length_map,hal,List.take_length] at hP
  have s3:=s2.new2 (o:=HO.lst (qs.map V.ref)) hc
  have hc3:upd H2 c (HO.lst (qs.map V.ref)) c=some (.lst (qs.map V.ref)):=upd_same
  have hP3:=hP.same (Same.new (o:=HO.lst (qs.map V.ref)) hc)
  generalize upd H2 c (HO.lst (qs.map V.ref))=H3 at s3 hc3 hP3
  have key:=apart_iff n1 hs hi hj
  rw[hR] at key
  refine ⟨_,rfl,_,rfl,p,_,_,_,rfl,rfl,s3.seqT hp,at_ hi,_,rfl,_,rfl,p,_,_,_,rfl,rfl,s3.seqT hp,at_ hj,le_line (by simp),fun t1 ht1=>?_⟩
  have n4:=Same.new (o:=HO.tup [V.int (gat Rw i),V.int (gat Rw j)]) ht1
  refine ⟨_,rfl,c,_,_,prD (gat Rw i,gat Rw j),rfl,SqL.of (n4 _ _ hc3),dats_pr (hP3.same n4),dat_pr upd_same,Nat.le_trans (depDs_pr _) (by decide),_,rfl,?_⟩
  rw[any_pr]
  by_cases g1:(gat Rw i,gat Rw j) ∈ endsR Rw ss
  ·refine iteD g1 ?_
   have:=k _ (s3.new2 (o:=HO.tup [V.int (gat Rw i),V.int (gat Rw j)]) ht1)
   rw[decide_eq_true (key.mp (.inl g1))] at this
   exact this
  ·refine iteDF g1 ⟨_,rfl,_,rfl,p,_,_,_,rfl,rfl,n4.seqT (s3.seqT hp),at_ hj,_,rfl,_,rfl,p,_,_,_,rfl,rfl,n4.seqT (s3.seqT hp),at_ hi,le_line (by simp),fun t2 ht2=>?_⟩
   have n5:=n4.new2 (o:=HO.tup [V.int (gat Rw j),V.int (gat Rw i)]) ht2
   refine ⟨_,rfl,c,_,_,prD (gat Rw j,gat Rw i),rfl,SqL.of (n5 _ _ hc3),dats_pr (hP3.same n5),dat_pr upd_same,Nat.le_trans (depDs_pr _) (by decide),?_⟩
   rw[any_pr]
   have:=k _ (s3.trans n5)
   have e2:decide ((gat Rw j,gat Rw i) ∈ endsR Rw ss)=decide ((gat (gistOf n ss).L i,gat (gistOf n ss).L j) ∈ wallsL (gistOf n ss).L (gistOf n ss).U):=decide_eq_decide.mpr ⟨fun z=>key.mp (.inr z),fun z=>(key.mpr z).elim (fun w=>absurd w g1) id⟩
   rw[e2];exact this
theorem sc_law_two : FnScope (["_law_size","_law_one","_law_other"]) (["_law_size","_law_one","_law_other"]) (defScope s_law_two):=by trivial
theorem ok_law_two {f : Addr} {fd : FuncData} (F : Fun K "_law_two" "_law_two" s_law_two f fd) (B : Bs mg) (T : Gs mg)  (c_law_num : Cal P w K mg base 1 "_law_num" [] spNum) : FnOk P w K mg base CX0 2 f fd ["_law_size","_law_one","_law_other"] spLTwo:= by
 have sc:=sc_law_two
 refine F.ok sc (fun vs H Q E h=>?_) (fun cdv A outer s H vs Q E hr h=>?_)
 ·obtain ⟨n,i,j,rfl,_⟩:=h;rfl
 ·obtain ⟨n,i,j,rfl,hi,hj,hij,k⟩:=h
  refine ⟨_,(pss_cons (ps_if (PW.pt (pw_or (pt_not (pt_val (pe_cal c_law_num (hr.mono (by decide)) rfl (pa_cons (pv 1) pa_nil)))) (pw_or1 (pt_not (pt_val (pe_cal c_law_num (hr.mono (by decide)) rfl (pa_cons (pv 2) pa_nil))))))) (pss_one (ps_ret pe_bl)) pss_nil)
   (pss_one (ps_ret (pe_and (pe_chain op_le op_lt pe_int (pv 1) (pv 0)) (pe_and (pe_chain op_le op_lt pe_int (pv 2) (pv 0)) (pe_one (pe_cmpR op_ne (pv 1) (pv 2) (nomark _)))))))),?_⟩
  refine seq_ifN (b:=false) (P:=fun H'=>H'=H) (fun N hN=>⟨_,rfl,i,rfl,_,rfl,iteF ⟨_,rfl,j,rfl,_,rfl,hN _ rfl⟩⟩) (fun e=>absurd e (by decide)) (fun _ H5 e=>?_)
  rw[e]
  refine ⟨_,rfl,_,_,rfl,rfl,_,rfl,iteD hi.1 ⟨_,rfl,_,_,rfl,rfl,_,rfl,iteD hi.2 ⟨_,rfl,_,_,rfl,rfl,_,rfl,iteD hj.1 ⟨_,rfl,_,_,rfl,rfl,_,rfl,iteD hj.2 ⟨_,rfl,_,rfl,rfl,?_⟩⟩⟩⟩⟩
  rw[dInt,decide_eq_false hij];exact k
theorem sc_law_crowd_ok : FnScope (["_law_size","_law_sayings","_law_crowd","_law_row"]) (["_law_size","_law_sayings","_law_crowd"]) (defScope s_law_crowd_ok):=by trivial
theorem ok_law_crowd_ok {f : Addr} {fd : FuncData} (F : Fun K "_law_crowd_ok" "_law_crowd_ok" s_law_crowd_ok f fd) (B : Bs mg) (T : Gs mg)  (c_law_apart : Cal P w K mg base 1 "_law_apart" [] (spLApart K)) (c_law_links : Cal P w K mg base 3 "_law_links" [] (spLLnk K)) (c_law_most : Cal P w K mg base 1 "_law_most" [] (spLMost K)) (c_law_num : Cal P w K mg base 1 "_law_num" [] spNum) (c_law_pairs : Cal P w K mg base 1 "_law_pairs" [] (spPairs K)) : FnOk P w K mg base CX0 4 f fd ["_law_size","_law_sayings","_law_crowd"] (spLCrowd K):= by
 have sc:=sc_law_crowd_ok
 refine F.ok sc (fun vs H Q E h=>?_) (fun cdv A outer s H vs Q E hr h=>?_)
 ·obtain ⟨n,b,p,as,ss,c,rfl,_⟩:=h;rfl
 ·obtain ⟨n,b,p,as,ss,c,rfl,n1,n9,hb,hS,hs,hl,hp,hok,k⟩:=h
  refine ⟨_,(pss_cons (ps_if (PW.pt (pw_or (pt_not (pt_val (pe_callB (kc_isiS (K:=K)) (by rfl) B.isinstance PyProof.Rows.Boot.«isinstance» (pa_cons (pv 2) (pa_cons (pe_bltn (v:=.ty "tuple") rfl B.tuple PyProof.Rows.Boot.«tuple» rfl) pa_nil))))) (pw_or1 (pt_not (pt_val (pe_callB (kc_all (K:=K)) (by rfl) B.all PyProof.Rows.Boot.«all» (pa_cons (pe_lc (N':=["_law_one","_law_size"]) (M:=[none,some 0]) (lcSc_of (by rfl)) rfl (kpi_tup (K:=K) (pv 2)) (fun _ _ _ _ _=>pg_name (i:=0) (show (["_law_one","_law_size"] : List Str).Nodup by decide +kernel) rfl (Or.inl rfl) (.inr rfl)) (frm_name rfl) (fun _ _ _ _ _=>pts_nil) (fun _ _ _ _ _=>(pe_and (pe_cal c_law_num (hr.mono (by decide)) rfl (pa_cons (pv 0) pa_nil)) (pe_one (pe_chain op_le op_lt pe_int (pv 0) (pv 1)))))) pa_nil))))))) (pss_one (ps_ret pe_bl)) pss_nil)
   (pss_cons (ps_if (PW.pt (pw_or (pt_cmpR op_lt (pe_callB kc_lenS (by rfl) B.len PyProof.Rows.Boot.«len» (pa_cons (pe_callTy (kc_setT (K:=K)) (by rfl) B.set PyProof.Rows.Boot.«set» (pa_cons (pv 2) pa_nil)) pa_nil)) (pe_callB (kc_len (K:=K)) (by rfl) B.len PyProof.Rows.Boot.«len» (pa_cons (pv 2) pa_nil)) (nomark _)) (pw_or1 (pt_cmpR op_le (pe_callB (kc_len (K:=K)) (by rfl) B.len PyProof.Rows.Boot.«len» (pa_cons (pv 2) pa_nil)) (pe_cal c_law_most (hr.mono (by decide)) rfl (pa_cons (pv 0) (pa_cons (pv 1) pa_nil))) (nomark _))))) (pss_one (ps_ret pe_bl)) pss_nil)
   (pss_cons (ps_set (i:=3) sc.nd rfl (Or.inr rfl) (pe_cal c_law_links (hr.mono (by decide)) rfl (pa_cons (pv 0) (pa_cons (pv 1) pa_nil))))
   (pss_one (ps_ret (pe_callB (kc_all (K:=K)) (by rfl) B.all PyProof.Rows.Boot.«all» (pa_cons (pe_lc (N':=["_law_j","_law_k","_law_row","_law_sayings","_law_crowd"]) (M:=[none,none,some 3,some 1,some 2]) (lcSc_of (by rfl)) rfl (kpi_list (K:=K) (pe_cal c_law_pairs (hr.mono (by decide)) rfl (pa_cons (pe_callB (kc_len (K:=K)) (by rfl) B.len PyProof.Rows.Boot.«len» (pa_cons (pv 2) pa_nil)) pa_nil))) (fun _ _ _ _ _=>kpg_tup (K:=K) (n:=2) rfl (pgs_cons (pg_name (i:=0) (show (["_law_j","_law_k","_law_row","_law_sayings","_law_crowd"] : List Str).Nodup by decide +kernel) rfl (Or.inl rfl) (.inr rfl)) (pgs_cons (pg_name (i:=1) (show (["_law_j","_law_k","_law_row","_law_sayings","_law_crowd"] : List Str).Nodup by decide +kernel) rfl (Or.inl rfl) (.inr rfl)) pgs_nil))) frm_two (fun _ _ _ _ _=>pts_nil) (fun _ _ _ _ _=>(pe_cal c_law_apart (hr.mono (by decide)) rfl (pa_cons (pv 2) (pa_cons (pv 3) (pa_cons (pe_ix (kix_tup (K:=K)) (pv 4) (pv 0) (fun _ _=>rfl)) (pa_cons (pe_ix (kix_tup (K:=K)) (pv 4) (pv 1) (fun _ _=>rfl)) pa_nil))))))) pa_nil))))))),?_⟩
  obtain ⟨cn,cr,ch,cp⟩:=hok
  have hg:=gok_of n1 hs
  have hc9:c.length<=n:= by
   have:=sub_lenK cn fun x hx=>mem_rg.mpr (cr x hx)
   rw[rg_length] at this;exact this
  have hp':SqT K H p (c.map V.int):=SqT.of hp
  refine seq_ifN (b:=false) (P:=fun H'=>Same H H') (fun N hN=>?_) (fun e=>absurd e (by decide)) (fun _ H1 s1=>?_)
  ·refine ⟨_,rfl,.ref p,"tuple",_,true,rfl,.inl (TyOf.tup hp),rfl,_,rfl,iteF ?_⟩
   refine ⟨_,rfl,p,rfl,⟨_,hp'⟩,lc_tup (xs:=c.map V.int) (fun i ys H4=>H4=H/\ys=(List.replicate i true).map V.bl) (le_line (by rw[ltm];omega)) ⟨rfl,rfl⟩
    (fun i ys H4 _ ⟨e,e2⟩=>⟨by rw[e];exact hp',by rw[e2,List.length_map,List.length_replicate];exact Nat.le_refl _⟩) ?_ ?_⟩
   ·rintro i y ys H4 hi ⟨rfl,rfl⟩
    obtain ⟨z,rfl,hz,hil⟩:=getI hi
    obtain ⟨z0,z1⟩:=cr z (List.mem_of_getElem? hz)
    refine lcN ?_
    refine ⟨_,rfl,z,rfl,_,rfl,iteT ⟨_,rfl,_,_,rfl,rfl,_,rfl,iteD z0 ⟨_,rfl,_,_,rfl,rfl,rfl,?_⟩⟩⟩
    dsimp only
    rw[decide_eq_true z1,List.replicate_succ',List.map_append];rfl
   ·rintro ys H4 ⟨rfl,rfl⟩ q hq
    refine ⟨q,_,rfl,.inl (SqL.of upd_same),_,rfl,?_⟩
    rw[show (List.replicate (c.map V.int).length true).all id=true by simp]
    exact hN _ (Same.new hq)
  refine seq_ifN (b:=false) (P:=fun H'=>Same H H') (fun N hN=>?_) (fun e=>absurd e (by decide)) (fun _ H2 s2=>?_)
  ·refine ⟨_,rfl,p,c,rfl,s1.seqT hp',by omega,fun q S hq=>⟨q,S,_,rfl,upd_same,_,rfl,p,_,rfl,.inr ((Same.new hq).seqT (s1.seqT hp')),_,_,rfl,rfl,_,rfl,?_⟩⟩
   have el:(PyProof.Rows.firstMet (fun i=>c.getD i 0) c.length).length=c.length:= by
    rw[firstMet_seen c c.length (Nat.le_refl _),List.take_length]
    exact (perm_of_mem (seen_nodup c) cn fun z=>mem_seen c z).length_eq
   rw[el,ltm]
   refine iteDF (by omega) ⟨_,rfl,p,_,rfl,.inr ((Same.new hq).seqT (s1.seqT hp')),_,rfl,_,rfl,n,b,as,ss,rfl,(s1.new2 hq).seq hb,hS.same (s1.new2 hq),hs,hl,fun H3 s3=>⟨_,_,rfl,rfl,_,rfl,?_⟩⟩
   rw[ltm,decide_eq_false (by omega)]
   exact hN _ ((s1.new2 hq).trans s3)
  refine seq_a ?_
  refine ⟨_,rfl,_,rfl,n,b,as,ss,rfl,n1,n9,s2.seq hb,hS.same s2,hs,hl,fun r H3 s3 hr=>?_⟩
  have S3:=s2.trans s3
  refine ⟨_,rfl,p,_,rfl,.inr (S3.seqT hp'),?_⟩
  rw[ltm]
  refine ⟨_,rfl,by omega,by omega,fun q qs H4 s4 hq hQ=>?_⟩
  rw[Int.toNat_natCast] at hQ
  have S4:=S3.trans s4
  refine ⟨q,rfl,⟨_,SqL.of hq⟩,?_⟩
  have hql:qs.length<=100:= by
   rw[hQ.length]
   have h1:=pairsN_le c.length
   have h2:c.length*c.length<=9*9:=Nat.mul_le_mul (by omega) (by omega)
   omega
  refine lc_list (xs:=qs.map V.ref) (fun i ys H5=>Same H4 H5/\ys=(List.replicate i true).map V.bl) (le_line (by rw[List.length_map];omega)) ⟨Same.refl _,rfl⟩
   (fun i ys H5 _ ⟨s5,e2⟩=>⟨SqL.of (s5 _ _ hq),by rw[e2,List.length_map,List.length_replicate];exact Nat.le_refl _⟩) ?_ ?_
  ·rintro i y ys H5 hi ⟨s5,rfl⟩
   obtain ⟨t,rfl,ht,hil⟩:=getRef hi
   obtain ⟨pr,hpr,hpi⟩:=paired_getM hQ ht
   refine ⟨t,_,rfl,s5.seqT hpr,rfl,_,_,rfl,_,_,rfl,rfl,yesI ?_⟩
   obtain ⟨j1,j2⟩:=mem_pairsN.mp (List.mem_of_getElem? hpi)
   have g1:c[pr.1]?=some c[pr.1]:=List.getElem?_eq_getElem (by omega)
   have g2:c[pr.2]?=some c[pr.2]:=List.getElem?_eq_getElem j2
   have hw:=List.pairwise_iff_getElem.mp cp pr.1 pr.2 (by omega) j2 j1
   have S5:=S4.trans s5
   refine ⟨_,rfl,_,rfl,_,rfl,_,rfl,p,_,_,_,rfl,rfl,S5.seqT hp',atI_nt g1,_,rfl,_,rfl,p,_,_,_,rfl,rfl,S5.seqT hp',atI_nt g2,r,b,_,_,n,as,ss,rfl,(s4.trans s5).seqT (SqT.of hr),n1,n9,S5.seq hb,hS.same S5,hs,hl,cr _ (List.getElem_mem _),cr _ (List.getElem_mem _),fun H6 s6=>⟨s5.trans s6,?_⟩⟩
   rw[decide_eq_true hw,List.replicate_succ',List.map_append];rfl
  ·rintro ys H5 ⟨s5,rfl⟩ u hu
   refine ⟨u,_,rfl,.inl (SqL.of upd_same),?_⟩
   rw[show (List.replicate (qs.map V.ref).length true).all id=true by simp]
   exact k _ ((S4.trans s5).new2 hu)
theorem sc_law_paper_ok : FnScope (["_law_size","_law_sayings","_law_paper","_law_word","_law_one","_law_other","_law_row","_law_told"]) (["_law_size","_law_sayings","_law_paper"]) (defScope s_law_paper_ok):=by trivial
theorem ok_law_paper_ok {dd : Nat} {f : Addr} {fd : FuncData} (F : Fun K "_law_paper_ok" "_law_paper_ok" s_law_paper_ok f fd) (B : Bs mg) (T : Gs mg)  (c_law_crowd_ok : Cal P w K mg base 4 "_law_crowd_ok" [] (spLCrowd K)) (c_law_least : Cal P w K mg base 1 "_law_least" [] (spLLeast K)) (c_law_links : Cal P w K mg base 3 "_law_links" [] (spLLnk K)) (c_law_most : Cal P w K mg base 1 "_law_most" [] (spLMost K)) (c_law_paper_ok : Cal P w K mg base (5 + dd) "_law_paper_ok" [] (spLaPaper K dd)) (c_law_two : Cal P w K mg base 2 "_law_two" [] spLTwo) : FnOk P w K mg base CX0 (5 + dd + 1) f fd ["_law_size","_law_sayings","_law_paper"] (spLaPaper K (dd + 1)):= by
 have sc:=sc_law_paper_ok
 refine F.ok sc (fun vs H Q E h=>?_) (fun cdv A outer s H vs Q E hr h=>?_)
 ·obtain ⟨_,n,b,as,ss,p,v,rfl,_⟩:=h;rfl
 ·obtain ⟨hd0,n,b,as,ss,p,v,rfl,n1,n9,hb,hS,hs,hl,hP,hok,hd,k⟩:=h
  refine ⟨_,(pss_cons (ps_if (PW.pt (pw_or (pt_not (pt_val (pe_callB (kc_isiS (K:=K)) (by rfl) B.isinstance PyProof.Rows.Boot.«isinstance» (pa_cons (pv 2) (pa_cons (pe_bltn (v:=.ty "tuple") rfl B.tuple PyProof.Rows.Boot.«tuple» rfl) pa_nil))))) (pw_or (pt_cmpR op_eq (pe_callB (kc_len (K:=K)) (by rfl) B.len PyProof.Rows.Boot.«len» (pa_cons (pv 2) pa_nil)) pe_int (nomark _)) (pw_or1 (pt_not (pt_val (pe_callB (kc_isiS (K:=K)) (by rfl) B.isinstance PyProof.Rows.Boot.«isinstance» (pa_cons (pe_ix (kix_tup (K:=K)) (pv 2) pe_int (fun _ _=>rfl)) (pa_cons (pe_bltn (v:=.ty "str") rfl B.str PyProof.Rows.Boot.«str» rfl) pa_nil))))))))) (pss_one (ps_ret pe_bl)) pss_nil)
   (pss_cons (ps_set (i:=3) sc.nd rfl (Or.inl rfl) (pe_ix (kix_tup (K:=K)) (pv 2) pe_int (fun _ _=>rfl)))
   (pss_cons (ps_if (pt_cmpR op_eq (pe_callB (kc_len (K:=K)) (by rfl) B.len PyProof.Rows.Boot.«len» (pa_cons (pv 2) pa_nil)) pe_int (nomark _)) (pss_cons (ps_if (pt_cmpR op_eq (pv 3) pe_str (nomark _)) (pss_one (ps_ret (pe_cmpR op_gt (pe_cal c_law_least (hr.mono (by omega)) rfl (pa_cons (pv 1) pa_nil)) (pe_cal c_law_most (hr.mono (by omega)) rfl (pa_cons (pv 0) (pa_cons (pv 1) pa_nil))) (nomark _)))) pss_nil)
   (pss_one (ps_ret (pe_and (pe_cmpR op_eq (pv 3) pe_str (nomark _)) (pe_one (pe_cmpR op_lt (pe_op op_add (pe_callB (kc_max (K:=K)) (by rfl) B.max PyProof.Rows.Boot.«max» (pa_cons (pe_cal c_law_links (hr.mono (by omega)) rfl (pa_cons (pv 0) (pa_cons (pv 1) pa_nil))) pa_nil)) pe_int) (pe_cal c_law_least (hr.mono (by omega)) rfl (pa_cons (pv 1) pa_nil)) (nomark _))))))) pss_nil)
   (pss_cons (ps_if (pt_cmpR op_eq (pe_callB (kc_len (K:=K)) (by rfl) B.len PyProof.Rows.Boot.«len» (pa_cons (pv 2) pa_nil)) pe_int (nomark _)) (pss_one (ps_ret (pe_and (pe_cmpR op_eq (pv 3) pe_str (nomark _)) (pe_one (pe_cal c_law_crowd_ok (hr.mono (by omega)) rfl (pa_cons (pv 0) (pa_cons (pv 1) (pa_cons (pe_ix (kix_tup (K:=K)) (pv 2) pe_int (fun _ _=>rfl)) pa_nil)))))))) pss_nil)
   (pss_cons (ps_if (pt_not (pt_val (pe_cal c_law_two (hr.mono (by omega)) rfl (pa_cons (pv 0) (pa_cons (pe_ix (kix_tup (K:=K)) (pv 2) pe_int (fun _ _=>rfl)) (pa_cons (pe_ix (kix_tup (K:=K)) (pv 2) pe_int (fun _ _=>rfl)) pa_nil)))))) (pss_one (ps_ret pe_bl)) pss_nil)
   (pss_cons (ps_asg (pe_slice (ksl_tup (K:=K)) (pv 2) (po_some pe_int) (po_some pe_int)) (pg_tup rfl (pgs_cons (pg_name (i:=4) sc.nd rfl (Or.inl rfl)) (pgs_cons (pg_name (i:=5) sc.nd rfl (Or.inl rfl)) pgs_nil))))
   (pss_cons (ps_if (PW.pt (pw_and (pt_cmpR op_eq (pe_callB (kc_len (K:=K)) (by rfl) B.len PyProof.Rows.Boot.«len» (pa_cons (pv 2) pa_nil)) pe_int (nomark _)) (pw_and1 (pt_cmpR op_eq (pv 3) pe_str (nomark _))))) (pss_cons (ps_set (i:=6) sc.nd rfl (Or.inl rfl) (pe_cal c_law_links (hr.mono (by omega)) rfl (pa_cons (pv 0) (pa_cons (pv 1) pa_nil))))
   (pss_cons (ps_set (i:=7) sc.nd rfl (Or.inl rfl) (pe_or (pe_cmpR (op_inD (K:=K) (hu40 hr)) (pe_tup (pa_cons pe_str (pa_cons (pv 4) (pa_cons (pv 5) pa_nil)))) (pv 1) rfl) (pe_one (pe_cmpR (op_inD (K:=K) (hu40 hr)) (pe_tup (pa_cons pe_str (pa_cons (pv 5) (pa_cons (pv 4) pa_nil)))) (pv 1) rfl))))
   (pss_one (ps_ret (pe_and (pv 7) (pe_one (pe_cmpR op_eq (pe_ix (kix_tup (K:=K)) (pv 6) (pv 4) (fun _ _=>rfl)) (pe_ix (kix_tup (K:=K)) (pv 6) (pv 5) (fun _ _=>rfl)) (nomark _)))))))) pss_nil)
   (pss_cons (ps_if (PW.pt (pw_or (pt_cmpR op_ne (pe_callB (kc_len (K:=K)) (by rfl) B.len PyProof.Rows.Boot.«len» (pa_cons (pv 2) pa_nil)) pe_int (nomark _)) (pw_or1 (pt_cmpR op_ne (pv 3) pe_str (nomark _))))) (pss_one (ps_ret pe_bl)) pss_nil)
   (pss_cons (ps_if (pt_not (pt_val (pe_cal c_law_paper_ok (hr.mono (by omega)) rfl (pa_cons (pv 0) (pa_cons (pe_op op_cat (pv 1) (pe_lst (pa_cons (pe_tup (pa_cons pe_str (pa_cons (pv 4) (pa_cons (pv 5) pa_nil)))) pa_nil))) (pa_cons (pe_ix (kix_tup (K:=K)) (pv 2) pe_int (fun _ _=>rfl)) pa_nil)))))) (pss_one (ps_ret pe_bl)) pss_nil)
   (pss_one (ps_ret (pe_cal c_law_paper_ok (hr.mono (by omega)) rfl (pa_cons (pv 0) (pa_cons (pe_op op_cat (pv 1) (pe_lst (pa_cons (pe_tup (pa_cons pe_str (pa_cons (pv 4) (pa_cons (pv 5) pa_nil)))) pa_nil))) (pa_cons (pe_ix (kix_tup (K:=K)) (pv 2) pe_int (fun _ _=>rfl)) pa_nil))))))))))))))),?_⟩
  have hbl:=hb
  replace hb:SqL K H b (as.map V.ref):=SqL.of hb
  have hl':ss.length<=1000:=by omega
  have hg:=gok_of n1 hs
  have start : ∀ (a : Addr) (w : Str) (r : List V),v = .ref a -> H a = some (.tup (.str w :: r)) -> ∀ N : Bool -> Hp -> Prop,N false H -> tOr (tNot (tB (tCB (fun xs H Q=>∃ x n t b,xs = [x,V.ty n] /\ (TyOf K H x t \/ ∃ a ys,x = V.ref a /\ SqT K H a ys /\ t = Value.type "tuple") /\ PySem.W.kitOne K t (Value.type n) = some b /\ Q (V.bl b) H) (tCons (tVar 2) (tCons (tC (V.ty "tuple")) tNil)))))
    (tOr (tTest (tOp rEq (tCB (fun xs H Q=>∃ p ys,xs=[V.ref p]/\(SqL K H p ys\/SqT K H p ys)/\Q (V.int (ys.length:Int)) H) (tCons (tVar 2) tNil)) (tC (V.int 0))))
     (tNot (tB (tCB (fun xs H Q=>∃ x n t b,xs = [x,V.ty n] /\ (TyOf K H x t \/ ∃ a ys,x = V.ref a /\ SqT K H a ys /\ t = Value.type "tuple") /\ PySem.W.kitOne K t (Value.type n) = some b /\ Q (V.bl b) H) (tCons (tOp (rIxT K) (tVar 2) (tC (V.int 0))) (tCons (tC (V.ty "str")) tNil)))))) [some (.int n),some (.ref b),some v,none,none,none,none,none] H N:= by
   intro a w r e ha N hN
   subst e
   refine ⟨_,rfl,.ref a,"tuple",_,true,rfl,.inl (TyOf.tup ha),rfl,_,rfl,iteF ⟨_,rfl,a,_,rfl,.inr (SqT.of ha),rfl,_,rfl,?_⟩⟩
   rw[dInt,decide_eq_false (by rw[List.length_cons];omega)]
   exact iteF ⟨_,rfl,a,_,_,_,rfl,rfl,SqT.of ha,show atI (V.str w :: r) ((0 : Nat) : Int) = some (V.str w) from atI_nat rfl,.str w,"str",_,true,rfl,.inl (TyOf.str _),rfl,_,rfl,hN⟩
  cases p with
  | counts=>
   obtain ⟨a,rfl,ha⟩:=hP
   refine seq_ifN (b:=false) (P:=fun H'=>H'=H) (fun N hN=>start a _ _ rfl ha N (hN _ rfl)) (fun e=>absurd e (by decide)) (fun _ H1 e=>?_)
   rw[e]
   refine seq_a ⟨_,rfl,a,_,_,_,rfl,rfl,SqT.of ha,rfl,?_⟩
   refine seq_ifN (b:=true) (P:=fun H'=>H'=H) (fun N hN=>⟨_,rfl,a,_,rfl,.inr (SqT.of ha),rfl,_,rfl,hN _ rfl⟩) (fun _ H1 e=>?_) (fun e=>absurd e (by decide))
   rw[e]
   refine seq_ifN (b:=true) (P:=fun H'=>H'=H) (fun N hN=>⟨_,rfl,rfl,_,rfl,by rw[dStr,decide_eq_true (by decide +kernel)];exact hN _ rfl⟩) (fun _ H1 e=>?_) (fun e=>absurd e (by decide))
   rw[e]
   refine ⟨_,rfl,n,b,as,ss,rfl,hb,hS,hs,hl',fun H2 s2=>⟨_,rfl,_,rfl,n,b,as,ss,rfl,s2.seq hb,hS.same s2,hs,hl',fun H3 s3=>⟨_,_,rfl,rfl,?_⟩⟩⟩
   have:=k _ (s2.trans s3)
   rw[<- decide_eq_true (show (gistOf n ss).hi<(gistOf n ss).lo from hok)] at this
   exact this
  | few=>
   obtain ⟨a,rfl,ha⟩:=hP
   refine seq_ifN (b:=false) (P:=fun H'=>H'=H) (fun N hN=>start a _ _ rfl ha N (hN _ rfl)) (fun e=>absurd e (by decide)) (fun _ H1 e=>?_)
   rw[e]
   refine seq_a ⟨_,rfl,a,_,_,_,rfl,rfl,SqT.of ha,rfl,?_⟩
   refine seq_ifN (b:=true) (P:=fun H'=>H'=H) (fun N hN=>⟨_,rfl,a,_,rfl,.inr (SqT.of ha),rfl,_,rfl,hN _ rfl⟩) (fun _ H1 e=>?_) (fun e=>absurd e (by decide))
   rw[e]
   refine seq_ifN (b:=false) (P:=fun H'=>H'=H) (fun N hN=>⟨_,rfl,rfl,_,rfl,by rw[dStr,decide_eq_false (by decide +kernel)];exact hN _ rfl⟩) (fun e=>absurd e (by decide)) (fun _ H1 e=>?_)
   rw[e]
   refine ⟨_,rfl,rfl,_,rfl,?_⟩
   rw[dStr,decide_eq_true (by decide +kernel)]
   have hnl:(numRow (gistOf n ss).L)≠[]:=by intro z;have:=congrArg List.length z;rw[numRow_length,hg.len] at this;simp at this;omega
   refine iteT ⟨_,rfl,_,rfl,n,b,as,ss,rfl,n1,n9,hb,hS,hs,hl',fun q H2 s2 hq=>⟨q,_,rfl,.inr (SqT.of hq),hnl,fun mx hmx=>⟨_,_,rfl,rfl,_,rfl,n,b,as,ss,rfl,s2.seq hb,hS.same s2,hs,hl',fun H3 s3=>⟨_,_,rfl,rfl,?_⟩⟩⟩⟩
   have e1:mx+1=((homesN n (gistOf n ss).L).length:Int):= by
    have h1:=(fresh_pos (numRow_way (gistOf n ss).L).1 hnl).2.uniq hmx
    have h2:=woods_homes hg
    omega
   have:=k _ (s2.trans s3)
   rw[<- decide_eq_true (show ((homesN n (gistOf n ss).L).length:Int)<(gistOf n ss).lo from hok),<- e1] at this
   exact this
  | many c=>
   obtain ⟨a,q,rfl,ha,hq⟩:=hP
   refine seq_ifN (b:=false) (P:=fun H'=>H'=H) (fun N hN=>start a _ _ rfl ha N (hN _ rfl)) (fun e=>absurd e (by decide)) (fun _ H1 e=>?_)
   rw[e]
   refine seq_a ⟨_,rfl,a,_,_,_,rfl,rfl,SqT.of ha,rfl,?_⟩
   refine seq_ifN (b:=false) (P:=fun H'=>H'=H) (fun N hN=>⟨_,rfl,a,_,rfl,.inr (SqT.of ha),rfl,_,rfl,hN _ rfl⟩) (fun e=>absurd e (by decide)) (fun _ H1 e=>?_)
   rw[e]
   refine seq_ifN (b:=true) (P:=fun H'=>H'=H) (fun N hN=>⟨_,rfl,a,_,rfl,.inr (SqT.of ha),rfl,_,rfl,hN _ rfl⟩) (fun _ H1 e=>?_) (fun e=>absurd e (by decide))
   rw[e]
   refine ⟨_,rfl,rfl,_,rfl,?_⟩
   rw[dStr,decide_eq_true (by decide +kernel)]
   exact iteT ⟨_,rfl,_,rfl,_,rfl,a,_,_,_,rfl,rfl,SqT.of ha,rfl,n,b,q,as,ss,c,rfl,n1,n9,hb,hS,hs,hl',hq,hok,k⟩
  | ring i j=>
   obtain ⟨a,rfl,ha⟩:=hP
   obtain ⟨hm,heq⟩:=hok
   obtain ⟨u1,u2⟩:=hg.un _ hm
   have u1:0<=i/\i<n:=u1
   have u2:0<=j/\j<n:=u2
   have hij:i≠j:= by
    rcases mem_U.mp hm with z | z
    ·exact (hs _ (mem_unPs.mp z)).2.2.2.2
    ·exact fun w=>(hs _ (mem_unPs.mp z)).2.2.2.2 w.symm
   refine seq_ifN (b:=false) (P:=fun H'=>H'=H) (fun N hN=>start a _ _ rfl ha N (hN _ rfl)) (fun e=>absurd e (by decide)) (fun _ H1 e=>?_)
   rw[e]
   refine seq_a ⟨_,rfl,a,_,_,_,rfl,rfl,SqT.of ha,rfl,?_⟩
   refine seq_ifN (b:=false) (P:=fun H'=>H'=H) (fun N hN=>⟨_,rfl,a,_,rfl,.inr (SqT.of ha),rfl,_,rfl,hN _ rfl⟩) (fun e=>absurd e (by decide)) (fun _ H1 e=>?_)
   rw[e]
   refine seq_ifN (b:=false) (P:=fun H'=>H'=H) (fun N hN=>⟨_,rfl,a,_,rfl,.inr (SqT.of ha),rfl,_,rfl,hN _ rfl⟩) (fun e=>absurd e (by decide)) (fun _ H1 e=>?_)
   rw[e]
   refine seq_ifN (b:=false) (P:=fun H'=>H'=H) (fun N hN=>⟨_,rfl,_,rfl,a,_,_,_,rfl,rfl,SqT.of ha,rfl,_,rfl,a,_,_,_,rfl,rfl,SqT.of ha,rfl,n,i,j,rfl,u1,u2,hij,_,rfl,hN _ rfl⟩) (fun e=>absurd e (by decide)) (fun _ H1 e=>?_)
   rw[e]
   refine ⟨_,rfl,_,rfl,_,rfl,a,_,rfl,SqT.of ha,fun q H2 s2 hq=>?_⟩
   have ec : cutV [V.str "ring",V.int i,V.int j] (some 1) (some 3) = [V.int i,V.int j]:=by rfl
   rw[ec] at hq
   refine ⟨q,_,rfl,hq,rfl,_,_,rfl,_,_,rfl,rfl,?_⟩
   clear start
   try dsimp only
   refine nrm (σ':=[some (.int n),some (.ref b),some (.ref a),some (.str "ring"),some (.int i),some (.int j),none,none]) rfl ?_
   have ha2:=s2 _ _ ha
   refine seq_ifN (b:=true) (P:=fun H'=>H'=H2) (fun N hN=>⟨_,rfl,a,_,rfl,.inr (SqT.of ha2),rfl,_,rfl,iteT ⟨_,rfl,rfl,_,rfl,by rw[dStr,decide_eq_true (by decide +kernel)];exact hN _ rfl⟩⟩) (fun _ H1 e=>?_) (fun e=>absurd e (by decide))
   rw[e]
   refine seq_a ?_
   refine ⟨_,rfl,_,rfl,n,b,as,ss,rfl,n1,n9,s2.seq hb,hS.same s2,hs,hl',fun r H3 s3 hr=>?_⟩
   have S3:=s2.trans s3
   have hRl:(numRow (gistOf n ss).L).length=n:=by rw[numRow_length,hg.len]
   have heq2:=(num_gat hg u1 u2).mpr heq
   have fin : ∀ H4 : Hp,Same H3 H4 -> tRet (tAndV (tVar 7) (tOp rEq (tOp (rIxT K) (tVar 6) (tVar 4)) (tOp (rIxT K) (tVar 6) (tVar 5)))) { nx:=fun x H'=>Q V.non H',rt:=Q } [some (.int n),some (.ref b),some (.ref a),some (.str "ring"),some (.int i),some (.int j),some (.ref r),some (.bl true)] H4:=fun H4 s4=>by
    refine ⟨_,rfl,_,rfl,iteT ⟨_,rfl,_,rfl,r,_,_,_,rfl,rfl,s4.seqT (SqT.of hr),atI_lt u1.1 (by omega),_,rfl,_,rfl,r,_,_,_,rfl,rfl,s4.seqT (SqT.of hr),atI_lt u2.1 (by omega),rfl,?_⟩⟩
    have:=k _ (S3.trans s4)
    rw[<- decide_eq_true heq2,<- dInt] at this
    exact this
   refine seq_a ?_
   refine ⟨_,rfl,_,rfl,le_line (by simp),fun t1 ht1=>?_⟩
   have n4:=Same.new (o:=HO.tup [V.str "unlike",V.int i,V.int j]) ht1
   refine ⟨_,rfl,b,_,_,sayD (.pair true i j),rfl,(S3.trans n4).seq hb,dats_say (hS.same (S3.trans n4)),dat_say (s:=.pair true i j) upd_same,Nat.le_trans (depDs_say _) (by decide),_,rfl,?_⟩
   rw[any_say]
   rcases mem_U.mp hm with z | z
   ·have z:=mem_unPs.mp z
    rw[decide_eq_true z]
    exact iteT (fin _ n4)
   ·have z:Say.pair true j i ∈ ss:=mem_unPs.mp z
    by_cases z2:Say.pair true i j ∈ ss
    ·rw[decide_eq_true z2]
     exact iteT (fin _ n4)
    ·rw[decide_eq_false z2]
     refine iteF ⟨_,rfl,_,rfl,le_line (by simp),fun t2 ht2=>?_⟩
     have n5:=n4.new2 (o:=HO.tup [V.str "unlike",V.int j,V.int i]) ht2
     refine ⟨_,rfl,b,_,_,sayD (.pair true j i),rfl,(S3.trans n5).seq hb,dats_say (hS.same (S3.trans n5)),dat_say (s:=.pair true j i) upd_same,Nat.le_trans (depDs_say _) (by decide),?_⟩
     rw[any_say,decide_eq_true z]
     exact fin _ n5
  | cases i j p q=>
   obtain ⟨a,v1,v2,rfl,ha,hp1,hp2⟩:=hP
   obtain ⟨u1,u2,hij,ok1,ok2⟩:=hok
   have hdm:max (papD p) (papD q)+1<dd+1:=hd
   refine seq_ifN (b:=false) (P:=fun H'=>H'=H) (fun N hN=>start a _ _ rfl ha N (hN _ rfl)) (fun e=>absurd e (by decide)) (fun _ H1 e=>?_)
   rw[e]
   refine seq_a ⟨_,rfl,a,_,_,_,rfl,rfl,SqT.of ha,rfl,?_⟩
   refine seq_ifN (b:=false) (P:=fun H'=>H'=H) (fun N hN=>⟨_,rfl,a,_,rfl,.inr (SqT.of ha),rfl,_,rfl,hN _ rfl⟩) (fun e=>absurd e (by decide)) (fun _ H1 e=>?_)
   rw[e]
   refine seq_ifN (b:=false) (P:=fun H'=>H'=H) (fun N hN=>⟨_,rfl,a,_,rfl,.inr (SqT.of ha),rfl,_,rfl,hN _ rfl⟩) (fun e=>absurd e (by decide)) (fun _ H1 e=>?_)
   rw[e]
   refine seq_ifN (b:=false) (P:=fun H'=>H'=H) (fun N hN=>⟨_,rfl,_,rfl,a,_,_,_,rfl,rfl,SqT.of ha,rfl,_,rfl,a,_,_,_,rfl,rfl,SqT.of ha,rfl,n,i,j,rfl,u1,u2,hij,_,rfl,hN _ rfl⟩) (fun e=>absurd e (by decide)) (fun _ H1 e=>?_)
   rw[e]
   refine ⟨_,rfl,_,rfl,_,rfl,a,_,rfl,SqT.of ha,fun r H2 s2 hr=>?_⟩
   have ec : cutV [V.str "cases",V.int i,V.int j,v1,v2] (some 1) (some 3) = [V.int i,V.int j]:=by rfl
   rw[ec] at hr
   refine ⟨r,_,rfl,hr,rfl,_,_,rfl,_,_,rfl,rfl,?_⟩
   clear start
   try dsimp only
   refine nrm (σ':=[some (.int n),some (.ref b),some (.ref a),some (.str "cases"),some (.int i),some (.int j),none,none]) rfl ?_
   have ha2:=s2 _ _ ha
   have hal:=hS.length
   have sA:sayOk n (.pair false i j):=⟨u1.1,u1.2,u2.1,u2.2,hij⟩
   have sU:sayOk n (.pair true i j):=⟨u1.1,u1.2,u2.1,u2.2,hij⟩
   have okA : ∀ s ∈ ss++[.pair false i j],sayOk n s:=fun s h=>(List.mem_append.mp h).elim (hs s) fun h=>by rw[List.mem_singleton.mp h];exact sA
   have okU : ∀ s ∈ ss++[.pair true i j],sayOk n s:=fun s h=>(List.mem_append.mp h).elim (hs s) fun h=>by rw[List.mem_singleton.mp h];exact sU
   refine seq_ifN (b:=false) (P:=fun H'=>H'=H2) (fun N hN=>⟨_,rfl,a,_,rfl,.inr (SqT.of ha2),rfl,_,rfl,iteF (hN _ rfl)⟩) (fun e=>absurd e (by decide)) (fun _ H1 e=>?_)
   rw[e]
   refine seq_ifN (b:=false) (P:=fun H'=>H'=H2) (fun N hN=>⟨_,rfl,a,_,rfl,.inr (SqT.of ha2),rfl,_,rfl,iteF ⟨_,rfl,rfl,_,rfl,by rw[dStr,decide_eq_true (by decide +kernel)];exact hN _ rfl⟩⟩) (fun e=>absurd e (by decide)) (fun _ H1 e=>?_)
   rw[e]
   refine seq_ifN (b:=false) (P:=fun H'=>Same H H') (fun N hN=>⟨_,rfl,_,rfl,_,rfl,_,rfl,le_line (by simp),fun t1 ht1=>⟨le_line (by simp),fun l1 hl1=>?_⟩⟩) (fun e=>absurd e (by decide)) (fun _ H5 s5=>?_)
   ·have n3:=Same.new (o:=HO.tup [V.str "alike",V.int i,V.int j]) ht1
    have n4:=n3.new2 (o:=HO.lst [V.ref t1]) hl1
    refine ⟨b,l1,_,_,rfl,rfl,n4 _ _ (s2 _ _ hbl),upd_same,le_line (by rw[List.length_map];show _+1<=_;omega),fun l2 hl2=>?_⟩
    have n5:=n4.new2 (o:=HO.lst (as.map V.ref++[V.ref t1])) hl2
    have S5:=s2.trans n5
    have ht5:=(Same.new (o:=HO.lst [V.ref t1]) hl1).new2 (o:=HO.lst (as.map V.ref++[V.ref t1])) hl2 _ _ upd_same
    refine ⟨_,rfl,a,_,_,_,rfl,rfl,SqT.of (S5 _ _ ha),rfl,by omega,n,l2,as++[t1],ss++[.pair false i j],p,v1,rfl,n1,n9,by rw[upd_same,ref_snoc],Paired.snoc (b:=Say.pair false i j) (hS.same S5) ht5,okA,by rw[List.length_append,List.length_singleton];omega,PapAt.same (fun a xs e=>S5 _ _ e) hp1,by rw[gistOf_snoc];exact ok1,by omega,fun H6 s6=>⟨_,rfl,hN _ (S5.trans s6)⟩⟩
   ·refine ⟨_,rfl,_,rfl,_,rfl,_,rfl,le_line (by simp),fun t1 ht1=>⟨le_line (by simp),fun l1 hl1=>?_⟩⟩
    have n3:=Same.new (o:=HO.tup [V.str "unlike",V.int i,V.int j]) ht1
    have n4:=n3.new2 (o:=HO.lst [V.ref t1]) hl1
    refine ⟨b,l1,_,_,rfl,rfl,n4 _ _ (s5 _ _ hbl),upd_same,le_line (by rw[List.length_map];show _+1<=_;omega),fun l2 hl2=>?_⟩
    have n5:=n4.new2 (o:=HO.lst (as.map V.ref++[V.ref t1])) hl2
    have S5:=s5.trans n5
    have ht5:=(Same.new (o:=HO.lst [V.ref t1]) hl1).new2 (o:=HO.lst (as.map V.ref++[V.ref t1])) hl2 _ _ upd_same
    exact ⟨_,rfl,a,_,_,_,rfl,rfl,SqT.of (S5 _ _ ha),rfl,by omega,n,l2,as++[t1],ss++[.pair true i j],q,v2,rfl,n1,n9,by rw[upd_same,ref_snoc],Paired.snoc (b:=Say.pair true i j) (hS.same S5) ht5,okU,by rw[List.length_append,List.length_singleton];omega,PapAt.same (fun a xs e=>S5 _ _ e) hp2,by rw[gistOf_snoc];exact ok2,by omega,fun H6 s6=>k _ (S5.trans s6)⟩
theorem sc_law_settled_ok : FnScope (["_law_found","_law_size","_law_sayings"]) (["_law_found","_law_size","_law_sayings"]) (defScope s_law_settled_ok):=by trivial
theorem ok_law_settled_ok {f : Addr} {fd : FuncData} (F : Fun K "_law_settled_ok" "_law_settled_ok" s_law_settled_ok f fd) (B : Bs mg) (T : Gs mg)  (c_law_fits_all : Cal P w K mg base 2 "_law_fits_all" [] (spLFits K)) (c_law_paper_ok : Cal P w K mg base 43 "_law_paper_ok" [] (spLaPaper K 38)) (c_law_way_ok : Cal P w K mg base 2 "_law_way_ok" [] (spWayOk K)) : FnOk P w K mg base CX0 44 f fd ["_law_found","_law_size","_law_sayings"] (spLSok K):= by
 have sc:=sc_law_settled_ok
 refine F.ok sc (fun vs H Q E h=>?_) (fun cdv A outer s H vs Q E hr h=>?_)
 ·obtain ⟨t,n,b,as,ss,rfl,_⟩:=h;rfl
 ·obtain ⟨t,n,b,as,ss,rfl,n1,n9,hb,hS,hs,hl,hf,k⟩:=h
  refine ⟨_,(pss_cons (ps_if (PW.pt (pw_or (pt_not (pt_val (pe_callB (kc_isiS (K:=K)) (by rfl) B.isinstance PyProof.Rows.Boot.«isinstance» (pa_cons (pv 0) (pa_cons (pe_bltn (v:=.ty "tuple") rfl B.tuple PyProof.Rows.Boot.«tuple» rfl) pa_nil))))) (pw_or1 (pt_cmpR op_ne (pe_callB (kc_len (K:=K)) (by rfl) B.len PyProof.Rows.Boot.«len» (pa_cons (pv 0) pa_nil)) pe_int (nomark _))))) (pss_one (ps_ret pe_bl)) pss_nil)
   (pss_cons (ps_if (pt_cmpR op_eq (pe_ix (kix_tup (K:=K)) (pv 0) pe_int (fun _ _=>rfl)) pe_str (nomark _)) (pss_one (ps_ret (pe_and (pe_cal c_law_way_ok (hr.mono (by decide)) rfl (pa_cons (pe_ix (kix_tup (K:=K)) (pv 0) pe_int (fun _ _=>rfl)) (pa_cons (pv 1) pa_nil))) (pe_one (pe_cal c_law_fits_all (hr.mono (by decide)) rfl (pa_cons (pe_ix (kix_tup (K:=K)) (pv 0) pe_int (fun _ _=>rfl)) (pa_cons (pv 2) pa_nil))))))) pss_nil)
   (pss_one (ps_ret (pe_and (pe_cmpR op_eq (pe_ix (kix_tup (K:=K)) (pv 0) pe_int (fun _ _=>rfl)) pe_str (nomark _)) (pe_one (pe_cal c_law_paper_ok (hr.mono (by decide)) rfl (pa_cons (pv 1) (pa_cons (pv 2) (pa_cons (pe_ix (kix_tup (K:=K)) (pv 0) pe_int (fun _ _=>rfl)) pa_nil)))))))))),?_⟩
  have hbl:=hb
  replace hb:SqL K H b (as.map V.ref):=SqL.of hb
  rcases hf with ⟨a,w,ht,ha,hw,hwl,hfit⟩ | ⟨v,p,ht,hP,hok,hpd⟩
  ·refine seq_ifN (b:=false) (P:=fun H'=>H' = H) (fun N hN=>⟨_,rfl,.ref t,"tuple",_,true,rfl,.inl (TyOf.tup ht),rfl,_,rfl,iteF ⟨_,rfl,t,_,rfl,.inr (SqT.of ht),rfl,_,rfl,hN _ rfl⟩⟩) (fun e=>absurd e (by decide)) (fun _ H1 e=>?_)
   rw[e]
   refine seq_ifN (b:=true) (P:=fun H'=>H'=H) (fun N hN=>⟨_,rfl,t,_,_,_,rfl,rfl,SqT.of ht,rfl,rfl,_,rfl,by rw[dStr,decide_eq_true (by decide +kernel)];exact hN _ rfl⟩) (fun _ H1 e=>?_) (fun e=>absurd e (by decide))
   rw[e]
   refine ⟨_,rfl,t,_,_,_,rfl,rfl,SqT.of ht,rfl,_,rfl,a,w,n,rfl,ha,by omega,fun H2 s2=>⟨_,rfl,?_⟩⟩
   rw[decide_eq_true (show (w.length:Int)=n by omega),Bool.true_and,<- way_rowOk,hw]
   refine iteT ⟨_,rfl,t,_,_,_,rfl,rfl,SqT.of (s2 _ _ ht),rfl,_,rfl,a,b,w,as,ss,n,rfl,SqT.of (s2 _ _ ha),hw,hwl,s2.seq hb,hS.same s2,hs,by omega,fun H3 s3=>?_⟩
   have hall:ss.all (fitsB w)=true:=List.all_eq_true.mpr fun s hm=>(fitsB_iff w s).mpr ((fits_of n1 hs (isWay_iff.mp hw).2.2 hwl).mp hfit s hm)
   rw[hall]
   exact k _ (s2.trans s3)
  ·refine seq_ifN (b:=false) (P:=fun H'=>H' = H) (fun N hN=>⟨_,rfl,.ref t,"tuple",_,true,rfl,.inl (TyOf.tup ht),rfl,_,rfl,iteF ⟨_,rfl,t,_,rfl,.inr (SqT.of ht),rfl,_,rfl,hN _ rfl⟩⟩) (fun e=>absurd e (by decide)) (fun _ H1 e=>?_)
   rw[e]
   refine seq_ifN (b:=false) (P:=fun H'=>H'=H) (fun N hN=>⟨_,rfl,t,_,_,_,rfl,rfl,SqT.of ht,rfl,rfl,_,rfl,by rw[dStr,decide_eq_false (by decide +kernel)];exact hN _ rfl⟩) (fun e=>absurd e (by decide)) (fun _ H1 e=>?_)
   rw[e]
   refine ⟨_,rfl,t,_,_,_,rfl,rfl,SqT.of ht,rfl,rfl,_,rfl,?_⟩
   rw[dStr,decide_eq_true (by decide +kernel)]
   exact iteT ⟨_,rfl,_,rfl,_,rfl,t,_,_,_,rfl,rfl,SqT.of ht,rfl,by decide,n,b,as,ss,p,v,rfl,n1,n9,hbl,hS,hs,by omega,hP,hok,by omega,k⟩
theorem sc_law_said_list : FnScope (["_law_script","_law_start","_law_size","_law_mode","_law_sayings","_law_k","_law_saying_here"]) (["_law_script","_law_start","_law_size","_law_mode"]) (defScope s_law_said_list):=by trivial
theorem ok_law_said_list {f : Addr} {fd : FuncData} (F : Fun K "_law_said_list" "_law_said_list" s_law_said_list f fd) (B : Bs mg) (T : Gs mg)  (c_law_cell : Cal P w K mg base 1 "_law_cell" [] (spCell K)) (c_law_many : Cal P w K mg base 1 "_law_many" [] (spMany K)) (c_law_saying : Cal P w K mg base 2 "_law_saying" [] spLSay) : FnOk P w K mg base CX0 3 f fd ["_law_script","_law_start","_law_size","_law_mode"] (spLSl K):= by
 have sc:=sc_law_said_list
 refine F.ok sc (fun vs H Q E h=>?_) (fun cdv A outer s H vs Q E hr h=>?_)
 ·obtain ⟨a,ns,st,n,m,rfl,_⟩:=h;rfl
 ·obtain ⟨a,ns,st,n,m,rfl,hA,hal,st0,st9,n1,n9,m0,k⟩:=h
  refine ⟨_,(pss_cons (ps_set (i:=4) sc.nd rfl (Or.inl rfl) (pe_lst pa_nil))
   (pss_cons (ps_for PassesOwn.never rfl (pi_range2 rfl B.range (pa_cons (pv 1) (pa_cons (pe_cal c_law_many (hr.mono (by decide)) rfl (pa_cons (pv 0) (pa_cons (pe_op op_add (pv 1) pe_int) pa_nil))) pa_nil))) (pg_name (i:=5) sc.nd rfl (Or.inl rfl))
   (pss_cons (ps_set (i:=6) sc.nd rfl (Or.inl rfl) (pe_cal c_law_saying (hr.mono (by decide)) rfl (pa_cons (pe_cal c_law_cell (hr.mono (by decide)) rfl (pa_cons (pv 0) (pa_cons (pv 5) pa_nil))) (pa_cons (pv 2) pa_nil))))
   (pss_cons (ps_if (PW.pt (pw_and (pt_cmpR op_eq (pe_op op_fdivW (pv 3) pe_int) pe_int (nomark _)) (pw_and1 (pt_cmpR op_eq (pe_ix (kix_tup (K:=K)) (pv 6) pe_int (fun _ _=>rfl)) pe_str (nomark _))))) (pss_one (ps_set (i:=6) sc.nd rfl (Or.inl rfl) (pe_tup (pa_cons pe_str (pa_cons (pe_ix (kix_tup (K:=K)) (pv 6) pe_int (fun _ _=>rfl)) (pa_cons (pe_ix (kix_tup (K:=K)) (pv 6) pe_int (fun _ _=>rfl)) pa_nil)))))) pss_nil)
   (pss_one (ps_if (PW.pt (pw_or (pt_cmpR op_eq (pe_op op_mod (pv 3) pe_int) pe_int (nomark _)) (pw_or1 (pt_cmpR op_eq (pe_callB (kc_len (K:=K)) (by rfl) B.len PyProof.Rows.Boot.«len» (pa_cons (pv 6) pa_nil)) pe_int (nomark _))))) (pss_one (ps_expr (pe_bm PySem.F.plainAttrs_list PySem.F.slot_list_append PySem.F.type_list_append mt_append (pv 4) (pa_cons (pv 6) pa_nil)))) pss_nil)))))
   (pss_one (ps_ret (pv 4))))),?_⟩
  refine seq_a ⟨Nat.zero_le _,fun p hp=>?_⟩
  have s1:=Same.new (o:=HO.lst ([]:List V)) hp
  refine ⟨_,rfl,_,rfl,_,rfl,_,_,rfl,rfl,a,ns,_,rfl,s1.seq hA,fun z hz0 hz1=>⟨_,_,rfl,⟨by omega,by omega,by omega,by omega⟩,?_⟩⟩
  refine for_range (lo:=(st:Int)) (n:=(z-st).toNat) (fun i σ H2=>∃ (o1 o2:Option V) (as:List Addr) (ss:List Say),σ=[some (.ref a),some (.int st),some (.int n),some (.int m),some (.ref p),o1,o2]/\Same H H2/\H2 p=some (.lst (as.map V.ref))/\SyAt H2 as ss/\(∀ s ∈ ss,sayOk n s)/\ss.length<=i)
   ⟨none,none,[],[],rfl,s1,upd_same,.nil,fun s hs=>by simp at hs,Nat.le_refl _⟩ ?_ ?_
  ·rintro i σ H2 hi ⟨o1,o2,as,ss,rfl,s2,hp2,hS,hok,hl⟩
   refine gN ?_
   refine seq_a ?_
   refine ⟨_,rfl,_,rfl,a,ns,_,rfl,s2.seq hA,by omega,by omega,by omega,fun cell=>⟨_,rfl,cell,n,rfl,n1,n9,fun t s H3 s3 ht hs=>?_⟩⟩
   have hp3:=s3 _ _ hp2
   have S3:=s2.trans s3
   have hS3:=hS.same s3
   try dsimp only
   refine nrm (σ':=[some (.ref a),some (.int st),some (.int n),some (.int m),some (.ref p),some (.int (st+i)),some (.ref t)]) rfl ?_
   refine seq_by2 (fun σ H4=>∃ (t:Addr) (s:Say),σ=[some (.ref a),some (.int st),some (.int n),some (.int m),some (.ref p),some (.int (st+i)),some (.ref t)]/\Same H3 H4/\H4 t=some (.tup (sayV s))/\sayOk n s) (fun N hN=>?_) ?_
   ·refine ⟨_,rfl,_,_,rfl,rfl,⟨by decide,by decide⟩,rfl,_,rfl,?_⟩
    refine ite2 (fun g=>?_) (fun g=>iteF (hN _ _ ⟨t,s,rfl,Same.refl _,ht,hs⟩))
    cases s with
    | cnt mm kk=>
     refine ⟨_,rfl,t,_,_,_,rfl,rfl,SqT.of ht,rfl,rfl,_,rfl,?_⟩
     rw[dStr,decide_eq_false (by cases mm <;> decide +kernel)]
     exact iteF (hN _ _ ⟨t,_,rfl,Same.refl _,ht,hs⟩)
    | pair u x y=>
     refine ⟨_,rfl,t,_,_,_,rfl,rfl,SqT.of ht,rfl,rfl,_,rfl,?_⟩
     cases u with
     | true=>
      rw[dStr,decide_eq_false (by decide +kernel)]
      exact iteF (hN _ _ ⟨t,_,rfl,Same.refl _,ht,hs⟩)
     | false=>
      rw[dStr,decide_eq_true (by decide +kernel)]
      refine iteT ⟨_,rfl,t,_,_,_,rfl,rfl,SqT.of ht,rfl,_,rfl,t,_,_,_,rfl,rfl,SqT.of ht,rfl,le_line (by simp),fun t2 ht2=>?_⟩
      exact hN _ _ ⟨t2,.pair true x y,rfl,Same.new ht2,upd_same,hs⟩
   rintro σ H4 ⟨t,s,rfl,s4,ht4,hs4⟩
   have hpH:H p=none:=hp
   have add : ∃ (o1 o2:Option V) (as':List Addr) (ss':List Say),[some (V.ref a),some (.int st),some (.int n),some (.int m),some (.ref p),some (.int (st+i)),some (.ref t)]=[some (.ref a),some (.int st),some (.int n),some (.int m),some (.ref p),o1,o2]/\Same H (upd H4 p (.lst (as.map V.ref++[V.ref t])))/\upd H4 p (.lst (as.map V.ref++[V.ref t])) p=some (.lst (as'.map V.ref))/\SyAt (upd H4 p (.lst (as.map V.ref++[V.ref t]))) as' ss'/\(∀ s ∈ ss',sayOk n s)/\ss'.length<=i+1:= by
    refine ⟨_,_,as++[t],ss++[s],rfl,(S3.trans s4).put hp,by rw[upd_same,ref_snoc],?_,fun q hq=>?_,by rw[List.length_append,List.length_singleton];omega⟩
    ·refine L2.Paired.mapP (Paired.snoc (hS3.same s4) ht4) fun c q e=>?_
     rw[upd_ne (ne_of e (s4 _ _ hp3) fun z=>nomatch z)];exact e
    ·rcases List.mem_append.mp hq with hq | hq
     ·exact hok q hq
     ·rw[List.mem_singleton.mp hq];exact hs4
   have keep : ∃ (o1 o2:Option V) (as':List Addr) (ss':List Say),[some (V.ref a),some (.int st),some (.int n),some (.int m),some (.ref p),some (.int (st+i)),some (.ref t)]=[some (.ref a),some (.int st),some (.int n),some (.int m),some (.ref p),o1,o2]/\Same H H4/\H4 p=some (.lst (as'.map V.ref))/\SyAt H4 as' ss'/\(∀ s ∈ ss',sayOk n s)/\ss'.length<=i+1:=⟨_,_,as,ss,rfl,S3.trans s4,s4 _ _ hp3,hS3.same s4,hok,by omega⟩
   have hal2:=hS.length
   refine ⟨_,rfl,_,_,rfl,rfl,p0,rfl,_,rfl,?_⟩
   refine ite2 (fun g=>iteT ?_) (fun g=>⟨_,rfl,t,_,rfl,.inr (SqT.of ht4),rfl,_,rfl,ite2 (fun g2=>?_) (fun g2=>keep)⟩)
   ·exact ⟨_,rfl,.inl ⟨rfl,_,SqL.of (s4 _ _ hp3)⟩,_,rfl,p,_,_,rfl,rfl,s4 _ _ hp3,lt_line (by rw[List.length_map];omega),add⟩
   ·exact ⟨_,rfl,.inl ⟨rfl,_,SqL.of (s4 _ _ hp3)⟩,_,rfl,p,_,_,rfl,rfl,s4 _ _ hp3,lt_line (by rw[List.length_map];omega),add⟩
  ·rintro σ H2 ⟨o1,o2,as,ss,rfl,s2,hp2,hS,hok,hl⟩
   exact ⟨_,rfl,k p as ss H2 hp s2 hp2 hS hok (by omega)⟩
theorem sc_law_size_some : FnScope (["_law_cell_here","_law_top","_law_row"]) (["_law_cell_here","_law_top"]) (defScope s_law_size_some):=by trivial
theorem ok_law_size_some {f : Addr} {fd : FuncData} (F : Fun K "_law_size_some" "_law_size_some" s_law_size_some f fd) (B : Bs mg) (T : Gs mg)  (c_law_draw : Cal P w K mg base 1 "_law_draw" [] (spDraw K)) : FnOk P w K mg base CX0 2 f fd ["_law_cell_here","_law_top"] spLSize:= by
 have sc:=sc_law_size_some
 refine F.ok sc (fun vs H Q E h=>?_) (fun cdv A outer s H vs Q E hr h=>?_)
 ·obtain ⟨c,t,rfl,_⟩:=h;rfl
 ·obtain ⟨c,t,rfl,t1,t9,k⟩:=h
  refine ⟨_,(pss_cons (ps_set (i:=2) sc.nd rfl (Or.inl rfl) (pe_cal c_law_draw (hr.mono (by decide)) rfl (pa_cons (pv 0) (pa_cons (pe_lst (pa_cons (pv 1) (pa_cons pe_int pa_nil))) pa_nil))))
   (pss_one (ps_ret (pe_op op_add (pe_op op_mod (pe_ix (kix_list (K:=K)) (pv 2) pe_int (fun _ _=>rfl)) (pe_ifExp (pt_cmpR op_eq (pe_ix (kix_list (K:=K)) (pv 2) pe_int (fun _ _=>rfl)) pe_int (nomark _)) (pv 1) (pe_callB kc_min2 (by rfl) B.min PyProof.Rows.Boot.«min» (pa_cons (pv 1) (pa_cons pe_int pa_nil))))) pe_int)))),?_⟩
  refine seq_a ?_
  refine ⟨_,rfl,_,rfl,le_line (by simp),fun q1 hq1=>⟨c,q1,[(t:Int),5],rfl,SqL.of upd_same,fun l hl=>?_,by simp,fun row rs H1 _ s1 hrow hD=>?_⟩⟩
  ·rcases List.mem_cons.mp hl with e | e
   ·rw[e];exact limOk_small (by omega) (by omega)
   ·rw[List.mem_singleton.mp e];exact limOk_small (by decide) (by decide)
  have S1:=(Same.new (o:=HO.lst [V.int (t:Int),V.int 5]) hq1).trans s1
  obtain ⟨r0,t0,rfl,r00,r09,hD⟩:=hD.uncons
  obtain ⟨r1,t1,rfl,r10,r19,hD⟩:=hD.uncons
  have hR:SqL K H1 row ((r0::r1::t1).map V.int):=SqL.of hrow
  have a0:atI ((r0::r1::t1).map V.int) 0=some (V.int r0):=atI_intZ (j:=0) rfl rfl
  have a1:atI ((r0::r1::t1).map V.int) 1=some (V.int r1):=atI_intZ (j:=1) rfl rfl
  have fin : ∀ z:Int,1<=z->z<=t->Q (.int (r0 % z+1)) H1:=fun z z1 z2=>by
   have:=modB r0 (show 0<z by omega)
   obtain ⟨m,hm⟩:=Int.eq_ofNat_of_zero_le this.1
   have:=k (m+1) H1 S1 (by omega) (by omega)
   rw[hm];exact this
  refine ⟨_,rfl,row,_,_,_,rfl,rfl,hR,a0,_,rfl,row,_,_,_,rfl,rfl,hR,a1,rfl,_,rfl,?_⟩
  refine ite2 (fun g=>⟨_,rfl,_,_,rfl,rfl,(by show (0:Int)<t;omega),_,_,rfl,rfl,fin t (by omega) (by omega)⟩) (fun g=>⟨_,rfl,_,_,rfl,_,_,rfl,rfl,?_,_,_,rfl,rfl,fin _ ?_ ?_⟩)
  ·dsimp only;split <;> omega
  ·split <;> omega
  ·split <;> omega
theorem sc_law_asked : FnScope (["_law_size","_law_sayings","_law_handed","_law_found"]) (["_law_size","_law_sayings"]) (defScope s_law_asked):=by trivial
theorem ok_law_asked {f : Addr} {fd : FuncData} (F : Fun K "_law_asked" "_law_asked" s_law_asked f fd) (B : Bs mg) (T : Gs mg)  (c_law_settled_ok : Cal P w K mg base 44 "_law_settled_ok" [] (spLSok K)) (csettled : Cal P w K mg base 59 "settled" [] (spST K PTopen_pair)) : FnOk P w K mg base CX0 60 f fd ["_law_size","_law_sayings"] (spLAsk K PTopen_pair):= by
 have sc:=sc_law_asked
 refine F.ok sc (fun vs H Q E h=>?_) (fun cdv A outer s H vs Q E hr h=>?_)
 ·obtain ⟨n,b,as,ss,rfl,_⟩:=h;rfl
 ·obtain ⟨n,b,as,ss,rfl,n1,n9,hb,hS,hs,hl,hTab,k⟩:=h
  refine ⟨_,(pss_cons (ps_set (i:=2) sc.nd rfl (Or.inl rfl) (pe_callTy (kc_list (K:=K)) (by rfl) B.list PyProof.Rows.Boot.«list» (pa_cons (pv 1) pa_nil)))
   (pss_cons (ps_set (i:=3) sc.nd rfl (Or.inl rfl) (pe_cal csettled (hr.mono (by decide)) rfl (pa_cons (pv 0) (pa_cons (pv 2) pa_nil))))
   (pss_one (ps_ret (pe_and (pe_cmpR (op_eqD (K:=K) (hu40 hr)) (pv 2) (pv 1) (nomark _)) (pe_one (pe_cal c_law_settled_ok (hr.mono (by decide)) rfl (pa_cons (pv 3) (pa_cons (pv 0) (pa_cons (pv 1) pa_nil)))))))))),?_⟩
  have hbq:SqL K H b (as.map V.ref):=SqL.of hb
  refine seq_a ⟨_,rfl,b,_,rfl,.inl hbq,fun h hh=>?_⟩
  have s1:=Same.new (o:=HO.lst (as.map V.ref)) hh
  have hh1:upd H h (HO.lst (as.map V.ref)) h=some (.lst (as.map V.ref)):=upd_same
  generalize upd H h (HO.lst (as.map V.ref))=H1 at s1 hh1
  have hT1:=hTab.same s1
  refine seq_a ?_
  have fin : ∀ (t : Addr) (H2 : Hp),Same (hole H1 PTopen_pair) H2 -> TabOk H2 PTopen_pair ⟨113,26,113,86⟩ lq34 -> ((∃ (a : Addr) (w : List Int),H2 t = some (.tup [.str "way",.ref a]) /\ H2 a = some (.tup (w.map V.int)) /\ isWay w = true /\ w.length = n /\ fitsG n (gistOf n ss) w) \/ ∃ (v : V) (p : Pap),H2 t = some (.tup [.str "none",v]) /\ PapAt H2 p v /\ PapOk n (gistOf n ss) p /\ papD p <= 36) ->
    tRet (tAndV (tOp (rEqD K V.bl) (tVar 2) (tVar 1)) (tCall (spLSok K) [] E0 (tCons (tVar 3) (tCons (tVar 0) (tCons (tVar 1) tNil))))) { nx:=fun x H'=>Q V.non H',rt:=Q } [some (.int n),some (.ref b),some (.ref h),some (.ref t)] H2:=fun t H2 s2 hT2 hf=>by
   have hb2:H2 b=some (.lst (as.map V.ref)):=s2 _ _ (hole_nt hT1 (s1 _ _ hb) fun _ z=>nomatch z)
   have hh2:H2 h=some (.lst (as.map V.ref)):=s2 _ _ (hole_nt hT1 hh1 fun _ z=>nomatch z)
   have hS2:SyAt H2 as ss:=(hS.same s1).beside hT1 s2
   refine ⟨_,rfl,_,rfl,_,_,dat_says (SqL.of hh2) hS2,dat_says (SqL.of hb2) hS2,?_,_,rfl,?_⟩
   ·rw[depD];have:=depDs_say ss;omega
   rw[eqD_refl]
   exact iteT ⟨_,rfl,_,rfl,_,rfl,t,n,b,as,ss,rfl,n1,n9,hb2,hS2,hs,hl,hf,fun H3 s3=>k H3 (fun c o e=>s3 _ _ (hole_two (same_hole s1) s2 c o e)) (hT2.same s3)⟩
  refine ⟨_,rfl,_,rfl,n,h,as,ss,rfl,n1,n9,SqL.of hh1,hS.same s1,hs,by omega,hT1,fun t a w H2 s2 hT2 ht ha hw hwl hf=>?_,fun t v p H2 s2 hT2 ht hP hok hpd=>?_⟩
  ·exact fin t H2 s2 hT2 (.inl ⟨a,w,ht,ha,hw,hwl,hf⟩)
  ·exact fin t H2 s2 hT2 (.inr ⟨v,p,ht,hP,hok,hpd⟩)
theorem sclaw : FnScope (["_law_script","_law_row","_law_size","_law_sayings","_law_counted","_law_many_said","_law_part","_law_handed"]) (["_law_script"]) (defScope slaw):=by trivial
theorem oklaw {f : Addr} {fd : FuncData} (F : Fun K "law" "law" slaw f fd) (B : Bs mg) (T : Gs mg)  (c_law_asked : Cal P w K mg base 60 "_law_asked" [] (spLAsk K PTopen_pair)) (c_law_cell : Cal P w K mg base 1 "_law_cell" [] (spCell K)) (c_law_draw : Cal P w K mg base 1 "_law_draw" [] (spDraw K)) (c_law_said_list : Cal P w K mg base 3 "_law_said_list" [] (spLSl K)) (c_law_settled_ok : Cal P w K mg base 44 "_law_settled_ok" [] (spLSok K)) (c_law_size_some : Cal P w K mg base 2 "_law_size_some" [] spLSize) (csettled : Cal P w K mg base 59 "settled" [] (spST K PTopen_pair)) : FnOk P w K mg base CX0 61 f fd ["_law_script"] (spLawT K [(CTopen_pair,PTopen_pair)]):= by
 have sc:=sclaw
 refine F.ok sc (fun vs H Q E h=>?_) (fun cdv A outer s H vs Q E hr h=>?_)
 ·obtain ⟨a,ns,rfl,_⟩:=h;rfl
 ·obtain ⟨a,ns,rfl,hA,hlen,hTabs,k⟩:=h
  refine ⟨_,(pss_cons (ps_set (i:=1) sc.nd rfl (Or.inl rfl) (pe_slice (ksl_list (K:=K)) (pe_cal c_law_draw (hr.mono (by decide)) rfl (pa_cons (pe_cal c_law_cell (hr.mono (by decide)) rfl (pa_cons (pv 0) (pa_cons pe_int pa_nil))) (pa_cons (pe_lst (pa_cons pe_int (pa_cons pe_int (pa_cons pe_int (pa_cons pe_int pa_nil))))) pa_nil))) (po_some pe_int) po_none))
   (pss_cons (ps_set (i:=2) sc.nd rfl (Or.inl rfl) (pe_cal c_law_size_some (hr.mono (by decide)) rfl (pa_cons (pe_cal c_law_cell (hr.mono (by decide)) rfl (pa_cons (pv 0) (pa_cons pe_int pa_nil))) (pa_cons pe_int pa_nil))))
   (pss_cons (ps_set (i:=3) sc.nd rfl (Or.inl rfl) (pe_cal c_law_said_list (hr.mono (by decide)) rfl (pa_cons (pv 0) (pa_cons pe_int (pa_cons (pv 2) (pa_cons (pe_ix (kix_list (K:=K)) (pv 1) pe_int (fun _ _=>rfl)) pa_nil))))))
   (pss_cons (ps_set (i:=4) sc.nd rfl (Or.inl rfl) (pe_lst (pa_cons (pe_tup (pa_cons pe_str (pa_cons (pe_op op_add pe_int (pe_op op_mod (pe_ix (kix_list (K:=K)) (pv 1) pe_int (fun _ _=>rfl)) (pv 2))) pa_nil))) (pa_cons (pe_tup (pa_cons pe_str (pa_cons (pe_op op_add pe_int (pe_op op_mod (pe_ix (kix_list (K:=K)) (pv 1) pe_int (fun _ _=>rfl)) (pv 2))) pa_nil))) pa_nil))))
   (pss_cons (ps_for PassesOwn.never rfl (pi_range1 rfl B.range (pa_cons (pe_op op_add (pe_callB (kc_len (K:=K)) (by rfl) B.len PyProof.Rows.Boot.«len» (pa_cons (pv 3) pa_nil)) pe_int) pa_nil)) (pg_name (i:=5) sc.nd rfl (Or.inl rfl))
   (pss_one (ps_if (PW.pt (pw_or (pt_cmpR op_lt (pv 5) pe_int (nomark _)) (pw_or (pt_cmpR op_eq (pe_op op_mod (pv 5) pe_int) pe_int (nomark _)) (pw_or1 (pt_cmpR op_eq (pv 5) (pe_callB (kc_len (K:=K)) (by rfl) B.len PyProof.Rows.Boot.«len» (pa_cons (pv 3) pa_nil)) (nomark _)))))) (pss_cons (ps_set (i:=6) sc.nd rfl (Or.inl rfl) (pe_slice (ksl_list (K:=K)) (pv 3) po_none (po_some (pv 5))))
   (pss_cons (ps_if (PW.pt (pw_or (pt_not (pt_val (pe_cal c_law_asked (hr.mono (by decide)) rfl (pa_cons (pv 2) (pa_cons (pv 6) pa_nil))))) (pw_or1 (pt_not (pt_val (pe_cal c_law_asked (hr.mono (by decide)) rfl (pa_cons (pv 2) (pa_cons (pe_op op_cat (pv 6) (pe_lst (pa_cons (pe_ix (kix_list (K:=K)) (pv 4) pe_int (fun _ _=>rfl)) pa_nil))) pa_nil)))))))) (pss_one (ps_ret pe_bl)) pss_nil)
   (pss_one (ps_if (pt_not (pt_val (pe_cal c_law_asked (hr.mono (by decide)) rfl (pa_cons (pv 2) (pa_cons (pe_op op_cat (pe_lst (pa_cons (pe_ix (kix_list (K:=K)) (pv 4) pe_int (fun _ _=>rfl)) pa_nil)) (pv 6)) pa_nil))))) (pss_one (ps_ret pe_bl)) pss_nil)))) pss_nil)))
   (pss_cons (ps_set (i:=7) sc.nd rfl (Or.inl rfl) (pe_callTy (kc_list (K:=K)) (by rfl) B.list PyProof.Rows.Boot.«list» (pa_cons (pv 3) pa_nil)))
   (pss_cons (ps_expr (pe_cal csettled (hr.mono (by decide)) rfl (pa_cons (pv 2) (pa_cons (pv 7) pa_nil))))
   (pss_cons (ps_expr (pe_bm PySem.F.plainAttrs_list PySem.F.slot_list_extend PySem.F.type_list_extend mt_extend (pv 7) (pa_cons (pv 4) pa_nil)))
   (pss_one (ps_ret (pe_cal c_law_settled_ok (hr.mono (by decide)) rfl (pa_cons (pe_cal csettled (hr.mono (by decide)) rfl (pa_cons (pv 2) (pa_cons (pv 7) pa_nil))) (pa_cons (pv 2) (pa_cons (pv 7) pa_nil)))))))))))))),?_⟩
  have hP0:H PTopen_pair=some (.tbl #[]):=hTabs (CTopen_pair,PTopen_pair) List.mem_cons_self
  have hTab0:TabOk H PTopen_pair ⟨113,26,113,86⟩ lq34:=⟨#[],hP0,trivial,.inl rfl⟩
  refine seq_a ?_
  refine ⟨_,rfl,a,ns,_,rfl,hA,by omega,by omega,by omega,fun c0=>⟨le_line (by simp),fun q1 hq1=>⟨c0,q1,[9,5,4,9],rfl,SqL.of upd_same,lim_ok (by decide +kernel),by decide,fun row rs H1 _ s1 hrow hD=>?_⟩⟩⟩
  have S1:=(Same.new (o:=HO.lst [V.int 9,V.int 5,V.int 4,V.int 9]) hq1).trans s1
  obtain ⟨r0,t0,rfl,r00,r09,hD⟩:=hD.uncons
  obtain ⟨r1,t1,rfl,r10,r19,hD⟩:=hD.uncons
  obtain ⟨r2,t2,rfl,r20,r29,hD⟩:=hD.uncons
  obtain ⟨r3,t3,rfl,r30,r39,hD⟩:=hD.uncons
  refine ⟨_,rfl,row,_,rfl,SqL.of hrow,fun rw2 hrw2=>?_⟩
  have ecut:cutV ((r0::r1::r2::r3::t3).map V.int) (some 1) none=(r1::r2::r3::t3).map V.int:=cut_drop_int _ 1
  rw[ecut]
  have n2:=Same.new (o:=HO.lst ((r1::r2::r3::t3).map V.int)) hrw2
  have hrow2:upd H1 rw2 (HO.lst ((r1::r2::r3::t3).map V.int)) rw2=some (.lst ((r1::r2::r3::t3).map V.int)):=upd_same
  have S2:=S1.trans n2
  generalize upd H1 rw2 (HO.lst ((r1::r2::r3::t3).map V.int))=H2 at n2 hrow2 S2
  generalize hrs:(r1::r2::r3::t3)=rs at hrow2
  have a1:atI (rs.map V.int) 1=some (V.int r2):=by rw[<- hrs];exact atI_int (by decide) rfl
  have a2:atI (rs.map V.int) 2=some (V.int r3):=by rw[<- hrs];exact atI_int (by decide) rfl
  try dsimp only
  refine seq_a ?_
  refine ⟨_,rfl,a,ns,_,rfl,S2.seq hA,by omega,by omega,by omega,fun c1=>⟨c1,9,rfl,by decide,by decide,fun n H3 s3 n1 n9=>?_⟩⟩
  have S3:=S2.trans s3
  have hrow3:=s3 _ _ hrow2
  refine seq_a ?_
  refine ⟨_,rfl,_,rfl,_,rfl,rw2,_,_,_,rfl,rfl,SqL.of hrow3,a1,a,ns,1,n,r2,rfl,S3.seq hA,hlen,by decide,by decide,n1,n9,r20,fun sl as ss H4 _ s4 hsl hS hok hll=>?_⟩
  have S4:=S3.trans s4
  have hrow4:=s4 _ _ hrow3
  have hal:=hS.length
  have hm:=modB r3 (show (0:Int)<n by omega)
  refine seq_a ?_
  refine ⟨_,rfl,rw2,_,_,_,rfl,rfl,SqL.of hrow4,a2,_,rfl,_,_,rfl,rfl,(by show (0:Int)<n;omega),_,_,rfl,rfl,le_line (by simp),fun u1 hu1=>?_⟩
  have n5:=Same.new (o:=HO.tup [V.str "least",V.int (1 + r3 % n)]) hu1
  have hu5 : upd H4 u1 (HO.tup [V.str "least",V.int (1 + r3 % n)]) u1 = some (.tup (sayV (.cnt false (1 + r3 % n)))):=upd_same
  have hne1 : upd H4 u1 (HO.tup [V.str "least",V.int (1 + r3 % n)]) = upd H4 u1 (HO.tup [V.str "least",V.int (1 + r3 % n)]):=rfl
  refine ⟨_,rfl,rw2,_,_,_,rfl,rfl,SqL.of (n5 _ _ hrow4),a2,_,rfl,_,_,rfl,rfl,(by show (0:Int)<n;omega),_,_,rfl,rfl,le_line (by simp),fun u2 hu2=>?_⟩
  generalize upd H4 u1 (HO.tup [V.str "least",V.int (1 + r3 % n)]) = H5 at n5 hu5 hu2
  have n6:=Same.new (o:=HO.tup [V.str "most",V.int (1 + r3 % n)]) hu2
  have hv6 : upd H5 u2 (HO.tup [V.str "most",V.int (1 + r3 % n)]) u2 = some (.tup (sayV (.cnt true (1 + r3 % n)))):=upd_same
  have hu6:=n6 _ _ hu5
  generalize upd H5 u2 (HO.tup [V.str "most",V.int (1 + r3 % n)]) = H6 at n6 hv6 hu6
  refine ⟨le_line (by simp),fun cl hcl=>?_⟩
  have n7:=Same.new (o:=HO.lst [V.ref u1,V.ref u2]) hcl
  have hcl7:upd H6 cl (HO.lst [V.ref u1,V.ref u2]) cl=some (.lst [V.ref u1,V.ref u2]):=upd_same
  have hu7:=n7 _ _ hu6
  have hv7:=n7 _ _ hv6
  have S7:=n5.trans (n6.trans n7)
  have hsl7:=S7 _ _ hsl
  have hS7:=hS.same S7
  have hT7:=hTab0.same (S4.trans S7)
  generalize upd H6 cl (HO.lst [V.ref u1,V.ref u2])=H7 at n7 hcl7 hu7 hv7 S7 hsl7 hS7 hT7
  have get : ∀ {H':Hp},Same (hole H7 PTopen_pair) H' -> ∀ {b:Addr} {o:HO},H7 b=some o->(∀ ps,o ≠ .tbl ps)->H' b=some o:=fun s _ _ e hn=>s _ _ (hole_nt hT7 e hn)
  have cok : ∀ m:Bool,sayOk n (.cnt m (1+r3 % n)):=fun m=>⟨by omega,by omega⟩
  try dsimp only
  refine seq_by2 (fun σ H8=>∃ o5 o6:Option V,σ=[some (.ref a),some (.ref rw2),some (.int n),some (.ref sl),some (.ref cl),o5,o6,none]/\Same (hole H7 PTopen_pair) H8/\TabOk H8 PTopen_pair ⟨113,26,113,86⟩ lq34) (fun Z hZ=>?_) ?_
  ·refine ⟨_,rfl,sl,_,rfl,.inl (SqL.of hsl7),_,_,rfl,rfl,?_⟩
   rw[List.length_map,hal]
   refine ⟨_,rfl,by omega,by omega,for_range (lo:=0) (n:=ss.length+1) (fun i σ H8=>∃ o5 o6:Option V,σ=[some (.ref a),some (.ref rw2),some (.int n),some (.ref sl),some (.ref cl),o5,o6,none]/\Same (hole H7 PTopen_pair) H8/\TabOk H8 PTopen_pair ⟨113,26,113,86⟩ lq34) ⟨none,none,rfl,hole_le _ _,hT7⟩ ?_ (fun σ H8 h=>hZ _ _ h)⟩
   rintro i σ H8 hi ⟨o5,o6,rfl,s8,hT8⟩
   refine gN ?_
   have hsl8:=get s8 hsl7 fun _ z=>nomatch z
   have hcl8:=get s8 hcl7 fun _ z=>nomatch z
   refine if_dec (b:=decide ((0+(i:Int))<13)||(decide ((0+(i:Int)) % 5=0)||decide ((0+(i:Int))=(ss.length:Int)))) (fun N hN=>?_) (fun g=>?_) (fun g=>⟨_,_,rfl,s8,hT8⟩)
   ·refine ⟨_,rfl,_,_,rfl,rfl,_,rfl,ite2 (fun g=>?_) (fun g=>?_)⟩
    ·rw[g,Bool.true_or] at hN;exact hN
    rw[Bool.eq_false_iff.mpr g,Bool.false_or] at hN
    refine ⟨_,rfl,_,_,rfl,rfl,(by show (0:Int)<5;decide),rfl,_,rfl,?_⟩
    dsimp only
    rw[dInt]
    refine ite2 (fun g=>?_) (fun g=>?_)
    ·rw[g,Bool.true_or] at hN;exact hN
    rw[Bool.eq_false_iff.mpr g,Bool.false_or] at hN
    refine ⟨_,rfl,_,rfl,sl,_,rfl,.inl (SqL.of hsl8),rfl,_,rfl,?_⟩
    rw[List.length_map,hal,dInt]
    exact hN
   refine seq_a ⟨_,rfl,_,rfl,_,rfl,sl,_,rfl,SqL.of hsl8,fun pt hpt=>?_⟩
   rw[show (0+(i:Int))=(i:Int) by omega,cut_take,<- List.map_take]
   have hA9:SyAt H8 (as.take i) (ss.take i):=paired_takeQ i (hS7.beside hT7 s8)
   have hok9 : ∀ s ∈ ss.take i,sayOk n s:=fun s hs=>hok s (List.mem_of_mem_take hs)
   have hl9:(ss.take i).length<=70:=by rw[List.length_take];omega
   have hal9:=hA9.length
   generalize as.take i=as9 at hA9 hal9
   generalize ss.take i=ss9 at hA9 hok9 hl9 hal9
   have m9:=Same.new (o:=HO.lst (as9.map V.ref)) hpt
   have hp9:upd H8 pt (HO.lst (as9.map V.ref)) pt=some (.lst (as9.map V.ref)):=upd_same
   have S9:Same (hole H7 PTopen_pair) (upd H8 pt (HO.lst (as9.map V.ref))):=s8.trans m9
   generalize upd H8 pt (HO.lst (as9.map V.ref))=H9 at m9 hp9 S9
   have hS9:=hA9.same m9
   have hT9:=hT8.same m9
   have more : ∀ {H':Hp},Same (hole H9 PTopen_pair) H'->Same (hole H7 PTopen_pair) H':=fun s=>hole_two S9 s
   try dsimp only
   refine seq_by2 (fun σ H10=>σ=[some (.ref a),some (.ref rw2),some (.int n),some (.ref sl),some (.ref cl),some (.int i),some (.ref pt),none]/\Same (hole H9 PTopen_pair) H10/\TabOk H10 PTopen_pair ⟨113,26,113,86⟩ lq34) (fun Z2 hZ2=>?_) ?_
   ·refine if_N (b:=false) (P:=fun H10=>Same (hole H9 PTopen_pair) H10/\TabOk H10 PTopen_pair ⟨113,26,113,86⟩ lq34) (fun N hN=>?_) (fun g=>by cases g) (fun _ H10 h=>hZ2 _ _ ⟨rfl,h⟩)
    refine ⟨_,rfl,_,rfl,n,pt,as9,ss9,rfl,n1,n9,hp9,hS9,hok9,by omega,hT9,fun H10 s10 hT10=>⟨_,rfl,iteF ?_⟩⟩
    have hp10:=s10 _ _ (hole_nt hT9 hp9 fun _ z=>nomatch z)
    have hS10:=hS9.beside hT9 s10
    have hcl10:=get (more s10) hcl7 fun _ z=>nomatch z
    have hv10:=get (more s10) hv7 fun _ z=>nomatch z
    refine ⟨_,rfl,_,rfl,_,rfl,cl,_,_,_,rfl,rfl,SqL.of hcl10,rfl,le_line (by simp),fun x hx=>?_⟩
    have n11:=Same.new (o:=HO.lst [V.ref u2]) hx
    refine ⟨pt,x,_,_,rfl,rfl,n11 _ _ hp10,upd_same,le_line (by simp;omega),fun y hy=>?_⟩
    have n12:=Same.new (o:=HO.lst (as9.map V.ref++[V.ref u2])) hy
    have S12:=n11.trans n12
    refine ⟨n,y,as9++[u2],ss9++[.cnt true (1+r3 % n)],rfl,n1,n9,by rw[upd_same,ref_snoc],Paired.snoc (hS10.same S12) (S12 _ _ hv10),?_,by simp;omega,hT10.same S12,fun H13 s13 hT13=>⟨_,rfl,hN _ ⟨hole_two (s10.trans S12) s13,hT13⟩⟩⟩
    intro q hq
    rcases List.mem_append.mp hq with hq | hq
    ·exact hok9 q hq
    ·rw[List.mem_singleton.mp hq];exact cok true
   rintro σ H10 ⟨rfl,s10,hT10⟩
   refine if_N (b:=false) (P:=fun H11=>Same (hole H7 PTopen_pair) H11/\TabOk H11 PTopen_pair ⟨113,26,113,86⟩ lq34) (fun N hN=>?_) (fun g=>by cases g) (fun _ H11 h=>⟨_,_,rfl,h⟩)
   have hp10:=s10 _ _ (hole_nt hT9 hp9 fun _ z=>nomatch z)
   have hS10:=hS9.beside hT9 s10
   have hcl10:=get (more s10) hcl7 fun _ z=>nomatch z
   have hu10:=get (more s10) hu7 fun _ z=>nomatch z
   refine ⟨_,rfl,_,rfl,cl,_,_,_,rfl,rfl,SqL.of hcl10,rfl,le_line (by simp),fun x hx=>⟨_,rfl,?_⟩⟩
   have n11:=Same.new (o:=HO.lst [V.ref u1]) hx
   refine ⟨x,pt,_,_,rfl,rfl,upd_same,n11 _ _ hp10,le_line (by simp;omega),fun y hy=>?_⟩
   have n12:=Same.new (o:=HO.lst ([V.ref u1]++as9.map V.ref)) hy
   have S12:=n11.trans n12
   refine ⟨n,y,u1::as9,.cnt false (1+r3 % n)::ss9,rfl,n1,n9,by rw[upd_same];rfl,.cons (S12 _ _ hu10) (hS10.same S12),?_,by simp;omega,hT10.same S12,fun H13 s13 hT13=>⟨_,rfl,hN _ ⟨hole_two ((more s10).trans S12) s13,hT13⟩⟩⟩
   intro q hq
   rcases List.mem_cons.mp hq with hq | hq
   ·rw[hq];exact cok false
   ·exact hok9 q hq
  rintro σ H8 ⟨o5,o6,rfl,s8,hT8⟩
  have hsl8:=get s8 hsl7 fun _ z=>nomatch z
  have hcl8:=get s8 hcl7 fun _ z=>nomatch z
  have hu8:=get s8 hu7 fun _ z=>nomatch z
  have hv8:=get s8 hv7 fun _ z=>nomatch z
  have hS8:=hS7.beside hT7 s8
  refine seq_a ⟨_,rfl,sl,_,rfl,.inl (SqL.of hsl8),fun hd hhd=>?_⟩
  have m9:=Same.new (o:=HO.lst (as.map V.ref)) hhd
  have hh9:upd H8 hd (HO.lst (as.map V.ref)) hd=some (.lst (as.map V.ref)):=upd_same
  generalize upd H8 hd (HO.lst (as.map V.ref))=H9 at m9 hh9
  have hT9:=hT8.same m9
  have hS9:=hS8.same m9
  have hcl9:=m9 _ _ hcl8
  have hu9:=m9 _ _ hu8
  have hv9:=m9 _ _ hv8
  try dsimp only
  refine seq_by2 (fun σ H10=>σ=[some (.ref a),some (.ref rw2),some (.int n),some (.ref sl),some (.ref cl),o5,o6,some (.ref hd)]/\Same (hole H9 PTopen_pair) H10/\TabOk H10 PTopen_pair ⟨113,26,113,86⟩ lq34) (fun Z2 hZ2=>?_) ?_
  ·exact ⟨_,rfl,_,rfl,n,hd,as,ss,rfl,n1,n9,SqL.of hh9,hS9,hok,by omega,hT9,fun _ _ _ H10 s10 hT10 _ _ _ _ _=>hZ2 _ _ ⟨rfl,s10,hT10⟩,fun _ _ _ H10 s10 hT10 _ _ _ _=>hZ2 _ _ ⟨rfl,s10,hT10⟩⟩
  rintro σ H10 ⟨rfl,s10,hT10⟩
  have hh10:=s10 _ _ (hole_nt hT9 hh9 fun _ z=>nomatch z)
  have hcl10:=s10 _ _ (hole_nt hT9 hcl9 fun _ z=>nomatch z)
  have hu10:=s10 _ _ (hole_nt hT9 hu9 fun _ z=>nomatch z)
  have hv10:=s10 _ _ (hole_nt hT9 hv9 fun _ z=>nomatch z)
  have hS10:=hS9.beside hT9 s10
  refine seq_by2 (fun σ H11=>σ=[some (.ref a),some (.ref rw2),some (.int n),some (.ref sl),some (.ref cl),o5,o6,some (.ref hd)]/\H11=upd H10 hd (.lst (as.map V.ref++[V.ref u1,V.ref u2]))) (fun Z2 hZ2=>?_) ?_
  ·exact ⟨_,rfl,.inl ⟨rfl,_,SqL.of hh10⟩,_,rfl,hd,cl,_,_,rfl,rfl,hh10,hcl10,le_line (by simp;omega),hZ2 _ _ ⟨rfl,rfl⟩⟩
  rintro σ H11 ⟨rfl,rfl⟩
  have keepT : ∀ {c:Addr} {xs:List V},H10 c=some (.tup xs)->upd H10 hd (.lst (as.map V.ref++[V.ref u1,V.ref u2])) c=some (.tup xs):=fun {c xs} e=>by
   rw[upd_ne (ne_of e hh10 fun z=>nomatch z)];exact e
  have hT11:TabOk (upd H10 hd (.lst (as.map V.ref++[V.ref u1,V.ref u2]))) PTopen_pair ⟨113,26,113,86⟩ lq34:=hT10.fr (A:=[hd]) ((FrL.of (Same.refl _)).put List.mem_cons_self) fun z hz=>⟨.lst (as.map V.ref),by rw[List.mem_singleton.mp hz];exact hh10,.inl ⟨_,rfl⟩⟩
  have hh11:upd H10 hd (.lst (as.map V.ref++[V.ref u1,V.ref u2])) hd=some (.lst ((as++[u1,u2]).map V.ref)):=by rw[upd_same,List.map_append];rfl
  have hS11:SyAt (upd H10 hd (.lst (as.map V.ref++[V.ref u1,V.ref u2]))) (as++[u1,u2]) (ss++[.cnt false (1+r3 % n),.cnt true (1+r3 % n)]):= by
   have:=Paired.snoc (Paired.snoc (L2.Paired.mapP hS10 fun _ _ z=>keepT z) (keepT hu10)) (keepT hv10)
   rw[List.append_assoc,List.append_assoc] at this
   exact this
  generalize upd H10 hd (.lst (as.map V.ref++[V.ref u1,V.ref u2]))=H11 at hT11 hh11 hS11
  have hok11 : ∀ s ∈ ss++[.cnt false (1+r3 % n),.cnt true (1+r3 % n)],sayOk n s:=fun q hq=>by
   rcases List.mem_append.mp hq with hq | hq
   ·exact hok q hq
   ·rcases List.mem_cons.mp hq with e | e
    ·rw[e];exact cok false
    ·rw[List.mem_singleton.mp e];exact cok true
  have hl11:(ss++[Say.cnt false (1+r3 % n),.cnt true (1+r3 % n)]).length<=72:=by rw[List.length_append];simp;omega
  generalize ss++[Say.cnt false (1+r3 % n),.cnt true (1+r3 % n)]=ss11 at hS11 hok11 hl11
  generalize as++[u1,u2]=as11 at hS11 hh11
  refine ⟨_,rfl,_,rfl,n,hd,as11,ss11,rfl,n1,n9,SqL.of hh11,hS11,hok11,by omega,hT11,fun t b w H12 s12 hT12 ht hb hw hwl hf=>?_,fun t v p H12 s12 hT12 ht hP hpk hpd=>?_⟩
  ·have hh12:=s12 _ _ (hole_nt hT11 hh11 fun _ z=>nomatch z)
   exact ⟨_,rfl,_,rfl,t,n,hd,as11,ss11,rfl,n1,n9,hh12,hS11.beside hT11 s12,hok11,by omega,.inl ⟨b,w,ht,hb,hw,hwl,hf⟩,fun H13 s13=>k _⟩
  ·have hh12:=s12 _ _ (hole_nt hT11 hh11 fun _ z=>nomatch z)
   exact ⟨_,rfl,_,rfl,t,n,hd,as11,ss11,rfl,n1,n9,hh12,hS11.beside hT11 s12,hok11,by omega,.inr ⟨v,p,ht,hP,hpk,hpd⟩,fun H13 s13=>k _⟩
end
theorem all_mk {l : PySem.W.OpenLaw} {w : World} {K : PySem.W.Frag} {h : Heap} {mg : Str -> Option Value} {fa : Addr} (X : K.In h) (G : h.Ns mainGlobals mg) (hfa : mg "law" = some (.ref fa))
  {f1:Addr} {od1 an1:Option Addr} {sl1:Array (Option Value)} {oc1 kV1 dc1 pm1 cd1 ct1:Value} {f2:Addr} {od2 an2:Option Addr} {sl2:Array (Option Value)} {oc2 kV2 dc2 pm2 cd2 ct2:Value} {f3:Addr} {od3 an3:Option Addr} {sl3:Array (Option Value)} {oc3 kV3 dc3 pm3 cd3 ct3:Value} {f4:Addr} {od4 an4:Option Addr} {sl4:Array (Option Value)} {oc4 kV4 dc4 pm4 cd4 ct4:Value} {f5:Addr} {od5 an5:Option Addr} {sl5:Array (Option Value)} {oc5 kV5 dc5 pm5 cd5 ct5:Value} {f6:Addr} {od6 an6:Option Addr} {sl6:Array (Option Value)} {oc6 kV6 dc6 pm6 cd6 ct6:Value} {f7:Addr} {od7 an7:Option Addr} {sl7:Array (Option Value)} {oc7 kV7 dc7 pm7 cd7 ct7:Value} {f8:Addr} {od8 an8:Option Addr} {sl8:Array (Option Value)} {oc8 kV8 dc8 pm8 cd8 ct8:Value} {f9:Addr} {od9 an9:Option Addr} {sl9:Array (Option Value)} {oc9 kV9 dc9 pm9 cd9 ct9:Value} {f10:Addr} {od10 an10:Option Addr} {sl10:Array (Option Value)} {oc10 kV10 dc10 pm10 cd10 ct10:Value} {f11:Addr} {od11 an11:Option Addr} {sl11:Array (Option Value)} {oc11 kV11 dc11 pm11 cd11 ct11:Value} {f12:Addr} {od12 an12:Option Addr} {sl12:Array (Option Value)} {oc12 kV12 dc12 pm12 cd12 ct12:Value} {f13:Addr} {od13 an13:Option Addr} {sl13:Array (Option Value)} {oc13 kV13 dc13 pm13 cd13 ct13:Value} {f14:Addr} {od14 an14:Option Addr} {sl14:Array (Option Value)} {oc14 kV14 dc14 pm14 cd14 ct14:Value} {f15:Addr} {od15 an15:Option Addr} {sl15:Array (Option Value)} {oc15 kV15 dc15 pm15 cd15 ct15:Value} {f16:Addr} {od16 an16:Option Addr} {sl16:Array (Option Value)} {oc16 kV16 dc16 pm16 cd16 ct16:Value} {f17:Addr} {od17 an17:Option Addr} {sl17:Array (Option Value)} {oc17 kV17 dc17 pm17 cd17 ct17:Value} {f18:Addr} {od18 an18:Option Addr} {sl18:Array (Option Value)} {oc18 kV18 dc18 pm18 cd18 ct18:Value} {f19:Addr} {od19 an19:Option Addr} {sl19:Array (Option Value)} {oc19 kV19 dc19 pm19 ct19:Value} {CTopen_pair PTopen_pair:Addr} {f20:Addr} {od20 an20:Option Addr} {sl20:Array (Option Value)} {oc20 kV20 dc20 pm20 cd20 ct20:Value} {f21:Addr} {od21 an21:Option Addr} {sl21:Array (Option Value)} {oc21 kV21 dc21 pm21 cd21 ct21:Value} {f22:Addr} {od22 an22:Option Addr} {sl22:Array (Option Value)} {oc22 kV22 dc22 pm22 cd22 ct22:Value} {f23:Addr} {od23 an23:Option Addr} {sl23:Array (Option Value)} {oc23 kV23 dc23 pm23 cd23 ct23:Value} {f24:Addr} {od24 an24:Option Addr} {sl24:Array (Option Value)} {oc24 kV24 dc24 pm24 cd24 ct24:Value} {f25:Addr} {od25 an25:Option Addr} {sl25:Array (Option Value)} {oc25 kV25 dc25 pm25 cd25 ct25:Value} {f26:Addr} {od26 an26:Option Addr} {sl26:Array (Option Value)} {oc26 kV26 dc26 pm26 cd26 ct26:Value} {f27:Addr} {od27 an27:Option Addr} {sl27:Array (Option Value)} {oc27 kV27 dc27 pm27 cd27 ct27:Value} {f28:Addr} {od28 an28:Option Addr} {sl28:Array (Option Value)} {oc28 kV28 dc28 pm28 cd28 ct28:Value} {f29:Addr} {od29 an29:Option Addr} {sl29:Array (Option Value)} {oc29 kV29 dc29 pm29 cd29 ct29:Value} {f30:Addr} {od30 an30:Option Addr} {sl30:Array (Option Value)} {oc30 kV30 dc30 pm30 cd30 ct30:Value} {f31:Addr} {od31 an31:Option Addr} {sl31:Array (Option Value)} {oc31 kV31 dc31 pm31 cd31 ct31:Value} {f32:Addr} {od32 an32:Option Addr} {sl32:Array (Option Value)} {oc32 kV32 dc32 pm32 cd32 ct32:Value} {f33:Addr} {od33 an33:Option Addr} {sl33:Array (Option Value)} {oc33 kV33 dc33 pm33 cd33 ct33:Value} {f34:Addr} {od34 an34:Option Addr} {sl34:Array (Option Value)} {oc34 kV34 dc34 pm34 cd34 ct34:Value} {f35:Addr} {od35 an35:Option Addr} {sl35:Array (Option Value)} {oc35 kV35 dc35 pm35 cd35 ct35:Value} {f36:Addr} {od36 an36:Option Addr} {sl36:Array (Option Value)} {oc36 kV36 dc36 pm36 cd36 ct36:Value} {f37:Addr} {od37 an37:Option Addr} {sl37:Array (Option Value)} {oc37 kV37 dc37 pm37 cd37 ct37:Value} {f38:Addr} {od38 an38:Option Addr} {sl38:Array (Option Value)} {oc38 kV38 dc38 pm38 cd38 ct38:Value} {f39:Addr} {od39 an39:Option Addr} {sl39:Array (Option Value)} {oc39 kV39 dc39 pm39 cd39 ct39:Value} {f40:Addr} {od40 an40:Option Addr} {sl40:Array (Option Value)} {oc40 kV40 dc40 pm40 cd40 ct40:Value} {f41:Addr} {od41 an41:Option Addr} {sl41:Array (Option Value)} {oc41 kV41 dc41 pm41 cd41 ct41:Value} {f42:Addr} {od42 an42:Option Addr} {sl42:Array (Option Value)} {oc42 kV42 dc42 pm42 cd42 ct42:Value} {tg0:Tok} {CGist:Addr} {DTHINGS:Addr} {ts:List Addr}
  (a1 : PySem.W.nsIn K mainGlobals "_law_draw" = some (some (.ref f1)))
  (l1 : K.lookup f1 = some ⟨oc1,od1,.func (PySem.W.fnOf "_law_draw" "_law_draw" (defArgs s_law_draw) (defBody s_law_draw) (defScope s_law_draw) .none kV1 dc1 pm1 an1 cd1 ct1),sl1⟩)
  (c1 : PySem.W.codeIn K cd1 "_law_draw" = true) (k1 : PySem.W.keepIn K (.ref f1) = true)
  (a2 : PySem.W.nsIn K mainGlobals "_law_cell" = some (some (.ref f2)))
  (l2 : K.lookup f2 = some ⟨oc2,od2,.func (PySem.W.fnOf "_law_cell" "_law_cell" (defArgs s_law_cell) (defBody s_law_cell) (defScope s_law_cell) .none kV2 dc2 pm2 an2 cd2 ct2),sl2⟩)
  (c2 : PySem.W.codeIn K cd2 "_law_cell" = true) (k2 : PySem.W.keepIn K (.ref f2) = true)
  (a3 : PySem.W.nsIn K mainGlobals "_law_many" = some (some (.ref f3)))
  (l3 : K.lookup f3 = some ⟨oc3,od3,.func (PySem.W.fnOf "_law_many" "_law_many" (defArgs s_law_many) (defBody s_law_many) (defScope s_law_many) .none kV3 dc3 pm3 an3 cd3 ct3),sl3⟩)
  (c3 : PySem.W.codeIn K cd3 "_law_many" = true) (k3 : PySem.W.keepIn K (.ref f3) = true)
  (a4 : PySem.W.nsIn K mainGlobals "check_many" = some (some (.ref f4)))
  (l4 : K.lookup f4 = some ⟨oc4,od4,.func (PySem.W.fnOf "check_many" "check_many" (defArgs scheck_many) (defBody scheck_many) (defScope scheck_many) .none kV4 dc4 pm4 an4 cd4 ct4),sl4⟩)
  (c4 : PySem.W.codeIn K cd4 "check_many" = true) (k4 : PySem.W.keepIn K (.ref f4) = true)
  (a5 : PySem.W.nsIn K mainGlobals "check_censer" = some (some (.ref f5)))
  (l5 : K.lookup f5 = some ⟨oc5,od5,.func (PySem.W.fnOf "check_censer" "check_censer" (defArgs scheck_censer) (defBody scheck_censer) (defScope scheck_censer) .none kV5 dc5 pm5 an5 cd5 ct5),sl5⟩)
  (c5 : PySem.W.codeIn K cd5 "check_censer" = true) (k5 : PySem.W.keepIn K (.ref f5) = true)
  (a6 : PySem.W.nsIn K mainGlobals "way_of" = some (some (.ref f6)))
  (l6 : K.lookup f6 = some ⟨oc6,od6,.func (PySem.W.fnOf "way_of" "way_of" (defArgs sway_of) (defBody sway_of) (defScope sway_of) .none kV6 dc6 pm6 an6 cd6 ct6),sl6⟩)
  (c6 : PySem.W.codeIn K cd6 "way_of" = true) (k6 : PySem.W.keepIn K (.ref f6) = true)
  (a7 : PySem.W.nsIn K mainGlobals "relabelled" = some (some (.ref f7)))
  (l7 : K.lookup f7 = some ⟨oc7,od7,.func (PySem.W.fnOf "relabelled" "relabelled" (defArgs srelabelled) (defBody srelabelled) (defScope srelabelled) .none kV7 dc7 pm7 an7 cd7 ct7),sl7⟩)
  (c7 : PySem.W.codeIn K cd7 "relabelled" = true) (k7 : PySem.W.keepIn K (.ref f7) = true)
  (a8 : PySem.W.nsIn K mainGlobals "check_saying" = some (some (.ref f8)))
  (l8 : K.lookup f8 = some ⟨oc8,od8,.func (PySem.W.fnOf "check_saying" "check_saying" (defArgs scheck_saying) (defBody scheck_saying) (defScope scheck_saying) .none kV8 dc8 pm8 an8 cd8 ct8),sl8⟩)
  (c8 : PySem.W.codeIn K cd8 "check_saying" = true) (k8 : PySem.W.keepIn K (.ref f8) = true)
  (a9 : PySem.W.findIn K (.ref CGist) "__init__" = some (some (.ref f9))) (i9 : PySem.W.isFn K (.ref f9) = true)
  (l9 : K.lookup f9 = some ⟨oc9,od9,.func (PySem.W.fnOf "__init__" "Gist.__init__" (defArgs sGist___init__) (defBody sGist___init__) (defScope sGist___init__) .none kV9 dc9 pm9 an9 cd9 ct9),sl9⟩)
  (c9 : PySem.W.codeIn K cd9 "Gist.__init__" = true) (k9 : PySem.W.keepIn K (.ref f9) = true)
  (a10 : PySem.W.findIn K (.ref CGist) "take" = some (some (.ref f10))) (i10 : PySem.W.isFn K (.ref f10) = true)
  (l10 : K.lookup f10 = some ⟨oc10,od10,.func (PySem.W.fnOf "take" "Gist.take" (defArgs sGist_take) (defBody sGist_take) (defScope sGist_take) .none kV10 dc10 pm10 an10 cd10 ct10),sl10⟩)
  (c10 : PySem.W.codeIn K cd10 "Gist.take" = true) (k10 : PySem.W.keepIn K (.ref f10) = true)
  (a11 : PySem.W.findIn K (.ref CGist) "longer" = some (some (.ref f11))) (i11 : PySem.W.isFn K (.ref f11) = true)
  (l11 : K.lookup f11 = some ⟨oc11,od11,.func (PySem.W.fnOf "longer" "Gist.longer" (defArgs sGist_longer) (defBody sGist_longer) (defScope sGist_longer) .none kV11 dc11 pm11 an11 cd11 ct11),sl11⟩)
  (c11 : PySem.W.codeIn K cd11 "Gist.longer" = true) (k11 : PySem.W.keepIn K (.ref f11) = true)
  (a12 : PySem.W.findIn K (.ref CGist) "homes" = some (some (.ref f12))) (i12 : PySem.W.isFn K (.ref f12) = true)
  (l12 : K.lookup f12 = some ⟨oc12,od12,.func (PySem.W.fnOf "homes" "Gist.homes" (defArgs sGist_homes) (defBody sGist_homes) (defScope sGist_homes) .none kV12 dc12 pm12 an12 cd12 ct12),sl12⟩)
  (c12 : PySem.W.codeIn K cd12 "Gist.homes" = true) (k12 : PySem.W.keepIn K (.ref f12) = true)
  (a13 : PySem.W.findIn K (.ref CGist) "walls" = some (some (.ref f13))) (i13 : PySem.W.isFn K (.ref f13) = true)
  (l13 : K.lookup f13 = some ⟨oc13,od13,.func (PySem.W.fnOf "walls" "Gist.walls" (defArgs sGist_walls) (defBody sGist_walls) (defScope sGist_walls) .none kV13 dc13 pm13 an13 cd13 ct13),sl13⟩)
  (c13 : PySem.W.codeIn K cd13 "Gist.walls" = true) (k13 : PySem.W.keepIn K (.ref f13) = true)
  (a14 : PySem.W.nsIn K mainGlobals "gist_of" = some (some (.ref f14)))
  (l14 : K.lookup f14 = some ⟨oc14,od14,.func (PySem.W.fnOf "gist_of" "gist_of" (defArgs sgist_of) (defBody sgist_of) (defScope sgist_of) .none kV14 dc14 pm14 an14 cd14 ct14),sl14⟩)
  (c14 : PySem.W.codeIn K cd14 "gist_of" = true) (k14 : PySem.W.keepIn K (.ref f14) = true)
  (a15 : PySem.W.nsIn K mainGlobals "checked_gist" = some (some (.ref f15)))
  (l15 : K.lookup f15 = some ⟨oc15,od15,.func (PySem.W.fnOf "checked_gist" "checked_gist" (defArgs schecked_gist) (defBody schecked_gist) (defScope schecked_gist) .none kV15 dc15 pm15 an15 cd15 ct15),sl15⟩)
  (c15 : PySem.W.codeIn K cd15 "checked_gist" = true) (k15 : PySem.W.keepIn K (.ref f15) = true)
  (a16 : PySem.W.nsIn K mainGlobals "crowd" = some (some (.ref f16)))
  (l16 : K.lookup f16 = some ⟨oc16,od16,.func (PySem.W.fnOf "crowd" "crowd" (defArgs scrowd) (defBody scrowd) (defScope scrowd) .none kV16 dc16 pm16 an16 cd16 ct16),sl16⟩)
  (c16 : PySem.W.codeIn K cd16 "crowd" = true) (k16 : PySem.W.keepIn K (.ref f16) = true)
  (a17 : PySem.W.nsIn K mainGlobals "plain_paper" = some (some (.ref f17)))
  (l17 : K.lookup f17 = some ⟨oc17,od17,.func (PySem.W.fnOf "plain_paper" "plain_paper" (defArgs splain_paper) (defBody splain_paper) (defScope splain_paper) .none kV17 dc17 pm17 an17 cd17 ct17),sl17⟩)
  (c17 : PySem.W.codeIn K cd17 "plain_paper" = true) (k17 : PySem.W.keepIn K (.ref f17) = true)
  (a18 : PySem.W.nsIn K mainGlobals "apart_from_both" = some (some (.ref f18)))
  (l18 : K.lookup f18 = some ⟨oc18,od18,.func (PySem.W.fnOf "apart_from_both" "apart_from_both" (defArgs sapart_from_both) (defBody sapart_from_both) (defScope sapart_from_both) .none kV18 dc18 pm18 an18 cd18 ct18),sl18⟩)
  (c18 : PySem.W.codeIn K cd18 "apart_from_both" = true) (k18 : PySem.W.keepIn K (.ref f18) = true)
  (a19 : PySem.W.nsIn K mainGlobals "open_pair" = some (some (.ref f19)))
  (l19 : K.lookup f19 = some ⟨oc19,od19,.func (PySem.W.fnOf "open_pair" "open_pair" (defArgs sopen_pair) (defBody sopen_pair) (defScope sopen_pair) .none kV19 dc19 pm19 an19 (.ref CTopen_pair) ct19),sl19⟩)
  (c19 : PySem.W.codeIn K (.ref CTopen_pair) "open_pair" = true) (k19 : PySem.W.keepIn K (.ref f19) = true)
  (u19:PTopen_pair ∈ ts) (t19:PySem.W.codeHdIn K CTopen_pair PTopen_pair=true) (v19:K.lookup PTopen_pair=none)
  (a20 : PySem.W.nsIn K mainGlobals "settle" = some (some (.ref f20)))
  (l20 : K.lookup f20 = some ⟨oc20,od20,.func (PySem.W.fnOf "settle" "settle" (defArgs ssettle) (defBody ssettle) (defScope ssettle) .none kV20 dc20 pm20 an20 cd20 ct20),sl20⟩)
  (c20 : PySem.W.codeIn K cd20 "settle" = true) (k20 : PySem.W.keepIn K (.ref f20) = true)
  (a21 : PySem.W.nsIn K mainGlobals "settled" = some (some (.ref f21)))
  (l21 : K.lookup f21 = some ⟨oc21,od21,.func (PySem.W.fnOf "settled" "settled" (defArgs ssettled) (defBody ssettled) (defScope ssettled) .none kV21 dc21 pm21 an21 cd21 ct21),sl21⟩)
  (c21 : PySem.W.codeIn K cd21 "settled" = true) (k21 : PySem.W.keepIn K (.ref f21) = true)
  (a22 : PySem.W.nsIn K mainGlobals "_law_num" = some (some (.ref f22)))
  (l22 : K.lookup f22 = some ⟨oc22,od22,.func (PySem.W.fnOf "_law_num" "_law_num" (defArgs s_law_num) (defBody s_law_num) (defScope s_law_num) .none kV22 dc22 pm22 an22 cd22 ct22),sl22⟩)
  (c22 : PySem.W.codeIn K cd22 "_law_num" = true) (k22 : PySem.W.keepIn K (.ref f22) = true)
  (a23 : PySem.W.nsIn K mainGlobals "_law_row_ok" = some (some (.ref f23)))
  (l23 : K.lookup f23 = some ⟨oc23,od23,.func (PySem.W.fnOf "_law_row_ok" "_law_row_ok" (defArgs s_law_row_ok) (defBody s_law_row_ok) (defScope s_law_row_ok) .none kV23 dc23 pm23 an23 cd23 ct23),sl23⟩)
  (c23 : PySem.W.codeIn K cd23 "_law_row_ok" = true) (k23 : PySem.W.keepIn K (.ref f23) = true)
  (a24 : PySem.W.nsIn K mainGlobals "_law_way_ok" = some (some (.ref f24)))
  (l24 : K.lookup f24 = some ⟨oc24,od24,.func (PySem.W.fnOf "_law_way_ok" "_law_way_ok" (defArgs s_law_way_ok) (defBody s_law_way_ok) (defScope s_law_way_ok) .none kV24 dc24 pm24 an24 cd24 ct24),sl24⟩)
  (c24 : PySem.W.codeIn K cd24 "_law_way_ok" = true) (k24 : PySem.W.keepIn K (.ref f24) = true)
  (a25 : PySem.W.nsIn K mainGlobals "_law_pairs" = some (some (.ref f25)))
  (l25 : K.lookup f25 = some ⟨oc25,od25,.func (PySem.W.fnOf "_law_pairs" "_law_pairs" (defArgs s_law_pairs) (defBody s_law_pairs) (defScope s_law_pairs) .none kV25 dc25 pm25 an25 cd25 ct25),sl25⟩)
  (c25 : PySem.W.codeIn K cd25 "_law_pairs" = true) (k25 : PySem.W.keepIn K (.ref f25) = true)
  (a26 : PySem.W.nsIn K mainGlobals "_law_number_row" = some (some (.ref f26)))
  (l26 : K.lookup f26 = some ⟨oc26,od26,.func (PySem.W.fnOf "_law_number_row" "_law_number_row" (defArgs s_law_number_row) (defBody s_law_number_row) (defScope s_law_number_row) .none kV26 dc26 pm26 an26 cd26 ct26),sl26⟩)
  (c26 : PySem.W.codeIn K cd26 "_law_number_row" = true) (k26 : PySem.W.keepIn K (.ref f26) = true)
  (a27 : PySem.W.nsIn K mainGlobals "_law_linked" = some (some (.ref f27)))
  (l27 : K.lookup f27 = some ⟨oc27,od27,.func (PySem.W.fnOf "_law_linked" "_law_linked" (defArgs s_law_linked) (defBody s_law_linked) (defScope s_law_linked) .none kV27 dc27 pm27 an27 cd27 ct27),sl27⟩)
  (c27 : PySem.W.codeIn K cd27 "_law_linked" = true) (k27 : PySem.W.keepIn K (.ref f27) = true)
  (a28 : PySem.W.nsIn K mainGlobals "_law_saying" = some (some (.ref f28)))
  (l28 : K.lookup f28 = some ⟨oc28,od28,.func (PySem.W.fnOf "_law_saying" "_law_saying" (defArgs s_law_saying) (defBody s_law_saying) (defScope s_law_saying) .none kV28 dc28 pm28 an28 cd28 ct28),sl28⟩)
  (c28 : PySem.W.codeIn K cd28 "_law_saying" = true) (k28 : PySem.W.keepIn K (.ref f28) = true)
  (a29 : PySem.W.nsIn K mainGlobals "_law_fits" = some (some (.ref f29)))
  (l29 : K.lookup f29 = some ⟨oc29,od29,.func (PySem.W.fnOf "_law_fits" "_law_fits" (defArgs s_law_fits) (defBody s_law_fits) (defScope s_law_fits) .none kV29 dc29 pm29 an29 cd29 ct29),sl29⟩)
  (c29 : PySem.W.codeIn K cd29 "_law_fits" = true) (k29 : PySem.W.keepIn K (.ref f29) = true)
  (a30 : PySem.W.nsIn K mainGlobals "_law_fits_all" = some (some (.ref f30)))
  (l30 : K.lookup f30 = some ⟨oc30,od30,.func (PySem.W.fnOf "_law_fits_all" "_law_fits_all" (defArgs s_law_fits_all) (defBody s_law_fits_all) (defScope s_law_fits_all) .none kV30 dc30 pm30 an30 cd30 ct30),sl30⟩)
  (c30 : PySem.W.codeIn K cd30 "_law_fits_all" = true) (k30 : PySem.W.keepIn K (.ref f30) = true)
  (a31 : PySem.W.nsIn K mainGlobals "_law_links" = some (some (.ref f31)))
  (l31 : K.lookup f31 = some ⟨oc31,od31,.func (PySem.W.fnOf "_law_links" "_law_links" (defArgs s_law_links) (defBody s_law_links) (defScope s_law_links) .none kV31 dc31 pm31 an31 cd31 ct31),sl31⟩)
  (c31 : PySem.W.codeIn K cd31 "_law_links" = true) (k31 : PySem.W.keepIn K (.ref f31) = true)
  (a32 : PySem.W.nsIn K mainGlobals "_law_least" = some (some (.ref f32)))
  (l32 : K.lookup f32 = some ⟨oc32,od32,.func (PySem.W.fnOf "_law_least" "_law_least" (defArgs s_law_least) (defBody s_law_least) (defScope s_law_least) .none kV32 dc32 pm32 an32 cd32 ct32),sl32⟩)
  (c32 : PySem.W.codeIn K cd32 "_law_least" = true) (k32 : PySem.W.keepIn K (.ref f32) = true)
  (a33 : PySem.W.nsIn K mainGlobals "_law_most" = some (some (.ref f33)))
  (l33 : K.lookup f33 = some ⟨oc33,od33,.func (PySem.W.fnOf "_law_most" "_law_most" (defArgs s_law_most) (defBody s_law_most) (defScope s_law_most) .none kV33 dc33 pm33 an33 cd33 ct33),sl33⟩)
  (c33 : PySem.W.codeIn K cd33 "_law_most" = true) (k33 : PySem.W.keepIn K (.ref f33) = true)
  (a34 : PySem.W.nsIn K mainGlobals "_law_apart" = some (some (.ref f34)))
  (l34 : K.lookup f34 = some ⟨oc34,od34,.func (PySem.W.fnOf "_law_apart" "_law_apart" (defArgs s_law_apart) (defBody s_law_apart) (defScope s_law_apart) .none kV34 dc34 pm34 an34 cd34 ct34),sl34⟩)
  (c34 : PySem.W.codeIn K cd34 "_law_apart" = true) (k34 : PySem.W.keepIn K (.ref f34) = true)
  (a35 : PySem.W.nsIn K mainGlobals "_law_two" = some (some (.ref f35)))
  (l35 : K.lookup f35 = some ⟨oc35,od35,.func (PySem.W.fnOf "_law_two" "_law_two" (defArgs s_law_two) (defBody s_law_two) (defScope s_law_two) .none kV35 dc35 pm35 an35 cd35 ct35),sl35⟩)
  (c35 : PySem.W.codeIn K cd35 "_law_two" = true) (k35 : PySem.W.keepIn K (.ref f35) = true)
  (a36 : PySem.W.nsIn K mainGlobals "_law_crowd_ok" = some (some (.ref f36)))
  (l36 : K.lookup f36 = some ⟨oc36,od36,.func (PySem.W.fnOf "_law_crowd_ok" "_law_crowd_ok" (defArgs s_law_crowd_ok) (defBody s_law_crowd_ok) (defScope s_law_crowd_ok) .none kV36 dc36 pm36 an36 cd36 ct36),sl36⟩)
  (c36 : PySem.W.codeIn K cd36 "_law_crowd_ok" = true) (k36 : PySem.W.keepIn K (.ref f36) = true)
  (a37 : PySem.W.nsIn K mainGlobals "_law_paper_ok" = some (some (.ref f37)))
  (l37 : K.lookup f37 = some ⟨oc37,od37,.func (PySem.W.fnOf "_law_paper_ok" "_law_paper_ok" (defArgs s_law_paper_ok) (defBody s_law_paper_ok) (defScope s_law_paper_ok) .none kV37 dc37 pm37 an37 cd37 ct37),sl37⟩)
  (c37 : PySem.W.codeIn K cd37 "_law_paper_ok" = true) (k37 : PySem.W.keepIn K (.ref f37) = true)
  (a38 : PySem.W.nsIn K mainGlobals "_law_settled_ok" = some (some (.ref f38)))
  (l38 : K.lookup f38 = some ⟨oc38,od38,.func (PySem.W.fnOf "_law_settled_ok" "_law_settled_ok" (defArgs s_law_settled_ok) (defBody s_law_settled_ok) (defScope s_law_settled_ok) .none kV38 dc38 pm38 an38 cd38 ct38),sl38⟩)
  (c38 : PySem.W.codeIn K cd38 "_law_settled_ok" = true) (k38 : PySem.W.keepIn K (.ref f38) = true)
  (a39 : PySem.W.nsIn K mainGlobals "_law_said_list" = some (some (.ref f39)))
  (l39 : K.lookup f39 = some ⟨oc39,od39,.func (PySem.W.fnOf "_law_said_list" "_law_said_list" (defArgs s_law_said_list) (defBody s_law_said_list) (defScope s_law_said_list) .none kV39 dc39 pm39 an39 cd39 ct39),sl39⟩)
  (c39 : PySem.W.codeIn K cd39 "_law_said_list" = true) (k39 : PySem.W.keepIn K (.ref f39) = true)
  (a40 : PySem.W.nsIn K mainGlobals "_law_size_some" = some (some (.ref f40)))
  (l40 : K.lookup f40 = some ⟨oc40,od40,.func (PySem.W.fnOf "_law_size_some" "_law_size_some" (defArgs s_law_size_some) (defBody s_law_size_some) (defScope s_law_size_some) .none kV40 dc40 pm40 an40 cd40 ct40),sl40⟩)
  (c40 : PySem.W.codeIn K cd40 "_law_size_some" = true) (k40 : PySem.W.keepIn K (.ref f40) = true)
  (a41 : PySem.W.nsIn K mainGlobals "_law_asked" = some (some (.ref f41)))
  (l41 : K.lookup f41 = some ⟨oc41,od41,.func (PySem.W.fnOf "_law_asked" "_law_asked" (defArgs s_law_asked) (defBody s_law_asked) (defScope s_law_asked) .none kV41 dc41 pm41 an41 cd41 ct41),sl41⟩)
  (c41 : PySem.W.codeIn K cd41 "_law_asked" = true) (k41 : PySem.W.keepIn K (.ref f41) = true)
  (a42 : PySem.W.nsIn K mainGlobals "law" = some (some (.ref f42)))
  (l42 : K.lookup f42 = some ⟨oc42,od42,.func (PySem.W.fnOf "law" "law" (defArgs slaw) (defBody slaw) (defScope slaw) .none kV42 dc42 pm42 an42 cd42 ct42),sl42⟩)
  (c42 : PySem.W.codeIn K cd42 "law" = true) (k42 : PySem.W.keepIn K (.ref f42) = true)
  (z0 : PySem.W.nsIn K mainGlobals "all" = some none)
  (z1 : PySem.W.nsIn K mainGlobals "bool" = some none)
  (z2 : PySem.W.nsIn K mainGlobals "dict" = some none)
  (z3 : PySem.W.nsIn K mainGlobals "enumerate" = some none)
  (z4 : PySem.W.nsIn K mainGlobals "int" = some none)
  (z5 : PySem.W.nsIn K mainGlobals "isinstance" = some none)
  (z6 : PySem.W.nsIn K mainGlobals "len" = some none)
  (z7 : PySem.W.nsIn K mainGlobals "list" = some none)
  (z8 : PySem.W.nsIn K mainGlobals "max" = some none)
  (z9 : PySem.W.nsIn K mainGlobals "min" = some none)
  (z10 : PySem.W.nsIn K mainGlobals "range" = some none)
  (z11 : PySem.W.nsIn K mainGlobals "set" = some none)
  (z12 : PySem.W.nsIn K mainGlobals "sorted" = some none)
  (z13 : PySem.W.nsIn K mainGlobals "str" = some none)
  (z14 : PySem.W.nsIn K mainGlobals "sum" = some none)
  (z15 : PySem.W.nsIn K mainGlobals "tuple" = some none)
  (mc0 : PySem.W.nsIn K mainGlobals "MOST_CENSERS" = some (some (.int 9 tg0)))
  (oaGist : PySem.W.nsIn K mainGlobals "Gist" = some (some (.ref CGist))) (opGist : PySem.W.plainGet K CGist Str.empty = true) (ohGist : PySem.W.hasDictIn K CGist = true) (ooGist : PySem.W.plainOver K CGist = true) (osGist : PySem.W.findIn K (.ref CGist) "__setattr__" = some (some (.builtin "object.__setattr__"))) (okGist : PySem.W.makesIn K CGist = true) (ocGist : PySem.W.keepIn K (.ref CGist) = true)
  (onGist_labels : PySem.W.findIn K (.ref CGist) "labels" = some none)
  (onGist_unlikes : PySem.W.findIn K (.ref CGist) "unlikes" = some none)
  (onGist_low : PySem.W.findIn K (.ref CGist) "low" = some none)
  (onGist_high : PySem.W.findIn K (.ref CGist) "high" = some none)
  (gdTHINGS : PySem.W.nsIn K mainGlobals "THINGS" = some (some (.ref DTHINGS))) (tdTHINGS : tabIn K DTHINGS [("alike",3),("unlike",3),("least",2),("most",2)] = true) :
  ∃ (fd : FuncData) (tabs : List (Addr × Addr)),(∀ q ∈ tabs,PySem.W.codeHdIn K q.1 q.2 = true /\ q.2 ∈ ts /\ K.lookup q.2 = none) /\ (∀ (s : Shared) (v : Value),BindsTo s fd ⟨[v],[]⟩ [("_law_script",v)]) /\ ∀ base : Heap,K.In base -> base.Ns mainGlobals mg -> BmAt mg base -> FnOk l.prog w K mg base CX0 61 fa fd ["_law_script"] (spLawT K tabs):= by
 have e:=hfa.symm.trans (PySem.W.mg_of X G a42)
 cases e
 have B:Bs mg:=⟨PySem.W.mg_none_of X G z0,PySem.W.mg_none_of X G z1,PySem.W.mg_none_of X G z2,PySem.W.mg_none_of X G z3,PySem.W.mg_none_of X G z4,PySem.W.mg_none_of X G z5,PySem.W.mg_none_of X G z6,PySem.W.mg_none_of X G z7,PySem.W.mg_none_of X G z8,PySem.W.mg_none_of X G z9,PySem.W.mg_none_of X G z10,PySem.W.mg_none_of X G z11,PySem.W.mg_none_of X G z12,PySem.W.mg_none_of X G z13,PySem.W.mg_none_of X G z14,PySem.W.mg_none_of X G z15⟩
 have T:Gs mg:=⟨trivial,⟨_,PySem.W.mg_of X G mc0⟩⟩
 have clGist:Cls K CGist:=⟨opGist,ohGist,ooGist,osGist⟩
 refine ⟨PySem.W.fnOf "law" "law" (defArgs slaw) (defBody slaw) (defScope slaw) .none kV42 dc42 pm42 an42 cd42 ct42,[(CTopen_pair,PTopen_pair)],(List.forall_mem_cons.mpr ⟨⟨t19,u19,v19⟩,(fun _ h=>nomatch h)⟩),fun s v=>.of_eq rfl,fun base kb9 _ bm9=>?_⟩
 have gTHINGS:=PySem.W.mg_of X G gdTHINGS
 have tTHINGS:=numTab_of kb9 tdTHINGS
 have F1:=fun_mk (st:=s_law_draw) l1 c1 k1
 have C1 : Cal l.prog w K mg base 1 "_law_draw" [] (spDraw K):=F1.cal (ok_law_draw F1 B T  ) (PySem.W.mg_of X G a1) (fun _ _ _ _ _ _ us hl=>match us,hl with | [_,_],_=>rfl)
 have F2:=fun_mk (st:=s_law_cell) l2 c2 k2
 have C2 : Cal l.prog w K mg base 1 "_law_cell" [] (spCell K):=F2.cal (ok_law_cell F2 B T  ) (PySem.W.mg_of X G a2) (fun _ _ _ _ _ _ us hl=>match us,hl with | [_,_],_=>rfl)
 have F3:=fun_mk (st:=s_law_many) l3 c3 k3
 have C3 : Cal l.prog w K mg base 1 "_law_many" [] (spMany K):=F3.cal (ok_law_many F3 B T  ) (PySem.W.mg_of X G a3) (fun _ _ _ _ _ _ us hl=>match us,hl with | [_,_],_=>rfl)
 have F4:=fun_mk (st:=scheck_many) l4 c4 k4
 have C4 : Cal l.prog w K mg base 1 "check_many" [] spCM0:=F4.cal (okcheck_many F4 B T  ) (PySem.W.mg_of X G a4) (fun _ _ _ _ _ _ us hl=>match us,hl with | [_],_=>rfl)
 have F5:=fun_mk (st:=scheck_censer) l5 c5 k5
 have C5 : Cal l.prog w K mg base 1 "check_censer" [] spCC0:=F5.cal (okcheck_censer F5 B T  ) (PySem.W.mg_of X G a5) (fun _ _ _ _ _ _ us hl=>match us,hl with | [_,_],_=>rfl)
 have F6:=fun_mk (st:=sway_of) l6 c6 k6
 have C6 : Cal l.prog w K mg base 1 "way_of" [] (spWayOfG K):=F6.cal (okway_of F6 B T  ) (PySem.W.mg_of X G a6) (fun _ _ _ _ _ _ us hl=>match us,hl with | [_],_=>rfl)
 have F7:=fun_mk (st:=srelabelled) l7 c7 k7
 have C7 : Cal l.prog w K mg base 1 "relabelled" [] (spRelab K):=F7.cal (okrelabelled F7 B T  ) (PySem.W.mg_of X G a7) (fun _ _ _ _ _ _ us hl=>match us,hl with | [_,_,_],_=>rfl)
 have F8:=fun_mk (st:=scheck_saying) l8 c8 k8
 have C8 : Cal l.prog w K mg base 2 "check_saying" [] (spCS0 K):=F8.cal (okcheck_saying F8 B T gTHINGS tTHINGS C5) (PySem.W.mg_of X G a8) (fun _ _ _ _ _ _ us hl=>match us,hl with | [_,_],_=>rfl)
 have F9:=fun_mk (st:=sGist___init__) l9 c9 k9
 have b9:=F9.binds (ps:=["self","labels","unlikes","low","high"]) fun _ _ _ _ _ _ us hl=>match us,hl with | [_,_,_,_,_],_=>rfl
 have C9 : CalK l.prog w K mg base CGist 1 "Gist" (spGI K CGist):=⟨f9,_,_,okGist___init__ F9 B T clGist onGist_labels onGist_unlikes onGist_low onGist_high , ⟨okGist,a9,i9,ocGist⟩,PySem.W.mg_of X G oaGist,b9⟩
 have F10:=fun_mk (st:=sGist_take) l10 c10 k10
 have b10:=F10.binds (ps:=["self","saying"]) fun _ _ _ _ _ _ us hl=>match us,hl with | [_,_],_=>rfl
 have C10 : CalM l.prog w K mg base CGist 2 "take" (spTK K CGist):=⟨f10,_,_,okGist_take F10 B T clGist onGist_labels onGist_unlikes onGist_low onGist_high C7,⟨a10,i10,k10⟩,b10⟩
 have F11:=fun_mk (st:=sGist_longer) l11 c11 k11
 have b11:=F11.binds (ps:=["self","saying"]) fun _ _ _ _ _ _ us hl=>match us,hl with | [_,_],_=>rfl
 have C11 : CalM l.prog w K mg base CGist 3 "longer" (spLO K CGist):=⟨f11,_,_,okGist_longer F11 B T clGist onGist_labels onGist_unlikes onGist_low onGist_high C9 C10,⟨a11,i11,k11⟩,b11⟩
 have F12:=fun_mk (st:=sGist_homes) l12 c12 k12
 have b12:=F12.binds (ps:=["self"]) fun _ _ _ _ _ _ us hl=>match us,hl with | [_],_=>rfl
 have C12 : CalM l.prog w K mg base CGist 1 "homes" (spHO K CGist):=⟨f12,_,_,okGist_homes F12 B T clGist onGist_labels , ⟨a12,i12,k12⟩,b12⟩
 have F13:=fun_mk (st:=sGist_walls) l13 c13 k13
 have b13:=F13.binds (ps:=["self"]) fun _ _ _ _ _ _ us hl=>match us,hl with | [_],_=>rfl
 have C13 : CalM l.prog w K mg base CGist 1 "walls" (spWA K CGist):=⟨f13,_,_,okGist_walls F13 B T clGist onGist_labels onGist_unlikes , ⟨a13,i13,k13⟩,b13⟩
 have F14:=fun_mk (st:=sgist_of) l14 c14 k14
 have C14 : Cal l.prog w K mg base 4 "gist_of" [] (spGO K CGist):=F14.cal (okgist_of F14 B T clGist C9 C10) (PySem.W.mg_of X G a14) (fun _ _ _ _ _ _ us hl=>match us,hl with | [_,_],_=>rfl)
 have F15:=fun_mk (st:=schecked_gist) l15 c15 k15
 have C15 : Cal l.prog w K mg base 5 "checked_gist" [] (spGO K CGist):=F15.cal (okchecked_gist F15 B T  C4 C8 C14) (PySem.W.mg_of X G a15) (fun _ _ _ _ _ _ us hl=>match us,hl with | [_,_],_=>rfl)
 have F16:=fun_mk (st:=scrowd) l16 c16 k16
 have R16 : ∀ dd : Nat,Cal l.prog w K mg base (1 + dd) "crowd" [] (spCR K dd):=fun dd=>by
  induction dd with
  | zero=>exact F16.cal (ps:=["homes","walls","size"]) ⟨fun _ _ _ _ h=>absurd h.1 (by decide),fun _ _ _ _ _ _ _ _ _ _ _ _ _ h=>absurd h.1 (by decide)⟩ (PySem.W.mg_of X G a16) (fun _ _ _ _ _ _ us hl=>match us,hl with | [_,_,_],_=>rfl)
  | succ dd ih=>exact F16.cal (okcrowd F16 B T  ih) (PySem.W.mg_of X G a16) (fun _ _ _ _ _ _ us hl=>match us,hl with | [_,_,_],_=>rfl)
 have C16:=R16 12
 have F17:=fun_mk (st:=splain_paper) l17 c17 k17
 have C17 : Cal l.prog w K mg base 14 "plain_paper" [] (spPP K CGist):=F17.cal (okplain_paper F17 B T clGist onGist_labels onGist_unlikes onGist_low onGist_high C12 C13 C16) (PySem.W.mg_of X G a17) (fun _ _ _ _ _ _ us hl=>match us,hl with | [_],_=>rfl)
 have F18:=fun_mk (st:=sapart_from_both) l18 c18 k18
 have C18 : Cal l.prog w K mg base 1 "apart_from_both" [] (spAB K):=F18.cal (okapart_from_both F18 B T  ) (PySem.W.mg_of X G a18) (fun _ _ _ _ _ _ us hl=>match us,hl with | [_,_,_,_],_=>rfl)
 have F19:=fun_mk (st:=sopen_pair) l19 c19 k19
 have C19 : Cal l.prog w K mg base 4 "open_pair" [] (spOP K CGist PTopen_pair):=F19.cal (okopen_pair F19 rfl (PySem.W.codeHd_of_K kb9 t19) bm9 B T clGist C12 C13 C18) (PySem.W.mg_of X G a19) (fun _ _ _ _ _ _ us hl=>match us,hl with | [_],_=>rfl)
 have F20:=fun_mk (st:=ssettle) l20 c20 k20
 have R20 : ∀ dd : Nat,Cal l.prog w K mg base (20 + dd) "settle" [] (spSE K CGist PTopen_pair dd):=fun dd=>by
  induction dd with
  | zero=>exact F20.cal (ps:=["gist"]) ⟨fun _ _ _ _ h=>absurd h.1 (by decide),fun _ _ _ _ _ _ _ _ _ _ _ _ _ h=>absurd h.1 (by decide)⟩ (PySem.W.mg_of X G a20) (fun _ _ _ _ _ _ us hl=>match us,hl with | [_],_=>rfl)
  | succ dd ih=>exact F20.cal (oksettle F20 B T clGist onGist_labels onGist_high C12 C11 C19 C17 ih C6) (PySem.W.mg_of X G a20) (fun _ _ _ _ _ _ us hl=>match us,hl with | [_],_=>rfl)
 have C20:=R20 38
 have F21:=fun_mk (st:=ssettled) l21 c21 k21
 have C21 : Cal l.prog w K mg base 59 "settled" [] (spST K PTopen_pair):=F21.cal (oksettled F21 B T  C15 C20) (PySem.W.mg_of X G a21) (fun _ _ _ _ _ _ us hl=>match us,hl with | [_,_],_=>rfl)
 have F22:=fun_mk (st:=s_law_num) l22 c22 k22
 have C22 : Cal l.prog w K mg base 1 "_law_num" [] spNum:=F22.cal (ok_law_num F22 B T  ) (PySem.W.mg_of X G a22) (fun _ _ _ _ _ _ us hl=>match us,hl with | [_],_=>rfl)
 have F23:=fun_mk (st:=s_law_row_ok) l23 c23 k23
 have C23 : Cal l.prog w K mg base 1 "_law_row_ok" [] (spRowOk K):=F23.cal (ok_law_row_ok F23 B T  ) (PySem.W.mg_of X G a23) (fun _ _ _ _ _ _ us hl=>match us,hl with | [_],_=>rfl)
 have F24:=fun_mk (st:=s_law_way_ok) l24 c24 k24
 have C24 : Cal l.prog w K mg base 2 "_law_way_ok" [] (spWayOk K):=F24.cal (ok_law_way_ok F24 B T  C22 C23) (PySem.W.mg_of X G a24) (fun _ _ _ _ _ _ us hl=>match us,hl with | [_,_],_=>rfl)
 have F25:=fun_mk (st:=s_law_pairs) l25 c25 k25
 have C25 : Cal l.prog w K mg base 1 "_law_pairs" [] (spPairs K):=F25.cal (ok_law_pairs F25 B T  ) (PySem.W.mg_of X G a25) (fun _ _ _ _ _ _ us hl=>match us,hl with | [_],_=>rfl)
 have F26:=fun_mk (st:=s_law_number_row) l26 c26 k26
 have C26 : Cal l.prog w K mg base 1 "_law_number_row" [] (spNumRow K):=F26.cal (ok_law_number_row F26 B T  ) (PySem.W.mg_of X G a26) (fun _ _ _ _ _ _ us hl=>match us,hl with | [_],_=>rfl)
 have F27:=fun_mk (st:=s_law_linked) l27 c27 k27
 have C27 : Cal l.prog w K mg base 2 "_law_linked" [] (spLinked K):=F27.cal (ok_law_linked F27 B T  C26) (PySem.W.mg_of X G a27) (fun _ _ _ _ _ _ us hl=>match us,hl with | [_,_],_=>rfl)
 have F28:=fun_mk (st:=s_law_saying) l28 c28 k28
 have C28 : Cal l.prog w K mg base 2 "_law_saying" [] spLSay:=F28.cal (ok_law_saying F28 B T  C1) (PySem.W.mg_of X G a28) (fun _ _ _ _ _ _ us hl=>match us,hl with | [_,_],_=>rfl)
 have F29:=fun_mk (st:=s_law_fits) l29 c29 k29
 have C29 : Cal l.prog w K mg base 1 "_law_fits" [] (spLFit K):=F29.cal (ok_law_fits F29 B T  ) (PySem.W.mg_of X G a29) (fun _ _ _ _ _ _ us hl=>match us,hl with | [_,_],_=>rfl)
 have F30:=fun_mk (st:=s_law_fits_all) l30 c30 k30
 have C30 : Cal l.prog w K mg base 2 "_law_fits_all" [] (spLFits K):=F30.cal (ok_law_fits_all F30 B T  C29) (PySem.W.mg_of X G a30) (fun _ _ _ _ _ _ us hl=>match us,hl with | [_,_],_=>rfl)
 have F31:=fun_mk (st:=s_law_links) l31 c31 k31
 have C31 : Cal l.prog w K mg base 3 "_law_links" [] (spLLnk K):=F31.cal (ok_law_links F31 B T  C27) (PySem.W.mg_of X G a31) (fun _ _ _ _ _ _ us hl=>match us,hl with | [_,_],_=>rfl)
 have F32:=fun_mk (st:=s_law_least) l32 c32 k32
 have C32 : Cal l.prog w K mg base 1 "_law_least" [] (spLLeast K):=F32.cal (ok_law_least F32 B T  ) (PySem.W.mg_of X G a32) (fun _ _ _ _ _ _ us hl=>match us,hl with | [_],_=>rfl)
 have F33:=fun_mk (st:=s_law_most) l33 c33 k33
 have C33 : Cal l.prog w K mg base 1 "_law_most" [] (spLMost K):=F33.cal (ok_law_most F33 B T  ) (PySem.W.mg_of X G a33) (fun _ _ _ _ _ _ us hl=>match us,hl with | [_,_],_=>rfl)
 have F34:=fun_mk (st:=s_law_apart) l34 c34 k34
 have C34 : Cal l.prog w K mg base 1 "_law_apart" [] (spLApart K):=F34.cal (ok_law_apart F34 B T  ) (PySem.W.mg_of X G a34) (fun _ _ _ _ _ _ us hl=>match us,hl with | [_,_,_,_],_=>rfl)
 have F35:=fun_mk (st:=s_law_two) l35 c35 k35
 have C35 : Cal l.prog w K mg base 2 "_law_two" [] spLTwo:=F35.cal (ok_law_two F35 B T  C22) (PySem.W.mg_of X G a35) (fun _ _ _ _ _ _ us hl=>match us,hl with | [_,_,_],_=>rfl)
 have F36:=fun_mk (st:=s_law_crowd_ok) l36 c36 k36
 have C36 : Cal l.prog w K mg base 4 "_law_crowd_ok" [] (spLCrowd K):=F36.cal (ok_law_crowd_ok F36 B T  C34 C31 C33 C22 C25) (PySem.W.mg_of X G a36) (fun _ _ _ _ _ _ us hl=>match us,hl with | [_,_,_],_=>rfl)
 have F37:=fun_mk (st:=s_law_paper_ok) l37 c37 k37
 have R37 : ∀ dd : Nat,Cal l.prog w K mg base (5 + dd) "_law_paper_ok" [] (spLaPaper K dd):=fun dd=>by
  induction dd with
  | zero=>exact F37.cal (ps:=["_law_size","_law_sayings","_law_paper"]) ⟨fun _ _ _ _ h=>absurd h.1 (by decide),fun _ _ _ _ _ _ _ _ _ _ _ _ _ h=>absurd h.1 (by decide)⟩ (PySem.W.mg_of X G a37) (fun _ _ _ _ _ _ us hl=>match us,hl with | [_,_,_],_=>rfl)
  | succ dd ih=>exact F37.cal (ok_law_paper_ok F37 B T  C36 C32 C31 C33 ih C35) (PySem.W.mg_of X G a37) (fun _ _ _ _ _ _ us hl=>match us,hl with | [_,_,_],_=>rfl)
 have C37:=R37 38
 have F38:=fun_mk (st:=s_law_settled_ok) l38 c38 k38
 have C38 : Cal l.prog w K mg base 44 "_law_settled_ok" [] (spLSok K):=F38.cal (ok_law_settled_ok F38 B T  C30 C37 C24) (PySem.W.mg_of X G a38) (fun _ _ _ _ _ _ us hl=>match us,hl with | [_,_,_],_=>rfl)
 have F39:=fun_mk (st:=s_law_said_list) l39 c39 k39
 have C39 : Cal l.prog w K mg base 3 "_law_said_list" [] (spLSl K):=F39.cal (ok_law_said_list F39 B T  C2 C3 C28) (PySem.W.mg_of X G a39) (fun _ _ _ _ _ _ us hl=>match us,hl with | [_,_,_,_],_=>rfl)
 have F40:=fun_mk (st:=s_law_size_some) l40 c40 k40
 have C40 : Cal l.prog w K mg base 2 "_law_size_some" [] spLSize:=F40.cal (ok_law_size_some F40 B T  C1) (PySem.W.mg_of X G a40) (fun _ _ _ _ _ _ us hl=>match us,hl with | [_,_],_=>rfl)
 have F41:=fun_mk (st:=s_law_asked) l41 c41 k41
 have C41 : Cal l.prog w K mg base 60 "_law_asked" [] (spLAsk K PTopen_pair):=F41.cal (ok_law_asked F41 B T  C38 C21) (PySem.W.mg_of X G a41) (fun _ _ _ _ _ _ us hl=>match us,hl with | [_,_],_=>rfl)
 have F42:=fun_mk (st:=slaw) l42 c42 k42
 exact oklaw F42 B T  C41 C2 C1 C39 C38 C40 C21
theorem walk {l:PySem.W.OpenLaw} {q:Program} {loose:List Str} {XP:(Str->Option Value)->Heap->Prop} {YP:World->Heap->Prop} {d:DefRec} {K:Params->PySem.W.Frag} {ts:List Addr} (hn:l.most=some 63) (hdf:d.params.defaults=[])
  (hY : ∀ (w:World) (h:Heap),YP w h->(K w.params).In h /\ ∀ P ∈ ts,h.get? P=some (PySem.W.tabObj #[]))
  (F : ∀ (w:World) (mg:Str->Option Value) (fa:Addr) (h:Heap),(K w.params).In h->h.Ns mainGlobals mg->mg d.name=some (.ref fa) ->
   ∃ (fd : FuncData) (tabs : List (Addr × Addr)),(∀ q ∈ tabs,PySem.W.codeHdIn (K w.params) q.1 q.2 = true /\ q.2 ∈ ts /\ (K w.params).lookup q.2 = none) /\ (∀ (s : Shared) (u : Value),BindsTo s fd ⟨[u],[]⟩ [("_law_script",u)]) /\ ∀ base : Heap,(K w.params).In base -> base.Ns mainGlobals mg -> BmAt mg base -> FnOk l.prog w (K w.params) mg base CX0 61 fa fd ["_law_script"] (spLawT (K w.params) tabs)) :
  PySem.W.WalkO q loose XP YP l.row.toRowW d [] (fun f vs=>PySem.call f vs):=
 L2.walk_ofT (n:=63) (k:=61) (x:="_law_script") (CX:=fun _=>CX0) (sp:=fun w tabs=>spLawT (K w.params) tabs) hn (by decide) hdf ⟨rfl,by decide,by decide⟩ hY F (fun _ _ _ a ns hl hT hS=>⟨a,ns,rfl,hS,hl,hT,fun _=>rfl⟩) fun _ _ _ _ _ z=>z
end Lw
namespace PySem.W.Fast
def tw11790333142972438842:=0
def tw6528451891478425883:=0
def tw14110568632889595877:=0
def tw16454456161038092424:=0
def tw1565363878922728977:=0
def tw12808677411823248182:=0
def tw14712644057194621167:=0
def tw15957783400417923841:=0
def tw11473771901561123775:=0
def tw8820541279052898194:=0
def tw5673950630713656149:=0
def tw13344529103195542840:=0
def tw1298811672791691614:=0
def tw16608036124677061522:=0
def tw1034233533405093111:=0
def tw5585230856877495212:=0
def tw5055952999711277105:=0
def tw13658386357564932929:=0
def tw2590756561956964862:=0
def tw16557941288654214894:=0
def tw13737091855411009859:=0
def tw3860082709163428108:=0
def tw14190537963502879681:=0
def tw4851389380521560125:=0
def tw1383424906669699592:=0
def tw1871693455607820121:=0
def tw12606426126937088477:=0
def tw14895237692876777039:=0
def tw13290477240912741944:=0
def tw9074820431323785785:=0
def tw4341845435514918301:=0
def tw9403118584410059683:=0
def tw12200570531947808789:=0
def tw12382666320125780307:=0
def tw16942200489681695773:=0
def tw3283810520004875687:=0
def tw3941860967313771887:=0
def tw11883347645537202207:=0
def tw1876022742266189611:=0
def tw14202023102802805083:=0
def tw15478635192208912413:=0
def tw12884082090406466239:=0
def tw7490618938294171372:=0
def tw6399987591752993242:=0
def tw5898301051471297201:=0
def tw9141693851554536946:=0
def tw12192667288038848004:=0
def tw12624101909695451619:=0
def tw18361243416678688054:=0
def tw14134201251981316824:=0
def tw15024511491961722043:=0
def tw2563099691139942768:=0
def tw10183333179794831242:=0
def tw11726814735803936792:=0
def tw12644842609179985571:=0
def tw4257223539006834980:=0
def tw16586376694413157747:=0
def tw2269066923241121936:=0
def tw2564626987457140350:=0
def tw16425970996115140276:=0
def tw7640779089153598031:=0
def tw15430679055771925736:=0
def tw13986154505802385318:=0
def tw1261550475911706:=0
def tw10258712401844446450:=0
def tw1397879745226066201:=0
def tw14642258843200369492:=0
def tw6274447414281581613:=0
def tw14124764597266531484:=0
def tw26702431584772338:=0
def tw4652866654513125214:=0
def tw11197566343701681414:=0
def tw7348601744270465904:=0
def tw1242523185346632690:=0
def tw7248335440024870958:=0
def tw10907910609344512408:=0
def tw2565891503899869128:=0
def tw6224144325009272005:=0
def tw9025113823975145496:=0
def tw6023771522508437894:=0
def tw5760326449784996372:=0
def tw9271080817569360275:=0
def tw14542231249190713956:=0
def tw12270689165935778456:=0
def tw14710133208933623959:=0
def tw13416168731000665067:=0
def tw10901300690012114007:=0
def tw12487934850883767800:=0
def tw12936545731521711005:=0
def tw14168366840585877095:=0
def tw1813306649561315791:=0
def tw12953300151097513648:=0
def tw17321903039178199371:=0
def tw3564878640806926718:=0
def tw5486031066585676443:=0
def tw4427842685431814871:=0
def tw377237669212237194:=0
def tw8659723644675948100:=0
def tw16585502101767754620:=0
def tw9697089920386373725:=0
def tw12913916707100480359:=0
def tw4424187875059858008:=0
def tw11277825611955436465:=0
def tw10022748834159080768:=0
def tw5832019103531113474:=0
def tw9018979073659672266:=0
def tw4163332025401626512:=0
def tw13702299638676343928:=0
def tw5951752686785305960:=0
def tw12270097769574346439:=0
def tw6845525569627531294:=0
def tw10578687069667917405:=0
def tw7714011453415794555:=0
def tw17178502237528227508:=0
def tw4002553795547971878:=0
def tw7774627902483645830:=0
def tw12582439431905997515:=0
def tw6166251567347395302:=0
def tw3284691685552068713:=0
def tw8094883815525080302:=0
def tw15304033808662236687:=0
def tw15643434753598202298:=0
def tw4509810311894689290:=0
def tw2559138688893668869:=0
def tw9694611590705794143:=0
def tw14354121034508091266:=0
def tw14225791173446721259:=0
def tw11713936138057524619:=0
def tw4943164636872750033:=0
def tw10334858427930862817:=0
def tw6565102166628771763:=0
def tw10879156377011721079:=0
def tw16707042994276773191:=0
def tw10997934490830514648:=0
def tw6444384338487062174:=0
def tw5100329232539073951:=0
def tw3263974747644723807:=0
def tw9053188995622498518:=0
def tw15625068643833724360:=0
def tw14980776148610482056:=0
def tw11800115950477167002:=0
def tw7175085646773692541:=0
def tw6124896129508004120:=0
def tw11001464407195140775:=0
def tw7152370497392496083:=0
def tw7484465251762700212:=0
def tw2529217117903964582:=0
def tw14124333421876241047:=0
def tw18269471808293591250:=0
def tw13787712163458008537:=0
def tw12336746832721027707:=0
def tw6413634909928373631:=0
def tw4448512158239910531:=0
def tw14251250703769100116:=0
def tw5663097148675270837:=0
def tw9403749133531683724:=0
def tw3261054272830113004:=0
def tw16361302937797018066:=0
def tw7307162476615534642:=0
def tw15509146882972549839:=0
def tw12578830033581524039:=0
def tw6434998608866558207:=0
def tw12096911830847840270:=0
def tw8148285244239101924:=0
def tw1508268678758915002:=0
def tw4653357404669378449:=0
def tw931180550653663940:=0
def tw8781325883790471173:=0
def tw5426652673439410279:=0
def tw1893141887340327161:=0
def tw1985299585066542269:=0
def tw5966759365021928132:=0
def tw8496783485055562647:=0
def tw6464103692434344221:=0
def tw6125854199373698838:=0
def tw5366513974755481335:=0
def tw5359082686854127391:=0
def tw4787137145651719646:=0
def tw11859475091448131160:=0
def tw10469940275625495920:=0
def tw10130688833731160984:=0
def tw9958471350695821277:=0
def tw8093900582564556840:=0
def tw5976588476186421646:=0
def tw2407909213804403605:=0
def tw16689558149487543268:=0
def tw14033193927133350047:=0
def tw11514613435463096501:=0
def tw8470879898915252390:=0
def tw7753939280695587500:=0
def tw7423963327714644915:=0
def tw6548430469429640127:=0
def tw5773302089569715670:=0
def tw4983379492086434261:=0
def tw4366266037480765870:=0
def tw2477603941167995973:=0
def tw18404585284672213313:=0
def tw18017208973665315631:=0
def tw17814556538685148236:=0
def tw17175627049327621484:=0
def tw16447712886498279472:=0
def tw14829852608920629291:=0
def tw14731290738088558642:=0
def tw14363953282056581248:=0
def tw14233003326416379369:=0
def tw14217535038294285600:=0
def tw1313057113776134905:=0
def tw10775666549831456498:=0
def tw10493766162483357241:=0
def tw1727459695439944905:=0
def tw7234346377307904341:=0
def tw16746625261992611931:=0
def tw4669384538668610664:=0
def tw1483971494223929760:=0
def tw14277844653942626334:=0
def tw6547160865380998343:=0
def tw9247644673290780134:=0
def tw16561442893620803573:=0
def tw14176339933322652583:=0
def tw10884370993786853112:=0
def tw9212155378905711400:=0
def tw9744806549818208011:=0
def tw6790821314968621850:=0
def tw3170598001832698651:=0
def tw11003180523258933301:=0
def tw6674566940782538803:=0
def tw11092197323867639320:=0
def tw1596987087393134547:=0
def tw9409363181369226711:=0
def tw13337790235074144733:=0
def tw9291644732588202458:=0
def tw9999524962256936960:=0
def tw662038804544998555:=0
def tw4943743749944672358:=0
def tw16081718323304022401:=0
def tw12458051900487594215:=0
def tw8334562085246836489:=0
def tw3253595256386286406:=0
def tw16860003531558928560:=0
def tw12249163413862505582:=0
def tw2696821883404580413:=0
def tw10798669041390621932:=0
def tw7436620962607932797:=0
def tw168649323798595790:=0
def tw9176935588471919757:=0
def tw15143099772322019689:=0
def tw14835514296360697935:=0
def tw17744318687231749673:=0
def tw14442597655150387826:=0
def tw9785368730945455506:=0
def tw8396681201847477579:=0
def tw7003154242747982126:=0
def tw6552153768518287782:=0
def tw8257978346024075191:=0
def tw9295271133527356654:=0
def tw916100301448252568:=0
def tw8982211896247574362:=0
def tw8863815489895092:=0
def tw8622660361115109655:=0
def tw8288397020434423606:=0
def tw8123596364120123260:=0
def tw8009720441993550982:=0
def tw7853302658876295725:=0
def tw7829234882590769037:=0
def tw7148949176494807023:=0
def tw6971186320647886099:=0
def tw6909576204960304377:=0
def tw6809936664755659587:=0
def tw6133090064096233081:=0
def tw5954114808980567364:=0
def tw5881869242048633742:=0
def tw5787844439472733902:=0
def tw5557025464339775383:=0
def tw5493363898150497397:=0
def tw527158541096293136:=0
def tw5210388662356007937:=0
def tw5195970979961109973:=0
def tw4893330817781728966:=0
def tw4684107925552574286:=0
def tw4233023745455797624:=0
def tw3503788299110391204:=0
def tw3433730279920730443:=0
def tw3371138016494054558:=0
def tw3229279269521342241:=0
def tw3213052645464198974:=0
def tw3020230263711368357:=0
def tw2291945266407481234:=0
def tw2086813899793020883:=0
def tw207812043866727968:=0
def tw2006550617734080335:=0
def tw18346682808824182269:=0
def tw18288238832340569667:=0
def tw18200490278000298780:=0
def tw17842289683471322450:=0
def tw17626457479519116497:=0
def tw17506803044293667678:=0
def tw16891125906055813095:=0
def tw16885298368980755410:=0
def tw16673215195313099212:=0
def tw16647408576655101020:=0
def tw16209429914829083238:=0
def tw16201691501573578306:=0
def tw15837108996055494710:=0
def tw15819704453266332347:=0
def tw15006395661758326996:=0
def tw14960668388922050922:=0
def tw14930420699901222911:=0
def tw14872232464828200534:=0
def tw14839153300903460921:=0
def tw14738029570531476161:=0
def tw14563706317805966747:=0
def tw14498020456505160306:=0
def tw14450479170887406652:=0
def tw14410249834854010657:=0
def tw14308671321566457458:=0
def tw13938958505800249845:=0
def tw13915774510695743620:=0
def tw13342067222091715958:=0
def tw13222910465356645223:=0
def tw13057206716723645570:=0
def tw130058486040058528:=0
def tw12888715067149236295:=0
def tw12823263972928990768:=0
def tw12739075823261380873:=0
def tw12404096598194218657:=0
def tw12174041214830155880:=0
def tw11484978635536102220:=0
def tw11352839308294533087:=0
def tw11315447600301374459:=0
def tw11032341142058554498:=0
def tw10942853831357839665:=0
def tw10790311129804701912:=0
def tw10499726004561951202:=0
def tw10356498785191540282:=0
def tw10338522418820018440:=0
end PySem.W.Fast
open PySem PySem.W PyProof.Rows
set_option maxRecDepth 100000 in
set_option maxHeartbeats 0 in
theorem PySem.Challenge.cw_censers_k34_whole_a_way_or_a_paper_holds : PySem.Challenge.rw_censers_k34_whole_a_way_or_a_paper.Holds := by
 w_on;o_law;k_head;(case hw=>w_witness2)
 k_fill
 refine Lw.walk (l:=PySem.Challenge.rw_censers_k34_whole_a_way_or_a_paper) rfl rfl (fun w h Y=>⟨PySem.W.km_in_of Y,PySem.W.km_tabs_of Y⟩) ?F
 case F=>
  intro w mg fa h KX G hmg
  refine' Lw.all_mk KX G hmg ?a1 ?l1 ?c1 ?k1 ?a2 ?l2 ?c2 ?k2 ?a3 ?l3 ?c3 ?k3 ?a4 ?l4 ?c4 ?k4 ?a5 ?l5 ?c5 ?k5 ?a6 ?l6 ?c6 ?k6 ?a7 ?l7 ?c7 ?k7 ?a8 ?l8 ?c8 ?k8 ?a9 ?i9 ?l9 ?c9 ?k9 ?a10 ?i10 ?l10 ?c10 ?k10 ?a11 ?i11 ?l11 ?c11 ?k11 ?a12 ?i12 ?l12 ?c12 ?k12 ?a13 ?i13 ?l13 ?c13 ?k13 ?a14 ?l14 ?c14 ?k14 ?a15 ?l15 ?c15 ?k15 ?a16 ?l16 ?c16 ?k16 ?a17 ?l17 ?c17 ?k17 ?a18 ?l18 ?c18 ?k18 ?a19 ?l19 ?c19 ?k19 ?u19 ?t19 ?v19 ?a20 ?l20 ?c20 ?k20 ?a21 ?l21 ?c21 ?k21 ?a22 ?l22 ?c22 ?k22 ?a23 ?l23 ?c23 ?k23 ?a24 ?l24 ?c24 ?k24 ?a25 ?l25 ?c25 ?k25 ?a26 ?l26 ?c26 ?k26 ?a27 ?l27 ?c27 ?k27 ?a28 ?l28 ?c28 ?k28 ?a29 ?l29 ?c29 ?k29 ?a30 ?l30 ?c30 ?k30 ?a31 ?l31 ?c31 ?k31 ?a32 ?l32 ?c32 ?k32 ?a33 ?l33 ?c33 ?k33 ?a34 ?l34 ?c34 ?k34 ?a35 ?l35 ?c35 ?k35 ?a36 ?l36 ?c36 ?k36 ?a37 ?l37 ?c37 ?k37 ?a38 ?l38 ?c38 ?k38 ?a39 ?l39 ?c39 ?k39 ?a40 ?l40 ?c40 ?k40 ?a41 ?l41 ?c41 ?k41 ?a42 ?l42 ?c42 ?k42 ?z0 ?z1 ?z2 ?z3 ?z4 ?z5 ?z6 ?z7 ?z8 ?z9 ?z10 ?z11 ?z12 ?z13 ?z14 ?z15 ?mc0 ?oaGist ?opGist ?ohGist ?ooGist ?osGist ?okGist ?ocGist ?onGist_labels ?onGist_unlikes ?onGist_low ?onGist_high ?gdTHINGS ?tdTHINGS
  (case oaGist=>k_is)
  (case gdTHINGS=>k_is)
  (case a1=>k_is)
  (case l1=>k_is)
  (case c1=>k_is)
  (case k1=>k_is)
  (case a2=>k_is)
  (case l2=>k_is)
  (case c2=>k_is)
  (case k2=>k_is)
  (case a3=>k_is)
  (case l3=>k_is)
  (case c3=>k_is)
  (case k3=>k_is)
  (case a4=>k_is)
  (case l4=>k_is)
  (case c4=>k_is)
  (case k4=>k_is)
  (case a5=>k_is)
  (case l5=>k_is)
  (case c5=>k_is)
  (case k5=>k_is)
  (case a6=>k_is)
  (case l6=>k_is)
  (case c6=>k_is)
  (case k6=>k_is)
  (case a7=>k_is)
  (case l7=>k_is)
  (case c7=>k_is)
  (case k7=>k_is)
  (case a8=>k_is)
  (case l8=>k_is)
  (case c8=>k_is)
  (case k8=>k_is)
  (case a9=>k_is)
  (case i9=>k_is)
  (case l9=>k_is)
  (case c9=>k_is)
  (case k9=>k_is)
  (case a10=>k_is)
  (case i10=>k_is)
  (case l10=>k_is)
  (case c10=>k_is)
  (case k10=>k_is)
  (case a11=>k_is)
  (case i11=>k_is)
  (case l11=>k_is)
  (case c11=>k_is)
  (case k11=>k_is)
  (case a12=>k_is)
  (case i12=>k_is)
  (case l12=>k_is)
  (case c12=>k_is)
  (case k12=>k_is)
  (case a13=>k_is)
  (case i13=>k_is)
  (case l13=>k_is)
  (case c13=>k_is)
  (case k13=>k_is)
  (case a14=>k_is)
  (case l14=>k_is)
  (case c14=>k_is)
  (case k14=>k_is)
  (case a15=>k_is)
  (case l15=>k_is)
  (case c15=>k_is)
  (case k15=>k_is)
  (case a16=>k_is)
  (case l16=>k_is)
  (case c16=>k_is)
  (case k16=>k_is)
  (case a17=>k_is)
  (case l17=>k_is)
  (case c17=>k_is)
  (case k17=>k_is)
  (case a18=>k_is)
  (case l18=>k_is)
  (case c18=>k_is)
  (case k18=>k_is)
  (case a19=>k_is)
  (case l19=>k_is)
  (case c19=>k_is)
  (case k19=>k_is)
  (case u19=>first | exact .head _ | exact .tail _ (.head _))
  (case t19=>kernel_rfl)
  (case v19=>kernel_rfl)
  (case a20=>k_is)
  (case l20=>k_is)
  (case c20=>k_is)
  (case k20=>k_is)
  (case a21=>k_is)
  (case l21=>k_is)
  (case c21=>k_is)
  (case k21=>k_is)
  (case a22=>k_is)
  (case l22=>k_is)
  (case c22=>k_is)
  (case k22=>k_is)
  (case a23=>k_is)
  (case l23=>k_is)
  (case c23=>k_is)
  (case k23=>k_is)
  (case a24=>k_is)
  (case l24=>k_is)
  (case c24=>k_is)
  (case k24=>k_is)
  (case a25=>k_is)
  (case l25=>k_is)
  (case c25=>k_is)
  (case k25=>k_is)
  (case a26=>k_is)
  (case l26=>k_is)
  (case c26=>k_is)
  (case k26=>k_is)
  (case a27=>k_is)
  (case l27=>k_is)
  (case c27=>k_is)
  (case k27=>k_is)
  (case a28=>k_is)
  (case l28=>k_is)
  (case c28=>k_is)
  (case k28=>k_is)
  (case a29=>k_is)
  (case l29=>k_is)
  (case c29=>k_is)
  (case k29=>k_is)
  (case a30=>k_is)
  (case l30=>k_is)
  (case c30=>k_is)
  (case k30=>k_is)
  (case a31=>k_is)
  (case l31=>k_is)
  (case c31=>k_is)
  (case k31=>k_is)
  (case a32=>k_is)
  (case l32=>k_is)
  (case c32=>k_is)
  (case k32=>k_is)
  (case a33=>k_is)
  (case l33=>k_is)
  (case c33=>k_is)
  (case k33=>k_is)
  (case a34=>k_is)
  (case l34=>k_is)
  (case c34=>k_is)
  (case k34=>k_is)
  (case a35=>k_is)
  (case l35=>k_is)
  (case c35=>k_is)
  (case k35=>k_is)
  (case a36=>k_is)
  (case l36=>k_is)
  (case c36=>k_is)
  (case k36=>k_is)
  (case a37=>k_is)
  (case l37=>k_is)
  (case c37=>k_is)
  (case k37=>k_is)
  (case a38=>k_is)
  (case l38=>k_is)
  (case c38=>k_is)
  (case k38=>k_is)
  (case a39=>k_is)
  (case l39=>k_is)
  (case c39=>k_is)
  (case k39=>k_is)
  (case a40=>k_is)
  (case l40=>k_is)
  (case c40=>k_is)
  (case k40=>k_is)
  (case a41=>k_is)
  (case l41=>k_is)
  (case c41=>k_is)
  (case k41=>k_is)
  (case a42=>k_is)
  (case l42=>k_is)
  (case c42=>k_is)
  (case k42=>k_is)
  (case z0=>k_is)
  (case z1=>k_is)
  (case z2=>k_is)
  (case z3=>k_is)
  (case z4=>k_is)
  (case z5=>k_is)
  (case z6=>k_is)
  (case z7=>k_is)
  (case z8=>k_is)
  (case z9=>k_is)
  (case z10=>k_is)
  (case z11=>k_is)
  (case z12=>k_is)
  (case z13=>k_is)
  (case z14=>k_is)
  (case z15=>k_is)
  (case mc0=>k_is)
  (case opGist=>k_is)
  (case ohGist=>k_is)
  (case ooGist=>k_is)
  (case osGist=>k_is)
  (case okGist=>k_is)
  (case ocGist=>k_is)
  (case onGist_labels=>k_is)
  (case onGist_unlikes=>k_is)
  (case onGist_low=>k_is)
  (case onGist_high=>k_is)
  (case tdTHINGS=>kernel_rfl)
