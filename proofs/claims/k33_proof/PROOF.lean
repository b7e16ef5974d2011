import PyProof.Rows.All
import Wide.All
import OpenK.AllK
import Wide.FinOn
import Lean
import PyProof.EqAt
import PyProof.EqKinds
import PyProof.TupleCall
import KE.KSortTup
import KE.KRevSl
import KE.KDictSum
import PyProof.NeKinds
import PyProof.Rows.Range3
import PyProof.Rows.SetFrom
import PyProof.Rows.StrItems
import PyProof.StrWalks
import PyProof.EnumMake
import PyProof.FString5
import PyProof.Conv_int_bool
import PyProof.DictStraight
import PyProof.StrLawsIn
import PyProof.Rows.RuleN_abs
import PyProof.Rows.CallKwBuiltin
import PyProof.MinMaxWalk
import PyProof.IsiH_list
import PyProof.AttrMiss
import KE.KDictOf
import PyProof.DictList
import PyProof.TupleIter
import PyProof.Rows.CountFlat
import PyProof.Rows.RuleB_mul
import PyProof.CompFree
import PyProof.DictItemsLoops
import PySem.Challenge.RW_censers_k33_whole_likeliest_ways
set_option Elab.async false
set_option linter.all false
set_option maxRecDepth 100000
namespace L2
open PySem PySem.Spec PyProof.Rows
abbrev Key:=Sum Int Str
def keyIs:Key->Value->Bool
 | .inl k,v=>Value.isInt k v
 | .inr x,v=>Value.isStrOf x v
def keyH (w:World):Key->Int
 | .inl k=>hashInt k
 | .inr x=>hashStr w x
theorem keyIs_shape : ∀ {k:Key} {v:Value},keyIs k v=true->(∃ i t,k=Sum.inl i/\v=Value.int i t)\/(∃ x t,k=Sum.inr x/\v=Value.str x t)
 | .inl i,v,h=>by
  obtain ⟨t,e⟩:=Value.isInt_shape (k:=i) (v:=v) h
  exact .inl ⟨i,t,rfl,e⟩
 | .inr x,v,h=>by
  obtain ⟨t,e⟩:=Value.isStrOf_shape (x:=x) (v:=v) h
  exact .inr ⟨x,t,rfl,e⟩
theorem keyIs_int (i:Int) (t:Tok):keyIs (.inl i) (.int i t)=true:=by simp [keyIs,Value.isInt]
theorem keyIs_str (x:Str) (t:Tok):keyIs (.inr x) (.str x t)=true:=by simp [keyIs,Value.isStrOf]
theorem key_ll (a b:Int):decide ((Sum.inl a:Key)=Sum.inl b)=(a==b):= by
 by_cases e:a=b
 ·subst e;simp
 ·have h : ¬ (Sum.inl a:Key)=Sum.inl b:=fun q=>e (Sum.inl.inj q)
  rw[decide_eq_false h]
  exact (beq_eq_false_iff_ne.mpr e).symm
theorem key_rr (a b:Str):decide ((Sum.inr a:Key)=Sum.inr b)=decide (a=b):= by
 by_cases e:a=b
 ·subst e;simp
 ·have h : ¬ (Sum.inr a:Key)=Sum.inr b:=fun q=>e (Sum.inr.inj q)
  rw[decide_eq_false h,decide_eq_false e]
theorem key_lr (a:Int) (b:Str):decide ((Sum.inl a:Key)=Sum.inr b)=false:=decide_eq_false (fun q=>nomatch q)
theorem key_rl (a:Str) (b:Int):decide ((Sum.inr a:Key)=Sum.inl b)=false:=decide_eq_false (fun q=>nomatch q)
def mixKind (prog:Program) (w:World):PySem.KeyKind prog w Key where
 is:=keyIs
 hash:=keyH w
 inj:=fun v a b ha hb=>by
  rcases keyIs_shape ha with ⟨i,t,rfl,rfl⟩ | ⟨x,t,rfl,rfl⟩
  ·rcases keyIs_shape hb with ⟨j,u,rfl,e⟩ | ⟨y,u,rfl,e⟩
   ·injection e with e1 _;rw[e1]
   ·exact nomatch e
  ·rcases keyIs_shape hb with ⟨j,u,rfl,e⟩ | ⟨y,u,rfl,e⟩
   ·exact nomatch e
   ·injection e with e1 _;rw[e1]
 byValue:=fun k v h=>by
  rcases keyIs_shape h with ⟨i,t,rfl,rfl⟩ | ⟨x,t,rfl,rfl⟩ <;> rfl
 pyHash:=fun hv h=>by
  rcases keyIs_shape hv with ⟨i,t,rfl,rfl⟩ | ⟨x,t,rfl,rfl⟩
  ·exact wpAny_pyHash_int h
  ·exact wpAny_pyHash_str h
 eqBool:=fun hu hv h=>by
  rcases keyIs_shape hu with ⟨i,t,rfl,rfl⟩ | ⟨x,t,rfl,rfl⟩
  ·rcases keyIs_shape hv with ⟨j,u,rfl,rfl⟩ | ⟨y,u,rfl,rfl⟩
   ·rw[key_ll] at h;exact wpAny_eqBool_int h
   ·rw[key_lr] at h;exact SeqAt.EqAt.int_str i t y u _ _ _ _ h
  ·rcases keyIs_shape hv with ⟨j,u,rfl,rfl⟩ | ⟨y,u,rfl,rfl⟩
   ·rw[key_rl] at h;exact SeqAt.EqAt.str_int x t j u _ _ _ _ h
   ·rw[key_rr] at h;exact wpAny_eqBool_str h
 «strs»:=fun k x t v h=>by
  rcases keyIs_shape h with ⟨i,u,rfl,e⟩ | ⟨y,u,rfl,e⟩
  ·exact nomatch e
  ·injection e with e1 _
   subst e1
   cases v <;> rfl
theorem mixKind_int (prog:Program) (w:World) (i:Int) (t:Tok):(mixKind prog w).is (.inl i) (.int i t)=true:=keyIs_int i t
theorem mixKind_str (prog:Program) (w:World) (x:Str) (t:Tok):(mixKind prog w).is (.inr x) (.str x t)=true:=keyIs_str x t
end L2
namespace L2
open PySem PySem.Spec PyProof.Rows
inductive V where
 | non | bl (b:Bool) | int (i:Int) | str (x:Str) | byt (b:Array UInt8) | flt (b:UInt64) | ref (a:Addr) | ty (n:String)
 deriving DecidableEq
def RelV:V->Value->Prop
 | .non,u=>u=Value.none
 | .bl b,u=>u=Value.bool b
 | .int i,u=>∃ t,u=Value.int i t
 | .str x,u=>∃ t,u=Value.str x t
 | .byt b,u=>∃ t,u=Value.bytes b t
 | .flt b,u=>∃ t,u=Value.float b t
 | .ref a,u=>u=Value.ref a
 | .ty n,u=>u=Value.type n
abbrev Vals:List V->List Value->Prop:=Paired RelV
theorem Vals.length {xs:List V} {us:List Value} (r:Vals xs us):xs.length=us.length:=Paired.length r
theorem Vals.get : ∀ {xs:List V} {us:List Value} {i:Nat} {x:V},Vals xs us->xs[i]?=some x -> ∃ u,us[i]?=some u/\RelV x u
 | _,_,_,_,.nil,e=>by simp at e
 | _,_,0,_,.cons r _,e=>by simp at e;subst e;exact ⟨_,rfl,r⟩
 | _,_,i+1,x,.cons _ t,e=>by
  obtain ⟨u,h1,h2⟩:=Vals.get (i:=i) (x:=x) t (by simpa using e)
  exact ⟨u,by simpa using h1,h2⟩
theorem Vals.set {x:V} {u:Value} (r:RelV x u) : ∀ {xs:List V} {us:List Value} (i:Nat),Vals xs us->Vals (xs.set i x) (us.set i u)
 | _,_,_,.nil=>.nil
 | _,_,0,.cons _ t=>.cons r t
 | _,_,i+1,.cons q t=>.cons q (Vals.set r i t)
theorem Vals.append : ∀ {xs ys:List V} {us ws:List Value},Vals xs us->Vals ys ws->Vals (xs++ys) (us++ws)
 | _,_,_,_,.nil,s=>s
 | _,_,_,_,.cons r t,s=>.cons r (Vals.append t s)
theorem Vals.take : ∀ {xs:List V} {us:List Value} (n:Nat),Vals xs us->Vals (xs.take n) (us.take n)
 | _,_,0,_=>.nil
 | _,_,_+1,.nil=>.nil
 | _,_,n+1,.cons r t=>.cons r (Vals.take n t)
theorem Vals.drop : ∀ {xs:List V} {us:List Value} (n:Nat),Vals xs us->Vals (xs.drop n) (us.drop n)
 | _,_,0,r=>r
 | _,_,_+1,.nil=>.nil
 | _,_,n+1,.cons _ t=>Vals.drop n t
def RelO:Option V->Option Value->Prop
 | some v,some u=>RelV v u
 | none,none=>True
 | _,_=>False
def KV {κ:Type}:List (κ × V)->List (κ × Value)->Prop:=Paired fun (p:κ × V) (q:κ × Value)=>p.1=q.1/\RelV p.2 q.2
def kV:Key->V
 | .inl i=>.int i
 | .inr x=>.str x
inductive HO where
 | lst (xs:List V)
 | tup (xs:List V)
 | dK (kvs:List (Key × V)) | dT (kvs:List (List Key × V))
 | set (S:Int->Bool) (n:Nat)
 | ins (C dx:Addr) (fs:List (Str × V))
 | own (x:Addr)
 | xd (fs:List (Str × V))
 | met (f x:Addr)
 | rng (lo hi:Int)
 | frz (o:Obj) (u:HO)
 | tbl (ps:Array Value)
 | ext (φ:Heap->Prop)
abbrev Hp:=Addr->Option HO
def upd (H:Hp) (a:Addr) (o:HO):Hp:=fun b=>if b=a then some o else H b
theorem upd_same {H:Hp} {a:Addr} {o:HO}:upd H a o a=some o:=by unfold upd;rw[if_pos rfl]
theorem upd_ne {H:Hp} {a b:Addr} {o:HO} (h:b≠a):upd H a o b=H b:=by unfold upd;rw[if_neg h]
theorem ne_of {H:Hp} {a b:Addr} {o u:HO} (h:H a=some o) (h':H b=some u) (d:o≠u):a≠b:= by
 intro e;subst e;rw[h] at h';exact d (Option.some.inj h')
theorem ne_of_none {H:Hp} {a b:Addr} {o:HO} (h:H a=some o) (h':H b=none):a≠b:= by
 intro e;subst e;rw[h] at h';cases h'
section
variable (P:Program) (w:World)
def ObjOk (H:Hp) (h:Heap) (a:Addr):HO->Prop
 | .lst xs=>xs.length <= sizeLine /\ ∃ (its : List Value) (n : Nat),Vals xs its /\ h.get? a = some { cls:=.type "list",data:=.seq its.toArray n }
 | .tup xs=>xs.length<=sizeLine /\ ∃ its:List Value,Vals xs its/\IsTup h a its.toArray
 | .dK kvs=>kvs.length<=sizeLine/\(a==sysModules)=false /\ ∃ vs,KV kvs vs/\h.DictOf (mixKind P w) a vs
 | .dT kvs=>kvs.length<=sizeLine/\(a==sysModules)=false /\ ∃ xs:List (List Key × Addr × Value),
   Paired (fun (p:List Key × V) (q:List Key × Addr × Value)=>p.1=q.1/\H q.2.1=some (.tup (p.1.map kV))/\RelV p.2 q.2.2) kvs xs /\
   ∃ o es ep,h.get? a=some o/\o.ExactDict/\o.data = .dict es ep/\es.toList=xs.map (entryOfKey (tupleKind (mixKind P w)))/\(xs.map (·.1)).Nodup
 | .set S n=>h.SetOf (intKind P w) a S n
 | .ins C dx fs=>H dx=some (.own a)/\fs.length<=1000/\dx≠a/\h.get? a=some (PySem.W.instObj C dx) /\
   ∃ mA,h.Ns1 dx mA/\(∀ f,RelO (fs.lookup f) (mA f))/\PySem.Within mA (fs.map (·.1))
 | .own _=>∃ o,h.get? a=some o
 | .xd fs=>∃ mA,h.Ns1 a mA /\ ∀ f,RelO (fs.lookup f) (mA f)
 | .rng lo hi=>∃ t u v,h.get? a = some { cls:=.type "range",data:=.fields #[.int lo t,.int hi u,.int 1 v] }
 | .frz o u=>h.get? a=some o/\ObjOk H h a u
 | .tbl ps=>h.get? a=some { cls:=.none,data:=.fields ps }
 | .met f x=>h.get? a=some (PySem.W.methodObj (.ref f) (.ref x))
 | .ext φ=>φ h/\(∃ o,h.get? a=some o) /\ ∀ h1 h2:Heap,φ h1->(∀ o,h1.get? a=some o->h2.get? a=some o)->φ h2
def HOk (H:Hp) (h:Heap):Prop:=∀ a o,H a=some o->ObjOk P w H h a o
end
section
variable {P:Program} {w:World} {H H':Hp} {h h':Heap} {a:Addr} {o:HO}
theorem ObjOk.lt (x:ObjOk P w H h a o):a<h.objs.size:= by
 cases o with
 | lst xs=>obtain ⟨_,_,_,_,e⟩:=x;exact Heap.lt_size e
 | tup xs=>obtain ⟨_,_,_,p⟩:=x;exact p.lt
 | dK kvs=>obtain ⟨_,_,_,_,o,_,_,e,_⟩:=x;exact Heap.lt_size e
 | dT kvs=>obtain ⟨_,_,_,_,o,_,_,e,_⟩:=x;exact Heap.lt_size e
 | set S n=>obtain ⟨o,_,_,_,e,_⟩:=x;exact Heap.lt_size e
 | ins C dx fs=>obtain ⟨_,_,_,e,_⟩:=x;exact Heap.lt_size e
 | own y=>obtain ⟨_,e⟩:=x;exact Heap.lt_size e
 | xd fs=>obtain ⟨_,⟨_,_,_,e,_⟩,_⟩:=x;exact Heap.lt_size e
 | rng lo hi=>obtain ⟨_,_,_,e⟩:=x;exact Heap.lt_size e
 | frz ob u=>obtain ⟨e,_⟩:=x;exact Heap.lt_size e
 | tbl ps=>exact Heap.lt_size (show h.get? a=some _ from x)
 | met f y=>exact Heap.lt_size (show h.get? a=some _ from x)
 | ext φ=>obtain ⟨_,⟨_,e⟩,_⟩:=x;exact Heap.lt_size e
theorem Paired.mapP {α β:Type} {F G:α->β->Prop} : ∀ {l₁:List α} {l₂:List β},Paired F l₁ l₂->(∀ a b,F a b->G a b)->Paired G l₁ l₂
 | _,_,.nil,_=>.nil
 | _,_,.cons r t,f=>.cons (f _ _ r) (Paired.mapP t f)
theorem ObjOk.stay (x:ObjOk P w H h a o) (k : ∀ b u,(b=a\/H b=some (.own a))->h.get? b=some u->h'.get? b=some u)
  (ho : ∀ b,H b=some (.own a)->H' b=some (.own a)) (ht : ∀ b xs,H b=some (.tup xs)->H' b=some (.tup xs)):ObjOk P w H' h' a o:= by
 induction o with
 | lst xs=>obtain ⟨z,its,n,r,e⟩:=x;exact ⟨z,its,n,r,k _ _ (.inl rfl) e⟩
 | tup xs=>obtain ⟨z,its,r,ob,e,c⟩:=x;exact ⟨z,its,r,ob,k _ _ (.inl rfl) e,c⟩
 | dK kvs=>obtain ⟨z,y,vs,r,ob,es,ep,e,c⟩:=x;exact ⟨z,y,vs,r,ob,es,ep,k _ _ (.inl rfl) e,c⟩
 | dT kvs=>
  obtain ⟨z,y,xs,r,ob,es,ep,e,c⟩:=x
  exact ⟨z,y,xs,Paired.mapP r fun p q z=>⟨z.1,ht _ _ z.2.1,z.2.2⟩,ob,es,ep,k _ _ (.inl rfl) e,c⟩
 | set S n=>obtain ⟨ob,es,ep,t,e,c⟩:=x;exact ⟨ob,es,ep,t,k _ _ (.inl rfl) e,c⟩
 | ins C dx fs=>
  obtain ⟨d,z,ne,e,mA,⟨od,es,ep,e2,c⟩,r⟩:=x
  exact ⟨ho _ d,z,ne,k _ _ (.inl rfl) e,mA,⟨od,es,ep,k _ _ (.inr d) e2,c⟩,r⟩
 | own y=>obtain ⟨ob,e⟩:=x;exact ⟨ob,k _ _ (.inl rfl) e⟩
 | xd fs=>obtain ⟨mA,⟨od,es,ep,e,c⟩,r⟩:=x;exact ⟨mA,⟨od,es,ep,k _ _ (.inl rfl) e,c⟩,r⟩
 | rng lo hi=>obtain ⟨t,u,v,e⟩:=x;exact ⟨t,u,v,k _ _ (.inl rfl) e⟩
 | frz ob u ih=>obtain ⟨e,q⟩:=x;exact ⟨k _ _ (.inl rfl) e,ih q⟩
 | tbl ps=>
  have e:h.get? a=some { cls:=.none,data:=.fields ps }:=x
  show h'.get? a=some { cls:=.none,data:=.fields ps }
  exact k a _ (.inl rfl) e
 | met f y=>
  have e:h.get? a=some (PySem.W.methodObj (.ref f) (.ref y)):=x
  show h'.get? a=some (PySem.W.methodObj (.ref f) (.ref y))
  exact k a _ (.inl rfl) e
 | ext φ=>obtain ⟨p,⟨o,e⟩,st⟩:=x;exact ⟨st _ _ p fun o q=>k _ _ (.inl rfl) q,⟨o,k _ _ (.inl rfl) e⟩,st⟩
theorem HOk.lt (x:HOk P w H h) (e:H a=some o):a<h.objs.size:=(x a o e).lt
theorem HOk.fresh (x:HOk P w H h) (e:h.objs.size<=a):H a=none:= by
 cases q:H a with
 | none=>rfl
 | some u=>exact absurd (Nat.lt_of_lt_of_le (x.lt q) e) (Nat.lt_irrefl _)
theorem HOk.kept (x:HOk P w H h) (k : ∀ b u,h.get? b=some u->h'.get? b=some u):HOk P w H h':=fun a o e=>
 (x a o e).stay (fun b u _ q=>k b u q) (fun _ q=>q) fun _ _ q=>q
theorem HOk.laid (x:HOk P w H h) (k : ∀ b u,h.get? b=some u->h'.get? b=some u) (hp:h.objs.size<=a) (new:ObjOk P w (upd H a o) h' a o):HOk P w (upd H a o) h':=fun b u e=>by
 have hn:=x.fresh hp
 by_cases hb:b=a
 ·subst hb;rw[upd_same] at e;cases e;exact new
 ·rw[upd_ne hb] at e
  exact (x b u e).stay (fun c v _ q=>k c v q) (fun c q=>by rw[upd_ne (ne_of_none q hn)];exact q) fun c xs q=>by rw[upd_ne (ne_of_none q hn)];exact q
end
def Rd (H:Hp) (a:Addr) (u:HO):Prop:=H a=some u \/ ∃ o,H a=some (.frz o u)
theorem Rd.ok {P:Program} {w:World} {H:Hp} {h:Heap} {a:Addr} {u:HO} (r:Rd H a u) (x:HOk P w H h):ObjOk P w H h a u:= by
 rcases r with r | ⟨o,r⟩
 ·exact x a u r
 ·obtain ⟨_,q⟩:=x a _ r
  exact q
def Mut:Option HO->Prop
 | some (.lst _)=>True
 | some (.dK _)=>True
 | some (.dT _)=>True
 | some (.set _ _)=>True
 | some (.ins _ _ _)=>True
 | some (.ext _)=>True
 | _=>False
section
variable {P:Program} {w:World} {H:Hp} {h h':Heap} {x e:Addr} {o':HO}
theorem HOk.write (ok:HOk P w H h) (mu:Mut (H x)) (he:e=x\/H e=some (.own x)) (k : ∀ b u,b≠e->h.get? b=some u->h'.get? b=some u) (heo : ∃ u,h'.get? e=some u)
  (new:ObjOk P w (upd H x o') h' x o'):HOk P w (upd H x o') h':=fun b u q=>by
 have nown : ∀ c y,H c=some (.own y)->c≠x:=fun c y r z=>by subst z;rw[r] at mu;exact mu
 have ntup : ∀ c xs,H c=some (.tup xs)->c≠x:=fun c xs r z=>by subst z;rw[r] at mu;exact mu
 by_cases hb:b=x
 ·subst hb;rw[upd_same] at q;cases q;exact new
 ·rw[upd_ne hb] at q
  by_cases hbe:b=e
  ·have q':H b=some (.own x):= by
    rcases he with z | z
    ·exact absurd (hbe.trans z) hb
    ·rw[hbe];exact z
   rw[q] at q';cases q'
   obtain ⟨v,hv⟩:=heo
   exact ⟨v,by rw[hbe];exact hv⟩
  ·refine (ok b u q).stay (fun c v hc r=>k c v ?_ r) (fun c r=>by rw[upd_ne (nown c b r)];exact r) fun c xs r=>by rw[upd_ne (ntup c xs r)];exact r
   rcases hc with rfl | hc
   ·exact hbe
   ·rintro rfl
    rcases he with z | z
    ·exact nown c b hc z
    ·rw[hc] at z;cases z;exact hb rfl
end
structure Un (fs ex:List Addr) (H H':Hp) (h h':Heap):Prop where
 keep : ∀ b o,h.get? b=some o->H b=none->b ∉ fs->b ∉ ex->h'.get? b=some o
 slot : ∀ b o,h.get? b=some o->H b=none->b ∈ fs->b ∉ ex -> ∃ sl,h'.get? b=some { o with slots:=sl }
 free : ∀ b o,h.get? b=some o->H b=none->b ∉ ex->H' b=none
 there : ∀ b o,h.get? b=some o->b ∉ ex -> ∃ o',h'.get? b=some o'
 tups : ∀ b xs,H b=some (.tup xs)->H' b=some (.tup xs)
 frzs : ∀ b o u,H b=some (.frz o u)->H' b=some (.frz o u)
 tbls : ∀ b ps,H b=some (.tbl ps) -> ∃ more,H' b=some (.tbl (ps++more))
section
variable {fs fs' ex ex':List Addr} {H H1 H2:Hp} {h h1 h2 h':Heap} {a x e:Addr} {o:HO}
theorem Un.any (u:Un fs ex H H1 h h1) {b:Addr} {ob:Obj} (q:h.get? b=some ob) (n:H b=none) (hx:b ∉ ex) : ∃ sl,h1.get? b=some { ob with slots:=sl }:= by
 by_cases hb:b ∈ fs
 ·exact u.slot b ob q n hb hx
 ·exact ⟨ob.slots,u.keep b ob q n hb hx⟩
theorem Un.kept (k : ∀ b u,h.get? b=some u->h'.get? b=some u):Un fs ex H H h h':=
 ⟨fun b ob q _ _ _=>k b ob q,fun b ob q _ _ _=>⟨ob.slots,k b ob q⟩,fun _ _ _ n _=>n,fun b ob q _=>⟨ob,k b ob q⟩,fun _ _ q=>q,fun _ _ _ q=>q,fun _ ps q=>⟨#[],by rw[q];simp⟩⟩
theorem Un.refl:Un fs ex H H h h:=Un.kept fun _ _ q=>q
theorem Un.laid (k : ∀ b u,h.get? b=some u->h'.get? b=some u) (hp:h.objs.size<=a) (hn:H a=none):Un fs ex H (upd H a o) h h' where
 keep:=fun b u q _ _ _=>k b u q
 slot:=fun b u q _ _ _=>⟨u.slots,k b u q⟩
 free:=fun b u q n _=>by rw[upd_ne (Nat.ne_of_lt (Nat.lt_of_lt_of_le (Heap.lt_size q) hp))];exact n
 there:=fun b u q _=>⟨u,k b u q⟩
 tups:=fun b xs q=>by rw[upd_ne (ne_of_none q hn)];exact q
 frzs:=fun b u xs q=>by rw[upd_ne (ne_of_none q hn)];exact q
 tbls:=fun b ps q=>⟨#[],by rw[upd_ne (ne_of_none q hn),q];simp⟩
theorem Un.write (mu:Mut (H x)) (he:e=x\/H e=some (.own x)) (k : ∀ b u,b≠e->h.get? b=some u->h'.get? b=some u) (heo : ∃ u,h'.get? e=some u):Un fs ex H (upd H x o) h h':= by
 have hx : ∀ b,H b=none->b≠x:=fun b n z=>by subst z;rw[n] at mu;exact mu
 have hb : ∀ b,H b=none->b≠e:=fun b n z=>by
  subst z
  rcases he with r | r
  ·exact hx b n r
  ·rw[n] at r;cases r
 have hm : ∀ b u,H b=some u -> ¬ Mut (some u)->b≠x:=fun b u q nm z=>by subst z;rw[q] at mu;exact nm mu
 refine ⟨fun b u q n _ _=>k b u (hb b n) q,fun b u q n _ _=>⟨u.slots,k b u (hb b n) q⟩,fun b u q n _=>by rw[upd_ne (hx b n)];exact n,fun b u q _=>?_,
  fun b xs q=>by rw[upd_ne (hm b _ q fun z=>z)];exact q,fun b u xs q=>by rw[upd_ne (hm b _ q fun z=>z)];exact q,fun b ps q=>⟨#[],by rw[upd_ne (hm b _ q fun z=>z),q];simp⟩⟩
 by_cases hbe:b=e
 ·subst hbe;exact heo
 ·exact ⟨u,k b u hbe q⟩
end
def trk (h:Heap) (H:Hp):List Addr:=(List.range h.objs.size).filter fun a=>(H a).isSome
def hidT (h:Heap) (H:Hp):Heap:=PySem.W.hideAll h (trk h H)
theorem hidT_size (h:Heap) (H:Hp):(hidT h H).objs.size=h.objs.size:=PySem.W.hideAll_size _ _
theorem hidT_get {h:Heap} {H:Hp} {b:Addr} {o:Obj} (e:h.get? b=some o) (n:H b=none):(hidT h H).get? b=some o:=
 PySem.W.hideAll_get _ e fun hm=>by
  have q:(H b).isSome=true:=(List.mem_filter.mp hm).2
  rw[n] at q;simp at q
theorem of_hidT {h:Heap} {H:Hp} {b:Addr} {o:Obj} (e:(hidT h H).get? b=some o):h.get? b=some o/\H b=none:= by
 have e':h.get? b=some o:=PySem.W.of_hideAll (trk h H) e
 refine ⟨e',?_⟩
 cases q:H b with
 | none=>rfl
 | some x=>
  have hm:b ∈ trk h H:=List.mem_filter.mpr ⟨List.mem_range.mpr (Heap.lt_size e'),by simp [q]⟩
  have z:(hidT h H).get? b=none:=PySem.W.hideAll_none (trk h H) hm
  rw[z] at e;cases e
def allNews (g h:Heap) (L:Addr):List (Addr × Obj):=(List.range h.objs.size).filterMap fun a=>if a=L\/(g.get? a).isSome=true then none else (h.get? a).map fun o=>(a,o)
theorem mem_allNews {g h:Heap} {L a:Addr} {o:Obj} (h1:a≠L) (h2:g.get? a=none) (h3:h.get? a=some o):(a,o) ∈ allNews g h L:=
 List.mem_filterMap.mpr ⟨a,List.mem_range.mpr (Heap.lt_size h3),by simp [h1,h2,h3]⟩
theorem of_mem_allNews {g h:Heap} {L:Addr} {p:Addr × Obj} (hp:p ∈ allNews g h L):p.1≠L/\g.get? p.1=none/\h.get? p.1=some p.2:= by
 obtain ⟨b,_,e⟩:=List.mem_filterMap.mp hp
 split at e
 ·cases e
 ·rename_i hn
  cases q:h.get? b with
  | none=>rw[q] at e;simp at e
  | some u=>
   rw[q] at e
   simp only [Option.map_some,Option.some.injEq] at e
   subst e
   refine ⟨fun z=>hn (.inl z),?_,q⟩
   show g.get? b=none
   cases r:g.get? b with
   | none=>rfl
   | some v=>exact (hn (.inr (by simp [r]))).elim
def rest (g h:Heap) (L d:Addr):List (Addr × Obj):=(allNews g h L).filter fun p=>decide (p.1≠d)
theorem news_all {g h:Heap} {L:Addr}:News g L h (allNews g h L):=fun p hp=>let ⟨a,b,c⟩:=of_mem_allNews hp;⟨c,a,b⟩
end L2
namespace L2
open PySem PySem.Spec PyProof.Rows
structure Mod (K:PySem.W.Frag) (mg:Str->Option Value) (base:Heap):Prop where
 kin:K.In base
 glob:base.Ns mainGlobals mg
 blt : ∃ mb,base.Ns builtinsNs mb /\ ∀ x : Str,x ≠ "__name__" -> mb x = bootBuiltins x
 nolimit:base.NoLimit
structure Cx where
 prog:Program
 w:World
 K:PySem.W.Frag
 mg:Str->Option Value
 base:Heap
 A:Around
 N:List Str
 s₀:Shared
 H₀:Hp
 env:Env
 outer:List Env
 stack:List Env
 ex:List Addr
 fn:Str->Bool
 calm:Bool
 pn:List (Addr × Obj)
 xe:Value->Shared->Prop
def frs (l:List Env):List Addr:=l.filterMap (·.frame)
abbrev Cx.fs (X:Cx):List Addr:=frs X.outer
def Vis (sc:Scope) (x:Str):Prop:=sc.names.lookup x=some .local\/sc.names.lookup x=some .cell\/sc.names.lookup x=some .free
def Loc (sc:Scope) (x:Str):Prop:=sc.names.lookup x=some .local\/sc.names.lookup x=some .cell
def Look (env:Env) (h:Heap) (m:Str->Option Value) (x:Str) (u:Value):Prop:=
 (env.kindOf x=some .local/\m x=some u)\/((env.kindOf x=some .cell\/env.kindOf x=some .free) /\ ∃ c,env.cells.lookup x=some c/\h.IsCell c (some u))
structure Cx.Ok (X:Cx):Prop where
 mod:Mod X.K X.mg X.base
 kind:X.env.scope.kind = .function
 glob:X.env.globals=mainGlobals
 blt:X.env.builtins=builtinsNs
 above:X.s₀.heap.objs.size<=X.env.locals
 inj : ∀ x y c,X.env.cells.lookup x=some c->X.env.cells.lookup y=some c->x=y
 has : ∀ x,(X.env.kindOf x=some .cell\/X.env.kindOf x=some .free) -> ∃ c,X.env.cells.lookup x=some c
 cab : ∀ x c,X.fn x=true->X.env.cells.lookup x=some c->X.s₀.heap.objs.size<=c
 hd:X.calm=true->X.A.handled=none
 frames:X.A.frames=some X.stack
 stk:X.stack=X.outer\/(X.stack=X.env::X.outer/\X.env.frame=some X.env.locals)
 exf : ∀ b ∈ X.ex,b≠X.env.locals /\ ∀ x c,X.env.cells.lookup x=some c->c≠b
 bs : ∀ b o,X.base.get? b=some o->X.s₀.heap.get? b=some o/\X.H₀ b=none
 bsz:X.base.objs.size<=X.s₀.heap.objs.size
 noex : ∀ b o,X.base.get? b=some o->b ∉ X.ex
 exfs : ∀ b ∈ X.ex,b ∉ X.fs
 funs:X.s₀.heap.FunFrames X.base X.outer
 frf : ∀ b ∈ X.fs,X.H₀ b=none
structure Inv (X:Cx) (pins:List (Addr × Obj)) (σ:List (Option V)) (H:Hp) (s:Shared):Prop where
 ok:X.Ok
 os:s.os=X.s₀.os
 bare:AllBare s.gens
 base:Un X.fs X.ex X.H₀ H X.s₀.heap s.heap
 loc : ∃ m,s.heap.Ns X.env.locals m /\ ∀ (i:Nat) (x:Str) (v:V),X.N[i]?=some x->σ[i]?=some (some v)->Vis X.env.scope x -> ∃ u,RelV v u/\Look X.env s.heap m x u
 cell : ∀ x c,X.env.cells.lookup x=some c -> ∃ v,s.heap.IsCell c v
 free:H X.env.locals=none
 freeC : ∀ x c,X.env.cells.lookup x=some c->H c=none
 pin : ∀ p ∈ X.pn++pins,s.heap.get? p.1=some p.2/\H p.1=none/\p.1≠X.env.locals/\p.1 ∉ X.fs /\ ∀ v,p.2.data ≠ .cell v
 hok:HOk X.prog X.w H s.heap
 len:σ.length=X.N.length
section
variable {X:Cx} {pins:List (Addr × Obj)} {σ:List (Option V)} {H H':Hp} {s:Shared} {h':Heap}
theorem Cx.Ok.nofr (ok:X.Ok) {b:Addr} {o:Obj} (e:X.base.get? b=some o):b ∉ X.fs:=fun hb=>by
 have:=(ok.funs.mem hb).1
 rw[e] at this;cases this
theorem Inv.bs (I:Inv X pins σ H s) : ∀ b o,X.base.get? b=some o->s.heap.get? b=some o/\H b=none:=fun b o e=>
 ⟨I.base.keep b o (I.ok.bs b o e).1 (I.ok.bs b o e).2 (I.ok.nofr e) (I.ok.noex b o e),I.base.free b o (I.ok.bs b o e).1 (I.ok.bs b o e).2 (I.ok.noex b o e)⟩
theorem Inv.bk (I:Inv X pins σ H s) : ∀ b o,X.base.get? b=some o->s.heap.get? b=some o:=fun b o e=>(I.bs b o e).1
theorem Inv.mod (I:Inv X pins σ H s):Mod X.K X.mg X.base:=I.ok.mod
theorem Inv.kIn (I:Inv X pins σ H s):X.K.In s.heap:=I.ok.mod.kin.keeps I.bk
theorem Inv.nolimit (I:Inv X pins σ H s):s.heap.NoLimit:=I.ok.mod.nolimit.keeps I.bk
theorem Inv.fr (I:Inv X pins σ H s) : ∃ m,Fr X.base X.env.locals s.heap m:=
 let ⟨m,hn,_⟩:=I.loc
 ⟨m,hn,I.bk,Nat.le_trans I.ok.bsz I.ok.above⟩
theorem Inv.lt (I:Inv X pins σ H s):X.env.locals<s.heap.objs.size:=let ⟨_,hn,_⟩:=I.loc;hn.lt
theorem Inv.sz (I:Inv X pins σ H s):X.s₀.heap.objs.size<=s.heap.objs.size:=Nat.le_trans I.ok.above (Nat.le_of_lt I.lt)
theorem Inv.nofs (I:Inv X pins σ H s) {a:Addr} (h:s.heap.objs.size<=a):a ∉ X.fs:=fun hb=>by
 obtain ⟨_,o,ho,_⟩:=I.ok.funs.mem hb
 exact absurd (Nat.lt_of_lt_of_le (Heap.lt_size ho) (Nat.le_trans I.sz h)) (Nat.lt_irrefl _)
theorem Inv.cne (I:Inv X pins σ H s) : ∀ x c,X.env.cells.lookup x=some c->c≠X.env.locals:=fun x c e z=>by
 obtain ⟨v,o,ho,hd⟩:=I.cell x c e
 obtain ⟨m,⟨o',es,ep,ho',hd',_⟩,_⟩:=I.loc
 rw[z,ho'] at ho;cases ho;rw[hd'] at hd;cases hd
theorem Inv.funs (I:Inv X pins σ H s):s.heap.FunFrames X.base X.outer:= by
 have all : ∀ (l:List Env),(∀ b ∈ frs l,b ∈ X.fs)->X.s₀.heap.FunFrames X.base l->s.heap.FunFrames X.base l:= by
  intro l
  induction l with
  | nil=>intro _ _;trivial
  | cons env r ih=>
   intro hs hl
   obtain ⟨hk,⟨L,o,hf,hn,ho,hd⟩,hr⟩:=hl
   have hL:L ∈ X.fs:=hs L (by unfold frs;rw[List.filterMap_cons,hf];exact List.mem_cons_self)
   obtain ⟨sl,e⟩:=I.base.slot L o ho (I.ok.frf L hL) hL fun z=>I.ok.exfs L z hL
   exact ⟨hk,⟨L,_,hf,hn,e,hd⟩,ih (fun b hb=>hs b (by unfold frs;rw[List.filterMap_cons,hf];exact List.mem_cons_of_mem _ hb)) hr⟩
 exact all X.outer (fun _ hb=>hb) I.ok.funs
theorem Inv.stack (I:Inv X pins σ H s):s.heap.FunFrames X.base X.stack:= by
 rcases I.ok.stk with e | ⟨e,hf⟩
 ·rw[e];exact I.funs
 ·rw[e]
  obtain ⟨m,hn,_⟩:=I.loc
  refine .cons (by rw[I.ok.kind];decide) hf hn ?_ I.funs
  exact Heap.get?_none_of_le (Nat.le_trans I.ok.bsz I.ok.above)
theorem Inv.stkSub (I:Inv X pins σ H s) : ∀ b ∈ frs X.stack,b ∈ X.env.locals::X.fs:=fun b hb=>by
 rcases I.ok.stk with e | ⟨e,hf⟩
 ·rw[e] at hb;exact List.mem_cons_of_mem _ hb
 ·rw[e] at hb
  unfold frs at hb
  rw[List.filterMap_cons,hf] at hb
  exact hb
theorem Inv.stkFree (I:Inv X pins σ H s) : ∀ b ∈ frs X.stack,H b=none:=fun b hb=>by
 rcases List.mem_cons.mp (I.stkSub b hb) with e | hb
 ·rw[e];exact I.free
 ·obtain ⟨_,o,ho,_⟩:=I.ok.funs.mem hb
  exact I.base.free b o ho (I.ok.frf b hb) fun z=>I.ok.exfs b z hb
theorem Inv.step {g':Array GenState} {t':Nat} {d':Drawn} {ch:List Addr} (I:Inv X pins σ H s)
  (hch : ∀ b ∈ ch,(b ∈ X.ex\/X.s₀.heap.objs.size<=b)/\b≠X.env.locals/\(∀ x c,X.env.cells.lookup x=some c->c≠b) /\ ∀ p ∈ X.pn++pins,p.1≠b)
  (keep : ∀ b o,b≠X.env.locals->b ∉ X.fs->b ∉ ch->s.heap.get? b=some o->H b=none->h'.get? b=some o)
  (slot : ∀ b o,b≠X.env.locals->b ∈ X.fs->b ∉ ch->s.heap.get? b=some o->H b=none -> ∃ sl,h'.get? b=some { o with slots:=sl }) (free : ∀ b o,b ∉ ch->s.heap.get? b=some o->H b=none->H' b=none)
  (there : ∀ b o,b ∉ ch->s.heap.get? b=some o -> ∃ o',h'.get? b=some o')
  (tups : ∀ b xs,H b=some (.tup xs)->H' b=some (.tup xs)) (frzs : ∀ b o u,H b=some (.frz o u)->H' b=some (.frz o u)) (tbls : ∀ b ps,H b=some (.tbl ps) -> ∃ more,H' b=some (.tbl (ps++more)))
  (ns : ∀ m,s.heap.Ns X.env.locals m->h'.Ns X.env.locals m) (hok:HOk X.prog X.w H' h') (hg:AllBare g') :
  Inv X pins σ H' { s with heap:=h',gens:=g',drawn:=d',toks:=t' }:= by
 have neL : ∀ b o,X.s₀.heap.get? b=some o->b≠X.env.locals:=fun b o e=>Nat.ne_of_lt (Nat.lt_of_lt_of_le (Heap.lt_size e) I.ok.above)
 have neC : ∀ b o,X.s₀.heap.get? b=some o->b ∉ X.ex->b ∉ ch:=fun b o e hx hb=>by
  rcases (hch b hb).1 with z | z
  ·exact hx z
  ·exact absurd (Nat.lt_of_lt_of_le (Heap.lt_size e) z) (Nat.lt_irrefl _)
 have cellK : ∀ x c,X.env.cells.lookup x=some c -> ∀ v,s.heap.IsCell c v->h'.IsCell c v:=fun x c e v ⟨o,ho,hd⟩=>by
  have nch:c ∉ ch:=fun z=>(hch c z).2.2.1 x c e rfl
  by_cases hc:c ∈ X.fs
  ·obtain ⟨sl,q⟩:=slot c o (I.cne x c e) hc nch ho (I.freeC x c e)
   exact ⟨_,q,hd⟩
  ·exact ⟨o,keep c o (I.cne x c e) hc nch ho (I.freeC x c e),hd⟩
 refine ⟨I.ok,I.os,hg,⟨fun b o e n hb hx=>?_,fun b o e n hb hx=>?_,fun b o e n hx=>?_,fun b o e hx=>?_,fun b xs e=>tups b xs (I.base.tups b xs e),fun b o xs e=>frzs b o xs (I.base.frzs b o xs e),fun b ps e=>?_⟩,?_,fun x c e=>?_,?_,fun x c e=>?_,fun p hp=>?_,hok,I.len⟩
 ·exact keep b o (neL b o e) hb (neC b o e hx) (I.base.keep b o e n hb hx) (I.base.free b o e n hx)
 ·obtain ⟨sl,e1⟩:=I.base.slot b o e n hb hx
  obtain ⟨sl',e2⟩:=slot b _ (neL b o e) hb (neC b o e hx) e1 (I.base.free b o e n hx)
  exact ⟨sl',e2⟩
 ·obtain ⟨o',e1⟩:=I.base.there b o e hx
  exact free b o' (neC b o e hx) e1 (I.base.free b o e n hx)
 ·obtain ⟨o',e1⟩:=I.base.there b o e hx
  exact there b o' (neC b o e hx) e1
 ·obtain ⟨m1,e1⟩:=I.base.tbls b ps e
  obtain ⟨m2,e2⟩:=tbls b _ e1
  exact ⟨m1++m2,by rw[e2,Array.append_assoc]⟩
 ·obtain ⟨m,hn,hl⟩:=I.loc
  refine ⟨m,ns m hn,fun i x v e1 e2 e3=>?_⟩
  obtain ⟨u,r,l⟩:=hl i x v e1 e2 e3
  refine ⟨u,r,?_⟩
  rcases l with l | ⟨k,c,e,z⟩
  ·exact .inl l
  ·exact .inr ⟨k,c,e,cellK x c e _ z⟩
 ·obtain ⟨v,z⟩:=I.cell x c e
  exact ⟨v,cellK x c e v z⟩
 ·obtain ⟨m,⟨o,_,_,ho,_⟩,_⟩:=I.loc
  exact free _ o (fun z=>(hch _ z).2.1 rfl) ho I.free
 ·obtain ⟨v,o,ho,hd⟩:=I.cell x c e
  exact free c o (fun z=>(hch c z).2.2.1 x c e rfl) ho (I.freeC x c e)
 ·obtain ⟨e,n,ne,nf,d⟩:=I.pin p hp
  have nch:p.1 ∉ ch:=fun z=>(hch p.1 z).2.2.2 p hp rfl
  exact ⟨keep p.1 p.2 ne nf nch e n,free p.1 p.2 nch e n,ne,nf,d⟩
theorem Inv.un {t':Nat} (I:Inv X pins σ H s) (u:Un X.fs [] H H' s.heap h') (hok:HOk X.prog X.w H' h'):Inv X pins σ H' { s with heap:=h',toks:=t' }:= by
 obtain ⟨m,⟨o,es,ep,ho,r⟩,_⟩:=id I.loc
 obtain ⟨sl,hL⟩:=u.any ho I.free (by simp)
 exact I.step (g':=s.gens) (d':=s.drawn) (ch:=[]) (fun _ z=>nomatch z) (fun b o _ hb _ e n=>u.keep b o e n hb (by simp)) (fun b o _ hb _ e n=>u.slot b o e n hb (by simp)) (fun b o _ e n=>u.free b o e n (by simp)) (fun b o _ e=>u.there b o e (by simp)) u.tups u.frzs u.tbls (fun m' hm=>by
  obtain ⟨o',es',ep',ho',r'⟩:=hm
  rw[ho] at ho';cases ho'
  exact ⟨_,es',ep',hL,r'⟩) hok I.bare
theorem Inv.call {g':Array GenState} {t':Nat} {d':Drawn} {ch:List Addr} (I:Inv X pins σ H s) (u:Un (frs X.stack) ch H H' s.heap h') (hok:HOk X.prog X.w H' h') (hg:AllBare g')
  (hch : ∀ b ∈ ch,(b ∈ X.ex\/X.s₀.heap.objs.size<=b)/\b≠X.env.locals/\(∀ x c,X.env.cells.lookup x=some c->c≠b) /\ ∀ p ∈ X.pn++pins,p.1≠b) :
  Inv X pins σ H' { s with heap:=h',gens:=g',drawn:=d',toks:=t' }:= by
 obtain ⟨m,⟨o,es,ep,ho,r⟩,_⟩:=id I.loc
 obtain ⟨sl,hL⟩:=u.any ho I.free fun z=>(hch _ z).2.1 rfl
 exact I.step (ch:=ch) hch (fun b o hL hb hc e n=>u.keep b o e n (fun z=>(List.mem_cons.mp (I.stkSub b z)).elim hL hb) hc) (fun b o _ _ hc e n=>u.any e n hc) (fun b o hc e n=>u.free b o e n hc) (fun b o hc e=>u.there b o e hc) u.tups u.frzs u.tbls (fun m' hm=>by
  obtain ⟨o',es',ep',ho',r'⟩:=hm
  rw[ho] at ho';cases ho'
  exact ⟨_,es',ep',hL,r'⟩) hok hg
theorem Inv.turned {t':Nat} {it:Addr} (I:Inv X pins σ H s) (k : ∀ b o,b≠it->s.heap.get? b=some o->h'.get? b=some o) (hn:H it=none) (hL:it≠X.env.locals)
  (h1:it ∈ X.ex\/X.s₀.heap.objs.size<=it) (h2 : ∀ x c,X.env.cells.lookup x=some c->c≠it) (h3 : ∀ p ∈ X.pn++pins,p.1≠it):Inv X pins σ H { s with heap:=h',toks:=t' }:= by
 have nit : ∀ b u,H b=some u->b≠it:=fun b u e z=>by rw[z,hn] at e;cases e
 refine I.step (g':=s.gens) (d':=s.drawn) (ch:=[it]) (fun b hb=>?_) (fun b o _ _ hc e _=>k b o (fun z=>hc (by simp [z])) e) (fun b o _ _ hc e _=>⟨o.slots,k b o (fun z=>hc (by simp [z])) e⟩) (fun _ _ _ _ n=>n)
  (fun b o hc e=>⟨o,k b o (fun z=>hc (by simp [z])) e⟩) (fun _ _ e=>e) (fun _ _ _ e=>e) (fun b ps e=>⟨#[],by rw[e];simp⟩) (fun m hm=>?_) (fun b u e=>?_) I.bare
 ·have e:b=it:=by simpa using hb
  subst e
  exact ⟨h1,hL,h2,h3⟩
 ·obtain ⟨o,es,ep,ho,r⟩:=hm
  exact ⟨o,es,ep,k _ o (Ne.symm hL) ho,r⟩
 ·refine (I.hok b u e).stay (fun c v hc q=>k c v ?_ q) (fun _ q=>q) fun _ _ q=>q
  rcases hc with z | z
  ·rw[z];exact nit b u e
  ·exact nit c _ z
theorem Inv.tok (I:Inv X pins σ H s) (t:Nat):Inv X pins σ H { s with toks:=t }:=I.un (h':=s.heap) (t':=t) Un.refl I.hok
theorem Inv.kept {t':Nat} (I:Inv X pins σ H s) (k : ∀ b u,s.heap.get? b=some u->h'.get? b=some u):Inv X pins σ H { s with heap:=h',toks:=t' }:=I.un (Un.kept k) (I.hok.kept k)
theorem Inv.laid {a:Addr} {o:HO} {t':Nat} (I:Inv X pins σ H s) (k : ∀ b u,s.heap.get? b=some u->h'.get? b=some u) (hp:s.heap.objs.size<=a) (new:ObjOk X.prog X.w (upd H a o) h' a o) :
  Inv X pins σ (upd H a o) { s with heap:=h',toks:=t' }:=I.un (Un.laid k hp (I.hok.fresh hp)) (I.hok.laid k hp new)
theorem Inv.write {x e:Addr} {o:HO} {t':Nat} (I:Inv X pins σ H s) (mu:Mut (H x)) (he:e=x\/H e=some (.own x)) (k : ∀ b u,b≠e->s.heap.get? b=some u->h'.get? b=some u) (heo : ∃ u,h'.get? e=some u)
  (new:ObjOk X.prog X.w (upd H x o) h' x o):Inv X pins σ (upd H x o) { s with heap:=h',toks:=t' }:=I.un (Un.write mu he k heo) (I.hok.write mu he k heo new)
theorem Inv.weak {σ':List (Option V)} (I:Inv X pins σ H s) (hl:σ'.length=σ.length) (w : ∀ (i:Nat) v,σ'[i]?=some (some v)->σ[i]?=some (some v)):Inv X pins σ' H s:=
 ⟨I.ok,I.os,I.bare,I.base,let ⟨m,hn,hl'⟩:=I.loc;⟨m,hn,fun i x v e1 e2 e3=>hl' i x v e1 (w i v e2) e3⟩,I.cell,I.free,I.freeC,I.pin,I.hok,hl.trans I.len⟩
theorem Inv.pins_of {pins':List (Addr × Obj)} (I:Inv X pins σ H s) (h : ∀ p ∈ pins',s.heap.get? p.1=some p.2/\H p.1=none/\p.1≠X.env.locals/\p.1 ∉ X.fs /\ ∀ v,p.2.data ≠ .cell v):Inv X pins' σ H s:=
 ⟨I.ok,I.os,I.bare,I.base,I.loc,I.cell,I.free,I.freeC,fun p hp=>(List.mem_append.mp hp).elim (fun z=>I.pin p (List.mem_append_left _ z)) (h p),I.hok,I.len⟩
theorem nodup_ix {N:List Str} (hN:N.Nodup) {i j:Nat} {x:Str} (a:N[i]?=some x) (b:N[j]?=some x):i=j:= by
 obtain ⟨h1,e1⟩:=List.getElem?_eq_some_iff.mp a
 obtain ⟨h2,e2⟩:=List.getElem?_eq_some_iff.mp b
 exact (List.getElem_inj hN).mp (e1.trans e2.symm)
theorem store_ok2 {M:Model} {A:Around} {E:Value->Shared->Prop} {i:Nat} {x:Str} {v:V} {u:Value} {Q:Unit->Shared->Prop} (I:Inv X pins σ H s) (hN:X.N.Nodup) (hi:X.N[i]?=some x) (hx:Loc X.env.scope x) (r:RelV v u)
  (h : ∀ s',Inv X pins (σ.set i (some v)) H s'->(∃ a,Heap.SameBut a s.heap s'.heap/\(a=X.env.locals\/X.env.cells.lookup x=some a))->Q () s') (hf:X.fn x=true\/X.env.scope.names.lookup x=some .local:=by first | exact .inl rfl | exact .inr rfl | assumption):wpAny M A (storeName X.env x u) Q E s:= by
 obtain ⟨m,hn,hl⟩:=id I.loc
 have hcls:(X.env.scope.kind == .class||(X.env.scope.kind == .module&&X.env.locals != X.env.globals))=false:=by rw[I.ok.kind];rfl
 have hiσ:i<σ.length:=by rw[I.len];exact (List.getElem?_eq_some_iff.mp hi).1
 have cne:=I.cne
 have tracked : ∀ {a:Addr} {h':Heap},(∃ o,s.heap.get? a=some o/\H a=none)->Heap.SameBut a s.heap h'->HOk X.prog X.w H h':=fun {a h'} ha hs b ob e=>by
  obtain ⟨_,_,hfree⟩:=ha
  refine (I.hok b ob e).stay (fun c w' hc q=>(hs.2 c ?_).trans q) (fun _ q=>q) fun _ _ q=>q
  rintro rfl
  rcases hc with rfl | hc
  ·rw[hfree] at e;cases e
  ·rw[hfree] at hc;cases hc
 rcases hx with hk | hk
 ·refine wpAny_storeName_local hk hn (fun h' hn' hs=>?_) hcls
  obtain ⟨oL,_,_,hoL,_⟩:=id hn
  refine h _ ⟨I.ok,I.os,I.bare,⟨fun b o e n hb hx=>?_,fun b o e n hb hx=>?_,I.base.free,fun b o e hx=>?_,I.base.tups,I.base.frzs,I.base.tbls⟩,⟨_,hn',fun j y v' e1 e2 e3=>?_⟩,fun y c e=>?_,I.free,I.freeC,fun p hp=>?_,tracked ⟨oL,hoL,I.free⟩ hs,by simpa using I.len⟩ ⟨_,hs,.inl rfl⟩
  ·exact (hs.2 b (Nat.ne_of_lt (Nat.lt_of_lt_of_le (Heap.lt_size e) I.ok.above))).trans (I.base.keep b o e n hb hx)
  ·obtain ⟨sl,e1⟩:=I.base.slot b o e n hb hx
   exact ⟨sl,(hs.2 b (Nat.ne_of_lt (Nat.lt_of_lt_of_le (Heap.lt_size e) I.ok.above))).trans e1⟩
  ·obtain ⟨o',e1⟩:=I.base.there b o e hx
   exact ⟨o',(hs.2 b (Nat.ne_of_lt (Nat.lt_of_lt_of_le (Heap.lt_size e) I.ok.above))).trans e1⟩
  ·by_cases hj:j=i
   ·subst hj
    rw[hi] at e1;cases e1
    rw[List.getElem?_set_self hiσ] at e2
    cases e2
    exact ⟨u,r,.inl ⟨hk,by simp⟩⟩
   ·rw[List.getElem?_set_ne (Ne.symm hj)] at e2
    obtain ⟨u',r',q⟩:=hl j y v' e1 e2 e3
    refine ⟨u',r',?_⟩
    rcases q with ⟨k,e⟩ | ⟨k,c,e,z⟩
    ·refine .inl ⟨k,?_⟩
     have:y≠x:=fun e=>hj (nodup_ix hN e1 (e ▸ hi))
     simp [this,e]
    ·exact .inr ⟨k,c,e,z.sameBut hs (cne y c e)⟩
  ·obtain ⟨w',z⟩:=I.cell y c e
   exact ⟨w',z.sameBut hs (cne y c e)⟩
  ·obtain ⟨e,n,ne,nf,d⟩:=I.pin p hp
   exact ⟨(hs.2 p.1 ne).trans e,n,ne,nf,d⟩
 ·have hfn:X.fn x=true:= by
   rcases hf with z | z
   ·exact z
   ·rw[z] at hk;cases hk
  obtain ⟨c,hc⟩:=I.ok.has x (.inl hk)
  obtain ⟨w',z⟩:=I.cell x c hc
  refine wpAny_storeName_cell I.ok.kind hk hc z (fun h' hc' hs=>?_)
  obtain ⟨oc,hoc,hocd⟩:=id z
  refine h { s with heap:=h' } ⟨I.ok,I.os,I.bare,⟨fun b o e n hb hx=>?_,fun b o e n hb hx=>?_,I.base.free,fun b o e hx=>?_,I.base.tups,I.base.frzs,I.base.tbls⟩,⟨m,hn.sameBut hs (Ne.symm (cne x c hc)),fun j y v' e1 e2 e3=>?_⟩,fun y c' e=>?_,I.free,I.freeC,fun p hp=>?_,tracked ⟨oc,hoc,I.freeC x c hc⟩ hs,by simpa using I.len⟩ ⟨c,hs,.inr hc⟩
  ·exact (hs.2 b (Nat.ne_of_lt (Nat.lt_of_lt_of_le (Heap.lt_size e) (I.ok.cab x c hfn hc)))).trans (I.base.keep b o e n hb hx)
  ·obtain ⟨sl,e1⟩:=I.base.slot b o e n hb hx
   exact ⟨sl,(hs.2 b (Nat.ne_of_lt (Nat.lt_of_lt_of_le (Heap.lt_size e) (I.ok.cab x c hfn hc)))).trans e1⟩
  ·obtain ⟨o',e1⟩:=I.base.there b o e hx
   exact ⟨o',(hs.2 b (Nat.ne_of_lt (Nat.lt_of_lt_of_le (Heap.lt_size e) (I.ok.cab x c hfn hc)))).trans e1⟩
  ·by_cases hj:j=i
   ·subst hj
    rw[hi] at e1;cases e1
    rw[List.getElem?_set_self hiσ] at e2
    cases e2
    exact ⟨u,r,.inr ⟨.inl hk,c,hc,hc'⟩⟩
   ·rw[List.getElem?_set_ne (Ne.symm hj)] at e2
    obtain ⟨u',r',q⟩:=hl j y v' e1 e2 e3
    refine ⟨u',r',?_⟩
    rcases q with q | ⟨k,c',e,z'⟩
    ·exact .inl q
    ·refine .inr ⟨k,c',e,z'.sameBut hs ?_⟩
     rintro rfl
     exact hj (nodup_ix hN e1 (I.ok.inj _ _ _ e hc ▸ hi))
  ·by_cases hcc:c'=c
   ·subst hcc;exact ⟨_,hc'⟩
   ·obtain ⟨w2,z2⟩:=I.cell y c' e
    exact ⟨w2,z2.sameBut hs hcc⟩
  ·obtain ⟨e,n,ne,nf,d⟩:=I.pin p hp
   refine ⟨(hs.2 p.1 ?_).trans e,n,ne,nf,d⟩
   intro q
   rw[q,hoc] at e
   have q':oc=p.2:=Option.some.inj e
   exact d w' (by rw[<- q'];exact hocd)
theorem store_ok {M:Model} {A:Around} {E:Value->Shared->Prop} {i:Nat} {x:Str} {v:V} {u:Value} {Q:Unit->Shared->Prop} (I:Inv X pins σ H s) (hN:X.N.Nodup) (hi:X.N[i]?=some x) (hx:Loc X.env.scope x) (r:RelV v u)
  (h : ∀ s',Inv X pins (σ.set i (some v)) H s'->Q () s') (hf:X.fn x=true\/X.env.scope.names.lookup x=some .local:=by first | exact .inl rfl | exact .inr rfl | assumption):wpAny M A (storeName X.env x u) Q E s:=
 store_ok2 I hN hi hx r (fun s' I' _=>h s' I') hf
theorem Inv.call' {s':Shared} {ch:List Addr} (I:Inv X pins σ H s) (ho:s'.os=s.os) (u:Un (frs X.stack) ch H H' s.heap s'.heap) (hok:HOk X.prog X.w H' s'.heap) (hg:AllBare s'.gens)
  (hch : ∀ b ∈ ch,(b ∈ X.ex\/X.s₀.heap.objs.size<=b)/\b≠X.env.locals/\(∀ x c,X.env.cells.lookup x=some c->c≠b) /\ ∀ p ∈ X.pn++pins,p.1≠b):Inv X pins σ H' s':= by
 obtain ⟨h',g',d',t',o'⟩:=s'
 have e:o'=s.os:=ho
 subst e
 exact I.call (g':=g') (t':=t') (d':=d') u hok hg hch
end
abbrev XK:=Value->Option Addr->Hp->Prop
abbrev St:=List (Option V)
abbrev VK:=V->Hp->Prop
abbrev TE:=St->Hp->VK->Prop
abbrev TT:=St->Hp->(Bool->Hp->Prop)->Prop
abbrev TA:=St->Hp->(List V->Hp->Prop)->Prop
structure Ends where
 nx:St->Hp->Prop
 rt:VK
 bk:St->Hp->Prop:=fun _ _=>False
 ct:St->Hp->Prop:=fun _ _=>False
abbrev TS:=Ends->St->Hp->Prop
def EP (X:Cx) (pins:List (Addr × Obj)) (σ:St) (Q:VK) (u:Value) (s':Shared):Prop:=∃ v H',Inv X pins σ H' s'/\RelV v u/\Q v H'
def TP (X:Cx) (pins:List (Addr × Obj)) (σ:St) (Q:Bool->Hp->Prop) (b:Bool) (s':Shared):Prop:=∃ H',Inv X pins σ H' s'/\Q b H'
def AP (X:Cx) (pins:List (Addr × Obj)) (σ:St) (Q:List V->Hp->Prop) (us:List Value) (s':Shared):Prop:=∃ vs H',Inv X pins σ H' s'/\Vals vs us/\Q vs H'
def SP (X:Cx) (pins:List (Addr × Obj)) (D:Ends) (f:Flow) (s':Shared):Prop:=
 match f with
 | .next=>∃ σ' H',Inv X pins σ' H' s'/\D.nx σ' H'
 | .brk=>∃ σ' H',Inv X pins σ' H' s'/\D.bk σ' H'
 | .cont=>∃ σ' H',Inv X pins σ' H' s'/\D.ct σ' H'
 | .ret u=>∃ v σ' H',Inv X pins σ' H' s'/\RelV v u/\D.rt v H'
def PE (X:Cx) (e:Expr) (t:TE):Prop:=
 ∀ (pins:List (Addr × Obj)) (s:Shared) (σ:St) (H:Hp) (Q:VK),Inv X pins σ H s->t σ H Q->wpAny (model X.prog X.w) X.A (eval e X.env) (EP X pins σ Q) X.xe s
def PT (X:Cx) (e:Expr) (t:TT):Prop:=
 ∀ (pins:List (Addr × Obj)) (s:Shared) (σ:St) (H:Hp) (Q:Bool->Hp->Prop),Inv X pins σ H s->t σ H Q->wpAny (model X.prog X.w) X.A (isTrue e X.env (eval e X.env)) (TP X pins σ Q) X.xe s
def PW (X:Cx) (e:Expr) (t:TT):Prop:=
 ∀ (whole:Sem Value) (pins:List (Addr × Obj)) (s:Shared) (σ:St) (H:Hp) (Q:Bool->Hp->Prop),Inv X pins σ H s->t σ H Q->wpAny (model X.prog X.w) X.A (isTrue e X.env whole) (TP X pins σ Q) X.xe s
theorem PW.pt {X:Cx} {e:Expr} {t:TT} (h:PW X e t):PT X e t:=h _
def PA (X:Cx) (es:List Expr) (t:TA):Prop:=
 ∀ (pos:Pos) (pins:List (Addr × Obj)) (s:Shared) (σ:St) (H:Hp) (Q:List V->Hp->Prop),Inv X pins σ H s->t σ H Q->wpAny (model X.prog X.w) X.A (spliced (backTo pos (starEach es X.env))) (AP X pins σ Q) X.xe s
def PS (X:Cx) (st:Stmt) (t:TS):Prop:=
 ∀ (pins:List (Addr × Obj)) (s:Shared) (σ:St) (H:Hp) (D:Ends),Inv X pins σ H s->t D σ H->wpAny (model X.prog X.w) X.A (exec st X.env) (SP X pins D) X.xe s
def PSs (X:Cx) (st:List Stmt) (t:TS):Prop:=
 ∀ (pins:List (Addr × Obj)) (s:Shared) (σ:St) (H:Hp) (D:Ends),Inv X pins σ H s->t D σ H->wpAny (model X.prog X.w) X.A (execs st X.env) (SP X pins D) X.xe s
theorem thn {α:Type} {t:Sem α} {Q Q':α->Shared->Prop} {M:Model} {A:Around} {E:Value->Shared->Prop} {s:Shared} (h:wpAny M A t Q E s) (hQ : ∀ a s,Q a s->Q' a s):wpAny M A t Q' E s:=wpAny_mono h hQ fun _ _ x=>x
end L2
namespace L2
open PySem PySem.Spec PyProof.Rows
section
variable {X:Cx}
theorem bin {a b:Expr} {ta tb:TE} (ha:PE X a ta) (hb:PE X b tb) {pins:List (Addr × Obj)} {s:Shared} {σ:St} {H:Hp} {R:V->V->Hp->Prop} (I:Inv X pins σ H s) (h:ta σ H fun x H1=>tb σ H1 fun y H2=>R x y H2)
  {α:Type} {Q:α->Shared->Prop} {f:Value->Value->Sem α}
  (hf : ∀ v u s2 x y H2,Inv X pins σ H2 s2->RelV x v->RelV y u->R x y H2->wpAny (model X.prog X.w) X.A (f v u) Q X.xe s2) :
  wpAny (model X.prog X.w) X.A (eval a X.env) (fun v s₁=>wpAny (model X.prog X.w) X.A (eval b X.env) (fun u s₂=>wpAny (model X.prog X.w) X.A (f v u) Q X.xe s₂) X.xe s₁) X.xe s:= by
 refine thn (ha pins s σ H _ I h) fun v s1 ⟨x,H1,I1,r1,q1⟩=>?_
 refine thn (hb pins s1 σ H1 _ I1 q1) fun u s2 ⟨y,H2,I2,r2,q2⟩=>?_
 exact hf v u s2 x y H2 I2 r1 r2 q2
def tVar (i:Nat):TE:=fun σ H Q=>∃ v,σ[i]?=some (some v)/\Q v H
def tC (v:V):TE:=fun _ H Q=>Q v H
theorem pe_var {i : Nat} {x : Str} {pos : Pos} (hN : X.N[i]? = some x) (hv : Vis X.env.scope x) (hd : (x == ("__debug__" : Str)) = false:=by decide) (hcd : (x == ("__classdict__" : Str)) = false:=by decide) : PE X (.Name x pos) (tVar i):= by
 intro pins s σ H Q I h
 obtain ⟨v,e,h⟩:=h
 obtain ⟨m,hn,hl⟩:=I.loc
 obtain ⟨u,r,l⟩:=hl i x v hN e hv
 have fin:EP X pins σ Q u s:=⟨v,H,I,r,h⟩
 rcases l with ⟨hk,hm⟩ | ⟨hk,c,hc,hcell⟩
 ·exact wpAny_Name (wpAny_loadName_local I.ok.kind hk hn hm fin) hd
 ·rcases hk with hk | hk
  ·exact wpAny_Name (wpAny_loadName_cell I.ok.kind hk hc hcell fin) hd
  ·exact wpAny_Name (wpAny_loadName_free I.ok.kind hk hc hcell fin hcd) hd
theorem pe_int {i j pos}:PE X (.Constant (.int i) j pos) (tC (.int i)):=fun _ _ _ H _ I h=>wpAny_Constant_int ⟨.int i,H,I.tok _,⟨_,rfl⟩,h⟩
theorem pe_bl {b j pos}:PE X (.Constant (.bool b) j pos) (tC (.bl b)):=fun _ _ _ H _ I h=>Constant_bool ⟨.bl b,H,I,rfl,h⟩
theorem pe_str {x j pos}:PE X (.Constant (.str x) j pos) (tC (.str x)):=fun _ _ _ H _ I h=>Calls.Constant_str ⟨.str x,H,I.tok _,⟨_,rfl⟩,h⟩
def Gl (X:Cx) (x:Str):Prop:=X.env.kindOf x=some .globalImplicit
theorem ld_glob {E:Value->Shared->Prop} {pins:List (Addr × Obj)} {s:Shared} {σ:St} {H:Hp} {x:Str} {u:Value} {pos:Pos} {Q:Value->Shared->Prop} (I:Inv X pins σ H s) (hg:Gl X x) (hm:X.mg x=some u) (h:Q u s)
  (hd : (x == ("__debug__" : Str)) = false:=by decide) : wpAny (model X.prog X.w) X.A (eval (.Name x pos) X.env) Q E s:=
 Calls.Name_function_global I.ok.kind hg (Calls.loadGlobal_global (by rw[I.ok.glob];exact I.mod.glob.keeps I.bk) hm h) hd
theorem ld_blt {E:Value->Shared->Prop} {pins:List (Addr × Obj)} {s:Shared} {σ:St} {H:Hp} {x:Str} {u:Value} {pos:Pos} {Q:Value->Shared->Prop} (I:Inv X pins σ H s) (hg:Gl X x) (hm:X.mg x=none) (hv:bootBuiltins x=some u) (h:Q u s)
  (hn : x ≠ "__name__":=by decide) (hd : (x == ("__debug__" : Str)) = false:=by decide) : wpAny (model X.prog X.w) X.A (eval (.Name x pos) X.env) Q E s:= by
 obtain ⟨mb,h1,h2⟩:=I.mod.blt
 exact Calls.Name_function_global I.ok.kind hg (Calls.loadGlobal_builtin (by rw[I.ok.glob];exact I.mod.glob.keeps I.bk) hm (by rw[I.ok.blt];exact h1.keeps I.bk) ((h2 x hn).trans hv) h) hd
theorem pe_glob {x : Str} {v : V} {u : Value} {pos : Pos} (hg : Gl X x) (hm : X.mg x = some u) (r : RelV v u) (hd : (x == ("__debug__" : Str)) = false:=by decide) : PE X (.Name x pos) (tC v):=
 fun _ _ _ H _ I h=>ld_glob I hg hm ⟨v,H,I,r,h⟩ hd
theorem pe_bltn {x : Str} {v : V} {u : Value} {pos : Pos} (hg : Gl X x) (hm : X.mg x = none) (hv : bootBuiltins x = some u) (r : RelV v u) (hn : x ≠ "__name__":=by decide) (hd : (x == ("__debug__" : Str)) = false:=by decide) : PE X (.Name x pos) (tC v):=
 fun _ _ _ H _ I h=>ld_blt I hg hm hv ⟨v,H,I,r,h⟩ hn hd
variable {a b:Expr} {ta tb:TE} {pos:Pos}
def PC (X:Cx) (op:CmpOp) (a b:Expr) (t:TE):Prop:=
 ∀ (pins:List (Addr × Obj)) (s:Shared) (σ:St) (H:Hp) (Q:VK),Inv X pins σ H s->t σ H Q ->
  wpAny (model X.prog X.w) X.A (eval a X.env) (fun v s₁=>wpAny (model X.prog X.w) X.A (eval b X.env) (fun u s₂=>wpAny (model X.prog X.w) X.A (compareOp op v u) (EP X pins σ Q) X.xe s₂) X.xe s₁) X.xe s
theorem nobehind (b:Expr) {op:CmpOp} (h:op ≠ .In) (h2:op ≠ .NotIn):behindInMarks op b=false:= by
 have e1:(op==CmpOp.In)=false:=by cases op <;> first | rfl | exact absurd rfl h
 have e2:(op==CmpOp.NotIn)=false:=by cases op <;> first | rfl | exact absurd rfl h2
 cases b <;> simp [behindInMarks,e1,e2]
def tB (t:TE):TT:=fun σ H Q=>t σ H fun x H1=>∃ c,x = .bl c/\Q c H1
theorem pt_cmp {op:CmpOp} {t:TE} (h:PC X op a b t) (h1:behindInMarks op b=false:=by first | exact nobehind _ (by decide) (by decide) | rfl):PT X (.Compare a [op] [b] pos) (tB t):= by
 intro pins s σ H Q I hw
 refine wpAny_isTrue_Compare1 (thn (h pins s σ H _ I hw) fun v s1 h1=>thn h1 fun u s2 h2=>thn h2 fun c s3 ⟨x,H1,I1,r1,q1⟩=>?_) h1
 obtain ⟨d,rfl,q⟩:=q1
 cases r1
 exact wpAny_truthy_bool ⟨H1,I1,q⟩
theorem pt_val {e:Expr} {t:TE} (h:PE X e t) (he : ∀ whole,isTrue e X.env whole=(do let v <- whole;standAt e.pos;holding [v] (truthy v)):=by intro _;rfl):PT X e (tB t):= by
 intro pins s σ H Q I hw
 refine isTrue_plain (thn (h pins s σ H _ I hw) fun v s1 ⟨x,H1,I1,r1,q1⟩=>?_) (he _)
 obtain ⟨d,rfl,q⟩:=q1
 cases r1
 exact wpAny_truthy_bool ⟨H1,I1,q⟩
variable {tA tB':TT} {rest:List Expr}
def tAnd (t u:TT):TT:=fun σ H Q=>t σ H fun c H1=>if c=true then u σ H1 Q else Q false H1
def tOr (t u:TT):TT:=fun σ H Q=>t σ H fun c H1=>if c=true then Q true H1 else u σ H1 Q
def tNot (t:TT):TT:=fun σ H Q=>t σ H fun c H1=>Q (!c) H1
theorem pw_and1 (ha:PT X a tA):PW X (.BoolOp .And [a] pos) tA:= by
 intro wh pins s σ H Q I h
 refine isTrue_and (thn (ha pins s σ H Q I h) fun c s1 e=>?_)
 cases c with
 | true=>exact isTrue_and_nil e
 | false=>exact e
theorem pw_or1 (ha:PT X a tA):PW X (.BoolOp .Or [a] pos) tA:= by
 intro wh pins s σ H Q I h
 refine isTrue_or (thn (ha pins s σ H Q I h) fun c s1 e=>?_)
 cases c with
 | false=>exact isTrue_or_nil e
 | true=>exact e
theorem pw_and (ha:PT X a tA) (hb:PW X (.BoolOp .And (b::rest) pos) tB'):PW X (.BoolOp .And (a::b::rest) pos) (tAnd tA tB'):= by
 intro wh pins s σ H Q I h
 refine isTrue_and (thn (ha pins s σ H _ I h) fun c s1 ⟨H1,I1,q1⟩=>?_)
 cases c with
 | true=>exact hb wh pins s1 σ H1 Q I1 q1
 | false=>exact ⟨H1,I1,q1⟩
theorem pw_or (ha:PT X a tA) (hb:PW X (.BoolOp .Or (b::rest) pos) tB'):PW X (.BoolOp .Or (a::b::rest) pos) (tOr tA tB'):= by
 intro wh pins s σ H Q I h
 refine isTrue_or (thn (ha pins s σ H _ I h) fun c s1 ⟨H1,I1,q1⟩=>?_)
 cases c with
 | true=>exact ⟨H1,I1,q1⟩
 | false=>exact hb wh pins s1 σ H1 Q I1 q1
theorem pt_not (ha:PT X a tA):PT X (.UnaryOp .Not a pos) (tNot tA):= by
 intro pins s σ H Q I h
 exact isTrue_not (ha pins s σ H (fun c H1=>Q (!c) H1) I h)
def tAndV (ta tb:TE):TE:=fun σ H Q=>ta σ H fun x H1=>∃ c,x = .bl c/\if c=true then tb σ H1 Q else Q (.bl false) H1
def tNotV (ta:TE):TE:=fun σ H Q=>ta σ H fun x H1=>∃ c,x = .bl c/\Q (.bl (!c)) H1
theorem pe_one {op} {t:TE} (h:PE X a t):PE X (.BoolOp op [a] pos) t:=fun pins s σ H Q I hw=>BoolOp_one (h pins s σ H Q I hw)
theorem pe_and (ha:PE X a ta) (hb:PE X (.BoolOp .And (b::rest) pos) tb):PE X (.BoolOp .And (a::b::rest) pos) (tAndV ta tb):= by
 intro pins s σ H Q I h
 refine BoolOp_and (thn (ha pins s σ H _ I h) fun v s1 ⟨x,H1,I1,r1,q1⟩=>?_)
 obtain ⟨c,rfl,q1⟩:=q1
 cases r1
 refine wpAny_truthy_bool ?_
 cases c with
 | true=>exact hb pins s1 σ H1 Q I1 q1
 | false=>exact ⟨.bl false,H1,I1,rfl,q1⟩
theorem pe_not (ha:PE X a ta):PE X (.UnaryOp .Not a pos) (tNotV ta):= by
 intro pins s σ H Q I h
 refine UnaryOp_ (thn (ha pins s σ H _ I h) fun v s1 ⟨x,H1,I1,r1,q1⟩=>?_)
 obtain ⟨c,rfl,q1⟩:=q1
 cases r1
 exact not_of (wpAny_truthy_bool ⟨.bl (!c),H1,I1,rfl,q1⟩)
def tIf (t:TT) (ta tb:TE):TE:=fun σ H Q=>t σ H fun c H1=>if c=true then ta σ H1 Q else tb σ H1 Q
theorem pe_ifExp {c:Expr} (hc:PT X c tA) (ha:PE X a ta) (hb:PE X b tb):PE X (.IfExp c a b pos) (tIf tA ta tb):= by
 intro pins s σ H Q I h
 refine wpAny_IfExp (thn (hc pins s σ H _ I h) fun d s1 ⟨H1,I1,q1⟩=>?_)
 cases d with
 | true=>exact ha pins s1 σ H1 Q I1 q1
 | false=>exact hb pins s1 σ H1 Q I1 q1
end
end L2
namespace L2
open PySem PySem.Spec PyProof.Rows
def SqL (K:PySem.W.Frag) (H:Hp) (a:Addr) (xs:List V):Prop:=
 Rd H a (.lst xs) \/
  ∃ (o : Obj) (its : Array Value) (n : Nat),K.lookup a = some o /\ o.cls = .type "list" /\ o.dict = none /\ o.data = .seq its n /\ its.size <= sizeLine /\ Vals xs its.toList
def SqT (K:PySem.W.Frag) (H:Hp) (a:Addr) (xs:List V):Prop:=
 Rd H a (.tup xs) \/
  ∃ (o : Obj) (its : Array Value) (n : Nat),K.lookup a = some o /\ o.cls = .type "tuple" /\ o.data = .seq its n /\ its.size <= sizeLine /\ Vals xs its.toList
def absV:Value->Option V
 | .none=>some .non
 | .bool b=>some (.bl b)
 | .int i _=>some (.int i)
 | .str x _=>some (.str x)
 | .bytes b _=>some (.byt b)
 | .float b _=>some (.flt b)
 | .ref a=>some (.ref a)
 | .type n=>some (.ty n)
 | _=>none
theorem RelV.abs {x:V} {u:Value} (r:RelV x u):absV u=some x:= by
 cases x with
 | non=>cases r;rfl
 | bl _=>cases r;rfl
 | int _=>obtain ⟨t,rfl⟩:=r;rfl
 | str _=>obtain ⟨t,rfl⟩:=r;rfl
 | byt _=>obtain ⟨t,rfl⟩:=r;rfl
 | flt _=>obtain ⟨t,rfl⟩:=r;rfl
 | ref _=>cases r;rfl
 | ty _=>cases r;rfl
theorem RelV.inj {x y:V} {u:Value} (r:RelV x u) (q:RelV y u):x=y:=Option.some.inj (r.abs.symm.trans q.abs)
theorem Vals.inj : ∀ {xs ys:List V} {us:List Value},Vals xs us->Vals ys us->xs=ys
 | _,_,_,.nil,.nil=>rfl
 | _,_,_,.cons r t,.cons r' t'=>by rw[r.inj r',Vals.inj t t']
section
variable {X:Cx} {pins:List (Addr × Obj)} {σ:St} {H:Hp} {s:Shared} {a:Addr} {xs ys:List V}
theorem SqL.of {K:PySem.W.Frag} (h:H a=some (.lst xs)):SqL K H a xs:=.inl (.inl h)
theorem SqT.of {K:PySem.W.Frag} (h:H a=some (.tup xs)):SqT K H a xs:=.inl (.inl h)
theorem Inv.list (I:Inv X pins σ H s) (h:SqL X.K H a xs) : ∃ its:List Value,Vals xs its/\PlainL s.heap a its.toArray/\xs.length<=sizeLine:= by
 rcases h with h | ⟨o,its,n,hk,hc,hd,hs,hz,r⟩
 ·obtain ⟨z,its,n,r,e⟩:=h.ok I.hok
  exact ⟨its,r,⟨_,n,e,rfl,rfl,rfl⟩,z⟩
 ·refine ⟨its.toList,r,⟨o,n,I.kIn a o hk,hc,hd,by simpa using hs⟩,?_⟩
  have e:=r.length
  simp only [Array.length_toList] at e
  omega
theorem Inv.tuple (I:Inv X pins σ H s) (h:SqT X.K H a xs) : ∃ its:List Value,Vals xs its/\IsTup s.heap a its.toArray/\xs.length<=sizeLine:= by
 rcases h with h | ⟨o,its,n,hk,hc,hs,hz,r⟩
 ·obtain ⟨z,its,r,p⟩:=h.ok I.hok
  exact ⟨its,r,p,z⟩
 ·refine ⟨its.toList,r,⟨o,I.kIn a o hk,hc,n,by simpa using hs⟩,?_⟩
  have e:=r.length
  simp only [Array.length_toList] at e
  omega
theorem Inv.list_inj (I:Inv X pins σ H s) (h:SqL X.K H a xs) (h':SqL X.K H a ys):xs=ys:= by
 obtain ⟨its,r,⟨o,n,e,_,_,d⟩,_⟩:=I.list h
 obtain ⟨its',r',⟨o',n',e',_,_,d'⟩,_⟩:=I.list h'
 rw[e] at e';cases e'
 rw[d] at d'
 injection d' with d1 _
 have:its=its':=by simpa using congrArg Array.toList d1
 subst this
 exact r.inj r'
theorem Inv.tuple_inj (I:Inv X pins σ H s) (h:SqT X.K H a xs) (h':SqT X.K H a ys):xs=ys:= by
 obtain ⟨its,r,⟨o,e,_,n,d⟩,_⟩:=I.tuple h
 obtain ⟨its',r',⟨o',e',_,n',d'⟩,_⟩:=I.tuple h'
 rw[e] at e';cases e'
 rw[d] at d'
 injection d' with d1 _
 have:its=its':=by simpa using congrArg Array.toList d1
 subst this
 exact r.inj r'
end
abbrev Cx.wish (X:Cx) (E:Value->Shared->Prop):Cx:={ X with xe:=E }
abbrev Cx.nox (X:Cx):Cx:=X.wish fun _ _=>False
theorem Cx.Ok.wish {X:Cx} (ok:X.Ok) (E:Value->Shared->Prop):(X.wish E).Ok:=
 ⟨ok.mod,ok.kind,ok.glob,ok.blt,ok.above,ok.inj,ok.has,ok.cab,ok.hd,ok.frames,ok.stk,ok.exf,ok.bs,ok.bsz,ok.noex,ok.exfs,ok.funs,ok.frf⟩
theorem Cx.Ok.unwish {X:Cx} {E:Value->Shared->Prop} (ok:(X.wish E).Ok):X.Ok:=
 ⟨ok.mod,ok.kind,ok.glob,ok.blt,ok.above,ok.inj,ok.has,ok.cab,ok.hd,ok.frames,ok.stk,ok.exf,ok.bs,ok.bsz,ok.noex,ok.exfs,ok.funs,ok.frf⟩
section
variable {X:Cx} {pins:List (Addr × Obj)} {σ:St} {H:Hp} {s:Shared} {E:Value->Shared->Prop}
theorem Inv.wish (I:Inv X pins σ H s) (E:Value->Shared->Prop):Inv (X.wish E) pins σ H s:=⟨I.ok.wish E,I.os,I.bare,I.base,I.loc,I.cell,I.free,I.freeC,I.pin,I.hok,I.len⟩
theorem Inv.unwish (I:Inv (X.wish E) pins σ H s):Inv X pins σ H s:=⟨I.ok.unwish,I.os,I.bare,I.base,I.loc,I.cell,I.free,I.freeC,I.pin,I.hok,I.len⟩
theorem SP.unwish {D:Ends} {f:Flow} {s':Shared} (h:SP (X.wish E) pins D f s'):SP X pins D f s':= by
 cases f with
 | next=>obtain ⟨σ',H',I,q⟩:=h;exact ⟨σ',H',I.unwish,q⟩
 | brk=>obtain ⟨σ',H',I,q⟩:=h;exact ⟨σ',H',I.unwish,q⟩
 | cont=>obtain ⟨σ',H',I,q⟩:=h;exact ⟨σ',H',I.unwish,q⟩
 | ret u=>obtain ⟨v,σ',H',I,r,q⟩:=h;exact ⟨v,σ',H',I.unwish,r,q⟩
theorem PSs.nox {st:List Stmt} {t:TS} (h:PSs X.nox st t):PSs X st t:=fun pins s σ H D I hw=>
 wpAny_mono (h pins s σ H D (I.wish _) hw) (fun _ _ q=>q.unwish) fun _ _ z=>False.elim z
end
section
variable {X:Cx} {st:Stmt} {rest:List Stmt} {t u:TS} {e:Expr} {te:TE} {pos:Pos}
def tNext:TS:=fun D σ H=>D.nx σ H
def tSeq (t u:TS):TS:=fun D σ H=>t { D with nx:=u D } σ H
theorem pss_nil:PSs X [] tNext:=fun _ _ σ H _ I h=>wpAny_execs_nil ⟨σ,H,I,h⟩
theorem pss_cons (h1:PS X st t) (h2:PSs X rest u):PSs X (st::rest) (tSeq t u):= by
 intro pins s σ H D I h
 refine wpAny_execs_cons (thn (h1 pins s σ H { D with nx:=u D } I h) fun f s1 q=>?_)
 cases f with
 | next=>
  obtain ⟨σ',H',I',q⟩:=q
  exact h2 pins s1 σ' H' D I' q
 | ret v=>exact q
 | brk=>exact q
 | cont=>exact q
theorem pss_one (h1:PS X st t):PSs X [st] t:= by
 intro pins s σ H D I h
 refine wpAny_execs_cons (thn (h1 pins s σ H D I h) fun f s1 q=>?_)
 cases f with
 | next=>exact wpAny_execs_nil q
 | ret v=>exact q
 | brk=>exact q
 | cont=>exact q
theorem Inv.quiet {pins:List (Addr × Obj)} {σ:St} {H:Hp} {s:Shared} (I:Inv X pins σ H s):interactive X.env=false:=by simp [interactive,I.ok.kind]
def tDrop (te:TE):TS:=fun D σ H=>te σ H fun _ H1=>D.nx σ H1
theorem ps_expr (he:PE X e te) (hs:swapsWith e none pos.line X.env=pure false:=by rfl):PS X (.Expr e pos) (tDrop te):= by
 intro pins s σ H D I h
 exact wpAny_Expr_any (thn (he pins s σ H _ I h) fun v s1 ⟨x,H1,I1,r1,q1⟩=>⟨σ,H1,I1,q1⟩) I.quiet hs
def tRet (te:TE):TS:=fun D σ H=>te σ H D.rt
theorem ps_ret (he:PE X e te):PS X (.Return (some e) pos) (tRet te):= by
 intro pins s σ H D I h
 exact wpAny_Return_some (thn (he pins s σ H _ I h) fun v s1 ⟨x,H1,I1,r1,q1⟩=>⟨x,σ,H1,I1,r1,q1⟩)
def tIfS (c:TT) (t u:TS):TS:=fun D σ H=>c σ H fun b H1=>if b=true then t D σ H1 else u D σ H1
theorem ps_if {c:Expr} {a b:List Stmt} {tc:TT} (hc:PT X c tc) (ha:PSs X a t) (hb:PSs X b u):PS X (.If c a b pos) (tIfS tc t u):= by
 intro pins s σ H D I h
 refine wpAny_If (thn (hc pins s σ H _ I h) fun d s1 ⟨H1,I1,q1⟩=>?_)
 cases d with
 | true=>exact ha pins s1 σ H1 D I1 q1
 | false=>exact hb pins s1 σ H1 D I1 q1
def tNever:TS:=fun _ _ _=>False
theorem pss_never {sts:List Stmt}:PSs X sts tNever:=fun _ _ _ _ _ _ h=>h.elim
end
abbrev TG:=V->St->Hp->(St->Hp->Prop)->Prop
abbrev TGs:=List V->St->Hp->(St->Hp->Prop)->Prop
def PG (X:Cx) (target:Expr) (t:TG):Prop:=
 ∀ (pins:List (Addr × Obj)) (s:Shared) (σ:St) (H:Hp) (v:V) (u:Value) (Q:St->Hp->Prop),Inv X pins σ H s->RelV v u->t v σ H Q ->
  wpAny (model X.prog X.w) X.A (assign target X.env u) (fun _ s'=>∃ σ' H',Inv X pins σ' H' s'/\Q σ' H') X.xe s
def PGs (X:Cx) (ts:List Expr) (t:TGs):Prop:=
 ∀ (pins:List (Addr × Obj)) (s:Shared) (σ:St) (H:Hp) (vs:List V) (us:List Value) (Q:St->Hp->Prop),Inv X pins σ H s->Vals vs us->t vs σ H Q ->
  wpAny (model X.prog X.w) X.A (assignInOrder ((assignEach ts X.env).map (·.2)) us) (fun _ s'=>∃ σ' H',Inv X pins σ' H' s'/\Q σ' H') X.xe s
abbrev TSet:=V->V->V->Hp->(Hp->Prop)->Prop
def PSet (X:Cx) (t:TSet):Prop:=
 ∀ (pins:List (Addr × Obj)) (s:Shared) (σ:St) (H:Hp) (o i v:V) (ov iv u:Value) (Q:Hp->Prop),Inv X pins σ H s->RelV o ov->RelV i iv->RelV v u->t o i v H Q ->
  wpAny (model X.prog X.w) X.A (setItem ov iv u) (fun _ s'=>∃ H',Inv X pins σ H' s'/\Q H') X.xe s
abbrev TIp:=V->V->Hp->VK->Prop
def PIp (X:Cx) (op:Operator) (t:TIp):Prop:=
 ∀ (pins:List (Addr × Obj)) (s:Shared) (σ:St) (H:Hp) (x y:V) (v u:Value) (Q:VK),Inv X pins σ H s->RelV x v->RelV y u->t x y H Q ->
  wpAny (model X.prog X.w) X.A (inplaceOp op v u) (EP X pins σ Q) X.xe s
section
variable {X:Cx} {pos:Pos}
def gName (i:Nat):TG:=fun v σ H Q=>Q (σ.set i (some v)) H
theorem pg_name {i:Nat} {x:Str} (hN:X.N.Nodup) (hi:X.N[i]?=some x) (hx:Loc X.env.scope x) (hf:X.fn x=true\/X.env.scope.names.lookup x=some .local:=by first | exact .inl rfl | exact .inr rfl | assumption):PG X (.Name x pos) (gName i):= by
 intro pins s σ H v u Q I r h
 exact wpAny_assign_Name (store_ok I hN hi hx r (fun s' I'=>⟨_,H,I',h⟩) hf)
def gNil:TGs:=fun vs σ H Q=>vs=[]/\Q σ H
def gCons (t:TG) (u:TGs):TGs:=fun vs σ H Q=>∃ v r,vs=v::r/\t v σ H fun σ' H'=>u r σ' H' Q
theorem pgs_nil:PGs X [] gNil:= by
 intro pins s σ H vs us Q I r h
 obtain ⟨e,h⟩:=h
 subst e
 cases r
 exact assignInOrder_nil ⟨σ,H,I,h⟩
theorem pgs_cons {e:Expr} {es:List Expr} {t:TG} {u:TGs} (h1:PG X e t) (h2:PGs X es u)
  (hs:(assignEach (e::es) X.env).map (·.2)=assign e X.env::(assignEach es X.env).map (·.2):=by rfl):PGs X (e::es) (gCons t u):= by
 intro pins s σ H vs us Q I r h
 obtain ⟨v,vr,e1,h⟩:=h
 subst e1
 cases r with
 | cons r rr=>
  rw[hs]
  refine assignInOrder_cons (thn (h1 pins s σ H _ _ _ I r h) fun _ s1 ⟨σ1,H1,I1,q1⟩=>?_)
  exact h2 pins s1 σ1 H1 _ _ Q I1 rr q1
def gTup (K:PySem.W.Frag) (n:Nat) (t:TGs):TG:=fun v σ H Q=>∃ a xs,v = .ref a/\SqT K H a xs/\xs.length=n/\t xs σ H Q
theorem pg_tup {es:List Expr} {k:Nat} {t:TGs} {n:Nat} (hc:X.calm=true) (h:PGs X es t)
  (hn:(assignEach es X.env).length=n:=by rfl) (hst:(assignEach es X.env).findIdx? (·.1)=none:=by rfl):PG X (.Tuple es k pos) (gTup X.K n t):= by
 intro pins s σ H v u Q I r hw
 obtain ⟨a,xs,e1,hq,hl,hw⟩:=hw
 subst e1
 cases r
 obtain ⟨its,rv,ht,hz⟩:=I.tuple hq
 refine assign_Tuple_tuple (I.ok.hd hc) ht (by simp [hn,<- hl,rv.length]) hst fun h' hx=>?_
 have I1:Inv X pins σ H { s with heap:=h' }:=I.kept (t':=s.toks) fun b o e=>hx b o (Nat.ne_of_lt (Heap.lt_size e)) e
 exact h pins _ σ H xs _ Q I1 (by simpa using rv) hw
def gSub (to ti:TE) (t:TSet):TG:=fun v σ H Q=>to σ H fun o H1=>ti σ H1 fun i H2=>t o i v H2 fun H3=>Q σ H3
theorem pg_sub {o i:Expr} {to ti:TE} {t:TSet} (ho:PE X o to) (hi:PE X i ti) (hs:PSet X t)
  (ha : ∀ v,assign (.Subscript o i pos) X.env v=(do
   let ov <- holding [v] (eval o X.env)
   let iv <- holding [v,ov] (eval i X.env)
   standAt pos
   holding [v,ov,iv] (setItem ov iv v)
   release [v,ov,iv] []):=by intro _;rfl):PG X (.Subscript o i pos) (gSub to ti t):= by
 intro pins s σ H v u Q I r h
 rw[ha]
 refine wpAny_bind (wpAny_holding (thn (ho pins s σ H _ I h) fun ov s1 ⟨x,H1,I1,r1,q1⟩=>?_))
 refine wpAny_bind (wpAny_holding (thn (hi pins s1 σ H1 _ I1 q1) fun iv s2 ⟨y,H2,I2,r2,q2⟩=>?_))
 refine wpAny_bind (wpAny_standAt (wpAny_bind (wpAny_holding (thn (hs pins s2 σ H2 x y v ov iv u _ I2 r1 r2 r q2) fun _ s3 ⟨H3,I3,q3⟩=>?_))))
 exact wpAny_release ⟨σ,H3,I3,q3⟩
def tAsg (te:TE) (g:TG):TS:=fun D σ H=>te σ H fun x H1=>g x σ H1 D.nx
theorem ps_asg {tg e:Expr} {te:TE} {g:TG} (he:PE X e te) (hg:PG X tg g) (hs:swapsWithSole [tg] e pos.line X.env=pure false:=by rfl) (hw:swappedStores [tg] e X.env=pure none:=by rfl)
  (h1:(assignEach [tg] X.env).map (·.2)=[assign tg X.env]:=by rfl):PS X (.Assign [tg] e pos) (tAsg te g):= by
 intro pins s σ H D I h
 refine wpAny_Assign_stores (thn (he pins s σ H _ I h) fun v s1 ⟨x,H1,I1,r1,q1⟩=>?_) hs hw
 rw[h1]
 exact thn (hg pins s1 σ H1 x v _ I1 r1 q1) fun _ s2 q=>q
theorem ps_set {i:Nat} {x:Str} {e:Expr} {te:TE} {pos':Pos} (hN:X.N.Nodup) (hi:X.N[i]?=some x) (hx:Loc X.env.scope x) (he:PE X e te) (hs:swapsWith e (some (.Name x pos')) pos.line X.env=pure false:=by rfl) (hf:X.fn x=true\/X.env.scope.names.lookup x=some .local:=by first | exact .inl rfl | exact .inr rfl | assumption) :
  PS X (.Assign [.Name x pos'] e pos) (tAsg te (gName i)):= by
 intro pins s σ H D I h
 refine wpAny_Assign_Name (thn (he pins s σ H _ I h) fun v s1 ⟨y,H1,I1,r1,q1⟩=>?_) hs
 exact store_ok I1 hN hi hx r1 (fun s2 I2=>⟨_,H1,I2,q1⟩) hf
def tAug (i:Nat) (te:TE) (ti:TIp):TS:=fun D σ H=>∃ x,σ[i]?=some (some x)/\te σ H fun y H1=>ti x y H1 fun z H2=>D.nx (σ.set i (some z)) H2
theorem ps_aug {i:Nat} {x:Str} {e:Expr} {te:TE} {op:Operator} {ti:TIp} {pos':Pos} (hN:X.N.Nodup) (hi:X.N[i]?=some x) (hx:Loc X.env.scope x) (he:PE X e te) (ho:PIp X op ti) (hf:X.fn x=true\/X.env.scope.names.lookup x=some .local:=by first | exact .inl rfl | exact .inr rfl | assumption) :
  PS X (.AugAssign (.Name x pos') op e pos) (tAug i te ti):= by
 intro pins s σ H D I h
 obtain ⟨v,e1,h⟩:=h
 obtain ⟨m,hn,hl⟩:=I.loc
 have vis:Vis X.env.scope x:=by rcases hx with k | k;exact .inl k;exact .inr (.inl k)
 obtain ⟨u,r,l⟩:=hl i x v hi e1 vis
 refine wpAny_AugAssign_Name ?_
 have go:wpAny (model X.prog X.w) X.A (eval e X.env) (fun w s₂=>wpAny (model X.prog X.w) X.A (inplaceOp op u w) (fun r s₃=>wpAny (model X.prog X.w) X.A (storeName X.env x r) (fun _=>SP X pins D .next) X.xe s₃) X.xe s₂) X.xe s:= by
  refine thn (he pins s σ H _ I h) fun w s1 ⟨y,H1,I1,r1,q1⟩=>?_
  refine thn (ho pins s1 σ H1 v y u w _ I1 r r1 q1) fun z s2 ⟨zv,H2,I2,r2,q2⟩=>?_
  exact store_ok I2 hN hi hx r2 (fun s3 I3=>⟨_,H2,I3,q2⟩) hf
 rcases l with ⟨hk,hm⟩ | ⟨hk,c,hc,hcell⟩
 ·exact wpAny_loadName_local I.ok.kind hk hn hm go
 ·rcases hk with hk | hk
  ·exact wpAny_loadName_cell I.ok.kind hk hc hcell go
  ·rcases hx with k | k
   ·have:X.env.scope.names.lookup x=some .free:=hk
    rw[k] at this;cases this
   ·have:X.env.scope.names.lookup x=some .free:=hk
    rw[k] at this;cases this
end
section
variable {X:Cx} {pos:Pos}
end
structure It where
 go:Nat->Hp->Prop
 yld:Nat->Hp->V->Hp->Prop
 stop:Nat->Hp->Prop
def FpOk (X:Cx) (pins:List (Addr × Obj)) (H:Hp) (b:Addr):Prop:=
 H b=none/\b≠X.env.locals/\b ∉ X.fs/\(b ∈ X.ex\/X.s₀.heap.objs.size<=b)/\(∀ x c,X.env.cells.lookup x=some c->c≠b) /\ ∀ p ∈ X.pn++pins,p.1≠b
theorem Inv.fpOk {X:Cx} {pins:List (Addr × Obj)} {σ:St} {H H':Hp} {s:Shared} {b:Addr} (I:Inv X pins σ H s) (hb:s.heap.objs.size<=b) (hn:H' b=none):FpOk X pins H' b:= by
 refine ⟨hn,Nat.ne_of_gt (Nat.lt_of_lt_of_le I.lt hb),I.nofs hb,.inr (Nat.le_trans I.sz hb),fun x c e z=>?_,fun p hp z=>?_⟩
 ·obtain ⟨v,q⟩:=I.cell x c e
  exact absurd (Nat.lt_of_lt_of_le q.lt (by rw[z];exact hb)) (Nat.lt_irrefl _)
 ·exact absurd (Nat.lt_of_lt_of_le (Heap.lt_size (I.pin p hp).1) (by rw[z];exact hb)) (Nat.lt_irrefl _)
structure Turn (P:Program) (w:World) (K:PySem.W.Frag) (tg:Expr) (J:It) (fp:List Addr) (it:Addr) (tn:Nat->Heap->Prop):Prop where
 mem:it ∈ fp
 obj : ∀ i h,tn i h -> ∀ b ∈ fp,∃ o,h.get? b=some o /\ ∀ v,o.data ≠ .cell v
 keep : ∀ i h h',tn i h->(∀ b ∈ fp,∀ o,h.get? b=some o->h'.get? b=some o)->tn i h'
 item : ∀ (X:Cx),X.prog=P->X.w=w->X.K=K->X.calm=true -> ∀ (i:Nat) (pins:List (Addr × Obj)) (s:Shared) (σ:St) (H:Hp) (E:Value->Shared->Prop),Inv X pins σ H s->(∀ b ∈ fp,FpOk X pins H b)->tn i s.heap->J.go i H ->
  wpAny (model P w) X.A (pyNext (.ref it)) (fun r s1=>∃ u,r=some u /\
   wpAny (model P w) X.A (letOwnedTupleGo tg (.ref it) u) (fun _ s2=>∃ x H',Inv X pins σ H' s2/\RelV x u/\J.yld i H x H'/\tn (i+1) s2.heap /\ ∀ b ∈ fp,H' b=none) E s1) E s
 done : ∀ (X:Cx),X.prog=P->X.w=w->X.K=K->X.calm=true -> ∀ (i:Nat) (pins:List (Addr × Obj)) (s:Shared) (σ:St) (H:Hp) (E:Value->Shared->Prop),Inv X pins σ H s->(∀ b ∈ fp,FpOk X pins H b)->tn i s.heap->J.stop i H ->
  wpAny (model P w) X.A (pyNext (.ref it)) (fun r s1=>r=none/\Inv X pins σ H s1) E s
 self : ∀ (A:Around) (i:Nat) (s:Shared) (Q:Value->Shared->Prop) (E:Value->Shared->Prop),tn i s.heap->Q (.ref it) s->wpAny (model P w) A (pyIter (.ref it)) Q E s
abbrev TI:=St->Hp->(It->Hp->Prop)->Prop
def PIE (X:Cx) (pins:List (Addr × Obj)) (σ:St) (tg:Expr) (R:It->Hp->Prop) (itv:Value) (s2:Shared):Prop:=
 ∃ (it:Addr) (fp:List Addr) (tn:Nat->Heap->Prop) (J:It) (H':Hp),itv = .ref it/\Inv X pins σ H' s2/\Turn X.prog X.w X.K tg J fp it tn/\tn 0 s2.heap/\(∀ b ∈ fp,FpOk X pins H' b)/\R J H'
def PI (X:Cx) (tg iter:Expr) (wi:TI):Prop:=
 ∀ (pins:List (Addr × Obj)) (s:Shared) (σ:St) (H:Hp) (R:It->Hp->Prop),Inv X pins σ H s->wi σ H R ->
  wpAny (model X.prog X.w) X.A (eval iter X.env) (fun v s1=>wpAny (model X.prog X.w) X.A (pyIter v) (PIE X pins σ tg R) X.xe s1) X.xe s
theorem go_of {M:Model} {A:Around} {E:Value->Shared->Prop} {s:Shared} {tg:Expr} {it:Addr} {u:Value} {o:Obj} {n:String} {vs:Array Value} {Q:Unit->Shared->Prop} (ho:s.heap.get? it=some o) (hc:o.cls = .type n) (hd:o.data = .fields vs)
    (hn : ["enumerate","zip","dict_itemiterator","dict_reverseitemiterator","odict_iterator","itertools.zip_longest","itertools.pairwise"].contains n = false) (hQ : Q () s) : wpAny M A (letOwnedTupleGo tg (.ref it) u) Q E s:= by
  unfold letOwnedTupleGo
  cases tg <;> first
    | exact wpAny_pure hQ
    | (cases u <;> first
        | exact wpAny_pure hQ
        | (refine wpAny_bind (wpAny_load ho ?_)
           rw[hc,hd]
           show wpAny M A (if (["enumerate","zip","dict_itemiterator","dict_reverseitemiterator","odict_iterator","itertools.zip_longest","itertools.pairwise"].contains n && vs[0]? == some (rawInt _)) = true then _ else _) Q E s
           rw[if_neg (by intro h;rw[hn,Bool.false_and] at h;cases h)]
           exact wpAny_pure hQ))
def Itl (K:PySem.W.Frag) (a:Addr):It:=
 ⟨fun i H=>∃ xs x,SqL K H a xs/\xs[i]?=some x,fun i H x H'=>H'=H /\ ∀ xs,SqL K H a xs->xs[i]?=some x,fun i H=>∃ xs,SqL K H a xs/\xs.length<=i⟩
def Itt (K:PySem.W.Frag) (a:Addr):It:=
 ⟨fun i H=>∃ xs x,SqT K H a xs/\xs[i]?=some x,fun i H x H'=>H'=H /\ ∀ xs,SqT K H a xs->xs[i]?=some x,fun i H=>∃ xs,SqT K H a xs/\xs.length<=i⟩
def Itr (lo:Int) (n:Nat):It:=⟨fun i _=>i<n,fun i H x H'=>H'=H/\x = .int (lo+i),fun i _=>n<=i⟩
theorem turn_list {P:Program} {w:World} {K:PySem.W.Frag} {tg:Expr} (a it:Addr):Turn P w K tg (Itl K a) [it] it (fun i h=>h.IsListIter it a i) where
 mem:=by simp
 obj:=fun i h st b hb=>by
  have e:b=it:=by simpa using hb
  subst e
  obtain ⟨o,e,c,d⟩:=st
  exact ⟨o,e,fun v z=>by rw[d] at z;cases z⟩
 keep:=fun i h h' st k=>st.at fun o e=>k it (by simp) o e
 item:= by
  intro X hP hw hK hc i pins s σ H E I hf st hg
  subst hP hw hK
  obtain ⟨xs,x,hq,hx⟩:=hg
  obtain ⟨its,rv,p,hz⟩:=I.list hq
  obtain ⟨u,hu,ru⟩:=rv.get hx
  obtain ⟨f0,f1,f2,f3,f4,f5⟩:=hf it (by simp)
  refine wpAny_pyNext_list_item st p.isList (x:=u) (by simpa using hu) fun h' st' sb=>?_
  have I1:Inv X pins σ H { s with heap:=h' }:=I.turned (t':=s.toks) (fun b o hb e=>(sb.2 b hb).trans e) f0 f1 f3 f4 f5
  obtain ⟨o,e,c,d⟩:=id st'
  exact ⟨u,rfl,go_of (s:={ s with heap:=h' }) e c d (by decide) ⟨x,H,I1,ru,⟨rfl,fun ys hy=>by rw[I.list_inj hy hq];exact hx⟩,st',fun b hb=>(hf b hb).1⟩⟩
 done:= by
  intro X hP hw hK hc i pins s σ H E I hf st hg
  subst hP hw hK
  obtain ⟨xs,hq,hx⟩:=hg
  obtain ⟨its,rv,p,hz⟩:=I.list hq
  obtain ⟨f0,f1,f2,f3,f4,f5⟩:=hf it (by simp)
  have hl:=rv.length
  exact wpAny_pyNext_list_end (I.ok.hd hc) st p.isList (by simp;omega) fun h' eb=>⟨rfl,I.turned (t':=s.toks) (fun b o hb e=>eb b o hb e) f0 f1 f3 f4 f5⟩
 self:=fun _ _ _ _ _ st h=>wpAny_pyIter_listiter st h
theorem turn_tuple {P:Program} {w:World} {K:PySem.W.Frag} {tg:Expr} (a it:Addr):Turn P w K tg (Itt K a) [it] it (fun i h=>h.IsTupleIter it a i) where
 mem:=by simp
 obj:=fun i h st b hb=>by
  have e:b=it:=by simpa using hb
  subst e
  obtain ⟨o,e,c,d⟩:=st
  exact ⟨o,e,fun v z=>by rw[d] at z;cases z⟩
 keep:=fun i h h' st k=>st.at fun o e=>k it (by simp) o e
 item:= by
  intro X hP hw hK hc i pins s σ H E I hf st hg
  subst hP hw hK
  obtain ⟨xs,x,hq,hx⟩:=hg
  obtain ⟨its,rv,p,hz⟩:=I.tuple hq
  obtain ⟨u,hu,ru⟩:=rv.get hx
  obtain ⟨f0,f1,f2,f3,f4,f5⟩:=hf it (by simp)
  refine wpAny_pyNext_tuple_item st (show s.heap.IsTuple a its.toArray from p) (x:=u) (by simpa using hu) fun h' st' sb=>?_
  have I1:Inv X pins σ H { s with heap:=h' }:=I.turned (t':=s.toks) (fun b o hb e=>(sb.2 b hb).trans e) f0 f1 f3 f4 f5
  obtain ⟨o,e,c,d⟩:=id st'
  exact ⟨u,rfl,go_of (s:={ s with heap:=h' }) e c d (by decide) ⟨x,H,I1,ru,⟨rfl,fun ys hy=>by rw[I.tuple_inj hy hq];exact hx⟩,st',fun b hb=>(hf b hb).1⟩⟩
 done:= by
  intro X hP hw hK hc i pins s σ H E I hf st hg
  subst hP hw hK
  obtain ⟨xs,hq,hx⟩:=hg
  obtain ⟨its,rv,p,hz⟩:=I.tuple hq
  obtain ⟨f0,f1,f2,f3,f4,f5⟩:=hf it (by simp)
  have hl:=rv.length
  exact wpAny_pyNext_tuple_end (I.ok.hd hc) st (show s.heap.IsTuple a its.toArray from p) (by simp;omega) fun h' eb=>⟨rfl,I.turned (t':=s.toks) (fun b o hb e=>eb b o hb e) f0 f1 f3 f4 f5⟩
 self:=fun _ _ _ _ _ st h=>wpAny_pyIter_tupleiter st h
theorem turn_range {P:Program} {w:World} {K:PySem.W.Frag} {tg:Expr} (it:Addr) (lo:Int) (n:Nat):Turn P w K tg (Itr lo n) [it] it (fun i h=>IsRangeIter h it (lo+(i:Nat)*1) ((n:Int)-(i:Nat)) 1) where
 mem:=by simp
 obj:=fun i h st b hb=>by
  have e:b=it:=by simpa using hb
  subst e
  exact ⟨_,st,fun v z=>by
   have z':Data.fields _=Data.cell v:=z
   cases z'⟩
 keep:=fun i h h' st k=>k it (by simp) _ st
 item:= by
  intro X hP hw hK hc i pins s σ H E I hf st hg
  subst hP hw hK
  obtain ⟨f0,f1,f2,f3,f4,f5⟩:=hf it (by simp)
  have W:=Walks.range (prog:=X.prog) (w:=X.w) (I.ok.hd hc) it lo 1 n
  refine W.item i s _ _ hg st fun v h' tk hv st' kk=>?_
  obtain ⟨t,rfl⟩:=hv
  have I1:Inv X pins σ H { s with heap:=h',toks:=tk }:=I.turned (fun b o hb e=>kk b o (by simpa using hb) e) f0 f1 f3 f4 f5
  refine ⟨_,rfl,go_of (s:={ s with heap:=h',toks:=tk }) (n:="range_iterator") st' rfl rfl (by decide) ⟨.int (lo + i),H,I1,⟨t,?_⟩,⟨rfl,rfl⟩,st',fun b hb=>(hf b hb).1⟩⟩
  rw[Int.mul_one]
 done:= by
  intro X hP hw hK hc i pins s σ H E I hf st hg
  subst hP hw hK
  obtain ⟨f0,f1,f2,f3,f4,f5⟩:=hf it (by simp)
  exact wpAny_pyNext_range_end (I.ok.hd hc) st (by have:n<=i:=hg;omega) fun h' eb=>⟨rfl,I.turned (t':=s.toks) (fun b o hb e=>eb b o hb e) f0 f1 f3 f4 f5⟩
 self:=fun _ _ _ _ _ st h=>wpAny_pyIter_rangeiter st h
end L2
namespace L2
open PySem PySem.Spec PyProof.Rows
section
variable {X:Cx} {tg:Expr}
def iList (K:PySem.W.Frag) (tl:TE):TI:=fun σ H R=>tl σ H fun x H1=>∃ a,x = .ref a/\(∃ xs,SqL K H1 a xs)/\R (Itl K a) H1
def iTup (K:PySem.W.Frag) (tl:TE):TI:=fun σ H R=>tl σ H fun x H1=>∃ a,x = .ref a/\(∃ xs,SqT K H1 a xs)/\R (Itt K a) H1
theorem pi_list {l:Expr} {tl:TE} (hl:PE X l tl):PI X tg l (iList X.K tl):= by
 intro pins s σ H R I h
 refine thn (hl pins s σ H _ I h) fun v s1 ⟨x,H1,I1,r1,q1⟩=>?_
 obtain ⟨a,e,⟨xs,hq⟩,q⟩:=q1
 subst e
 cases r1
 obtain ⟨its,rv,p,hz⟩:=I1.list hq
 refine wpAny_pyIter_list p.isList ?_
 refine ⟨s1.heap.objs.size,[s1.heap.objs.size],_,_,H1,rfl,I1.kept (t':=s1.toks) fun b o e=>Heap.get?_push_of_some _ e,turn_list a _,⟨_,Heap.get?_push_size _ rfl,rfl,rfl⟩,fun b hb=>?_,q⟩
 have e:b=s1.heap.objs.size:=by simpa using hb
 subst e
 exact I1.fpOk (Nat.le_refl _) (I1.hok.fresh (Nat.le_refl _))
theorem pi_tup {l:Expr} {tl:TE} (hl:PE X l tl):PI X tg l (iTup X.K tl):= by
 intro pins s σ H R I h
 refine thn (hl pins s σ H _ I h) fun v s1 ⟨x,H1,I1,r1,q1⟩=>?_
 obtain ⟨a,e,⟨xs,hq⟩,q⟩:=q1
 subst e
 cases r1
 obtain ⟨its,rv,p,hz⟩:=I1.tuple hq
 refine wpAny_pyIter_tuple (show s1.heap.IsTuple a its.toArray from p) ?_
 refine ⟨s1.heap.objs.size,[s1.heap.objs.size],_,_,H1,rfl,I1.kept (t':=s1.toks) fun b o e=>Heap.get?_push_of_some _ e,turn_tuple a _,⟨_,Heap.get?_push_size _ rfl,rfl,rfl⟩,fun b hb=>?_,q⟩
 have e:b=s1.heap.objs.size:=by simpa using hb
 subst e
 exact I1.fpOk (Nat.le_refl _) (I1.hok.fresh (Nat.le_refl _))
theorem range_it {pins:List (Addr × Obj)} {σ:St} {H:Hp} {s:Shared} {R:It->Hp->Prop} {E:Value->Shared->Prop} {lo hi:Int} {t u v:Tok} {tk:Nat} (I:Inv X pins σ H s) (h1 : -(2 ^ 62)<=lo) (h2:lo<2 ^ 62) (h3 : -(2 ^ 62)<=hi) (h4:hi<2 ^ 62)
  (q : R (Itr lo (hi - lo).toNat) H) : wpAny (model X.prog X.w) X.A (pyIter (.ref s.heap.objs.size)) (PIE X pins σ tg R) E { s with heap:=s.heap.push { cls:=.type "range",data:=.fields #[.int lo t,.int hi u,.int 1 v] },toks:=tk }:= by
 refine wpAny_pyIter_range (IsRange.new ..) (small_one h1 h2 h3 h4) ?_
 have I1 : Inv X pins σ H { s with heap:=s.heap.push { cls:=.type "range",data:=.fields #[.int lo t,.int hi u,.int 1 v] },toks:=tk }:=I.kept fun b o e=>Heap.get?_push_of_some _ e
 refine ⟨(s.heap.push { cls:=.type "range",data:=.fields #[.int lo t,.int hi u,.int 1 v] }).objs.size,[(s.heap.push { cls:=.type "range",data:=.fields #[.int lo t,.int hi u,.int 1 v] }).objs.size],_,_,H,rfl,
  I1.kept (t':=tk) fun b o e=>Heap.get?_push_of_some _ e,turn_range _ lo (hi-lo).toNat,?_,fun b hb=>?_,q⟩
 ·have e1:lo+((0:Nat):Int)*1=lo:=by simp
  have e2:(((hi-lo).toNat:Nat):Int)-((0:Nat):Int)=Builtin.Range.rangeSize lo hi 1:=by rw[rangeSize_one];split <;> omega
  show IsRangeIter _ _ (lo+((0:Nat):Int)*1) ((((hi-lo).toNat:Nat):Int)-((0:Nat):Int)) 1
  rw[e1,e2]
  exact Heap.get?_push_size _ rfl
 ·have e : b = (s.heap.push { cls:=.type "range",data:=.fields #[.int lo t,.int hi u,.int 1 v] }).objs.size:=by simpa using hb
  subst e
  exact I1.fpOk (Nat.le_refl _) (I1.hok.fresh (Nat.le_refl _))
def iRng1 (ta:TA):TI:=fun σ H R=>ta σ H fun vs H1=>∃ j:Int,vs=[.int j] /\ -(2 ^ 62)<=j/\j<2 ^ 62/\R (Itr 0 j.toNat) H1
def iRng2 (ta:TA):TI:=fun σ H R=>ta σ H fun vs H1=>∃ i j:Int,vs=[.int i,.int j]/\(-(2 ^ 62)<=i/\i<2 ^ 62 /\ -(2 ^ 62)<=j/\j<2 ^ 62)/\R (Itr i (j-i).toNat) H1
theorem pi_range1 {a : Expr} {ta : TA} {p pos : Pos} (hg : Gl X "range") (hm : X.mg "range" = none) (ha : PA X [a] ta) (hs : starEach [a] X.env = [(false,eval a X.env)]:=by rfl) : PI X tg (.Call (.Name "range" p) [a] [] pos) (iRng1 ta):= by
 intro pins s σ H R I h
 refine Call_ (ld_blt I hg hm boot_range (PyProof.Rows.callWith_type1 (thn (ha pos pins s σ H _ I h) fun us s1 ⟨vs,H1,I1,r1,q1⟩=>?_) hs rfl))
 obtain ⟨j,e,q1,q2,q⟩:=q1
 subst e
 cases r1 with
 | cons r rr=>
  cases rr
  obtain ⟨t,rfl⟩:=r
  exact call_range_1 (range_it I1 (by omega) (by omega) q1 q2 (by simpa using q))
theorem pi_range2 {a b : Expr} {ta : TA} {p pos : Pos} (hg : Gl X "range") (hm : X.mg "range" = none) (ha : PA X [a,b] ta) (hs : starEach [a,b] X.env = [(false,eval a X.env),(false,eval b X.env)]:=by rfl) (hs2 : starEach [b] X.env = [(false,eval b X.env)]:=by rfl) :
  PI X tg (.Call (.Name "range" p) [a,b] [] pos) (iRng2 ta):= by
 intro pins s σ H R I h
 refine Call_ (ld_blt I hg hm boot_range (PyProof.Rows.callWith_type1 (thn (ha pos pins s σ H _ I h) fun us s1 ⟨vs,H1,I1,r1,q1⟩=>?_) (by rw[hs,hs2]) (by rw[hs2];rfl)))
 obtain ⟨i,j,e,⟨q1,q2,q3,q4⟩,q⟩:=q1
 subst e
 cases r1 with
 | cons r rr=>
  cases rr with
  | cons r' rr=>
   cases rr
   obtain ⟨t,rfl⟩:=r
   obtain ⟨t',rfl⟩:=r'
   exact call_range_2 (range_it I1 q1 q2 q3 q4 q)
def tFor (wi:TI) (g:TG) (tb:TS):TS:=fun D σ H=>wi σ H fun J H1=>∃ W:Nat->Nat->St->Hp->Prop,(∃ m,W 0 m σ H1) /\ ∀ i m σ H,W i m σ H ->
 (J.stop i H/\D.nx σ H)\/(J.go i H /\ ∃ N:St->Hp->Prop,(∀ σ' H',N σ' H' -> ∃ m',m'<m/\W (i+1) m' σ' H') /\ ∀ x H',J.yld i H x H'->g x σ H' fun σ2 H2=>tb { D with nx:=N,ct:=N,bk:=D.nx } σ2 H2)
def pinsAt (fp:List Addr) (h:Heap):List (Addr × Obj):=fp.filterMap fun b=>(h.get? b).map fun o=>(b,o)
theorem mem_pinsAt {fp:List Addr} {h:Heap} {b:Addr} {o:Obj} (hb:b ∈ fp) (e:h.get? b=some o):(b,o) ∈ pinsAt fp h:=List.mem_filterMap.mpr ⟨b,hb,by rw[e];rfl⟩
theorem of_pinsAt {fp:List Addr} {h:Heap} {p:Addr × Obj} (hp:p ∈ pinsAt fp h):p.1 ∈ fp/\h.get? p.1=some p.2:= by
 obtain ⟨b,hb,e⟩:=List.mem_filterMap.mp hp
 cases q:h.get? b with
 | none=>rw[q] at e;cases e
 | some o=>
  rw[q] at e
  have e':(b,o)=p:=Option.some.inj e
  subst e'
  exact ⟨hb,q⟩
theorem Inv.pinned {pins:List (Addr × Obj)} {σ:St} {H:Hp} {s:Shared} {fp:List Addr} (I:Inv X pins σ H s) (hf : ∀ b ∈ fp,FpOk X pins H b) (ho : ∀ b ∈ fp,∃ o,s.heap.get? b=some o /\ ∀ v,o.data ≠ .cell v):Inv X (pins++pinsAt fp s.heap) σ H s:=
 I.pins_of fun p hp=>(List.mem_append.mp hp).elim (fun z=>I.pin p (List.mem_append_right _ z)) fun z=>by
  obtain ⟨hb,e⟩:=of_pinsAt z
  obtain ⟨f0,f1,f2,_⟩:=hf p.1 hb
  obtain ⟨o,e',d⟩:=ho p.1 hb
  rw[e] at e';cases e'
  exact ⟨e,f0,f1,f2,d⟩
theorem Inv.unpinned {pins pl:List (Addr × Obj)} {σ:St} {H:Hp} {s:Shared} (I:Inv X (pins++pl) σ H s):Inv X pins σ H s:=I.pins_of fun p hp=>I.pin p (List.mem_append_right _ (List.mem_append_left _ hp))
theorem ps_for {iter:Expr} {body:List Stmt} {wi:TI} {g:TG} {tb:TS} {pos:Pos} (hp:PassesOwn (model X.prog X.w) X.A X.env X.xe) (hc:X.calm=true) (hi:PI X tg iter wi) (hg:PG X tg g) (hb:PSs X body tb)
  (hs : ∀ x,foldedSetIterable iter X.env x=pure x:=by intro _;rfl):PS X (.For tg iter body [] pos) (tFor wi g tb):= by
 intro pins s σ H D I h
 refine wpAny_For (thn (hi pins s σ H _ I h) fun v s1 h1=>thn h1 fun itv s2 h2=>?_) hs
 obtain ⟨it,fp,tn,J,H2,e,I2,T,st2,f2,W,⟨m0,w0⟩,turn⟩:=h2
 subst e
 have stat : ∀ {H':Hp},(∀ b ∈ fp,H' b=none) -> ∀ b ∈ fp,FpOk X pins H' b:=fun hn b hb=>⟨hn b hb,(f2 b hb).2⟩
 refine codeAny_forLoop_any (fun n s'=>∃ i σ' H',Inv X pins σ' H' s'/\tn i s'.heap/\(∀ b ∈ fp,H' b=none)/\W i n σ' H') ?_ m0 ⟨0,σ,H2,I2,st2,fun b hb=>(f2 b hb).1,w0⟩
 rintro n s3 ⟨i,σ3,H3,I3,st3,fr3,w3⟩
 rcases turn i n σ3 H3 w3 with ⟨stop,qn⟩ | ⟨go,N,hN,step⟩
 ·refine wpAny_passesOwn hp (thn (T.done X rfl rfl rfl hc i pins s3 σ3 H3 X.xe I3 (stat fr3) st3 stop) fun r s4 ⟨hr,I4⟩=>?_)
  subst hr
  exact wpAny_execs_nil ⟨σ3,H3,I4,qn⟩
 ·refine wpAny_passesOwn hp (thn (T.item X rfl rfl rfl hc i pins s3 σ3 H3 X.xe I3 (stat fr3) st3 go) fun r s4 ⟨u,hr,h4⟩=>?_)
  subst hr
  refine wpAny_passesOwn hp (thn h4 fun _ s5 ⟨x,H5,I5,r5,y5,st5,fr5⟩=>?_)
  have I5':=I5.pinned (stat fr5) (T.obj _ _ st5)
  refine wpAny_passesOwn hp (thn (hg _ s5 σ3 H5 x u _ I5' r5 (step x H5 y5)) fun _ s6 ⟨σ6,H6,I6,q6⟩=>?_)
  refine wpAny_passesOwn hp (thn (hb _ s6 σ6 H6 _ I6 q6) fun f s7 q7=>?_)
  have again : ∀ {σ7:St} {H7:Hp},Inv X (pins++pinsAt fp s5.heap) σ7 H7 s7->N σ7 H7 -> ∃ m,m<n /\ ∃ i σ' H',Inv X pins σ' H' s7/\tn i s7.heap/\(∀ b ∈ fp,H' b=none)/\W i m σ' H':=fun {σ7 H7} I7 n7=>by
   obtain ⟨m',hm,w7⟩:=hN σ7 H7 n7
   refine ⟨m',hm,i+1,σ7,H7,I7.unpinned,T.keep _ _ _ st5 fun b hb o e=>(I7.pin (b,o) (List.mem_append_right _ (List.mem_append_right _ (mem_pinsAt hb e)))).1,fun b hb=>?_,w7⟩
   obtain ⟨o,e,d⟩:=T.obj _ _ st5 b hb
   exact (I7.pin (b,o) (List.mem_append_right _ (List.mem_append_right _ (mem_pinsAt hb e)))).2.1
  cases f with
  | next=>obtain ⟨σ7,H7,I7,n7⟩:=q7;exact again I7 n7
  | cont=>obtain ⟨σ7,H7,I7,n7⟩:=q7;exact again I7 n7
  | brk=>obtain ⟨σ7,H7,I7,q7⟩:=q7;exact ⟨σ7,H7,I7.unpinned,q7⟩
  | ret v=>obtain ⟨x7,σ7,H7,I7,r7,q7⟩:=q7;exact ⟨x7,σ7,H7,I7.unpinned,r7,q7⟩
end
theorem for_list {K:PySem.W.Frag} {a:Addr} {xs:List V} {g:TG} {tb:TS} {D:Ends} {σ:St} {H:Hp} (Pv:Nat->St->Hp->Prop) (h0:Pv 0 σ H) (hl : ∀ i σ H,i<=xs.length->Pv i σ H->SqL K H a xs)
  (hs : ∀ i x σ H,xs[i]?=some x->Pv i σ H->g x σ H fun σ2 H2=>tb { D with nx:=Pv (i+1),ct:=Pv (i+1),bk:=D.nx } σ2 H2) (hd : ∀ σ H,Pv xs.length σ H->D.nx σ H) :
  ∃ W:Nat->Nat->St->Hp->Prop,(∃ m,W 0 m σ H) /\ ∀ i m σ H,W i m σ H ->
   ((Itl K a).stop i H/\D.nx σ H)\/((Itl K a).go i H /\ ∃ N:St->Hp->Prop,(∀ σ' H',N σ' H' -> ∃ m',m'<m/\W (i+1) m' σ' H') /\ ∀ x H',(Itl K a).yld i H x H'->g x σ H' fun σ2 H2=>tb { D with nx:=N,ct:=N,bk:=D.nx } σ2 H2):= by
 refine ⟨fun i m σ H=>m=xs.length-i/\i<=xs.length/\Pv i σ H,⟨xs.length,by simp,Nat.zero_le _,h0⟩,?_⟩
 rintro i m σ H ⟨rfl,hi,p⟩
 have q:=hl i σ H hi p
 by_cases hlt:i<xs.length
 ·refine .inr ⟨⟨xs,xs[i],q,by simp [hlt]⟩,Pv (i+1),fun σ' H' p'=>⟨xs.length-(i+1),by omega,rfl,hlt,p'⟩,fun x H' y=>?_⟩
  obtain ⟨e,y⟩:=y
  subst e
  exact hs i x σ _ (y xs q) p
 ·have e:i=xs.length:=by omega
  subst e
  exact .inl ⟨⟨xs,q,Nat.le_refl _⟩,hd σ H p⟩
theorem for_tup {K:PySem.W.Frag} {a:Addr} {xs:List V} {g:TG} {tb:TS} {D:Ends} {σ:St} {H:Hp} (Pv:Nat->St->Hp->Prop) (h0:Pv 0 σ H) (hl : ∀ i σ H,i<=xs.length->Pv i σ H->SqT K H a xs)
  (hs : ∀ i x σ H,xs[i]?=some x->Pv i σ H->g x σ H fun σ2 H2=>tb { D with nx:=Pv (i+1),ct:=Pv (i+1),bk:=D.nx } σ2 H2) (hd : ∀ σ H,Pv xs.length σ H->D.nx σ H) :
  ∃ W:Nat->Nat->St->Hp->Prop,(∃ m,W 0 m σ H) /\ ∀ i m σ H,W i m σ H ->
   ((Itt K a).stop i H/\D.nx σ H)\/((Itt K a).go i H /\ ∃ N:St->Hp->Prop,(∀ σ' H',N σ' H' -> ∃ m',m'<m/\W (i+1) m' σ' H') /\ ∀ x H',(Itt K a).yld i H x H'->g x σ H' fun σ2 H2=>tb { D with nx:=N,ct:=N,bk:=D.nx } σ2 H2):= by
 refine ⟨fun i m σ H=>m=xs.length-i/\i<=xs.length/\Pv i σ H,⟨xs.length,by simp,Nat.zero_le _,h0⟩,?_⟩
 rintro i m σ H ⟨rfl,hi,p⟩
 have q:=hl i σ H hi p
 by_cases hlt:i<xs.length
 ·refine .inr ⟨⟨xs,xs[i],q,by simp [hlt]⟩,Pv (i+1),fun σ' H' p'=>⟨xs.length-(i+1),by omega,rfl,hlt,p'⟩,fun x H' y=>?_⟩
  obtain ⟨e,y⟩:=y
  subst e
  exact hs i x σ _ (y xs q) p
 ·have e:i=xs.length:=by omega
  subst e
  exact .inl ⟨⟨xs,q,Nat.le_refl _⟩,hd σ H p⟩
theorem for_range {lo:Int} {n:Nat} {g:TG} {tb:TS} {D:Ends} {σ:St} {H:Hp} (Pv:Nat->St->Hp->Prop) (h0:Pv 0 σ H)
  (hs : ∀ i σ H,i<n->Pv i σ H->g (.int (lo+i)) σ H fun σ2 H2=>tb { D with nx:=Pv (i+1),ct:=Pv (i+1),bk:=D.nx } σ2 H2) (hd : ∀ σ H,Pv n σ H->D.nx σ H) :
  ∃ W:Nat->Nat->St->Hp->Prop,(∃ m,W 0 m σ H) /\ ∀ i m σ H,W i m σ H ->
   ((Itr lo n).stop i H/\D.nx σ H)\/((Itr lo n).go i H /\ ∃ N:St->Hp->Prop,(∀ σ' H',N σ' H' -> ∃ m',m'<m/\W (i+1) m' σ' H') /\ ∀ x H',(Itr lo n).yld i H x H'->g x σ H' fun σ2 H2=>tb { D with nx:=N,ct:=N,bk:=D.nx } σ2 H2):= by
 refine ⟨fun i m σ H=>m=n-i/\i<=n/\Pv i σ H,⟨n,by simp,Nat.zero_le _,h0⟩,?_⟩
 rintro i m σ H ⟨rfl,hi,p⟩
 by_cases hlt:i<n
 ·refine .inr ⟨hlt,Pv (i+1),fun σ' H' p'=>⟨n-(i+1),by omega,rfl,hlt,p'⟩,fun x H' y=>?_⟩
  obtain ⟨e,y⟩:=y
  subst e y
  exact hs i σ _ hlt p
 ·have e:i=n:=by omega
  subst e
  exact .inl ⟨Nat.le_refl _,hd σ H p⟩
end L2
namespace L2
open PySem PySem.Spec PyProof.Rows
abbrev R2:=V->V->Hp->VK->Prop
def OpR (X:Cx) (f:Value->Value->Sem Value) (r:R2):Prop:=
 ∀ (pins:List (Addr × Obj)) (s:Shared) (σ:St) (H:Hp) (x y:V) (v u:Value) (Q:VK),Inv X pins σ H s->RelV x v->RelV y u->r x y H Q ->
  wpAny (model X.prog X.w) X.A (f v u) (EP X pins σ Q) X.xe s
def UnR (X:Cx) (f:Value->Sem Value) (r:V->Hp->VK->Prop):Prop:=
 ∀ (pins:List (Addr × Obj)) (s:Shared) (σ:St) (H:Hp) (x:V) (v:Value) (Q:VK),Inv X pins σ H s->RelV x v->r x H Q ->
  wpAny (model X.prog X.w) X.A (f v) (EP X pins σ Q) X.xe s
def CallR (X:Cx) (f:Value) (r:List V->Hp->VK->Prop):Prop:=
 ∀ (pins:List (Addr × Obj)) (s:Shared) (σ:St) (H:Hp) (xs:List V) (us:List Value) (Q:VK),Inv X pins σ H s->Vals xs us->r xs H Q ->
  wpAny (model X.prog X.w) X.A (call f us) (EP X pins σ Q) X.xe s
def TruR (X:Cx) (r:V->Hp->(Bool->Hp->Prop)->Prop):Prop:=
 ∀ (pins:List (Addr × Obj)) (s:Shared) (σ:St) (H:Hp) (x:V) (v:Value) (Q:Bool->Hp->Prop),Inv X pins σ H s->RelV x v->r x H Q ->
  wpAny (model X.prog X.w) X.A (truthy v) (TP X pins σ Q) X.xe s
def tOp (r:R2) (ta tb:TE):TE:=fun σ H Q=>ta σ H fun x H1=>tb σ H1 fun y H2=>r x y H2 Q
def tUn (r:V->Hp->VK->Prop) (ta:TE):TE:=fun σ H Q=>ta σ H fun x H1=>r x H1 Q
def rI (C:Int->Int->Prop) (g:Int->Int->V):R2:=fun x y H Q=>∃ i j,x = .int i/\y = .int j/\C i j/\Q (g i j) H
def rI0 (g:Int->Int->V):R2:=fun x y H Q=>∃ i j,x = .int i/\y = .int j/\Q (g i j) H
def rU (g:Int->V):V->Hp->VK->Prop:=fun x H Q=>∃ i,x = .int i/\Q (g i) H
section
variable {X:Cx} {a b c:Expr} {ta tb tc:TE} {pos:Pos}
theorem binT (ha:PE X a ta) (hb:PE X b tb) {pins:List (Addr × Obj)} {s:Shared} {σ:St} {H:Hp} {R:V->V->Hp->Prop} (I:Inv X pins σ H s)
  (h:ta σ H fun x H1=>tb σ H1 fun y H2=>R x y H2) {Q:Value->Shared->Prop} {f:Value->Value->Sem Value}
  (hf : ∀ v u s2 x y H2,Inv X pins σ H2 s2->RelV x v->RelV y u->R x y H2->wpAny (model X.prog X.w) X.A (f v u) Q X.xe s2) :
  wpAny (model X.prog X.w) X.A (eval a X.env) (fun v s₁=>wpAny (model X.prog X.w) X.A (eval b X.env) (fun u s₂=>wpAny (model X.prog X.w) X.A (f v u) Q X.xe s₂) X.xe s₁) X.xe s:= by
 refine thn (ha pins s σ H _ I h) fun v s1 ⟨x,H1,I1,r1,q1⟩=>?_
 refine thn (hb pins s1 σ H1 _ I1 q1) fun u s2 ⟨y,H2,I2,r2,q2⟩=>?_
 exact hf v u s2 x y H2 I2 r1 r2 q2
theorem pe_op {op:Operator} {r:R2} (ho:OpR X (binaryOp op) r) (ha:PE X a ta) (hb:PE X b tb):PE X (.BinOp a op b pos) (tOp r ta tb):= by
 intro pins s σ H Q I h
 exact wpAny_BinOp (binT ha hb I h fun v u s2 x y H2 I2 rx ry q=>ho pins s2 σ H2 x y v u Q I2 rx ry q)
theorem pe_un {op:UnaryOp} {r:V->Hp->VK->Prop} (ho:UnR X (unaryOp op) r) (ha:PE X a ta):PE X (.UnaryOp op a pos) (tUn r ta):= by
 intro pins s σ H Q I h
 exact UnaryOp_ (thn (ha pins s σ H _ I h) fun v s1 ⟨x,H1,I1,r1,q1⟩=>ho pins s1 σ H1 x v Q I1 r1 q1)
theorem opI {f:Value->Value->Sem Value} {C:Int->Int->Prop} {g:Int->Int->Int}
  (rule : ∀ (i j:Int) (t u:Tok) (s:Shared) (Q:Value->Shared->Prop) (E:Value->Shared->Prop),C i j->Q (.int (g i j) s.toks) { s with toks:=s.toks+1 }->wpAny (model X.prog X.w) X.A (f (.int i t) (.int j u)) Q E s) :
  OpR X f (rI C fun i j=>.int (g i j)):= by
 intro pins s σ H x y v u Q I rx ry h
 obtain ⟨i,j,rfl,rfl,hc,q⟩:=h
 obtain ⟨t,rfl⟩:=rx
 obtain ⟨t',rfl⟩:=ry
 exact rule i j t t' s _ _ hc ⟨.int (g i j),H,I.tok _,⟨_,rfl⟩,q⟩
theorem opI0 {f:Value->Value->Sem Value} {g:Int->Int->Int}
  (rule : ∀ (i j:Int) (t u:Tok) (s:Shared) (Q:Value->Shared->Prop) (E:Value->Shared->Prop),Q (.int (g i j) s.toks) { s with toks:=s.toks+1 }->wpAny (model X.prog X.w) X.A (f (.int i t) (.int j u)) Q E s) :
  OpR X f (rI0 fun i j=>.int (g i j)):= by
 intro pins s σ H x y v u Q I rx ry h
 obtain ⟨i,j,rfl,rfl,q⟩:=h
 obtain ⟨t,rfl⟩:=rx
 obtain ⟨t',rfl⟩:=ry
 exact rule i j t t' s _ _ ⟨.int (g i j),H,I.tok _,⟨_,rfl⟩,q⟩
theorem opB0 {f:Value->Value->Sem Value} {g:Int->Int->Bool}
  (rule : ∀ (i j:Int) (t u:Tok) (s:Shared) (Q:Value->Shared->Prop) (E:Value->Shared->Prop),Q (.bool (g i j)) s->wpAny (model X.prog X.w) X.A (f (.int i t) (.int j u)) Q E s) :
  OpR X f (rI0 fun i j=>.bl (g i j)):= by
 intro pins s σ H x y v u Q I rx ry h
 obtain ⟨i,j,rfl,rfl,q⟩:=h
 obtain ⟨t,rfl⟩:=rx
 obtain ⟨t',rfl⟩:=ry
 exact rule i j t t' s _ _ ⟨.bl (g i j),H,I,rfl,q⟩
def CPow (i j:Int):Prop:=0<=j/\j<=1000000/\i.natAbs<2 ^ 64
def CMul (i j:Int):Prop:=(-(2 ^ 64)<i/\i<2 ^ 64)\/(-(2 ^ 64)<j/\j<2 ^ 64)
theorem CMul.ok {i j:Int} (h:CMul i j):IntMulOk i j:= by
 rcases h with ⟨h1,h2⟩ | ⟨h1,h2⟩
 ·exact .of_left (intBits_le_64 h1 h2)
 ·exact .of_right (intBits_le_64 h1 h2)
theorem op_add:OpR X (binaryOp .Add) (rI0 fun i j=>.int (i+j)):=opI0 fun _ _ _ _ _ _ _ q=>add_int q
theorem op_sub:OpR X (binaryOp .Sub) (rI0 fun i j=>.int (i-j)):=opI0 fun _ _ _ _ _ _ _ q=>sub_int q
theorem op_mod:OpR X (binaryOp .Mod) (rI (fun _ j=>0<j) fun i j=>.int (i % j)):=opI fun i j _ _ _ _ _ hc q=>by
 have h1:(0:Int)<j:=hc
 exact mod_int' (by omega) (by rw[Int.fmod_eq_emod_of_nonneg i (by omega)];exact q)
theorem op_pow:OpR X (binaryOp .Pow) (rI CPow fun i j=>.int (i ^ j.toNat)):=opI fun _ _ _ _ _ _ _ hc q=>pow_int_small hc.1 hc.2.1 hc.2.2 q
theorem unI {f:Value->Sem Value} {g:Int->Int}
  (rule : ∀ (i:Int) (t:Tok) (s:Shared) (Q:Value->Shared->Prop) (E:Value->Shared->Prop),Q (.int (g i) s.toks) { s with toks:=s.toks+1 }->wpAny (model X.prog X.w) X.A (f (.int i t)) Q E s) :
  UnR X f (rU fun i=>.int (g i)):= by
 intro pins s σ H x v Q I rx h
 obtain ⟨i,rfl,q⟩:=h
 obtain ⟨t,rfl⟩:=rx
 exact rule i t s _ _ ⟨.int (g i),H,I.tok _,⟨_,rfl⟩,q⟩
theorem un_neg:UnR X (unaryOp .USub) (rU fun i=>.int (-i)):=unI fun _ _ _ _ _ q=>neg_int q
end
def scal:V->V->Bool
 | .non,.non=>true | .non,.int _=>true | .int _,.non=>true | .non,.bl _=>true | .bl _,.non=>true | .non,.str _=>true | .str _,.non=>true
 | .int _,.int _=>true | .bl _,.bl _=>true | .str _,.str _=>true | .byt _,.byt _=>true
 | .int _,.str _=>true | .str _,.int _=>true | .bl _,.str _=>true | .str _,.bl _=>true
 | _,_=>false
def rEq:R2:=fun x y H Q=>scal x y=true/\Q (.bl (decide (x=y))) H
def rNe:R2:=fun x y H Q=>scal x y=true/\Q (.bl (!decide (x=y))) H
theorem dec_int {i j:Int}:decide (V.int i=V.int j)=(i==j):= by
 rw[Bool.eq_iff_iff]
 simp
theorem dec_bl {i j:Bool}:decide (V.bl i=V.bl j)=(i==j):= by
 rw[Bool.eq_iff_iff]
 simp
theorem dec_str {i j:Str}:decide (V.str i=V.str j)=(i==j):= by
 rw[Bool.eq_iff_iff]
 simp
theorem dec_byt {i j:Array UInt8}:decide (V.byt i=V.byt j)=(i.toList==j.toList):= by
 rw[Bool.eq_iff_iff]
 cases i
 cases j
 simp
section
variable {X:Cx} {a b c:Expr} {ta tb tc:TE} {pos:Pos}
theorem fin_bl {pins:List (Addr × Obj)} {σ:St} {H:Hp} {s:Shared} {Q:VK} {k k':Bool} (I:Inv X pins σ H s) (q:Q (.bl k) H) (e:k=k'):EP X pins σ Q (.bool k') s:= by
 subst e
 exact ⟨.bl k,H,I,rfl,q⟩
theorem op_eq:OpR X (compareOp .Eq) rEq:= by
 intro pins s σ H x y v u Q I rx ry h
 obtain ⟨hs,q⟩:=h
 cases x with
 | non=>
  cases rx
  cases y with
  | non=>cases ry;exact PySem.EqNone.eq_none_none (fin_bl I q (by simp))
  | bl j=>cases ry;exact PySem.EqNone.eq_none_bool (fin_bl I q (by simp))
  | int j=>obtain ⟨t',rfl⟩:=ry;exact PySem.EqNone.eq_none_int (fin_bl I q (by simp))
  | str j=>obtain ⟨t',rfl⟩:=ry;exact PySem.EqNone.eq_none_str (fin_bl I q (by simp))
  | _=>exact absurd (show false=true from hs) Bool.false_ne_true
 | bl i=>
  cases rx
  cases y with
  | non=>cases ry;exact PySem.EqNone.eq_bool_none (fin_bl I q (by simp))
  | bl j=>cases ry;exact eq_bool (fin_bl I q dec_bl)
  | str j=>obtain ⟨t',rfl⟩:=ry;exact PySem.EqMixed.eq_bool_str (fin_bl I q (by simp))
  | _=>exact absurd (show false=true from hs) Bool.false_ne_true
 | int i=>
  obtain ⟨t,rfl⟩:=rx
  cases y with
  | non=>cases ry;exact PySem.EqNone.eq_int_none (fin_bl I q (by simp))
  | int j=>obtain ⟨t',rfl⟩:=ry;exact eq_int (fin_bl I q dec_int)
  | str j=>obtain ⟨t',rfl⟩:=ry;exact PySem.EqMixed.eq_int_str (fin_bl I q (by simp))
  | _=>exact absurd (show false=true from hs) Bool.false_ne_true
 | str i=>
  obtain ⟨t,rfl⟩:=rx
  cases y with
  | non=>cases ry;exact PySem.EqNone.eq_str_none (fin_bl I q (by simp))
  | bl j=>cases ry;exact PySem.EqMixed.eq_str_bool (fin_bl I q (by simp))
  | int j=>obtain ⟨t',rfl⟩:=ry;exact PySem.EqMixed.eq_str_int (fin_bl I q (by simp))
  | str j=>obtain ⟨t',rfl⟩:=ry;exact eq_str (fin_bl I q dec_str)
  | _=>exact absurd (show false=true from hs) Bool.false_ne_true
 | byt i=>
  obtain ⟨t,rfl⟩:=rx
  cases y with
  | byt j=>obtain ⟨t',rfl⟩:=ry;exact PySem.W.eq_bytes (fin_bl I q dec_byt)
  | _=>exact absurd (show false=true from hs) Bool.false_ne_true
 | _=>cases y <;> exact absurd (show false=true from hs) Bool.false_ne_true
theorem op_ne:OpR X (compareOp .NotEq) rNe:= by
 intro pins s σ H x y v u Q I rx ry h
 obtain ⟨hs,q⟩:=h
 cases x with
 | non=>
  cases rx
  cases y with
  | non=>cases ry;exact PySem.EqNone.ne_none_none (fin_bl I q (by simp))
  | bl j=>cases ry;exact PySem.EqNone.ne_none_bool (fin_bl I q (by simp))
  | int j=>obtain ⟨t',rfl⟩:=ry;exact PySem.EqNone.ne_none_int (fin_bl I q (by simp))
  | str j=>obtain ⟨t',rfl⟩:=ry;exact PySem.EqNone.ne_none_str (fin_bl I q (by simp))
  | _=>exact absurd (show false=true from hs) Bool.false_ne_true
 | bl i=>
  cases rx
  cases y with
  | non=>cases ry;exact PySem.EqNone.ne_bool_none (fin_bl I q (by simp))
  | bl j=>cases ry;exact ne_bool (fin_bl I q (congrArg not dec_bl))
  | str j=>obtain ⟨t',rfl⟩:=ry;exact PySem.EqMixed.ne_bool_str (fin_bl I q (by simp))
  | _=>exact absurd (show false=true from hs) Bool.false_ne_true
 | int i=>
  obtain ⟨t,rfl⟩:=rx
  cases y with
  | non=>cases ry;exact PySem.EqNone.ne_int_none (fin_bl I q (by simp))
  | int j=>obtain ⟨t',rfl⟩:=ry;exact ne_int (fin_bl I q (congrArg not dec_int))
  | str j=>obtain ⟨t',rfl⟩:=ry;exact PySem.EqMixed.ne_int_str (fin_bl I q (by simp))
  | _=>exact absurd (show false=true from hs) Bool.false_ne_true
 | str i=>
  obtain ⟨t,rfl⟩:=rx
  cases y with
  | non=>cases ry;exact PySem.EqNone.ne_str_none (fin_bl I q (by simp))
  | bl j=>cases ry;exact PySem.EqMixed.ne_str_bool (fin_bl I q (by simp))
  | int j=>obtain ⟨t',rfl⟩:=ry;exact PySem.EqMixed.ne_str_int (fin_bl I q (by simp))
  | str j=>obtain ⟨t',rfl⟩:=ry;exact ne_str (fin_bl I q (congrArg not dec_str))
  | _=>exact absurd (show false=true from hs) Bool.false_ne_true
 | byt i=>
  obtain ⟨t,rfl⟩:=rx
  cases y with
  | byt j=>obtain ⟨t',rfl⟩:=ry;exact PySem.W.ne_bytes (fin_bl I q (congrArg not dec_byt))
  | _=>exact absurd (show false=true from hs) Bool.false_ne_true
 | _=>cases y <;> exact absurd (show false=true from hs) Bool.false_ne_true
theorem op_lt:OpR X (compareOp .Lt) (rI0 fun i j=>.bl (decide (i<j))):=opB0 fun _ _ _ _ _ _ _ q=>lt_int q
theorem op_le:OpR X (compareOp .LtE) (rI0 fun i j=>.bl (decide (i<=j))):=opB0 fun _ _ _ _ _ _ _ q=>le_int q
theorem op_gt:OpR X (compareOp .Gt) (rI0 fun i j=>.bl (decide (j<i))):=opB0 fun _ _ _ _ _ _ _ q=>gt_int q
theorem op_ge:OpR X (compareOp .GtE) (rI0 fun i j=>.bl (decide (j<=i))):=opB0 fun _ _ _ _ _ _ _ q=>ge_int q
theorem nomark (b:Expr) {op:CmpOp} (h:op ≠ .In:=by decide) (h2:op ≠ .NotIn:=by decide):behindInMarks op b=false:= by
 have e1:(op==CmpOp.In)=false:=by cases op <;> first | rfl | exact absurd rfl h
 have e2:(op==CmpOp.NotIn)=false:=by cases op <;> first | rfl | exact absurd rfl h2
 cases b <;> simp [behindInMarks,e1,e2]
theorem pe_cmpR {op:CmpOp} {r:R2} (ho:OpR X (compareOp op) r) (ha:PE X a ta) (hb:PE X b tb) (hm:behindInMarks op b=false):PE X (.Compare a [op] [b] pos) (tOp r ta tb):= by
 intro pins s σ H Q I h
 exact wpAny_Compare1 (binT ha hb I h fun v u s2 x y H2 I2 rx ry q=>ho pins s2 σ H2 x y v u Q I2 rx ry q) hm
def tTest (t:TE):TT:=fun σ H Q=>t σ H fun x H'=>∃ k,x = .bl k/\Q k H'
theorem pt_cmpR {op:CmpOp} {r:R2} (ho:OpR X (compareOp op) r) (ha:PE X a ta) (hb:PE X b tb) (hm:behindInMarks op b=false):PT X (.Compare a [op] [b] pos) (tTest (tOp r ta tb)):= by
 intro pins s σ H Q I h
 refine wpAny_isTrue_Compare1 (thn (ha pins s σ H _ I h) fun v s1 ⟨x,H1,I1,r1,q1⟩=>thn (hb pins s1 σ H1 _ I1 q1) fun u s2 ⟨y,H2,I2,r2,q2⟩=>
  thn (ho pins s2 σ H2 x y v u _ I2 r1 r2 q2) fun c s3 ⟨z,H3,I3,r3,k,e,q3⟩=>?_) hm
 subst e
 cases r3
 exact wpAny_truthy_bool ⟨H3,I3,q3⟩
def tChain (r r':R2) (ta tb tc:TE):TE:=fun σ H Q=>ta σ H fun x H1=>tb σ H1 fun y H2=>r x y H2 fun z H3=>∃ k,z = .bl k /\
 (if k=true then tc σ H3 fun w' H4=>r' y w' H4 Q else Q (.bl false) H3)
theorem pe_chain {op op':CmpOp} {r r':R2} (ho:OpR X (compareOp op) r) (ho':OpR X (compareOp op') r') (ha:PE X a ta) (hb:PE X b tb) (hc:PE X c tc)
  (hm:lastMarks [op,op'] [b,c]=false:=by with_unfolding_all rfl):PE X (.Compare a [op,op'] [b,c] pos) (tChain r r' ta tb tc):= by
 intro pins s σ H Q I h
 refine Compare_chain (thn (ha pins s σ H _ I h) fun v s1 ⟨x,H1,I1,r1,q1⟩=>chain_link (thn (hb pins s1 σ H1 _ I1 q1) fun u s2 ⟨y,H2,I2,r2,q2⟩=>
  thn (ho pins s2 σ H2 x y v u _ I2 r1 r2 q2) fun d s3 ⟨z,H3,I3,r3,k,e,q3⟩=>?_)) hm
 subst e
 cases r3
 refine wpAny_truthy_bool ?_
 cases k with
 | false=>exact ite_ff ⟨.bl false,H3,I3,rfl,q3⟩
 | true=>exact ite_tt (chain_last (thn (hc pins s3 σ H3 _ I3 q3) fun w' s4 ⟨z',H4,I4,r4,q4⟩=>ho' pins s4 σ H4 y z' u w' Q I4 r2 r4 q4))
theorem pt_chain {op op':CmpOp} {r r':R2} (ho:OpR X (compareOp op) r) (ho':OpR X (compareOp op') r') (ha:PE X a ta) (hb:PE X b tb) (hc:PE X c tc)
  (hm:lastMarks [op,op'] [b,c]=false:=by with_unfolding_all rfl):PT X (.Compare a [op,op'] [b,c] pos) (tTest (tChain r r' ta tb tc)):= by
 intro pins s σ H Q I h
 refine isTrue_chain (thn (ha pins s σ H _ I h) fun v s1 ⟨x,H1,I1,r1,q1⟩=>test_link (thn (hb pins s1 σ H1 _ I1 q1) fun u s2 ⟨y,H2,I2,r2,q2⟩=>
  thn (ho pins s2 σ H2 x y v u _ I2 r1 r2 q2) fun d s3 ⟨z,H3,I3,r3,k,e,q3⟩=>?_)) hm
 subst e
 cases r3
 refine wpAny_truthy_bool ?_
 cases k with
 | false=>
  obtain ⟨k',e',q'⟩:=q3
  cases e'
  exact ite_ff ⟨H3,I3,q'⟩
 | true=>
  refine ite_tt (test_last (thn (hc pins s3 σ H3 _ I3 q3) fun w' s4 ⟨z',H4,I4,r4,q4⟩=>thn (ho' pins s4 σ H4 y z' u w' _ I4 r2 r4 q4) fun d' s5 ⟨z2,H5,I5,r5,k2,e2,q5⟩=>?_))
  subst e2
  cases r5
  exact wpAny_truthy_bool ⟨H5,I5,q5⟩
def TruV (K:PySem.W.Frag) (x:V) (H:Hp) (k:Bool):Prop:=
 match x with
 | .non=>k=false
 | .bl b=>k=b
 | .int i=>k=(i != 0)
 | .str y=>y.length<=sizeLine/\k=((y.length:Int) != 0)
 | .byt y=>y.size<=sizeLine/\k=((y.size:Int) != 0)
 | .ref p=>(∃ xs,SqL K H p xs/\k = !xs.isEmpty)\/(∃ xs,SqT K H p xs/\k = !xs.isEmpty) \/ ∃ kvs,H p=some (.dK kvs)/\k = !kvs.isEmpty
 | _=>False
theorem isEmpty_kv {κ:Type} {kvs:List (κ × V)} {vs:List (κ × Value)} (r:KV kvs vs):(!vs.isEmpty) = !kvs.isEmpty:= by
 cases r <;> rfl
theorem isEmpty_of {xs:List V} {its:List Value} (r:Vals xs its):(!its.toArray.isEmpty) = !xs.isEmpty:= by
 cases r <;> simp
theorem line63:(sizeLine:Nat)<2 ^ 63:=by rw[sizeLine_eq];decide
theorem tru_ok:TruR X (fun x H Q=>∃ k,TruV X.K x H k/\Q k H):= by
 intro pins s σ H x v Q I rx h
 obtain ⟨k,e,q⟩:=h
 have hl:=line63
 have hs:sizeLine=16777216:=sizeLine_eq
 cases x with
 | non=>
  cases rx
  have e':k=false:=e
  subst e'
  exact truthy_none ⟨H,I,q⟩
 | bl b=>
  cases rx
  have e':k=b:=e
  subst e'
  exact wpAny_truthy_bool ⟨H,I,q⟩
 | int i=>
  obtain ⟨t,rfl⟩:=rx
  have e':k=(i != 0):=e
  subst e'
  exact PySem.P.truthy_int ⟨H,I,q⟩
 | str y=>
  obtain ⟨t,rfl⟩:=rx
  obtain ⟨hy,e'⟩:y.length<=sizeLine/\k=((y.length:Int) != 0):=e
  subst e'
  exact PySem.P.truthy_str (by omega) ⟨H,I.tok _,q⟩
 | byt y=>
  obtain ⟨t,rfl⟩:=rx
  obtain ⟨hy,e'⟩:y.size<=sizeLine/\k=((y.size:Int) != 0):=e
  subst e'
  exact PySem.W.truthy_bytes (by omega) ⟨H,I.tok _,q⟩
 | ref p=>
  cases rx
  have e':(∃ xs,SqL X.K H p xs/\k = !xs.isEmpty)\/(∃ xs,SqT X.K H p xs/\k = !xs.isEmpty) \/ ∃ kvs,H p=some (.dK kvs)/\k = !kvs.isEmpty:=e
  rcases e' with ⟨xs,hx,e'⟩ | ⟨xs,hx,e'⟩ | ⟨kvs,hx,e'⟩
  ·subst e'
   obtain ⟨its,r,pl,hz⟩:=I.list hx
   have hlen:=r.length
   exact wpAny_truthy_list pl.isList (by simp only [List.size_toArray];omega) ⟨H,I.tok _,by rw[isEmpty_of r];exact q⟩
  ·subst e'
   obtain ⟨its,r,pl,hz⟩:=I.tuple hx
   have hlen:=r.length
   exact truthy_tuple pl (by simp only [List.size_toArray];omega) ⟨H,I.tok _,by rw[isEmpty_of r];exact q⟩
  ·subst e'
   obtain ⟨hz,hS,vs,r,m⟩:kvs.length<=sizeLine/\(p==sysModules)=false /\ ∃ vs,KV kvs vs/\s.heap.DictOf (mixKind X.prog X.w) p vs:=I.hok p _ hx
   have hlen:kvs.length=vs.length:=Paired.length r
   exact wpAny_truthy_dict hS m (by omega) ⟨H,I.tok _,by rw[isEmpty_kv r];exact q⟩
 | _=>exact (show False from e).elim
theorem pt_truth (ha:PE X a ta) (he : ∀ whole,isTrue a X.env whole=(do let v <- whole;standAt a.pos;holding [v] (truthy v))) :
  PT X a (fun σ H Q=>ta σ H fun x H'=>∃ k,TruV X.K x H' k/\Q k H'):= by
 intro pins s σ H Q I h
 exact isTrue_plain (thn (ha pins s σ H _ I h) fun v s1 ⟨x,H1,I1,r1,q1⟩=>tru_ok pins s1 σ H1 x v Q I1 r1 q1) (he _)
theorem vals1 {x:V} {us:List Value} (r:Vals [x] us) : ∃ u,us=[u]/\RelV x u:= by
 cases r with
 | cons r1 r2=>cases r2;exact ⟨_,rfl,r1⟩
theorem vals2 {x y:V} {us:List Value} (r:Vals [x,y] us) : ∃ u w',us=[u,w']/\RelV x u/\RelV y w':= by
 cases r with
 | cons r1 r2=>
  cases r2 with
  | cons r3 r4=>cases r4;exact ⟨_,_,rfl,r1,r3⟩
theorem call_max2 (hc : X.calm = true) : CallR X (.builtin "max") (fun xs H Q=>∃ i j,xs = [.int i,.int j] /\ Q (.int (if j > i then j else i)) H):= by
 intro pins s σ H xs us Q I r h
 obtain ⟨i,j,rfl,q⟩:=h
 obtain ⟨u,w',rfl,⟨t,rfl⟩,⟨t',rfl⟩⟩:=vals2 r
 refine max_two_ints (I.ok.hd hc) fun h' tk k=>⟨_,H,I.kept k,?_,q⟩
 by_cases hj:j > i
 ·rw[if_pos hj,if_pos hj];exact ⟨_,rfl⟩
 ·rw[if_neg hj,if_neg hj];exact ⟨_,rfl⟩
theorem call_min2 (hc : X.calm = true) : CallR X (.builtin "min") (fun xs H Q=>∃ i j,xs = [.int i,.int j] /\ Q (.int (if j < i then j else i)) H):= by
 intro pins s σ H xs us Q I r h
 obtain ⟨i,j,rfl,q⟩:=h
 obtain ⟨u,w',rfl,⟨t,rfl⟩,⟨t',rfl⟩⟩:=vals2 r
 refine min_two_ints (I.ok.hd hc) fun h' tk k=>⟨_,H,I.kept k,?_,q⟩
 by_cases hj:j<i
 ·rw[if_pos hj,if_pos hj];exact ⟨_,rfl⟩
 ·rw[if_neg hj,if_neg hj];exact ⟨_,rfl⟩
end
end L2
namespace L2
open PySem PySem.Spec PyProof.Rows
structure ObjM (h:Heap) (x dx C:Addr) (mA:Str->Option Value):Prop where
 obj:h.get? x=some (PySem.W.instObj C dx)
 ns:h.Ns1 dx mA
 ne:dx≠x
theorem lookIn_ns {h:Heap} {dx:Addr} {mA:Str->Option Value} (n:h.Ns1 dx mA) : ∃ od,h.get? dx=some od /\ ∀ name,PySem.W.lookIn name od=some (mA name):= by
 obtain ⟨o,es,ep,ho,hd,hk,_,hm⟩:=n
 refine ⟨o,ho,fun name=>?_⟩
 have e:=hm name
 unfold nsFind findBy at e
 rw[<- Array.find?_toList] at e
 unfold PySem.W.lookIn
 rw[hd]
 dsimp only
 split
 ·rename_i y q
  rw[q] at e
  exact congrArg some e
 ·rename_i q
  rw[q] at e
  have a:es.toList.any (·.refKey)=false:= by
   rw[List.any_eq_false]
   intro y hy
   obtain ⟨z,t,hkey⟩:=hk y (Array.mem_toList_iff.mp hy)
   simp [DictEntry.refKey,hkey]
  have a' : ¬ es.toList.any (·.refKey)=true:=by rw[a];exact Bool.false_ne_true
  rw[if_neg a']
  exact congrArg some e
theorem ObjM.look {h:Heap} {x dx C:Addr} {mA:Str->Option Value} (I:ObjM h x dx C mA) : ∃ od,PySem.W.InstAt h x (PySem.W.instObj C dx) C (some od) /\ ∀ name,PySem.W.lookIn name od=some (mA name):=
 let ⟨od,ho,hl⟩:=lookIn_ns I.ns
 ⟨od,⟨I.obj,rfl,rfl,ho⟩,hl⟩
section
variable {prog:Program} {w:World} {A:Around} {E:Value->Shared->Prop} {s:Shared} {K:PySem.W.Frag} {x dx C f:Addr} {mA:Str->Option Value} {name:Str} {v:Value}
theorem get_map {expr:Bool} {Q:Value->Shared->Prop} (X:K.In s.heap) (I:ObjM s.heap x dx C mA) (hg:PySem.W.plainGet K C name=true) (hh:PySem.W.hasDictIn K C=true)
  (ha:PySem.W.findIn K (.ref C) name=some none) (hv:mA name=some v) (hv':PySem.W.handedIn v=true) (h:Q v { s with toks:=s.toks+1 }) :
  wpAny (model prog w) A (getAttr (.ref x) name expr) Q E s:= by
 obtain ⟨od,J,hl⟩:=I.look
 exact PySem.W.get_value X J (PySem.W.plainGet_of hg).1 (PySem.W.findObj_own hh ha rfl (by rw[hl,hv])) hv' h
theorem get_meth {pl:Sem Bool} {Q:Value × List Value->Shared->Prop} (X:K.In s.heap) (I:ObjM s.heap x dx C mA) (hg:PySem.W.plainGet K C name=true)
  (hf:PySem.W.findIn K (.ref C) name=some (some (.ref f))) (ht:PySem.W.isFn K (.ref f)=true) (hv:mA name=none) (h:Q (.ref f,[.ref x]) s) :
  wpAny (model prog w) A (getMethod (.ref x) name pl) Q E s:= by
 obtain ⟨od,J,hl⟩:=I.look
 exact PySem.W.method_fn X J (PySem.W.plainGet_of hg).1 (PySem.W.plainGet_of hg).2 hf (beq_iff_eq.mp ht) (by show (PySem.W.lookIn name od).map (·.isSome)=some false;rw[hl,hv];rfl) h
theorem set_map {ns:List Str} {Q:Unit->Shared->Prop} (X:K.In s.heap) (I:ObjM s.heap x dx C mA)
  (hs : PySem.W.findIn K (.ref C) "__setattr__" = some (some (.builtin "object.__setattr__"))) (hp : PySem.W.plainOver K C = true) (ht : PySem.W.takerIn K C name = some none) (hh : PySem.W.hasDictIn K C = true)
  (hw:PySem.Within mA ns) (hsz:ns.length<=sizeLine)
  (h : ∀ h',ObjM h' x dx C (fun y=>if y=name then some v else mA y)->Heap.SameBut dx s.heap h'->Q () { s with heap:=h',toks:=s.toks+2 }) :
  wpAny (model prog w) A (setAttr (.ref x) name v) Q E s:= by
 obtain ⟨od,J,hl⟩:=I.look
 refine PySem.W.set_plain X J hs (PySem.W.osa_open (s:={ s with toks:=s.toks+1 }) (r:=none) X J hp ht fun b=>?_)
 obtain ⟨cd,hc,hd'⟩:=PySem.W.any_some hh
 have hx:s.heap.get? x=some ⟨.ref C,some dx,.plain,#[]⟩:=I.obj
 refine wpAny_bind (wpAny_pure (wpAny_bind (wpAny_bind (wpAny_loadPart hx (wpAny_bind (PySem.W.Looks.here (s:={ s with toks:=s.toks+1 }) (PySem.W.looks_clsIn X hc) ?_))))))
 rw[hd']
 refine wpAny_pure (a:=some dx) (wpAny_bind (wpAny_pure (wpAny_bind ?_)))
 refine wpAny_nsSet1 (s:={ s with toks:=s.toks+1 }) I.ns fun h' hn2 hs2=>?_
 obtain ⟨oD,esD,epD,hoD,hdD,hcD⟩:=hn2.count (PySem.Within.cons name v hw)
 refine wpAny_bind (wpAny_lookBehind hoD (by rw[hdD];exact pastItsLine_dict (Nat.le_trans hcD (by rw[List.length_cons];omega))) ?_)
 exact wpAny_pure (h _ ⟨(hs2.2 _ (Ne.symm I.ne)).trans I.obj,hn2,I.ne⟩ hs2)
theorem make_map {R:Result->Shared->Prop} {vs:List Value} {kw:List (Str × Value)} (X:K.In s.heap) (hm:PySem.W.makesIn K C=true)
  (hi : PySem.W.findIn K (.ref C) "__init__" = some (some (.ref f))) (hf : PySem.W.typeIn K (.ref f) = some (.type "function"))
  (h : codeAny (model prog w) (A.under (.builtin "type.__call__" ⟨.ref C :: vs,kw⟩)) (.call (.ref f) ⟨.ref (s.heap.objs.size + 1) :: vs,kw⟩) (PySem.W.InitBack (s.heap.objs.size + 1) R)
   { s with heap:=(s.heap.push PySem.W.emptyDict).push (PySem.W.instObj C s.heap.objs.size) }) :
  codeAny (model prog w) A (.call (.ref C) ⟨vs,kw⟩) R s:= by
 obtain ⟨hh,g,d,t,os⟩:=s
 exact PySem.W.make_core (PySem.W.makes_of X hm) (PySem.W.looks_findIn X hi) (fun self=>PySem.W.bind_fn X self hf) (.inl rfl) h
end
def putF (f:Str) (v:V):List (Str × V)->List (Str × V)
 | []=>[(f,v)]
 | (g,x)::r=>if g=f then (g,v)::r else (g,x)::putF f v r
theorem lookup_putF (f g:Str) (v:V) : ∀ fs:List (Str × V),(putF f v fs).lookup g=if g=f then some v else fs.lookup g
 | []=>by
  show List.lookup g [(f,v)]=_
  by_cases h:g=f
  ·have hb:(g==f)=true:=beq_iff_eq.mpr h
   simp only [List.lookup,hb,if_pos h]
  ·have hb:(g==f)=false:=beq_eq_false_iff_ne.mpr h
   simp only [List.lookup,hb,if_neg h]
 | (k,x)::r=>by
  have ih:=lookup_putF f g v r
  rw[show putF f v ((k,x)::r)=(if k=f then (k,v)::r else (k,x)::putF f v r) from rfl]
  by_cases hk:k=f
  ·rw[if_pos hk]
   by_cases h:g=k
   ·have hb:(g==k)=true:=beq_iff_eq.mpr h
    simp only [List.lookup,hb,if_pos (h.trans hk)]
   ·have hb:(g==k)=false:=beq_eq_false_iff_ne.mpr h
    simp only [List.lookup,hb,if_neg (fun e:g=f=>h (e.trans hk.symm))]
  ·rw[if_neg hk]
   by_cases h:g=k
   ·have hb:(g==k)=true:=beq_iff_eq.mpr h
    simp only [List.lookup,hb,if_neg (fun e:g=f=>hk (h.symm.trans e))]
   ·have hb:(g==k)=false:=beq_eq_false_iff_ne.mpr h
    simp only [List.lookup,hb]
    exact ih
theorem keys_putF (f:Str) (v:V) : ∀ fs:List (Str × V),f ∈ (putF f v fs).map (·.1) /\ ∀ g,g ∈ fs.map (·.1)->g ∈ (putF f v fs).map (·.1)
 | []=>⟨by simp [putF],fun g h=>by simp at h⟩
 | (k,x)::r=>by
  obtain ⟨i1,i2⟩:=keys_putF f v r
  rw[show putF f v ((k,x)::r)=(if k=f then (k,v)::r else (k,x)::putF f v r) from rfl]
  by_cases hk:k=f
  ·rw[if_pos hk]
   subst hk
   exact ⟨by simp,fun g h=>by simpa using h⟩
  ·rw[if_neg hk]
   refine ⟨?_,fun g h=>?_⟩
   ·rw[List.map_cons]
    exact List.mem_cons_of_mem _ i1
   ·rw[List.map_cons] at h ⊢
    rcases List.mem_cons.mp h with e | e
    ·exact List.mem_cons.mpr (.inl e)
    ·exact List.mem_cons_of_mem _ (i2 g e)
theorem length_putF (f:Str) (v:V) : ∀ fs:List (Str × V),(putF f v fs).length<=fs.length+1
 | []=>by simp [putF]
 | (k,x)::r=>by
  have ih:=length_putF f v r
  rw[show putF f v ((k,x)::r)=(if k=f then (k,v)::r else (k,x)::putF f v r) from rfl]
  by_cases hk:k=f
  ·rw[if_pos hk,List.length_cons,List.length_cons];omega
  ·rw[if_neg hk,List.length_cons,List.length_cons];omega
theorem RelO.some_of {v:V} {o:Option Value} (r:RelO (some v) o) : ∃ u,o=some u/\RelV v u:= by
 cases o with
 | none=>exact (show False from r).elim
 | some u=>exact ⟨u,rfl,r⟩
theorem RelO.none_of {o:Option Value} (r:RelO none o):o=none:= by
 cases o with
 | none=>rfl
 | some u=>exact (show False from r).elim
theorem handed_of {v:V} {u:Value} (r:RelV v u):PySem.W.handedIn u=true:= by
 cases v with
 | non=>cases (show u=Value.none from r);rfl
 | bl b=>cases (show u=Value.bool b from r);rfl
 | int i=>obtain ⟨t,e⟩:=(show ∃ t,u=Value.int i t from r);cases e;rfl
 | str x=>obtain ⟨t,e⟩:=(show ∃ t,u=Value.str x t from r);cases e;rfl
 | byt b=>obtain ⟨t,e⟩:=(show ∃ t,u=Value.bytes b t from r);cases e;rfl
 | flt b=>obtain ⟨t,e⟩:=(show ∃ t,u=Value.float b t from r);cases e;rfl
 | ref a=>cases (show u=Value.ref a from r);rfl
 | ty n=>cases (show u=Value.type n from r);rfl
section
variable {P:Program} {w:World} {H H':Hp} {h h':Heap} {a C dx:Addr} {fs fs':List (Str × V)}
theorem ins_get (hok:HOk P w H h) (e:H a=some (.ins C dx fs)) : ∃ mA,ObjM h a dx C mA/\(∀ f,RelO (fs.lookup f) (mA f))/\PySem.Within mA (fs.map (·.1))/\fs.length<=1000/\H dx=some (.own a):= by
 obtain ⟨d,z,ne,ob,mA,n,r,q⟩:=(show ObjOk P w H h a (.ins C dx fs) from hok a _ e)
 exact ⟨mA,⟨ob,n,ne⟩,r,q,z,d⟩
end
structure Cls (K:PySem.W.Frag) (C:Addr):Prop where
 pg:PySem.W.plainGet K C Str.empty=true
 hd:PySem.W.hasDictIn K C=true
 po:PySem.W.plainOver K C=true
 sa : PySem.W.findIn K (.ref C) "__setattr__" = some (some (.builtin "object.__setattr__"))
theorem Cls.get {K:PySem.W.Frag} {C:Addr} (c:Cls K C) (f:Str):PySem.W.plainGet K C f=true:=c.pg
def NoAttr (K:PySem.W.Frag) (C:Addr) (f:Str):Prop:=PySem.W.findIn K (.ref C) f=some none
theorem NoAttr.taker {K:PySem.W.Frag} {C:Addr} {f:Str} (n:NoAttr K C f):PySem.W.takerIn K C f=some none:= by
 unfold PySem.W.takerIn
 rw[show PySem.W.findIn K (.ref C) f=some none from n]
 rfl
structure Meth (K:PySem.W.Frag) (C:Addr) (m:Str) (f:Addr):Prop where
 at_:PySem.W.findIn K (.ref C) m=some (some (.ref f))
 fn:PySem.W.isFn K (.ref f)=true
 kp:PySem.W.keepIn K (.ref f)=true
section
variable {X:Cx} {pins:List (Addr × Obj)} {σ:St} {H:Hp} {s:Shared} {a C dx:Addr} {fs:List (Str × V)} {f:Str} {v:V} {A:Around} {E:Value->Shared->Prop}
theorem getattr_ok {b:Bool} {Q:Value->Shared->Prop} (I:Inv X pins σ H s) (e:H a=some (.ins C dx fs)) (c:Cls X.K C) (n:NoAttr X.K C f) (l:fs.lookup f=some v)
  (h : ∀ u s',Inv X pins σ H s'->RelV v u->Q u s'):wpAny (model X.prog X.w) A (getAttr (.ref a) f b) Q E s:= by
 obtain ⟨mA,O,r,_,_,_⟩:=ins_get I.hok e
 obtain ⟨u,hu,ru⟩:=RelO.some_of (v:=v) (o:=mA f) (by rw[<- l];exact r f)
 exact get_map I.kIn O (c.get f) c.hd n hu (handed_of ru) (h u _ (I.tok _) ru)
theorem getmeth_ok {m:Str} {g:Addr} {pl:Sem Bool} {Q:Value × List Value->Shared->Prop} (I:Inv X pins σ H s) (e:H a=some (.ins C dx fs)) (c:Cls X.K C) (k:Meth X.K C m g) (l:fs.lookup m=none)
  (h:Q (.ref g,[.ref a]) s):wpAny (model X.prog X.w) A (getMethod (.ref a) m pl) Q E s:= by
 obtain ⟨mA,O,r,_,_,_⟩:=ins_get I.hok e
 have hn:mA m=none:=RelO.none_of (by rw[<- l];exact r m)
 exact get_meth I.kIn O (c.get m) k.at_ k.fn hn h
theorem setattr_ok {y:V} {u:Value} {Q:Unit->Shared->Prop} (I:Inv X pins σ H s) (e:H a=some (.ins C dx fs)) (c:Cls X.K C) (n:NoAttr X.K C f) (hl:fs.length<1000) (ry:RelV y u)
  (h : ∀ s',Inv X pins σ (upd H a (.ins C dx (putF f y fs))) s'->Q () s'):wpAny (model X.prog X.w) A (setAttr (.ref a) f u) Q E s:= by
 obtain ⟨mA,O,r,wi,_,ho⟩:=ins_get I.hok e
 have hz:(fs.map (·.1)).length<=sizeLine:=by rw[List.length_map,sizeLine_eq];omega
 refine set_map I.kIn O c.sa c.po n.taker c.hd wi hz fun h' O' sb=>h _ ?_
 have hd : ∃ o,h'.get? dx=some o:=let ⟨o,_,_,e',_⟩:=O'.ns;⟨o,e'⟩
 refine I.write (x:=a) (e:=dx) (by rw[e];exact True.intro) (.inr ho) (fun b q hb z=>(sb.2 b hb).trans z) hd ?_
 refine ⟨by rw[upd_ne O.ne];exact ho,?_,O.ne,O'.obj,_,O'.ns,fun g=>?_,fun g hg=>?_⟩
 ·have:=length_putF f y fs;omega
 ·show RelO ((putF f y fs).lookup g) (if g=f then some u else mA g)
  rw[lookup_putF]
  by_cases q:g=f
  ·rw[if_pos q,if_pos q];exact ry
  ·rw[if_neg q,if_neg q];exact r g
 ·by_cases q:g=f
  ·rw[q];exact (keys_putF f y fs).1
  ·refine (keys_putF f y fs).2 g (wi g fun z=>hg ?_)
   show (if g=f then some u else mA g)=none
   rw[if_neg q];exact z
theorem Inv.made (I:Inv X pins σ H s):Inv X pins σ (upd (upd H s.heap.objs.size (.own (s.heap.objs.size+1))) (s.heap.objs.size+1) (.ins C s.heap.objs.size []))
  { s with heap:=(s.heap.push PySem.W.emptyDict).push (PySem.W.instObj C s.heap.objs.size) }:= by
 have e1:(s.heap.push PySem.W.emptyDict).get? s.heap.objs.size=some PySem.W.emptyDict:=Heap.get?_push_size s.heap rfl
 have e2:((s.heap.push PySem.W.emptyDict).push (PySem.W.instObj C s.heap.objs.size)).get? (s.heap.objs.size+1)=some (PySem.W.instObj C s.heap.objs.size):= by
  have:=Heap.get?_push_size (s.heap.push PySem.W.emptyDict) (o:=PySem.W.instObj C s.heap.objs.size) rfl
  rwa [Heap.size_push] at this
 have e3:(s.heap.push PySem.W.emptyDict).Ns s.heap.objs.size (fun _=>none):=⟨PySem.W.emptyDict,#[],_,e1,rfl,(fun e he=>absurd he (by simp)),fun _=>rfl⟩
 have I1:=I.laid (a:=s.heap.objs.size) (o:=.own (s.heap.objs.size+1)) (h':=s.heap.push PySem.W.emptyDict) (t':=s.toks) (fun b u q=>Heap.get?_push_of_some _ q) (Nat.le_refl _) ⟨_,e1⟩
 refine I1.laid (a:=s.heap.objs.size+1) (o:=.ins C s.heap.objs.size []) (t':=s.toks) (fun b u q=>Heap.get?_push_of_some _ q) (Nat.le_of_eq (Heap.size_push _ _)) ?_
 have ne:s.heap.objs.size≠s.heap.objs.size+1:=Nat.ne_of_lt (Nat.lt_succ_self _)
 refine ⟨by rw[upd_ne ne,upd_same],Nat.zero_le _,ne,e2,fun _=>none,(Heap.Ns1.of_empty e3).at fun o q=>Heap.get?_push_of_some _ q,fun _=>True.intro,fun y hy=>absurd rfl hy⟩
theorem attr_of {prog:Program} {w:World} {env:Env} {e:Expr} {f:Str} {pos:Pos} {s:Shared} {Q:Value->Shared->Prop} (hb:attributeBase e f env (eval e env)=eval e env)
  (h:wpAny (model prog w) A (eval e env) (fun o s₁=>wpAny (model prog w) A (getAttr o f true) Q E s₁) E s):wpAny (model prog w) A (eval (.Attribute e f pos) env) Q E s:=
 Attribute_any_ h (by rw[arm_eval_Attribute,hb])
end
def tFld (K:PySem.W.Frag) (ta:TE) (f:Str):TE:=fun σ H Q=>ta σ H fun x H1=>∃ a C dx fs v,x = .ref a/\H1 a=some (.ins C dx fs)/\Cls K C/\NoAttr K C f/\fs.lookup f=some v/\Q v H1
def sFld (K:PySem.W.Frag) (ta tv:TE) (f:Str):TS:=fun D σ H=>tv σ H fun y H1=>ta σ H1 fun x H2=>∃ a C dx fs,x = .ref a/\H2 a=some (.ins C dx fs)/\Cls K C/\NoAttr K C f/\fs.length<1000 /\
 D.nx σ (upd H2 a (.ins C dx (putF f y fs)))
section
variable {X:Cx} {o e value:Expr} {f:Str} {pos pos' tpos:Pos} {ta tv:TE}
theorem pe_fld (he:PE X e ta) (hb:attributeBase e f X.env (eval e X.env)=eval e X.env):PE X (.Attribute e f pos) (tFld X.K ta f):= by
 intro pins s σ H Q I h
 refine attr_of hb (thn (he pins s σ H _ I h) fun u s1 ⟨x,H1,I1,rx,a,C,dx,fs,v,ex,ea,c,n,l,q⟩=>?_)
 subst ex
 obtain rfl:u=Value.ref a:=rx
 exact getattr_ok I1 ea c n l fun u' s2 I2 ru=>⟨v,H1,I2,ru,q⟩
theorem ps_fld (ha:PE X o ta) (hv:PE X value tv) (hs:swapsWith value (some (.Attribute o f pos')) pos.line X.env=pure false):PS X (.Assign [.Attribute o f pos'] value pos) (sFld X.K ta tv f):= by
 intro pins s σ H D I h
 refine plainObj_wpAny_Assign_Attribute (thn (hv pins s σ H _ I h) fun u s1 ⟨y,H1,I1,ry,q⟩=>thn (ha pins s1 σ H1 _ I1 q) fun ov s2 ⟨x,H2,I2,rx,a,C,dx,fs,ex,ea,c,n,l,q2⟩=>?_) hs
 subst ex
 obtain rfl:ov=Value.ref a:=rx
 exact setattr_ok I2 ea c n l ry fun s3 I3=>⟨σ,_,I3,q2⟩
theorem methcall_of {pl:Sem Bool} {m:Str} {apos:Pos} {args:List Expr} {pins:List (Addr × Obj)} {s:Shared} {σ:St} {H:Hp} {Q:Value->Shared->Prop} {te:TE} (he:PE X e te) (I:Inv X pins σ H s)
  (h:te σ H fun x H1=>∃ a C dx fs g,x = .ref a/\H1 a=some (.ins C dx fs)/\Cls X.K C/\Meth X.K C m g/\fs.lookup m=none /\
   ∀ s1,Inv X pins σ H1 s1->wpAny (model X.prog X.w) X.A (callWith pos (.ref g) [.ref a] (backTo pos (starEach args X.env)) (backToKw pos (keywordEach [] X.env))) Q X.xe s1)
  (ht:eval (.Call (.Attribute e m apos) args [] pos) X.env=(do
   let ov <- eval e X.env
   standAt apos.atName
   let (f,first) <- holding [ov] (getMethod ov m pl)
   callWith pos f first (backTo pos (starEach args X.env)) (backToKw pos (keywordEach [] X.env)))) :
  wpAny (model X.prog X.w) X.A (eval (.Call (.Attribute e m apos) args [] pos) X.env) Q X.xe s:= by
 refine PySem.W.methodCall_KW (pl:=pl) (thn (he pins s σ H _ I h) fun u s1 ⟨x,H1,I1,rx,a,C,dx,fs,g,ex,ea,c,k,l,q⟩=>?_) ht
 subst ex
 obtain rfl:u=Value.ref a:=rx
 exact getmeth_ok I1 ea c k l (q s1 I1)
end
section
variable {X:Cx} {pins:List (Addr × Obj)} {σ:St} {H:Hp} {s:Shared} {A:Around} {E:Value->Shared->Prop} {Q:Value->Shared->Prop} {c:Value} {b:Bool}
inductive TyOf (K:PySem.W.Frag) (H:Hp):V->Value->Prop where
 | non : TyOf K H .non (.type "NoneType")
 | bl (x : Bool) : TyOf K H (.bl x) (.type "bool")
 | int (i : Int) : TyOf K H (.int i) (.type "int")
 | str (x : Str) : TyOf K H (.str x) (.type "str")
 | flt (x : UInt64) : TyOf K H (.flt x) (.type "float")
 | lst {a : Addr} {xs : List V} (e : H a = some (.lst xs)) : TyOf K H (.ref a) (.type "list")
 | frz {a : Addr} {o : Obj} {xs : List V} (e : H a = some (.frz o (.lst xs))) : TyOf K H (.ref a) (.type "list")
 | tup {a : Addr} {xs : List V} (e : H a = some (.tup xs)) : TyOf K H (.ref a) (.type "tuple")
 | dK {a : Addr} {kvs : List (Key × V)} (e : H a = some (.dK kvs)) : TyOf K H (.ref a) (.type "dict")
 | dT {a : Addr} {kvs : List (List Key × V)} (e : H a = some (.dT kvs)) : TyOf K H (.ref a) (.type "dict")
 | ins {a C dx : Addr} {fs : List (Str × V)} (e : H a = some (.ins C dx fs)) (cl : Cls K C) (ha : PySem.W.findIn K (.ref C) "__class__" = some (some (.builtin "object.__class__")))
   (hn : PySem.W.specialIn K (.builtin "object.__class__") "__get__" = some (some (.builtin "getset_descriptor.__get__"))) (htk : PySem.W.takesIn K (.builtin "object.__class__") = some true)
   (hm : PySem.W.mroIn K C (.type "object") = some true) : TyOf K H (.ref a) (.ref C)
theorem isinst_ok {x:V} {u t:Value} (I:Inv X pins σ H s) (rx:RelV x u) (ty:TyOf X.K H x t) (e:PySem.W.kitOne X.K t c=some b) (h : ∀ tk,Q (.bool b) { s with toks:=tk }) :
  wpAny (model X.prog X.w) A (call (.builtin "isinstance") [u,c]) Q E s:= by
 cases ty with
 | non=>cases (show u=Value.none from rx);exact PySem.W.kia_one PySem.W.kitx_none I.kIn True.intro e (fun z=>nomatch z) h
 | bl y=>cases (show u=Value.bool y from rx);exact PySem.W.kia_one PySem.W.kitx_bool I.kIn True.intro e (fun z=>nomatch z) h
 | int i=>obtain ⟨t,q⟩:=(show ∃ t,u=Value.int i t from rx);cases q;exact PySem.W.kia_one PySem.W.kitx_int I.kIn True.intro e (fun z=>nomatch z) h
 | str y=>obtain ⟨t,q⟩:=(show ∃ t,u=Value.str y t from rx);cases q;exact PySem.W.kia_one PySem.W.kitx_str I.kIn True.intro e (fun z=>nomatch z) h
 | flt y=>obtain ⟨t,q⟩:=(show ∃ t,u=Value.float y t from rx);cases q;exact PySem.W.kia_one PySem.W.kitx_float I.kIn True.intro e (fun z=>nomatch z) h
 | @lst a xs ea=>
  cases (show u=Value.ref a from rx)
  obtain ⟨_,_,n,_,h1⟩:=(show ObjOk X.prog X.w H s.heap a (.lst xs) from I.hok a _ ea)
  exact PySem.W.kia_one PySem.W.kitx_list I.kIn ⟨_,h1,rfl⟩ e (fun z=>nomatch z) h
 | @frz a ob xs ea=>
  cases (show u=Value.ref a from rx)
  obtain ⟨_,_,_,n,_,h1⟩:=(show ObjOk X.prog X.w H s.heap a (.frz ob (.lst xs)) from I.hok a _ ea)
  exact PySem.W.kia_one PySem.W.kitx_list I.kIn ⟨_,h1,rfl⟩ e (fun z=>nomatch z) h
 | @tup a xs ea=>
  cases (show u=Value.ref a from rx)
  obtain ⟨_,_,_,p⟩:=(show ObjOk X.prog X.w H s.heap a (.tup xs) from I.hok a _ ea)
  obtain ⟨o,h1,h2,_⟩:=p
  exact PySem.W.kia_one PySem.W.kitx_tuple I.kIn ⟨o,h1,h2⟩ e (fun z=>nomatch z) h
 | @dK a kvs ea=>
  cases (show u=Value.ref a from rx)
  obtain ⟨_,_,vs,_,p⟩:=(show ObjOk X.prog X.w H s.heap a (.dK kvs) from I.hok a _ ea)
  obtain ⟨o,es,ep,h1,h2,_⟩:=p
  exact PySem.W.kia_one PySem.W.kitx_dict I.kIn ⟨o,h1,h2.1⟩ e (fun z=>nomatch z) h
 | @dT a kvs ea=>
  cases (show u=Value.ref a from rx)
  obtain ⟨_,_,xs,_,o,es,ep,h1,h2,_⟩:=(show ObjOk X.prog X.w H s.heap a (.dT kvs) from I.hok a _ ea)
  exact PySem.W.kia_one PySem.W.kitx_dict I.kIn ⟨o,h1,h2.1⟩ e (fun z=>nomatch z) h
 | @ins a C dx fs ea cl ha hn htk hm=>
  cases (show u=Value.ref a from rx)
  obtain ⟨mA,O,_⟩:=ins_get I.hok ea
  obtain ⟨od,J,_⟩:=O.look
  exact PySem.W.kia_one (PySem.W.kitx_own (cl.get _) cl.hd ha hn htk hm) I.kIn J e (fun z=>nomatch z) h
end
end L2
namespace L2
open PySem PySem.Spec PyProof.Rows
structure Room (k:Nat) (A:Around):Prop where
 hd:A.handled=none
 dp:A.depth+3*k+5<recursionLimit
 un:A.units+16*k+200<cLine
theorem Room.mono {j k:Nat} {A:Around} (r:Room k A) (h:j<=k):Room j A:=⟨r.hd,by have:=r.dp;omega,by have:=r.un;omega⟩
theorem Room.deeper {k:Nat} {A:Around} (r:Room (k+1) A) (env:Env):Room k (A.deeper env):=
 ⟨r.hd,by have:=r.dp;show A.depth+1+3*k+5<_;omega,by have:=r.un;show A.units+3+16*k+200<_;omega⟩
theorem Room.in1 {k:Nat} {A:Around} (r:Room (k+1) A):Room k A.in1:=
 ⟨r.hd,by have:=r.dp;show A.depth+3*k+5<_;omega,by have:=r.un;show A.units+1+16*k+200<_;omega⟩
theorem make_depth {A : Around} {C : Addr} {us : List Value} {kw : List (Str × Value)} : (A.under (.builtin "type.__call__" ⟨.ref C :: us,kw⟩)).depth = A.depth + 1:= by
 first | rfl | simp [Around.under,Code.weight,Code.isCreation,Code.isGuard,Code.isCaller,Code.frames,Code.isFrame,guardIds]
theorem make_units {A : Around} {C : Addr} {us : List Value} {kw : List (Str × Value)} : (A.under (.builtin "type.__call__" ⟨.ref C :: us,kw⟩)).units = A.units + 1:= by
 first | rfl | simp [Around.under,Code.cUnits,Code.frames,Code.isFrame]
theorem Room.make {k : Nat} {A : Around} (r : Room (k + 1) A) (C : Addr) (us : List Value) (kw : List (Str × Value)) : Room k (A.under (.builtin "type.__call__" ⟨.ref C :: us,kw⟩)):=
 ⟨r.hd,by have:=r.dp;rw[make_depth];omega,by have:=r.un;rw[make_units];omega⟩
theorem Room.depth {k:Nat} {A:Around} (r:Room k A):A.depth<recursionLimit:=by have:=r.dp;omega
theorem Room.units {k:Nat} {A:Around} (r:Room k A):A.units+64<cLine:=by have:=r.un;omega
theorem Room.units0 {k:Nat} {A:Around} (r:Room k A):A.units<cLine:=by have:=r.un;omega
def tNil:TA:=fun _ H Q=>Q [] H
def tCons (ta:TE) (tr:TA):TA:=fun σ H Q=>ta σ H fun x H1=>tr σ H1 fun xs H2=>Q (x::xs) H2
section
variable {X:Cx} {e:Expr} {es:List Expr} {te:TE} {t:TA} {pos:Pos}
theorem pa_nil:PA X [] tNil:=fun _ _ _ _ H Q I h=>Calls.spliced_nil ⟨[],H,I,.nil,h⟩
theorem pa_cons (ha:PE X e te) (hr:PA X es t) (hs:starEach (e::es) X.env=(false,eval e X.env)::starEach es X.env:=by rfl):PA X (e::es) (tCons te t):= by
 intro pos pins s σ H Q I h
 rw[hs]
 show wpAny _ _ (spliced ((false,eval e X.env)::backTo pos (starEach es X.env))) _ _ s
 refine Calls.spliced_cons (thn (ha pins s σ H _ I h) fun u s1 ⟨x,H1,I1,r1,q1⟩=>?_)
 exact thn (hr pos pins s1 σ H1 _ I1 q1) fun us s2 ⟨xs,H2,I2,r2,q2⟩=>⟨x::xs,H2,I2,.cons r1 r2,q2⟩
def tTup (t:TA):TE:=fun σ H Q=>t σ H fun xs H1=>xs.length<=sizeLine /\ ∀ p,H1 p=none->Q (.ref p) (upd H1 p (.tup xs))
def tLst (t:TA):TE:=fun σ H Q=>t σ H fun xs H1=>xs.length<=sizeLine /\ ∀ p,H1 p=none->Q (.ref p) (upd H1 p (.lst xs))
theorem pe_tup {x1} (h:PA X es t):PE X (.Tuple es x1 pos) (tTup t):= by
 intro pins s σ H Q I hq
 refine wpAny_Tuple_spliced (thn (h pos pins s σ H _ I hq) fun us s1 ⟨xs,H1,I1,r,z,q⟩=>⟨by rw[<- r.length];exact z,?_⟩)
 have hf:H1 s1.heap.objs.size=none:=I1.hok.fresh (Nat.le_refl _)
 refine ⟨.ref s1.heap.objs.size,upd H1 s1.heap.objs.size (.tup xs),I1.laid (t':=s1.toks) (fun b u e=>Heap.get?_push_of_some _ e) (Nat.le_refl _) ?_,rfl,q _ hf⟩
 exact ⟨z,us,r,⟨_,Heap.get?_push_size _ rfl,rfl,_,rfl⟩⟩
theorem pe_lst (h:PA X es t):PE X (.List es pos) (tLst t):= by
 intro pins s σ H Q I hq
 refine wpAny_List_spliced (thn (h pos pins s σ H _ I hq) fun us s1 ⟨xs,H1,I1,r,z,q⟩=>⟨by rw[<- r.length];exact z,?_⟩)
 have hf:H1 s1.heap.objs.size=none:=I1.hok.fresh (Nat.le_refl _)
 refine ⟨.ref s1.heap.objs.size,upd H1 s1.heap.objs.size (.lst xs),I1.laid (t':=s1.toks) (fun b u e=>Heap.get?_push_of_some _ e) (Nat.le_refl _) ?_,rfl,q _ hf⟩
 exact ⟨z,us,0,r,Heap.get?_push_size _ rfl⟩
end
abbrev Sp:=List V->Hp->VK->XK->Prop
abbrev CXT:=List Env->Hp->Shared->XK->Value->Shared->Prop
structure Env0 (P:Program) (w:World) (K:PySem.W.Frag) (mg:Str->Option Value) (base:Heap) (A:Around) (outer:List Env) (s:Shared) (H:Hp):Prop where
 frames:A.frames=some outer
 mod:Mod K mg base
 bs : ∀ b o,base.get? b=some o->s.heap.get? b=some o/\H b=none
 bsz:base.objs.size<=s.heap.objs.size
 funs:s.heap.FunFrames base outer
 frf : ∀ b ∈ frs outer,H b=none
 hok:HOk P w H s.heap
 bare:AllBare s.gens
def CE (outer:List Env) (P:Program) (w:World) (H:Hp) (s:Shared) (Q:VK) (u:Value) (s':Shared):Prop:=
 ∃ v H',s'.os=s.os/\AllBare s'.gens/\Un (frs outer) [] H H' s.heap s'.heap/\HOk P w H' s'.heap/\RelV v u/\Q v H'
def CR (CX:CXT) (outer:List Env) (P:Program) (w:World) (H:Hp) (s:Shared) (Q:VK) (E:XK) (r:Result) (s':Shared):Prop:=
 match r with
 | .ok (.ret u)=>CE outer P w H s Q u s'
 | .ok _=>False
 | .error e=>CX outer H s E e s'
structure FnOk (P:Program) (w:World) (K:PySem.W.Frag) (mg:Str->Option Value) (base:Heap) (CX:CXT) (k:Nat) (f:Addr) (fd:FuncData) (ps:List Str) (sp:Sp):Prop where
 len : ∀ vs H Q E,sp vs H Q E->vs.length=ps.length
 run : ∀ (A:Around) (outer:List Env) (s:Shared) (H:Hp) (args:Args) (us:List Value) (vs:List V) (Q:VK) (E:XK),Room k A->Env0 P w K mg base A outer s H->BindsTo s fd args (ps.zip us)->Vals vs us->sp vs H Q E ->
  codeAny (model P w) A (.call (.ref f) args) (CR CX outer P w H s Q E) s
theorem Env0.make {P:Program} {w:World} {K:PySem.W.Frag} {mg:Str->Option Value} {base:Heap} {A:Around} {outer:List Env} {s:Shared} {H:Hp} (e:Env0 P w K mg base A outer s H) (C:Addr) (us:List Value) (kw:List (Str × Value)) :
  Env0 P w K mg base (A.under (.builtin "type.__call__" ⟨.ref C :: us,kw⟩)) outer s H:=⟨by first | exact e.frames | (simpa [Around.under,Code.envs,Code.isFrame,pushEnvs] using e.frames),e.mod,e.bs,e.bsz,e.funs,e.frf,e.hok,e.bare⟩
section
variable {X:Cx} {pins:List (Addr × Obj)} {σ:St} {H:Hp} {s s':Shared}
theorem Inv.env0 (I:Inv X pins σ H s):Env0 X.prog X.w X.K X.mg X.base X.A X.stack s H:=
 ⟨I.ok.frames,I.ok.mod,I.bs,Nat.le_trans I.ok.bsz I.sz,I.stack,I.stkFree,I.hok,I.bare⟩
theorem Inv.after {Q:VK} {u:Value} (I:Inv X pins σ H s) (h:CE X.stack X.prog X.w H s Q u s'):EP X pins σ Q u s':= by
 obtain ⟨v,H',os,bare,un,hok,r,q⟩:=h
 obtain ⟨hh,g,d,t,os'⟩:=s'
 obtain rfl:os'=s.os:=os
 exact ⟨v,H',I.call (h':=hh) (g':=g) (d':=d) (t':=t) (ch:=[]) un hok bare (fun b z=>absurd z (by simp)),r,q⟩
end
def tCall (sp:Sp) (dvs:List V) (E:XK) (t:TA):TE:=fun σ H Q=>t σ H fun vs H1=>sp (vs++dvs) H1 Q E
def tMeth (C:Addr) (m:Str) (sp:Sp) (dvs:List V) (E:XK) (ta:TE) (t:TA):TE:=fun σ H Q=>ta σ H fun x H1=>∃ a dx fs,x = .ref a/\H1 a=some (.ins C dx fs)/\fs.lookup m=none /\
 t σ H1 fun vs H2=>sp (x::(vs++dvs)) H2 Q E
def tMake (C:Addr) (sp:Sp) (dvs:List V) (E:XK) (t:TA):TE:=fun σ H Q=>t σ H fun vs H1=>∀ x dx,H1 x=none->H1 dx=none->dx≠x ->
 sp (.ref x::(vs++dvs)) (upd (upd H1 dx (.own x)) x (.ins C dx [])) (fun v H2=>v = .non/\Q (.ref x) H2) E
def Binds (K:PySem.W.Frag) (fd:FuncData) (ps:List Str) (ds:List Value):Prop:=
 ∀ (s:Shared) (us:List Value),K.In s.heap->(us++ds).length=ps.length->BindsTo s fd ⟨us,[]⟩ (ps.zip (us++ds))
theorem Binds.all {K:PySem.W.Frag} {fd:FuncData} {ps:List Str} (h : ∀ us:List Value,us.length=ps.length->bindArgs fd ⟨us,[]⟩=pure (ps.zip us)):Binds K fd ps []:=fun s us _ hl=>by
 rw[List.append_nil] at hl ⊢
 exact .of_eq (h us hl)
def Passes (CX:CXT) (X:Cx) (E:XK):Prop:=∀ (pins:List (Addr × Obj)) (σ:St) (H:Hp) (s:Shared) (e:Value) (s':Shared),Inv X pins σ H s->CX X.stack H s E e s'->X.xe e s'
section
variable {X:Cx} {CX:CXT} {k:Nat} {f C:Addr} {fd:FuncData} {ps:List Str} {sp:Sp} {dvs:List V} {ds:List Value} {E:XK} {x m:Str} {p pos apos:Pos} {e o:Expr} {es:List Expr} {ta:TE} {t:TA}
theorem run_fn {pins:List (Addr × Obj)} {σ:St} {H:Hp} {s:Shared} {Q:VK} {us:List Value} {vs:List V} (F:FnOk X.prog X.w X.K X.mg X.base CX k f fd ps sp) (hr:Room k X.A) (hb:Binds X.K fd ps ds) (hd:Vals dvs ds) (hx:Passes CX X E)
  (I:Inv X pins σ H s) (r:Vals vs us) (h:sp (vs++dvs) H Q E):wpAny (model X.prog X.w) X.A (call (.ref f) us) (EP X pins σ Q) X.xe s:= by
 have r2:Vals (vs++dvs) (us++ds):=r.append hd
 have hl:(us++ds).length=ps.length:=by rw[<- r2.length];exact F.len _ _ _ _ h
 refine wpAny_call (codeAny_mono (F.run X.A X.stack s H ⟨us,[]⟩ (us++ds) (vs++dvs) Q E hr I.env0 (hb s us I.kIn hl) r2 h) fun r s' hq=>?_)
 cases r with
 | error e=>exact hx pins σ H s e s' I hq
 | ok fl=>
  cases fl with
  | ret u=>exact I.after hq
  | next=>exact False.elim hq
  | brk=>exact False.elim hq
  | cont=>exact False.elim hq
theorem pe_call (F:FnOk X.prog X.w X.K X.mg X.base CX k f fd ps sp) (hr:Room k X.A) (hg:Gl X x) (hm:X.mg x=some (.ref f)) (hk:PySem.W.keepIn X.K (.ref f)=true) (hb:Binds X.K fd ps ds) (hd:Vals dvs ds) (hx:Passes CX X E)
  (ha : PA X (e :: es) t) (hdb : (x == ("__debug__" : Str)) = false:=by decide) (he : starEach (e :: es) X.env = (false,eval e X.env) :: starEach es X.env:=by rfl) (hpl : (backTo pos (starEach es X.env)).any (·.1) = false:=by rfl) :
  PE X (.Call (.Name x p) (e::es) [] pos) (tCall sp dvs E t):= by
 intro pins s σ H Q I h
 refine wpAny_Call_Name_kw (ld_glob I hg hm ?_ hdb)
 refine PySem.W.callWith_K (h₀:=X.base) I.ok.mod.kin hk (thn (ha pos pins s σ H _ I h) fun us s1 ⟨vs,H1,I1,r,q⟩=>⟨I1.kIn,?_⟩) he hpl
 exact run_fn F hr hb hd hx I1 r q
theorem pe_meth {pl:Sem Bool} (he:PE X o ta) (c:Cls X.K C) (hm:Meth X.K C m f) (F:FnOk X.prog X.w X.K X.mg X.base CX k f fd ps sp) (hr:Room k X.A) (hb:Binds X.K fd ps ds) (hd:Vals dvs ds) (hx:Passes CX X E) (ha:PA X (e::es) t)
  (hst:starEach (e::es) X.env=(false,eval e X.env)::starEach es X.env:=by rfl) (hpl:(backTo pos (starEach es X.env)).any (·.1)=false:=by rfl)
  (ht:eval (.Call (.Attribute o m apos) (e::es) [] pos) X.env=(do
   let ov <- eval o X.env
   standAt apos.atName
   let (f,first) <- holding [ov] (getMethod ov m pl)
   callWith pos f first (backTo pos (starEach (e::es) X.env)) (backToKw pos (keywordEach [] X.env))):=by rfl) :
  PE X (.Call (.Attribute o m apos) (e::es) [] pos) (tMeth C m sp dvs E ta t):= by
 intro pins s σ H Q I h
 refine PySem.W.methodCall_KW (pl:=pl) (thn (he pins s σ H _ I h) fun u s1 ⟨x,H1,I1,rx,a,dx,fs,ex,ea,l,q⟩=>?_) ht
 subst ex
 obtain rfl:u=Value.ref a:=rx
 refine getmeth_ok I1 ea c hm l ?_
 refine PySem.W.callWith_K (first:=[.ref a]) (h₀:=X.base) I.ok.mod.kin hm.kp (thn (ha pos pins s1 σ H1 _ I1 q) fun us s2 ⟨vs,H2,I2,r,q2⟩=>⟨I2.kIn,?_⟩) hst hpl
 exact run_fn (us:=.ref a::us) (vs:=.ref a::vs) F hr hb hd hx I2 (.cons rfl r) q2
theorem pe_meth0 {pl:Sem Bool} (he:PE X o ta) (c:Cls X.K C) (hm:Meth X.K C m f) (F:FnOk X.prog X.w X.K X.mg X.base CX k f fd ps sp) (hr:Room k X.A) (hb:Binds X.K fd ps ds) (hd:Vals dvs ds) (hx:Passes CX X E)
  (ht:eval (.Call (.Attribute o m apos) [] [] pos) X.env=(do
   let ov <- eval o X.env
   standAt apos.atName
   let (f,first) <- holding [ov] (getMethod ov m pl)
   callWith pos f first (backTo pos (starEach [] X.env)) (backToKw pos (keywordEach [] X.env))):=by rfl) :
  PE X (.Call (.Attribute o m apos) [] [] pos) (tMeth C m sp dvs E ta tNil):= by
 intro pins s σ H Q I h
 refine PySem.W.methodCall_KW (pl:=pl) (thn (he pins s σ H _ I h) fun u s1 ⟨x,H1,I1,rx,a,dx,fs,ex,ea,l,q⟩=>?_) ht
 subst ex
 obtain rfl:u=Value.ref a:=rx
 refine getmeth_ok I1 ea c hm l ?_
 exact PySem.W.callWith_K0 (first:=[.ref a]) I1.kIn hm.kp (run_fn (us:=[.ref a]) (vs:=[.ref a]) F hr hb hd hx I1 (.cons rfl .nil) q)
structure Mk (K:PySem.W.Frag) (C f:Addr):Prop where
 makes:PySem.W.makesIn K C=true
 init : PySem.W.findIn K (.ref C) "__init__" = some (some (.ref f))
 fn:PySem.W.isFn K (.ref f)=true
 kp:PySem.W.keepIn K (.ref C)=true
theorem run_make {pins:List (Addr × Obj)} {σ:St} {H:Hp} {s:Shared} {Q:VK} {us:List Value} {vs:List V} (M:Mk X.K C f) (F:FnOk X.prog X.w X.K X.mg X.base CX k f fd ps sp) (hr:Room (k+1) X.A) (hb:Binds X.K fd ps ds) (hd:Vals dvs ds)
  (hx:Passes CX X E) (I:Inv X pins σ H s) (r:Vals vs us)
  (h : ∀ x dx,H x=none->H dx=none->dx≠x->sp (.ref x::(vs++dvs)) (upd (upd H dx (.own x)) x (.ins C dx [])) (fun v H2=>v = .non/\Q (.ref x) H2) E) :
  wpAny (model X.prog X.w) X.A (call (.ref C) us) (EP X pins σ Q) X.xe s:= by
 have hq:=h (s.heap.objs.size+1) s.heap.objs.size (I.hok.fresh (Nat.le_succ _)) (I.hok.fresh (Nat.le_refl _)) (Nat.ne_of_lt (Nat.lt_succ_self _))
 have I2:=Inv.made (C:=C) I
 have r2:Vals (V.ref (s.heap.objs.size+1)::(vs++dvs)) (Value.ref (s.heap.objs.size+1)::(us++ds)):=.cons rfl (r.append hd)
 have hl:(Value.ref (s.heap.objs.size+1)::us++ds).length=ps.length:= by
  have e:=r2.length
  rw[F.len _ _ _ _ hq] at e
  exact e.symm
 refine wpAny_call (make_map (f:=f) I.kIn M.makes M.init (beq_iff_eq.mp M.fn) (codeAny_mono (F.run _ X.stack _ _ ⟨Value.ref (s.heap.objs.size+1)::us,[]⟩ (Value.ref (s.heap.objs.size+1)::(us++ds)) _ _ E (hr.make C us [])
  (I2.env0.make C us []) (hb _ (Value.ref (s.heap.objs.size+1)::us) I2.kIn hl) r2 hq) fun r s' hq'=>?_))
 cases r with
 | error e=>exact hx pins σ _ _ e s' I2 hq'
 | ok fl=>
  cases fl with
  | ret u=>
   obtain ⟨v,H',I3,rv,ev,q3⟩:=I2.after hq'
   subst ev
   exact ⟨rv,⟨V.ref (s.heap.objs.size+1),H',I3,rfl,q3⟩⟩
  | next=>exact False.elim hq'
  | brk=>exact False.elim hq'
  | cont=>exact False.elim hq'
theorem pe_make (M:Mk X.K C f) (F:FnOk X.prog X.w X.K X.mg X.base CX k f fd ps sp) (hr:Room (k+1) X.A) (hg:Gl X x) (hm:X.mg x=some (.ref C)) (hb:Binds X.K fd ps ds) (hd:Vals dvs ds) (hx:Passes CX X E)
  (ha : PA X (e :: es) t) (hdb : (x == ("__debug__" : Str)) = false:=by decide) (he : starEach (e :: es) X.env = (false,eval e X.env) :: starEach es X.env:=by rfl) (hpl : (backTo pos (starEach es X.env)).any (·.1) = false:=by rfl) :
  PE X (.Call (.Name x p) (e::es) [] pos) (tMake C sp dvs E t):= by
 intro pins s σ H Q I h
 refine wpAny_Call_Name_kw (ld_glob I hg hm ?_ hdb)
 refine PySem.W.callWith_K (h₀:=X.base) I.ok.mod.kin M.kp (thn (ha pos pins s σ H _ I h) fun us s1 ⟨vs,H1,I1,r,q⟩=>⟨I1.kIn,?_⟩) he hpl
 exact run_make M F hr hb hd hx I1 r q
end
section
variable {X:Cx} {CX:CXT} {k:Nat} {f C:Addr} {fd:FuncData} {ps ks:List Str} {sp:Sp} {E:XK} {x m:Str} {p pos apos kpos:Pos} {e o:Expr} {es:List Expr} {kws:List Keyword} {te ta:TE} {t tk:TA} {nm:Option Str}
variable {g:List Value->List Value->List Value} {gV:List V->List V->List V}
end
structure FnScope (N P:List Str) (sc:Scope):Prop where
 kind:sc.kind = .function
 co:sc.isCoroutine=false
 gen:sc.isGenerator=false
 nd:N.Nodup
 pre:N.take P.length=P
 par : ∀ x ∈ P,sc.names.lookup x=some .local\/sc.names.lookup x=some .cell
 nofree : ∀ y ∈ sc.names,y.2 ≠ .free
theorem bindL_out {kindOf:Str->Option NameKind} {x:Str} : ∀ {binds:List (Str × Value)} {m:Str->Option Value},(∀ v,(x,v) ∉ binds)->bindL kindOf binds m x=m x
 | [],_,_=>rfl
 | (n,v)::r,m,h=>by
  unfold bindL
  rw[bindL_out fun w hw=>h w (List.mem_cons_of_mem _ hw)]
  split
  ·have:x≠n:=by rintro rfl;exact h v List.mem_cons_self
   simp [this]
  ·rfl
theorem bindC_out {kindOf:Str->Option NameKind} {x:Str} : ∀ {binds:List (Str × Value)} {m:Str->Option Value},(∀ v,(x,v) ∉ binds)->bindC kindOf binds m x=m x
 | [],_,_=>rfl
 | (n,v)::r,m,h=>by
  unfold bindC
  rw[bindC_out fun w hw=>h w (List.mem_cons_of_mem _ hw)]
  split
  ·rfl
  ·have:x≠n:=by rintro rfl;exact h v List.mem_cons_self
   simp [this]
theorem bindL_get {kindOf:Str->Option NameKind} {x:Str} {v:Value} : ∀ {P:List Str} {vs:List Value} {i:Nat} {m:Str->Option Value},P.Nodup->P[i]?=some x->vs[i]?=some v->kindOf x=some .local ->
  bindL kindOf (P.zip vs) m x=some v
 | [],_,_,_,_,h,_,_=>by simp at h
 | _::_,[],_,_,_,_,h,_=>by simp at h
 | p::P,w::vs,0,m,nd,h1,h2,hk=>by
  simp at h1 h2;subst h1;subst h2
  show bindL kindOf ((p,w)::P.zip vs) m p=_
  unfold bindL
  rw[bindL_out fun v hv=>(List.nodup_cons.mp nd).1 (List.of_mem_zip hv).1,if_pos hk]
  simp
 | p::P,w::vs,i+1,m,nd,h1,h2,hk=>by
  show bindL kindOf ((p,w)::P.zip vs) m x=_
  unfold bindL
  exact bindL_get (i:=i) (List.nodup_cons.mp nd).2 (by simpa using h1) (by simpa using h2) hk
theorem bindC_get {kindOf:Str->Option NameKind} {x:Str} {v:Value} : ∀ {P:List Str} {vs:List Value} {i:Nat} {m:Str->Option Value},P.Nodup->P[i]?=some x->vs[i]?=some v->kindOf x≠some .local ->
  bindC kindOf (P.zip vs) m x=some v
 | [],_,_,_,_,h,_,_=>by simp at h
 | _::_,[],_,_,_,_,h,_=>by simp at h
 | p::P,w::vs,0,m,nd,h1,h2,hk=>by
  simp at h1 h2;subst h1;subst h2
  show bindC kindOf ((p,w)::P.zip vs) m p=_
  unfold bindC
  rw[bindC_out fun v hv=>(List.nodup_cons.mp nd).1 (List.of_mem_zip hv).1,if_neg hk]
  simp
 | p::P,w::vs,i+1,m,nd,h1,h2,hk=>by
  show bindC kindOf ((p,w)::P.zip vs) m x=_
  unfold bindC
  exact bindC_get (i:=i) (List.nodup_cons.mp nd).2 (by simpa using h1) (by simpa using h2) hk
def start (N:List Str) (vs:List V):St:=vs.map some++List.replicate (N.length-vs.length) none
def cxOf (CX:CXT) (P:Program) (w:World) (K:PySem.W.Frag) (mg:Str->Option Value) (base:Heap) (N:List Str) (qual:Str) (scope:Scope) (f:Addr) (cd:Value) (A:Around) (outer:List Env) (s:Shared) (H:Hp) (E:XK):Cx where
 prog:=P
 w:=w
 K:=K
 mg:=mg
 base:=base
 A:=A.deeper (envOfC qual scope s.heap.objs.size f cd)
 N:=N
 s₀:=s
 H₀:=H
 env:=envOfC qual scope s.heap.objs.size f cd
 outer:=outer
 stack:=envOfC qual scope s.heap.objs.size f cd::outer
 ex:=[]
 calm:=true
 fn:=fun _=>true
 pn:=[]
 xe:=fun e s'=>wpAny (model P w) (A.deeper (envOfC qual scope s.heap.objs.size f cd)) (leaving (envOfC qual scope s.heap.objs.size f cd) e) (fun _ s''=>CX outer H s E e s'') (fun e' s''=>CX outer H s E e' s'') s'
theorem cell_has {sc:Scope} {n:Nat} {x:Str} (h:sc.names.lookup x=some .cell) : ∃ c,(cellsFrom n sc.names []).lookup x=some c:= by
 have q:=PySem.W.cellsFrom_some sc.names n [] (.inl h)
 exact Option.isSome_iff_exists.mp q
theorem inv_start {CX:CXT} {P:Program} {w:World} {K:PySem.W.Frag} {mg:Str->Option Value} {base:Heap} {N ps:List Str} {qual:Str} {scope:Scope} {f:Addr} {cd:Value} {A:Around} {outer:List Env} {s s1:Shared} {H:Hp} {E:XK} {us:List Value} {vs:List V}
  (S:FnScope N ps scope) (hd:A.handled=none) (e0:Env0 P w K mg base A outer s H) (hl:vs.length=ps.length) (r:Vals vs us)
  (x:InCallC s s.heap.objs.size (bindL (envOfC qual scope s.heap.objs.size f cd).kindOf (ps.zip us) fun _=>none) (cellsFrom (s.heap.objs.size+1) scope.names []) (bindC (envOfC qual scope s.heap.objs.size f cd).kindOf (ps.zip us) fun _=>none) s1) :
  Inv (cxOf CX P w K mg base N qual scope f cd A outer s H E) [] (start N vs) H s1:= by
 have hpl:ps.length<=N.length:=by have:=congrArg List.length S.pre;rw[List.length_take] at this;omega
 obtain ⟨h1,tk,rfl,hk⟩:=x.done
 have noA : ∀ b:Addr,b ∉ (cxOf CX P w K mg base N qual scope f cd A outer s H E).ex:=fun b z=>absurd (show b ∈ ([]:List Addr) from z) (by simp)
 refine ⟨⟨e0.mod,S.kind,rfl,rfl,Nat.le_refl _,fun y z c h1 h2=>?_,fun y hy=>?_,fun y c _ h=>?_,fun _=>hd,Around.frames_deeper e0.frames,.inr ⟨rfl,rfl⟩,fun b z=>absurd z (noA b),e0.bs,e0.bsz,fun b _ _=>noA b,fun b z=>absurd z (noA b),e0.funs,e0.frf⟩,
  rfl,e0.bare,Un.kept hk,⟨_,x.toInCall.ns,fun i y v h1 h2 h3=>?_⟩,fun y c h=>⟨_,x.cell y c h⟩,e0.hok.fresh (Nat.le_refl _),fun y c h=>?_,fun p hp=>absurd (show p ∈ ([]:List (Addr × Obj)) from hp) (by simp),e0.hok.kept hk,?_⟩
 ·exact name_of_addr x.apart (PySem.mem_of_lookup h1) (PySem.mem_of_lookup h2)
 ·have hy:scope.names.lookup y=some .cell\/scope.names.lookup y=some .free:=hy
  rcases hy with hy | hy
  ·exact cell_has hy
  ·exact absurd rfl (S.nofree _ (PySem.mem_of_lookup hy))
 ·exact Nat.le_of_lt (x.above y c (PySem.mem_of_lookup h))
 ·have hi:i<vs.length:= by
   unfold start at h2
   by_cases hi:i<vs.length
   ·exact hi
   ·rw[List.getElem?_append_right (by simpa using hi)] at h2
    rw[List.getElem?_replicate] at h2
    split at h2 <;> cases h2
  have ha:vs[i]?=some v:= by
   unfold start at h2
   rw[List.getElem?_append_left (by simpa using hi),List.getElem?_map] at h2
   cases e:vs[i]? with
   | none=>rw[e] at h2;cases h2
   | some a=>rw[e] at h2;cases h2;rfl
  obtain ⟨u,hu,rv⟩:=r.get ha
  have hp:ps[i]?=some y:= by
   rw[<- S.pre,List.getElem?_take_of_lt (by omega)];exact h1
  have ndP:ps.Nodup:=by rw[<- S.pre];exact S.nd.sublist (List.take_sublist _ _)
  refine ⟨u,rv,?_⟩
  rcases S.par y (List.mem_of_getElem? hp) with k | k
  ·exact .inl ⟨k,bindL_get ndP hp hu k⟩
  ·obtain ⟨c,e⟩:=cell_has (n:=s.heap.objs.size+1) k
   refine .inr ⟨.inl k,c,e,?_⟩
   have q:=x.cell y c e
   rw[bindC_get ndP hp hu (by show scope.names.lookup y≠_;rw[k];decide)] at q
   exact q
 ·exact e0.hok.fresh (Nat.le_of_lt (x.above y c (PySem.mem_of_lookup h)))
 ·unfold start
  show _=N.length
  rw[List.length_append,List.length_map,List.length_replicate]
  omega
theorem fn_of {CX:CXT} {P:Program} {w:World} {K:PySem.W.Frag} {mg:Str->Option Value} {base:Heap} {k:Nat} {f:Addr} {name qual:Str} {params:Arguments} {body:List Stmt} {scope:Scope} {dV kV doc pm cdv ct oc:Value} {an od:Option Addr}
  {osl:Array (Option Value)} {N ps:List Str} {sp:Sp} (lk:K.lookup f=some ⟨oc,od,.func (PySem.W.fnOf name qual params body scope dV kV doc pm an cdv ct),osl⟩) (hcd:PySem.W.codeIn K cdv qual=true) (S:FnScope N ps scope)
  (len : ∀ vs H Q E,sp vs H Q E->vs.length=ps.length)
  (hbody : ∀ (A:Around) (outer:List Env) (s:Shared) (H:Hp) (vs:List V) (Q:VK) (E:XK),Room k (A.deeper (envOfC qual scope s.heap.objs.size f cdv))->sp vs H Q E ->
   ∃ t,PSs (cxOf CX P w K mg base N qual scope f cdv A outer s H E) body t/\t { nx:=fun _ H'=>Q .non H',rt:=Q } (start N vs) H) :
  FnOk P w K mg base CX (k+1) f (PySem.W.fnOf name qual params body scope dV kV doc pm an cdv ct) ps sp:= by
 refine ⟨len,fun A outer s H args us vs Q E hr e0 hb r hsp=>?_⟩
 have hl:=len _ _ _ _ hsp
 have KX:K.In s.heap:=e0.mod.kin.keeps fun b o e=>(e0.bs b o e).1
 have lim:s.heap.NoLimit:=e0.mod.nolimit.keeps fun b o e=>(e0.bs b o e).1
 have hkind : ∀ y ∈ ps.zip us,scope.names.lookup y.1=some .local\/(scope.names.lookup y.1=some .cell/\((cellsFrom (s.heap.objs.size+1) scope.names []).lookup y.1).isSome=true):=fun ⟨n,v⟩ hy=>by
  rcases S.par n (List.of_mem_zip hy).1 with q | q
  ·exact .inl q
  ·exact .inr ⟨q,PySem.W.cellsFrom_some _ _ _ (.inl q)⟩
 refine codeAny_call_function hr.depth (KX _ _ lk) rfl S.co S.gen rfl (PySem.W.codeRec_of KX hcd) (hb _ _ _ _ ?_)
 refine wpAny_newFunctionEnv_cells S.kind hkind fun env he s1 x=>?_
 subst he
 refine ⟨lim.keeps x.toInCall.keep,codeAny_func ?_⟩
 obtain ⟨t,ht,hq⟩:=hbody A outer s H vs Q E (hr.deeper _) hsp
 have I:Inv (cxOf CX P w K mg base N qual scope f cdv A outer s H E) [] (start N vs) H s1:=inv_start S hr.hd e0 hl r x
 refine wpAny_mono (ht [] s1 (start N vs) H _ I hq) (fun fl s' hs=>?_) fun e s' hs=>hs
 have fin : ∀ {σ':St} {H':Hp} {v:V} {u:Value},Inv (cxOf CX P w K mg base N qual scope f cdv A outer s H E) [] σ' H' s'->RelV v u->Q v H'->CE outer P w H s Q u s':=
  fun {σ' H' v u} J rv q=>⟨v,H',J.os,J.bare,J.base,J.hok,rv,q⟩
 cases fl with
 | ret u=>
  obtain ⟨v,σ',H',J,rv,q⟩:=hs
  exact fin J rv q
 | next=>
  obtain ⟨σ',H',J,q⟩:=hs
  exact fin (v:=V.non) (u:=Value.none) J rfl q
 | brk=>
  obtain ⟨_,_,_,q⟩:=hs
  exact False.elim q
 | cont=>
  obtain ⟨_,_,_,q⟩:=hs
  exact False.elim q
end L2
namespace L2
open PySem PySem.Spec PyProof.Rows
section
variable {X:Cx} {x:Str} {p pos:Pos} {e:Expr} {es:List Expr} {t:TA} {id T:String} {r:List V->Hp->VK->Prop}
def tCB (r:List V->Hp->VK->Prop) (t:TA):TE:=fun σ H Q=>t σ H fun vs H1=>r vs H1 Q
theorem pe_callB (hc : CallR X (.builtin id) r) (hg : Gl X x) (hm : X.mg x = none) (hv : bootBuiltins x = some (.builtin id)) (ha : PA X (e :: es) t) (hn : x ≠ "__name__":=by decide) (hdb : (x == ("__debug__" : Str)) = false:=by decide)
  (he:starEach (e::es) X.env=(false,eval e X.env)::starEach es X.env:=by rfl) (hpl:(backTo pos (starEach es X.env)).any (·.1)=false:=by rfl):PE X (.Call (.Name x p) (e::es) [] pos) (tCB r t):= by
 intro pins s σ H Q I h
 refine wpAny_Call_Name_kw (ld_blt I hg hm hv ?_ hn hdb)
 exact PyProof.Rows.callWith_builtin1 (thn (ha pos pins s σ H _ I h) fun us s1 ⟨vs,H1,I1,r1,q1⟩=>hc pins s1 σ H1 vs us Q I1 r1 q1) he hpl
theorem pe_callTy (hc : CallR X (.type T) r) (hg : Gl X x) (hm : X.mg x = none) (hv : bootBuiltins x = some (.type T)) (ha : PA X (e :: es) t) (hn : x ≠ "__name__":=by decide) (hdb : (x == ("__debug__" : Str)) = false:=by decide)
  (he:starEach (e::es) X.env=(false,eval e X.env)::starEach es X.env:=by rfl) (hpl:(backTo pos (starEach es X.env)).any (·.1)=false:=by rfl):PE X (.Call (.Name x p) (e::es) [] pos) (tCB r t):= by
 intro pins s σ H Q I h
 refine wpAny_Call_Name_kw (ld_blt I hg hm hv ?_ hn hdb)
 exact PyProof.Rows.callWith_type1 (thn (ha pos pins s σ H _ I h) fun us s1 ⟨vs,H1,I1,r1,q1⟩=>hc pins s1 σ H1 vs us Q I1 r1 q1) he hpl
end
end L2
namespace HT
open PySem PyProof.Rows
def lexLt:List Int->List Int->Bool
 | [],[]=>false
 | [],_::_=>true
 | _::_,[]=>false
 | x::xs,y::ys=>if x=y then lexLt xs ys else decide (x<y)
theorem lexLt_cons (x y:Int) (xs ys:List Int):lexLt (x::xs) (y::ys)=if x=y then lexLt xs ys else decide (x<y):=rfl
theorem lexLt_nil_nil:lexLt [] []=false:=rfl
theorem lexLt_nil_cons (y:Int) (ys:List Int):lexLt [] (y::ys)=true:=rfl
theorem lexLt_cons_nil (x:Int) (xs:List Int):lexLt (x::xs) []=false:=rfl
section
open PySem.SeqAt
open PySem.AutoSeq1 (wpAny_loadPart')
open PySem.MeetsSeq PySem.MeetsSeq2 PySem.MeetsSeq3
end
section
variable {prog:Program} {w:World} {A:Around} {E:Value->Shared->Prop} {s:Shared}
theorem cat_tup {t b:Addr} {vs ws:List Value} {Q:Value->Shared->Prop} (ht:IsTup s.heap t vs.toArray) (hb:IsTup s.heap b ws.toArray) (hv:vs≠[])
  (h1 : ws = [] -> Q (.ref t) s) (h2 : ws ≠ [] -> Q (.ref s.heap.objs.size) { s with heap:=s.heap.push { cls:=.type "tuple",data:=.seq (vs ++ ws).toArray } })
  (hsz:vs.length+ws.length<=sizeLine):wpAny (model prog w) A (binaryOp .Add (.ref t) (.ref b)) Q E s:= by
 obtain ⟨⟨cls,dd,data,sl⟩,ho,hc,n,hd⟩:=id ht
 obtain ⟨⟨cls2,dd2,data2,sl2⟩,ho2,hc2,n2,hd2⟩:=id hb
 simp only at hc hd hc2 hd2
 subst hc hd hc2 hd2
 have e:vs.toArray++ws.toArray=(vs++ws).toArray:=by simp
 by_cases hw:ws=[]
 ·exact concat_meets ⟨_,ho,rfl⟩ ⟨_,ho2,rfl⟩ noFill_tuple_add seq_tuple_add PySem.F.slot_tuple_add PySem.F.entry_tuple_add (PySem.F.args_tuple_add_2 _ _)
   (tuple_addW1 t b vs.toArray ws.toArray n n2 dd dd2 sl sl2 (by simpa using hv) (by simp [hw])) ⟨ho,ho2,h1 hw⟩
 ·refine concat_meets ⟨_,ho,rfl⟩ ⟨_,ho2,rfl⟩ noFill_tuple_add seq_tuple_add PySem.F.slot_tuple_add PySem.F.entry_tuple_add (PySem.F.args_tuple_add_2 _ _)
   (tuple_addW2 t b vs.toArray ws.toArray n n2 dd dd2 sl sl2 (by simpa using hv) (by simpa using hw) (by rw[List.size_toArray,List.size_toArray];exact hsz)) ⟨ho,ho2,?_⟩
  rw[e]
  exact h2 hw
def sIx (n d:Nat):Option Int->Nat
 | none=>d
 | some v=>if v<0 then (v+(n:Int)).toNat else min v.toNat n
theorem sIx_none (n d:Nat):sIx n d none=d:=rfl
theorem sIx_nat (n d k:Nat):sIx n d (some (k:Int))=min k n:= by
 show (if (k:Int)<0 then ((k:Int)+(n:Int)).toNat else min (k:Int).toNat n)=min k n
 rw[if_neg (by omega),Int.toNat_natCast]
theorem sIx_le (n d:Nat) (hd:d<=n) (o:Option Int):sIx n d o<=n:= by
 cases o with
 | none=>exact hd
 | some v=>
  show (if v<0 then (v+(n:Int)).toNat else min v.toNat n)<=n
  by_cases hv:v<0
  ·rw[if_pos hv];omega
  ·rw[if_neg hv];exact Nat.min_le_right _ _
theorem clip_eq (v:Int) (n d:Nat):(if v<0 then max (v+(n:Int)) 0 else min v (n:Int))=((sIx n d (some v):Nat):Int):= by
 show (if v<0 then max (v+(n:Int)) 0 else min v (n:Int))=(((if v<0 then (v+(n:Int)).toNat else min v.toNat n):Nat):Int)
 by_cases hv:v<0
 ·simp only [if_pos hv];omega
 ·simp only [if_neg hv];omega
theorem adjust_gen (lo hi:Option Int) (n:Nat):Builtin.Slice.sliceAdjust lo hi 1 (n:Int)=(((sIx n 0 lo:Nat):Int),((sIx n n hi:Nat):Int)):= by
 have h1 : ¬ ((1:Int)<0):=by omega
 unfold Builtin.Slice.sliceAdjust
 simp only [h1,if_false]
 refine Prod.ext ?_ ?_
 ·cases lo with
  | none=>rfl
  | some v=>exact clip_eq v n 0
 ·cases hi with
  | none=>rfl
  | some v=>exact clip_eq v n n
theorem places_gen (i j:Nat):Builtin.Slice.slicePlaces (i:Int) (j:Int) 1=j-i:= by
 unfold Builtin.Slice.slicePlaces
 have h1:(1:Int) > 0:=by omega
 simp only [h1,if_true,Int.ediv_one]
 split <;> omega
theorem slicePart_ {v:Value} {o:Option Int} {Q:Option Int->Shared->Prop} (p:IsPart v o) (h:Q o s):wpAny (model prog w) A (Builtin.Slice.slicePartIndex v) Q E s:= by
 cases p with
 | none=>exact slicePart_none h
 | int i t=>exact slicePart_int h
theorem sliceApplied_gen {sl:Addr} {vl vu:Value} {lo hi:Option Int} {n:Nat} {Q:Int × Int × Nat->Shared->Prop} (hs:s.heap.IsSliceOf sl vl vu .none) (pl:IsPart vl lo) (pu:IsPart vu hi)
  (h:Q (((sIx n 0 lo:Nat):Int),1,sIx n n hi-sIx n 0 lo) s):wpAny (model prog w) A (Builtin.Slice.sliceApplied (.ref sl) (pure (n:Int))) Q E s:= by
 obtain ⟨os,hos,hcs,hds⟩:=id hs
 unfold Builtin.Slice.sliceApplied Builtin.Slice.sliceFields
 refine wpAny_bind (wpAny_bind (wpAny_field hos hds (x:=vl) rfl (wpAny_bind (wpAny_field hos hds (x:=vu) rfl (wpAny_bind (wpAny_field hos hds (x:=.none) rfl (wpAny_pure ?_)))))))
 refine wpAny_bind (slicePart_none ?_)
 show wpAny _ _ (if ((1:Int)==0)=true then _ else _) _ _ s
 rw[if_neg (by decide)]
 refine wpAny_bind (slicePart_ pl (wpAny_bind (slicePart_ pu (wpAny_bind (wpAny_pure ?_)))))
 show wpAny _ _ (match Builtin.Slice.sliceAdjust lo hi 1 (n:Int) with | (lo,hi)=>pure (lo,(1:Int),Builtin.Slice.slicePlaces lo hi 1)) _ _ s
 rw[adjust_gen lo hi n]
 show wpAny _ _ (pure (((sIx n 0 lo:Nat):Int),(1:Int),Builtin.Slice.slicePlaces ((sIx n 0 lo:Nat):Int) ((sIx n n hi:Nat):Int) 1)) _ _ s
 rw[places_gen]
 exact wpAny_pure h
theorem pick_gen (xs:Array Value) (i k:Nat):((List.range k).filterMap fun (m:Nat)=>xs[((i:Int)+(m:Int)*1).toNat]?).toArray=((xs.toList.drop i).take k).toArray:= by
 have e:(fun (m:Nat)=>xs[((i:Int)+(m:Int)*1).toNat]?)=fun m=>xs[i+m]?:= by
  funext m
  have:((i:Int)+(m:Int)*1).toNat=i+m:=by omega
  rw[this]
 rw[e]
 have:=pick_run xs i k
 rw[List.filterMap_map] at this
 have e2:((fun x=>xs[x]?)∘fun x=>i+x)=fun m=>xs[i+m]?:=rfl
 rw[e2] at this
 rw[this]
theorem getItem_tuple_cut {t sl:Addr} {items:Array Value} {vl vu:Value} {lo hi:Option Int} {Q:Value->Shared->Prop} (ht:IsTup s.heap t items) (hs:s.heap.IsSliceOf sl vl vu .none) (pl:IsPart vl lo) (pu:IsPart vu hi)
  (hw : ¬ (sIx items.size 0 lo=0/\sIx items.size items.size hi=items.size))
  (h : Q (.ref s.heap.objs.size) { s with heap:=s.heap.push { cls:=.type "tuple",data:=.seq ((items.toList.drop (sIx items.size 0 lo)).take (sIx items.size items.size hi - sIx items.size 0 lo)).toArray } })
  (hsz:items.size<=sizeLine):wpAny (model prog w) A (getItem (.ref t) (.ref sl)) Q E s:= by
 have htake:sizeOk (.seq ((items.toList.drop (sIx items.size 0 lo)).take (sIx items.size items.size hi-sIx items.size 0 lo)).toArray):= by
  show ((items.toList.drop (sIx items.size 0 lo)).take (sIx items.size items.size hi-sIx items.size 0 lo)).toArray.size<=sizeLine
  rw[List.size_toArray,List.length_take,List.length_drop,Array.length_toList]
  omega
 have hj:sIx items.size items.size hi<=items.size:=sIx_le _ _ (Nat.le_refl _) hi
 obtain ⟨os,hos,hcs,hds⟩:=id hs
 have hTs : s.TypeIs (.ref sl) "slice":=⟨os,hos,hcs⟩
 unfold getItem
 try with_reducible refine wpAny_holding ?_
 first | refine wpAny_bind (wpAny_pure ?_) | skip
 refine wpAny_bind (wpAny_sequenceKey ht.typeIs (by decide) ?_)
 refine wpAny_bind (wpAny_callSpecial?_slot (name:=Str.ofString "__getitem__") ht.typeIs PyProof.Rows.slot_tuple_getitem
  (wpAny_call_entry PyProof.Rows.slot_tuple_getitem ht.typeIs entry_tuple_getitem ?_ (args_tuple_getitem _ _)))
 show wpAny _ _ (Builtin.Tuple.tupleItemsOf (.ref t) >>= _) _ _ s
 refine wpAny_bind (tupleItemsOf_ ht ?_)
 refine wpAny_bind (wpAny_typeOf hTs ?_)
 rw[if_pos (by decide)]
 refine wpAny_bind (sliceApplied_gen hs pl pu ?_)
 have hno : ¬ ((((sIx items.size 0 lo:Nat):Int)==0&&(1:Int)==1&&(sIx items.size items.size hi-sIx items.size 0 lo)==items.size)=true):= by
  intro q
  rw[Bool.and_eq_true,Bool.and_eq_true] at q
  have q1:((sIx items.size 0 lo:Nat):Int)=0:=eq_of_beq q.1.1
  have q2:sIx items.size items.size hi-sIx items.size 0 lo=items.size:=eq_of_beq q.2
  exact hw ⟨by omega,by omega⟩
 show wpAny _ _ (if (((sIx items.size 0 lo:Nat):Int)==0&&(1:Int)==1&&(sIx items.size items.size hi-sIx items.size 0 lo)==items.size)=true then _ else _) _ _ s
 rw[if_neg hno,pick_gen]
 first
  | exact wpAny_bind (m:=Builtin.Tuple.tupleExact _) (wpAny_newObj_type (wpAny_pure ⟨_,rfl,wpAny_pure h⟩) htake)
  | exact wpAny_bind (m:=Builtin.Tuple.tupleExact _) (wpAny_newObj_type (wpAny_bind (wpAny_pure (wpAny_pure ⟨_,rfl,wpAny_pure h⟩))) htake)
  | exact wpAny_bind (wpAny_bind (m:=Builtin.Tuple.tupleExact _) (wpAny_newObj_type (wpAny_pure (wpAny_pure ⟨_,rfl,wpAny_pure h⟩)) htake))
  | exact wpAny_bind (wpAny_bind (m:=Builtin.Tuple.tupleExact _) (wpAny_newObj_type (wpAny_pure ⟨_,rfl,wpAny_pure h⟩) htake))
end
end HT
namespace L2
open PySem PySem.Spec PyProof.Rows
abbrev TO:=St->Hp->(Option Int->Hp->Prop)->Prop
def PO (X:Cx) (e:Option Expr) (t:TO):Prop:=
 ∀ (pins:List (Addr × Obj)) (s:Shared) (σ:St) (H:Hp) (Q:Option Int->Hp->Prop),Inv X pins σ H s->t σ H Q ->
  wpAny (model X.prog X.w) X.A (evalPart e X.env) (fun u s'=>∃ o H',Inv X pins σ H' s'/\IsPart u o/\Q o H') X.xe s
def tNoPart:TO:=fun _ H Q=>Q none H
def tPart (t:TE):TO:=fun σ H Q=>t σ H fun x H1=>∃ i,x = .int i/\Q (some i) H1
section
variable {X:Cx} {e:Expr} {te:TE} {lo hi:Option Expr} {tl th:TO} {pos p2:Pos}
theorem po_none:PO X none tNoPart:= by
 intro pins s σ H Q I h
 rw[evalPart_none]
 exact wpAny_pure ⟨none,H,I,.none,h⟩
theorem po_some (h:PE X e te):PO X (some e) (tPart te):= by
 intro pins s σ H Q I hw
 rw[evalPart_some]
 refine thn (h pins s σ H _ I hw) fun u s1 ⟨x,H1,I1,r1,q1⟩=>?_
 obtain ⟨i,rfl,q⟩:=q1
 obtain ⟨t,rfl⟩:=r1
 exact ⟨some i,H1,I1,.int i t,q⟩
def SlR (X:Cx) (r:V->Option Int->Option Int->Hp->VK->Prop):Prop:=
 ∀ (pins:List (Addr × Obj)) (s:Shared) (σ:St) (H:Hp) (x:V) (v vl vu:Value) (lo hi:Option Int) (sl:Addr) (Q:VK),Inv X pins σ H s->RelV x v->s.heap.IsSliceOf sl vl vu .none->IsPart vl lo->IsPart vu hi->r x lo hi H Q ->
  ∃ T id,typeLookup (.type T) "__getitem__" = pure (some (.builtin id)) /\ s.TypeIs v T /\ wpAny (model X.prog X.w) X.A (getItem v (.ref sl)) (EP X pins σ Q) X.xe s
def tSl (r:V->Option Int->Option Int->Hp->VK->Prop) (te:TE) (tl th:TO):TE:=fun σ H Q=>te σ H fun x H1=>tl σ H1 fun l H2=>th σ H2 fun u H3=>r x l u H3 Q
theorem pe_slice {r:V->Option Int->Option Int->Hp->VK->Prop} (hr:SlR X r) (he:PE X e te) (hl:PO X lo tl) (hu:PO X hi th):PE X (.Subscript e (.Slice lo hi none p2) pos) (tSl r te tl th):= by
 intro pins s σ H Q I h
 refine Subscript_ (thn (he pins s σ H _ I h) fun v s1 ⟨x,H1,I1,r1,q1⟩=>?_)
 refine wpAny_Slice (thn (hl pins s1 σ H1 _ I1 q1) fun vl s2 ⟨l,H2,I2,pl,q2⟩=>thn (hu pins s2 σ H2 _ I2 q2) fun vu s3 ⟨u,H3,I3,pu,q3⟩=>?_)
 rw[evalPart_none]
 refine wpAny_pure ?_
 have I4 : Inv X pins σ H3 { s3 with heap:=s3.heap.push { cls:=.type "slice",data:=.fields #[vl,vu,.none] } }:=I3.kept (t':=s3.toks) fun b ob q=>Heap.get?_push_of_some _ q
 obtain ⟨T,id,hT,ht,hg⟩:=hr pins { s3 with heap:=s3.heap.push { cls:=.type "slice",data:=.fields #[vl,vu,.none] } } σ H3 x v vl vu l u s3.heap.objs.size Q I4 r1 (Heap.IsSliceOf.new ..) pl pu q3
 show wpAny (model X.prog X.w) X.A (subscriptTail e (.Slice lo hi none p2) v (.ref s3.heap.objs.size)) (EP X pins σ Q) X.xe { s3 with heap:=s3.heap.push { cls:=.type "slice",data:=.fields #[vl,vu,.none] } }
 exact tail_any (ops:=[.ref s3.heap.objs.size,v]) ht hT hg (by with_unfolding_all rfl)
def cutV (xs:List V) (lo hi:Option Int):List V:=(xs.drop (HT.sIx xs.length 0 lo)).take (HT.sIx xs.length xs.length hi-HT.sIx xs.length 0 lo)
theorem cutV_length (xs:List V) (lo hi:Option Int):(cutV xs lo hi).length<=xs.length:= by
 unfold cutV
 rw[List.length_take,List.length_drop]
 omega
def rSlT (K:PySem.W.Frag):V->Option Int->Option Int->Hp->VK->Prop:=fun x lo hi H Q=>∃ a xs,x = .ref a/\SqT K H a xs /\
 ¬ (HT.sIx xs.length 0 lo=0/\HT.sIx xs.length xs.length hi=xs.length) /\ ∀ p,H p=none->Q (.ref p) (upd H p (.tup (cutV xs lo hi)))
theorem sl_tup:SlR X (rSlT X.K):= by
 intro pins s σ H x v vl vu lo hi sl Q I rx hs pl pu h
 obtain ⟨a,xs,rfl,hx,hw,q⟩:=h
 cases rx
 obtain ⟨its,r,ht,hz⟩:=I.tuple hx
 have hlen:its.toArray.size=xs.length:=by rw[List.size_toArray];exact r.length.symm
 refine ⟨"tuple",_,PyProof.Rows.slot_tuple_getitem.lookup,ht.typeIs,?_⟩
 refine HT.getItem_tuple_cut ht hs pl pu (by rw[hlen];exact hw) ?_ (by rw[hlen];exact hz)
 rw[hlen]
 refine ⟨.ref s.heap.objs.size,_,I.laid (t':=s.toks) (o:=.tup (cutV xs lo hi)) (fun b ob q=>Heap.get?_push_of_some _ q) (Nat.le_refl _) ?_,rfl,q _ (I.hok.fresh (Nat.le_refl _))⟩
 exact ⟨Nat.le_trans (cutV_length xs lo hi) hz,_,(r.drop (HT.sIx xs.length 0 lo)).take (HT.sIx xs.length xs.length hi-HT.sIx xs.length 0 lo),IsTup.new _ _⟩
def rCatT (K:PySem.W.Frag):R2:=fun x y H Q=>∃ a b xs ys,x = .ref a/\y = .ref b/\SqT K H a xs/\SqT K H b ys/\xs≠[]/\xs.length+ys.length<=sizeLine /\
 (ys=[]->Q (.ref a) H)/\(ys≠[] -> ∀ p,H p=none->Q (.ref p) (upd H p (.tup (xs++ys))))
theorem Vals.nil_iff {xs:List V} {us:List Value} (r:Vals xs us):us=[] ↔ xs=[]:= by
 cases r with
 | nil=>simp
 | cons _ _=>simp
theorem op_catT:OpR X (binaryOp .Add) (rCatT X.K):= by
 intro pins s σ H x y v u Q I rx ry h
 obtain ⟨a,b,xs,ys,rfl,rfl,ha,hb,hx,hz,q1,q2⟩:=h
 cases rx
 cases ry
 obtain ⟨its,r1,p1,_⟩:=I.tuple ha
 obtain ⟨its2,r2,p2,_⟩:=I.tuple hb
 refine HT.cat_tup p1 p2 (fun z=>hx (r1.nil_iff.mp z)) (fun z=>⟨.ref a,H,I,rfl,q1 (r2.nil_iff.mp z)⟩) (fun z=>?_) (by rw[<- r1.length,<- r2.length];exact hz)
 refine ⟨.ref s.heap.objs.size,_,I.laid (t':=s.toks) (o:=.tup (xs++ys)) (fun b ob q=>Heap.get?_push_of_some _ q) (Nat.le_refl _) ?_,rfl,q2 (fun w=>z (r2.nil_iff.mpr w)) _ (I.hok.fresh (Nat.le_refl _))⟩
 exact ⟨by rw[List.length_append];exact hz,_,r1.append r2,IsTup.new _ _⟩
end
end L2
namespace L2
open PySem PySem.Spec PyProof.Rows
def ixN (n:Nat) (i:Int):Option Nat:=if 0<=i then (if i<n then some i.toNat else none) else if -(n:Int)<=i then some (i+n).toNat else none
def atI {α:Type} (xs:List α) (i:Int):Option α:=(ixN xs.length i).bind fun j=>xs[j]?
theorem ixN_seq {n:Nat} {i:Int} {j:Nat} (h:ixN n i=some j):seqIndex? i n=some j/\j<n /\ -(n:Int)<=i/\i<n:= by
 unfold ixN at h
 by_cases h0:0<=i
 ·rw[if_pos h0] at h
  by_cases h1:i<n
  ·rw[if_pos h1] at h
   have e:i.toNat=j:=Option.some.inj h
   exact ⟨by rw[seqIndex_of h0 h1,e],by omega,by omega,h1⟩
  ·rw[if_neg h1] at h;cases h
 ·rw[if_neg h0] at h
  by_cases h1 : -(n:Int)<=i
  ·rw[if_pos h1] at h
   have e:(i+n).toNat=j:=Option.some.inj h
   exact ⟨by rw[seqIndex_neg (by omega) h1,e],by omega,h1,by omega⟩
  ·rw[if_neg h1] at h;cases h
theorem atI_get {α:Type} {xs:List α} {i:Int} {v:α} (h:atI xs i=some v) : ∃ j,seqIndex? i xs.length=some j/\xs[j]?=some v/\j<xs.length /\ -(xs.length:Int)<=i/\i<xs.length:= by
 unfold atI at h
 cases e:ixN xs.length i with
 | none=>rw[e] at h;cases h
 | some j=>
  rw[e] at h
  obtain ⟨h1,h2,h3,h4⟩:=ixN_seq e
  exact ⟨j,h1,h,h2,h3,h4⟩
theorem atI_nat {α:Type} {xs:List α} {j:Nat} {v:α} (h:xs[j]?=some v):atI xs (j:Int)=some v:= by
 have hj:j<xs.length:=(List.getElem?_eq_some_iff.mp h).1
 have e:ixN xs.length (j:Int)=some j:= by
  unfold ixN
  rw[if_pos (by omega),if_pos (by omega)];simp
 unfold atI;rw[e];exact h
def PlainIx (b:Expr):Prop:=∀ o i,subscripted b false o i=operate [o,i] (getItem o i)
def IxR (X:Cx) (r:R2):Prop:=
 ∀ (value slice:Expr) (pins:List (Addr × Obj)) (s:Shared) (σ:St) (H:Hp) (x y:V) (v u:Value) (Q:VK),Inv X pins σ H s->RelV x v->RelV y u->r x y H Q ->
  subscripted slice false v u=operate [v,u] (getItem v u)->wpAny (model X.prog X.w) X.A (subscriptTail value slice v u) (EP X pins σ Q) X.xe s
def MtR (X:Cx) (id:String) (r:V->List V->Hp->VK->Prop):Prop:=
 ∀ (pins:List (Addr × Obj)) (s:Shared) (σ:St) (H:Hp) (x:V) (xs:List V) (v:Value) (us:List Value) (Q:VK),Inv X pins σ H s->RelV x v->Vals xs us->r x xs H Q ->
  wpAny (model X.prog X.w) X.A (call (.builtin id) (v::us)) (EP X pins σ Q) X.xe s
section
variable {X:Cx} {a b:Expr} {ta tb:TE} {pos:Pos}
theorem pe_ix {r:R2} (hr:IxR X r) (ha:PE X a ta) (hb:PE X b tb) (hs:PlainIx b):PE X (.Subscript a b pos) (tOp r ta tb):= by
 intro pins s σ H Q I h
 exact Subscript_ (binT ha hb I h fun v u s2 x y H2 I2 rx ry q=>hr a b pins s2 σ H2 x y v u Q I2 rx ry q (hs _ _))
def rIxL (K:PySem.W.Frag):R2:=fun x y H Q=>∃ p xs i v,x = .ref p/\y = .int i/\SqL K H p xs/\atI xs i=some v/\Q v H
def rIxT (K:PySem.W.Frag):R2:=fun x y H Q=>∃ p xs i v,x = .ref p/\y = .int i/\SqT K H p xs/\atI xs i=some v/\Q v H
def rIxS:R2:=fun x y H Q=>∃ z i c,x = .str z/\y = .int i/\z.length<=sizeLine/\atI z.cps.toList i=some c/\Q (.str ⟨#[c]⟩) H
theorem ix_list:IxR X (rIxL X.K):= by
 intro value slice pins s σ H x y v u Q I rx ry h hs
 obtain ⟨p,xs,i,z,rfl,rfl,hq,he,q⟩:=h
 cases rx
 obtain ⟨t,rfl⟩:=ry
 obtain ⟨its,r,pl,hz⟩:=I.list hq
 obtain ⟨j,h1,h2,h3,h4,h5⟩:=atI_get he
 obtain ⟨w,ew,rw'⟩:=r.get h2
 have hl:=r.length
 have hn:=line63
 have fin:EP X pins σ Q w s:=⟨z,H,I,rw',q⟩
 by_cases h0:0<=i
 ·have hj:i.toNat=j:= by
   rw[seqIndex_of h0 h5] at h1
   exact Option.some.inj h1
  exact item_listR pl.isList h0 (by omega) (by rw[hj];simpa using ew) fin hs
 ·have hj:(i+(its.toArray.size:Int)).toNat=j:= by
   rw[seqIndex_neg (by omega) h4] at h1
   rw[List.size_toArray,<- hl]
   exact Option.some.inj h1
  exact subscriptTail_builtinR (x:=w) pl.isList.typeIs slot_list_getitem.lookup
   (wpAny_getItem_list_neg (Q:=fun r s'=>r=w/\EP X pins σ Q r s') pl.isList (by omega) (by rw[List.size_toArray] <;> omega) (by omega) (by rw[hj];simpa using ew) ⟨rfl,fin⟩) hs
theorem ix_tup:IxR X (rIxT X.K):= by
 intro value slice pins s σ H x y v u Q I rx ry h hs
 obtain ⟨p,xs,i,z,rfl,rfl,hq,he,q⟩:=h
 cases rx
 obtain ⟨t,rfl⟩:=ry
 obtain ⟨its,r,pl,hz⟩:=I.tuple hq
 obtain ⟨j,h1,h2,h3,h4,h5⟩:=atI_get he
 obtain ⟨w,ew,rw'⟩:=r.get h2
 have hl:=r.length
 have hn:=line63
 have fin:EP X pins σ Q w s:=⟨z,H,I,rw',q⟩
 exact subscriptTail_builtinR (x:=w) pl.typeIs slot_tuple_getitem.lookup
  (getItem_tuple (j:=j) (Q:=fun r s'=>r=w/\EP X pins σ Q r s') pl (by omega) (by omega) (by rw[List.size_toArray,<- hl];exact h1) (by simpa using ew) ⟨rfl,fin⟩) hs
theorem ix_str:IxR X rIxS:= by
 intro value slice pins s σ H x y v u Q I rx ry h hs
 obtain ⟨z,i,c,rfl,rfl,hz,he,q⟩:=h
 obtain ⟨t,rfl⟩:=rx
 obtain ⟨t',rfl⟩:=ry
 obtain ⟨j,h1,h2,h3,h4,h5⟩:=atI_get he
 have hl:z.cps.toList.length=z.length:=by simp [Str.length]
 rw[hl] at h1 h4 h5
 have hn:=line63
 exact tail_any (typeIs_str s z t) slot_str_getitem.lookup (getItem_str (c:=c) (by
  have e1:decide (i < -(2 ^ 63:Int))=false:=decide_eq_false (by omega)
  have e2:decide (i >= 2 ^ 63)=false:=decide_eq_false (by omega)
  rw[e1,e2,Bool.or_false]) (by rw[h1];simpa using h2) ⟨.str ⟨#[c]⟩,H,I.tok _,⟨_,rfl⟩,q⟩) hs
theorem mapSeq_set (its : List Value) (n j : Nat) (u : Value) : Obj.mapSeq (·.setIfInBounds j u) { cls:=.type "list",data:=.seq its.toArray n } = { cls:=.type "list",data:=.seq (its.set j u).toArray n }:= by
 simp [Obj.mapSeq]
theorem Inv.lst {pins:List (Addr × Obj)} {σ:St} {H:Hp} {s:Shared} {p:Addr} {xs:List V} (I:Inv X pins σ H s) (h:H p=some (.lst xs)) :
  ∃ (its : List Value) (n : Nat),Vals xs its /\ s.heap.get? p = some { cls:=.type "list",data:=.seq its.toArray n } /\ xs.length <= sizeLine:= by
 obtain ⟨z,its,n,r,e⟩:=I.hok p _ h
 exact ⟨its,n,r,e,z⟩
theorem Inv.lstUpd {pins:List (Addr × Obj)} {σ:St} {H:Hp} {s:Shared} {p:Addr} {xs ys:List V} {its its':List Value} {n n':Nat} {f:Obj->Obj} (I:Inv X pins σ H s) (h:H p=some (.lst xs))
  (ho : s.heap.get? p = some { cls:=.type "list",data:=.seq its.toArray n }) (hf : f { cls:=.type "list",data:=.seq its.toArray n } = { cls:=.type "list",data:=.seq its'.toArray n' }) (r : Vals ys its') (hz : ys.length <= sizeLine) (t : Nat) :
  Inv X pins σ (upd H p (.lst ys)) { s with heap:=s.heap.update p f,toks:=t }:= by
 have e : (s.heap.update p f).get? p = some { cls:=.type "list",data:=.seq its'.toArray n' }:= by
  rw[Heap.get?_update_self f ho (by rw[hf] <;> rfl),hf]
 refine I.write (x:=p) (e:=p) (by rw[h];trivial) (.inl rfl) (fun b u hb q=>(Heap.get?_update_other _ _ (Ne.symm hb)).trans q) ⟨_,e⟩ ?_
 exact ⟨hz,its',n',r,e⟩
def rSetL:V->V->V->Hp->(Hp->Prop)->Prop:=fun o i v H Q=>∃ p xs k j,o = .ref p/\i = .int k/\H p=some (.lst xs)/\ixN xs.length k=some j/\Q (upd H p (.lst (xs.set j v)))
theorem set_list:PSet X rSetL:= by
 intro pins s σ H o i v ov iv u Q I ro ri rv h
 obtain ⟨p,xs,k,j,rfl,rfl,hp,hj,q⟩:=h
 cases ro
 obtain ⟨t,rfl⟩:=ri
 obtain ⟨its,n,r,ho,hz⟩:=I.lst hp
 obtain ⟨h1,h2,h3,h4⟩:=ixN_seq hj
 have hl:=r.length
 have hn:=line63
 have I':Inv X pins σ (upd H p (.lst (xs.set j v))) { s with heap:=s.heap.update p (Obj.mapSeq (·.setIfInBounds j u)) }:=
  I.lstUpd hp ho (mapSeq_set its n j u) (r.set rv j) (by rw[List.length_set];exact hz) s.toks
 by_cases h0:0<=k
 ·have hk:k.toNat=j:= by
   rw[seqIndex_of h0 h4] at h1
   exact Option.some.inj h1
  exact PySem.W.ki_setAt ho h0 (by omega) (by rw[List.size_toArray,<- hl];exact h4) (by rw[hk];exact ⟨_,I',q⟩)
 ·have hk:(k+(its.toArray.size:Int)).toNat=j:= by
   rw[seqIndex_neg (by omega) h3] at h1
   rw[List.size_toArray,<- hl]
   exact Option.some.inj h1
  exact PySem.W.ki_setBack ho (by omega) (by rw[List.size_toArray,<- hl];exact h3) (by omega) (by rw[hk];exact ⟨_,I',q⟩)
theorem slice_bounds (lo hi:Option Int) (n:Nat):(sliceBounds lo hi none n).1=((HT.sIx n 0 lo:Nat):Int)/\(sliceBounds lo hi none n).2.1=((HT.sIx n n hi:Nat):Int)/\(sliceBounds lo hi none n).2.2=1:= by
 refine ⟨?_,?_,rfl⟩
 ·cases lo with
  | none=>simp [sliceBounds,HT.sIx]
  | some i=>
   simp only [sliceBounds,HT.sIx,Option.getD_none,show (1:Int) > 0 by decide,if_true]
   by_cases h:i<0
   ·simp only [h,if_true] <;> omega
   ·simp only [h,if_false] <;> omega
 ·cases hi with
  | none=>simp [sliceBounds,HT.sIx]
  | some i=>
   simp only [sliceBounds,HT.sIx,Option.getD_none,show (1:Int) > 0 by decide,if_true]
   by_cases h:i<0
   ·simp only [h,if_true] <;> omega
   ·simp only [h,if_false] <;> omega
theorem slicePick_cut (its:List Value) (lo hi:Option Int):slicePick its.toArray lo hi none=((its.drop (HT.sIx its.length 0 lo)).take (HT.sIx its.length its.length hi-HT.sIx its.length 0 lo)).toArray:= by
 obtain ⟨h1,h2,h3⟩:=slice_bounds lo hi its.toArray.size
 unfold slicePick
 rw[h1,h2,h3]
 simp only [sliceRange_one,pick_run,List.size_toArray] <;> rfl
def rSlL (K:PySem.W.Frag):V->Option Int->Option Int->Hp->VK->Prop:=fun x lo hi H Q=>∃ a xs,x = .ref a/\SqL K H a xs /\ ∀ p,H p=none->Q (.ref p) (upd H p (.lst (cutV xs lo hi)))
theorem sl_list:SlR X (rSlL X.K):= by
 intro pins s σ H x v vl vu lo hi sl Q I rx hs pl pu h
 obtain ⟨a,xs,rfl,hx,q⟩:=h
 cases rx
 obtain ⟨its,r,ht,hz⟩:=I.list hx
 have hlen:=r.length
 refine ⟨"list",_,slot_list_getitem.lookup,ht.isList.typeIs,?_⟩
 refine wpAny_getItem_list_slice ht.isList hs pl pu .none (by simp) ?_ (by rw[List.size_toArray] <;> omega)
 rw[slicePick_cut,<- hlen]
 refine ⟨.ref s.heap.objs.size,_,I.laid (t':=s.toks) (o:=.lst (cutV xs lo hi)) (fun b ob q=>Heap.get?_push_of_some _ q) (Nat.le_refl _) ?_,rfl,q _ (I.hok.fresh (Nat.le_refl _))⟩
 exact ⟨Nat.le_trans (cutV_length xs lo hi) hz,_,0,(r.drop (HT.sIx xs.length 0 lo)).take (HT.sIx xs.length xs.length hi-HT.sIx xs.length 0 lo),Heap.get?_push_size _ rfl⟩
def flatV:V->Bool
 | .non=>true
 | .bl _=>true
 | .int _=>true
 | .str _=>true
 | _=>false
def eqV:V->V->Bool
 | .non,.non=>true
 | .bl a,.bl b=>a==b
 | .bl a,.int b=>(if a then 1 else 0)==b
 | .int a,.bl b=>a==(if b then 1 else 0)
 | .int a,.int b=>a==b
 | .str a,.str b=>a==b
 | _,_=>false
theorem eqAt_V {A:Around} {s:Shared} {y x:V} {u v:Value} (ry:RelV y u) (rx:RelV x v) (fy:flatV y=true) (fx:flatV x=true):SeqAt.EqAt A s u v (eqV y x):= by
 cases y with
 | non=>
  cases ry
  cases x with
  | non=>cases rx;exact SeqAt.EqAt.same _
  | bl b=>cases rx;exact SeqAt.EqAt.none_bool b
  | int b=>obtain ⟨t,rfl⟩:=rx;exact SeqAt.EqAt.none_int b t
  | str b=>obtain ⟨t,rfl⟩:=rx;exact SeqAt.EqAt.none_str b t
  | _=>exact absurd (show false=true from fx) Bool.false_ne_true
 | bl a=>
  cases ry
  cases x with
  | non=>cases rx;exact SeqAt.EqAt.bool_none a
  | bl b=>cases rx;exact SeqAt.EqAt.bool_bool a b
  | int b=>obtain ⟨t,rfl⟩:=rx;exact SeqAt.EqAt.bool_int a b t
  | str b=>obtain ⟨t,rfl⟩:=rx;exact SeqAt.EqAt.bool_str a b t
  | _=>exact absurd (show false=true from fx) Bool.false_ne_true
 | int a=>
  obtain ⟨t',rfl⟩:=ry
  cases x with
  | non=>cases rx;exact SeqAt.EqAt.int_none a t'
  | bl b=>cases rx;exact SeqAt.EqAt.int_bool a t' b
  | int b=>obtain ⟨t,rfl⟩:=rx;exact SeqAt.EqAt.int_int a t' b t
  | str b=>obtain ⟨t,rfl⟩:=rx;exact SeqAt.EqAt.int_str a t' b t
  | _=>exact absurd (show false=true from fx) Bool.false_ne_true
 | str a=>
  obtain ⟨t',rfl⟩:=ry
  cases x with
  | non=>cases rx;exact SeqAt.EqAt.str_none a t'
  | bl b=>cases rx;exact SeqAt.EqAt.str_bool a t' b
  | int b=>obtain ⟨t,rfl⟩:=rx;exact SeqAt.EqAt.str_int a t' b t
  | str b=>obtain ⟨t,rfl⟩:=rx;exact SeqAt.EqAt.str_str a t' b t
  | _=>exact absurd (show false=true from fx) Bool.false_ne_true
 | _=>exact absurd (show false=true from fy) Bool.false_ne_true
def eqU (x:V) (u:Value):Bool:=match u with
 | .none=>eqV .non x
 | .bool b=>eqV (.bl b) x
 | .int i _=>eqV (.int i) x
 | .str z _=>eqV (.str z) x
 | _=>false
theorem eqU_of {x y:V} {u:Value} (r:RelV y u) (f:flatV y=true):eqU x u=eqV y x:= by
 cases y with
 | non=>cases r;rfl
 | bl b=>cases r;rfl
 | int i=>obtain ⟨t,rfl⟩:=r;rfl
 | str z=>obtain ⟨t,rfl⟩:=r;rfl
 | _=>exact absurd (show false=true from f) Bool.false_ne_true
theorem any_eqU {x:V} : ∀ {xs:List V} {us:List Value},Vals xs us->xs.all flatV=true->us.any (eqU x)=xs.any fun y=>eqV y x
 | _,_,.nil,_=>rfl
 | y::xs,u::us,.cons r t,f=>by
  rw[List.all_cons,Bool.and_eq_true] at f
  rw[List.any_cons,List.any_cons,eqU_of r f.1,any_eqU t f.2]
theorem mem_eqAt {A:Around} {s:Shared} {x:V} {v:Value} (rx:RelV x v) (fx:flatV x=true) : ∀ {xs:List V} {us:List Value},Vals xs us->xs.all flatV=true -> ∀ u ∈ us,SeqAt.EqAt A s u v (eqU x u)
 | _,_,.nil,_=>fun u hu=>by cases hu
 | y::xs,u::us,.cons r t,f=>fun u' hu=>by
  rw[List.all_cons,Bool.and_eq_true] at f
  rcases List.mem_cons.mp hu with rfl | hu
  ·rw[eqU_of r f.1];exact eqAt_V r rx f.1 fx
  ·exact mem_eqAt rx fx t f.2 u' hu
def inV (x:V) (xs:List V):Bool:=xs.any fun y=>eqV y x
def rIn (K:PySem.W.Frag) (neg:Bool):R2:=fun x y H Q=>∃ p xs,y = .ref p/\(SqL K H p xs\/SqT K H p xs)/\flatV x=true/\xs.all flatV=true/\Q (.bl (if neg then !inV x xs else inV x xs)) H
theorem op_notIn_seq:OpR X (compareOp .NotIn) (rIn X.K true):= by
 intro pins s σ H x y v u Q I rx ry h
 obtain ⟨p,xs,rfl,hq,fx,fs,q⟩:=h
 cases ry
 rcases hq with hq | hq
 ·obtain ⟨its,r,pl,hz⟩:=I.list hq
  refine SeqAt.notIn_listAt (eqU x) pl.isList (fun w hw=>mem_eqAt rx fx r fs w (by simpa using hw)) ⟨.bl _,H,I,rfl,?_⟩
  rw[show its.toArray.any (eqU x)=its.any (eqU x) by simp,any_eqU r fs]
  exact q
 ·obtain ⟨its,r,pl,hz⟩:=I.tuple hq
  refine SeqAt.notIn_tupleAt (eqU x) pl (fun w hw=>mem_eqAt rx fx r fs w (by simpa using hw)) ⟨.bl _,H,I,rfl,?_⟩
  rw[show its.toArray.any (eqU x)=its.any (eqU x) by simp,any_eqU r fs]
  exact q
theorem call_len_seq : CallR X (.builtin "len") (fun xs H Q=>∃ p ys,xs = [.ref p] /\ (SqL X.K H p ys \/ SqT X.K H p ys) /\ Q (.int ys.length) H):= by
 intro pins s σ H xs us Q I r h
 obtain ⟨p,ys,rfl,hq,q⟩:=h
 obtain ⟨u,rfl,rx⟩:=vals1 r
 cases rx
 have hn:=line63
 rcases hq with hq | hq
 ·obtain ⟨its,r',pl,hz⟩:=I.list hq
  have hlen:=r'.length
  exact Calls.call_len_list pl.isList (by simp only [List.size_toArray] <;> omega) ⟨.int ys.length,H,I.tok _,⟨s.toks+1,by rw[List.size_toArray,hlen]⟩,q⟩
 ·obtain ⟨its,r',pl,hz⟩:=I.tuple hq
  have hlen:=r'.length
  exact len_tuple pl (by simp only [List.size_toArray] <;> omega) ⟨.int ys.length,H,I.tok _,⟨s.toks+1,by rw[List.size_toArray,hlen]⟩,q⟩
theorem call_len_str : CallR X (.builtin "len") (fun xs H Q=>∃ z,xs = [.str z] /\ z.length <= sizeLine /\ Q (.int z.length) H):= by
 intro pins s σ H xs us Q I r h
 obtain ⟨z,rfl,hz,q⟩:=h
 obtain ⟨u,rfl,t,rfl⟩:=vals1 r
 have hn:=line63
 exact len_str (by omega) ⟨.int z.length,H,I.tok _,⟨_,rfl⟩,q⟩
theorem call_list_of : CallR X (.type "list") (fun xs H Q=>∃ p ys,xs = [.ref p] /\ (SqL X.K H p ys \/ SqT X.K H p ys) /\ ∀ l,H l = none -> Q (.ref l) (upd H l (.lst ys))):= by
 intro pins s σ H xs us Q I r h
 obtain ⟨p,ys,rfl,hq,q⟩:=h
 obtain ⟨u,rfl,rx⟩:=vals1 r
 cases rx
 have fin : ∀ (its:List Value),Vals ys its->ys.length<=sizeLine -> ∀ (h':Heap) (c':Nat),(∀ b o',s.heap.get? b=some o'->h'.get? b=some o') ->
   h'.get? s.heap.objs.size = some { cls:=.type "list",dict:=none,data:=.seq its.toArray c',slots:=#[] } -> EP X pins σ Q (.ref s.heap.objs.size) { s with heap:=h' }:=fun its r' hz h' c' kp e=>
  ⟨.ref s.heap.objs.size,_,I.laid (t':=s.toks) kp (Nat.le_refl _) (show ObjOk X.prog X.w _ h' _ (.lst ys) from ⟨hz,its,c',r',e⟩),rfl,q _ (I.hok.fresh (Nat.le_refl _))⟩
 rcases hq with hq | hq
 ·obtain ⟨its,r',pl,hz⟩:=I.list hq
  have hlen:=r'.length
  obtain ⟨o,ho,hc,n,hd⟩:=pl.isList
  exact call_list_seq p (.inl rfl) ho hc hd (fun h' c' kp e=>fin its r' hz h' c' kp e) (by simp only [List.size_toArray] <;> omega)
 ·obtain ⟨its,r',pl,hz⟩:=I.tuple hq
  have hlen:=r'.length
  obtain ⟨o,ho,hc,n,hd⟩:=pl
  exact call_list_seq p (.inr rfl) ho hc hd (fun h' c' kp e=>fin its r' hz h' c' kp e) (by simp only [List.size_toArray] <;> omega)
theorem call_tuple_of : CallR X (.type "tuple") (fun xs H Q=>∃ p ys,xs = [.ref p] /\ ((SqL X.K H p ys /\ ∀ l,H l = none -> Q (.ref l) (upd H l (.tup ys))) \/ (SqT X.K H p ys /\ Q (.ref p) H))):= by
 intro pins s σ H xs us Q I r h
 obtain ⟨p,ys,rfl,h⟩:=h
 obtain ⟨u,rfl,rx⟩:=vals1 r
 cases rx
 rcases h with ⟨hq,q⟩ | ⟨hq,q⟩
 ·obtain ⟨its,r',pl,hz⟩:=I.list hq
  have hlen:=r'.length
  refine call_tuple_list pl.isList (fun h' kp=>?_) (by simp only [List.size_toArray] <;> omega)
  have I1:Inv X pins σ H { s with heap:=h' }:=I.kept (t':=s.toks) kp
  have I2 : Inv X pins σ (upd H h'.objs.size (.tup ys)) { s with heap:=h'.push { cls:=.type "tuple",data:=.seq its.toArray } }:=
   I1.laid (t':=s.toks) (fun b o e=>Heap.get?_push_of_some _ e) (Nat.le_refl _) (show ObjOk X.prog X.w _ _ _ (.tup ys) from ⟨hz,its,r',IsTup.new _ _⟩)
  exact ⟨.ref h'.objs.size,_,I2,rfl,q _ (I1.hok.fresh (Nat.le_refl _))⟩
 ·obtain ⟨its,r',pl,hz⟩:=I.tuple hq
  exact call_tuple_same pl ⟨.ref p,H,I,rfl,q⟩
def tyV (K:PySem.W.Frag) (T:String) (x:V) (H:Hp):Prop:=match x with
 | .str _=>T = "str"
 | .int _=>T = "int"
 | .ref p=>(T = "list" /\ ∃ xs,SqL K H p xs) \/ (T = "tuple" /\ ∃ o,K.lookup p = some o /\ o.cls = .type "tuple" /\ o.dict = none) \/
   (T = "dict" /\ ((∃ kvs,H p = some (.dK kvs)) \/ ∃ kvs,H p = some (.dT kvs))) \/ (T = "set" /\ ∃ S n,H p = some (.set S n))
 | _=>False
theorem tyV_is {pins:List (Addr × Obj)} {σ:St} {H:Hp} {s:Shared} {T:String} {x:V} {v:Value} (I:Inv X pins σ H s) (r:RelV x v) (ty:tyV X.K T x H) :
  s.TypeIs v T /\ ∀ a,v = .ref a -> ∃ ob,s.heap.get? a=some ob/\ob.dict=none:= by
 cases x with
 | str z=>
  obtain ⟨t,rfl⟩:=r
  cases (show T = "str" from ty)
  exact ⟨typeIs_str s z t,fun _ e=>nomatch e⟩
 | int i=>
  obtain ⟨t,rfl⟩:=r
  cases (show T = "int" from ty)
  exact ⟨typeIs_int s i t,fun _ e=>nomatch e⟩
 | ref p=>
  cases r
  rcases ty with ⟨rfl,xs,hq⟩ | ⟨rfl,o,hk,hc,hd⟩ | ⟨rfl,hk⟩ | ⟨rfl,S,n,hk⟩
  ·obtain ⟨its,_,pl,_⟩:=I.list hq
   refine ⟨pl.isList.typeIs,fun a e=>?_⟩
   cases e
   obtain ⟨o,n,e,c,hd,_⟩:=pl
   exact ⟨o,e,hd⟩
  ·refine ⟨⟨o,I.kIn p o hk,hc⟩,fun a e=>?_⟩
   cases e
   exact ⟨o,I.kIn _ o hk,hd⟩
  ·have z : ∃ o,s.heap.get? p=some o/\o.ExactDict:= by
    rcases hk with ⟨kvs,hk⟩ | ⟨kvs,hk⟩
    ·obtain ⟨_,_,_,_,o,_,_,e,ex,_⟩:=I.hok p _ hk
     exact ⟨o,e,ex⟩
    ·obtain ⟨_,_,_,_,o,_,_,e,ex,_⟩:=I.hok p _ hk
     exact ⟨o,e,ex⟩
   obtain ⟨o,e,ex⟩:=z
   refine ⟨⟨o,e,ex.1⟩,fun a e2=>?_⟩
   cases e2
   exact ⟨o,e,ex.2.1⟩
  ·obtain ⟨o,_,_,_,e,ex,_⟩:=I.hok p _ hk
   refine ⟨⟨o,e,ex.1⟩,fun a e2=>?_⟩
   cases e2
   exact ⟨o,e,ex.2.1⟩
 | _=>exact False.elim ty
def tBM (K:PySem.W.Frag) (T:String) (r:V->List V->Hp->VK->Prop) (to:TE) (t:TA):TE:=fun σ H Q=>to σ H fun x H1=>tyV K T x H1/\t σ H1 fun xs H2=>r x xs H2 Q
variable {o e:Expr} {es:List Expr} {to:TE} {t:TA} {name:Str} {apos cpos:Pos} {T id:String} {r:V->List V->Hp->VK->Prop}
theorem pe_bm (pa : PlainAttrs T) (slot : Slot T name id) (hty : typeOf (.builtin id) = pure (.type "method_descriptor")) (hm : MtR X id r) (ho : PE X o to) (ha : PA X (e :: es) t)
  (hbase:attributeBase o name X.env (eval o X.env)=eval o X.env:=by rfl)
  (hfew:((backTo cpos (starEach (e::es) X.env)).all (fun x=>!x.1)&&(backToKw cpos (keywordEach [] X.env)).all (fun x=>x.1.isSome)
   && decide ((e::es).length+([]:List Keyword).length+(if ([]:List Keyword).isEmpty then 0 else 1)<30))=true:=by rfl)
  (hline:(apos.endLine==cpos.line)=true:=by rfl) (hs:starEach (e::es) X.env=(false,eval e X.env)::starEach es X.env:=by rfl) (hplain:(backTo cpos (starEach es X.env)).any (·.1)=false:=by rfl) :
  PE X (.Call (.Attribute o name apos) (e::es) [] cpos) (tBM X.K T r to t):= by
 intro pins s σ H Q I h
 refine wpAny_Call_method_late hbase hfew hline rfl (thn (ho pins s σ H _ I h) fun v s1 ⟨x,H1,I1,r1,ty,q1⟩=>?_)
 obtain ⟨h1,h2⟩:=tyV_is I1 r1 ty
 refine ⟨T,id,pa,slot,hty,h1,h2,?_⟩
 have hA:=ha cpos pins s1 σ H1 _ I1 q1
 rw[hs] at hA ⊢
 refine Calls.callWith_builtin (by show (false||(backTo cpos (starEach es X.env)).any (·.1))=false;rw[hplain] <;> rfl) (Calls.evalArgs_plain ?_)
 exact thn hA fun us s2 ⟨vs,H2,I2,r2,q2⟩=>hm pins s2 σ H2 x vs v us Q I2 r1 r2 q2
end
end L2
namespace L2
open PySem PySem.Spec PyProof.Rows
def MtM (X:Cx) (id:String) (r:V->List V->Hp->VK->Prop):Prop:=
 ∀ (pins:List (Addr × Obj)) (s:Shared) (σ:St) (H:Hp) (x:V) (xs:List V) (v:Value) (us:List Value) (Q:VK),Inv X pins σ H s->RelV x v->Vals xs us->r x xs H Q ->
  wpAny (model X.prog X.w) X.A (call (.builtin id) (v::us)) (EP X pins σ Q) X.xe s
theorem Vals.one : ∀ {x:V} {us:List Value},Vals [x] us -> ∃ u,us=[u]/\RelV x u
 | _,_,.cons r .nil=>⟨_,rfl,r⟩
theorem Vals.two : ∀ {x y:V} {us:List Value},Vals [x,y] us -> ∃ u v,us=[u,v]/\RelV x u/\RelV y v
 | _,_,_,.cons r (.cons q .nil)=>⟨_,_,rfl,r,q⟩
section
variable {X:Cx} {pins:List (Addr × Obj)} {σ:St} {H:Hp} {s:Shared} {l b:Addr} {xs ys zs:List V}
theorem Inv.lset {its its':List Value} {n:Nat} {f:Array Value->Array Value} {t':Nat} (I:Inv X pins σ H s) (hH:H l=some (.lst xs))
  (e : s.heap.get? l = some { cls:=.type "list",data:=.seq its.toArray n }) (hf : f its.toArray = its'.toArray) (hv : Vals ys its') (hz : ys.length <= sizeLine) :
  Inv X pins σ (upd H l (.lst ys)) { s with heap:=s.heap.update l (Obj.mapSeq f),toks:=t' }:= by
 have q:=PySem.IsL.update e f
 rw[hf] at q
 refine I.write (x:=l) (e:=l) (by rw[hH];exact trivial) (.inl rfl) (fun b' u hb hu=>(Heap.get?_update_other s.heap (Obj.mapSeq f) (Ne.symm hb)).trans hu) ⟨_,q⟩ ?_
 exact ⟨hz,its',_,hv,q⟩
theorem Inv.lnew {its:List Value} {t':Nat} (I:Inv X pins σ H s) (hv:Vals ys its) (hz:ys.length<=sizeLine) :
  Inv X pins σ (upd H s.heap.objs.size (.lst ys)) { s with heap:=s.heap.push { cls:=.type "list",data:=.seq its.toArray },toks:=t' }:=
 I.laid (fun _ _ q=>Heap.get?_push_of_some _ q) (Nat.le_refl _) ⟨hz,its,0,hv,Heap.get?_push_size _ rfl⟩
theorem Inv.fresh (I:Inv X pins σ H s):H s.heap.objs.size=none:=I.hok.fresh (Nat.le_refl _)
theorem Inv.lstM (I : Inv X pins σ H s) (hH : H l = some (.lst xs)) : xs.length <= sizeLine /\ ∃ (its : List Value) (n : Nat),Vals xs its /\ xs.length = its.length /\ s.heap.get? l = some { cls:=.type "list",data:=.seq its.toArray n }:= by
 obtain ⟨z,its,n,r,e⟩:=I.hok l _ hH
 exact ⟨z,its,n,r,r.length,e⟩
theorem notLongL {n:Nat} (h:n<=sizeLine):Builtin.List.listTooLong n=false:= by
 unfold Builtin.List.listTooLong
 exact decide_eq_false (by omega)
end
section
variable {X:Cx}
def rAppend:V->List V->Hp->VK->Prop:=fun x vs H Q=>∃ l xs y,x = .ref l/\vs=[y]/\H l=some (.lst xs)/\xs.length<sizeLine/\Q .non (upd H l (.lst (xs++[y])))
theorem mt_append : MtM X "list.append" rAppend:= by
 intro pins s σ H x vs v us Q I rx rv h
 obtain ⟨l,xs,y,rfl,rfl,hH,hz,q⟩:=h
 cases rx
 obtain ⟨u,rfl,ru⟩:=rv.one
 obtain ⟨z,its,n,r,hl,e⟩:=I.lstM hH
 refine call_meets F.slot_list_append ⟨_,e,rfl⟩ F.entry_list_append (F.args_list_append_2 _ _) (PySem.list_append l its.toArray n u (by rw[List.size_toArray];omega)) ⟨e,?_⟩
 refine ⟨.non,_,I.lset (its':=its++[u]) hH e (by simp) (r.append (.cons ru .nil)) ?_,rfl,q⟩
 rw[List.length_append,List.length_singleton]
 omega
def rExtend:V->List V->Hp->VK->Prop:=fun x vs H Q=>∃ l b xs zs,x = .ref l/\vs=[.ref b]/\H l=some (.lst xs)/\H b=some (.lst zs)/\xs.length+zs.length<=sizeLine/\Q .non (upd H l (.lst (xs++zs)))
theorem mt_extend : MtM X "list.extend" rExtend:= by
 intro pins s σ H x vs v us Q I rx rv h
 obtain ⟨l,b,xs,zs,rfl,rfl,hH,hB,hz,q⟩:=h
 cases rx
 obtain ⟨u,rfl,ru⟩:=rv.one
 cases ru
 obtain ⟨z,its,n,r,hl,e⟩:=I.lstM hH
 obtain ⟨z2,its2,n2,r2,hl2,e2⟩:=I.lstM hB
 have hsz:its.toArray.size+its2.toArray.size<=sizeLine:=by rw[List.size_toArray,List.size_toArray];omega
 have hlong : ¬ (!its.toArray.isEmpty&&Builtin.List.listTooLong (its.toArray.size+its2.toArray.size))=true:= by
  rw[notLongL hsz,Bool.and_false]
  exact Bool.false_ne_true
 refine call_meets F.slot_list_extend ⟨_,e,rfl⟩ F.entry_list_extend (F.args_list_extend_2 _ _)
  (AutoSeq1.list_extend_list_list_0 l its.toArray n b its2.toArray n2 hlong (by rw[List.size_toArray];omega) (by omega)) ⟨e,e2,?_⟩
 refine ⟨.non,_,I.lset (its':=its++its2) hH e (by simp) (r.append r2) ?_,rfl,q⟩
 rw[List.length_append]
 omega
def rCat:R2:=fun x y H Q=>∃ l b xs zs,x = .ref l/\y = .ref b/\H l=some (.lst xs)/\H b=some (.lst zs)/\xs.length+zs.length<=sizeLine /\ ∀ p,H p=none->Q (.ref p) (upd H p (.lst (xs++zs)))
theorem op_cat:OpR X (binaryOp .Add) rCat:= by
 intro pins s σ H x y v u Q I rx ry h
 obtain ⟨l,b,xs,zs,rfl,rfl,hH,hB,hz,q⟩:=h
 cases rx
 cases ry
 obtain ⟨z,its,n,r,hl,e⟩:=I.lstM hH
 obtain ⟨z2,its2,n2,r2,hl2,e2⟩:=I.lstM hB
 refine PySem.P.add_list e e2 ?_ (by rw[List.size_toArray,List.size_toArray];omega)
 have ea:its.toArray++its2.toArray=(its++its2).toArray:=by simp
 rw[ea]
 exact ⟨.ref _,_,I.lnew (t':=s.toks) (r.append r2) (by rw[List.length_append];omega),rfl,q _ I.fresh⟩
end
section
variable {prog:Program} {w:World} {A:Around} {E:Value->Shared->Prop} {s:Shared}
end
section
variable {X:Cx}
end
end L2
namespace Att
open PySem PySem.W PySem.Calls PyProof.Rows
theorem ints_of_wellAll {P:Params} {h:Heap} : ∀ (ns:List Int) (vs:List Value),WellAll P h vs (ns.map WData.int)->IntsAre vs ns:= by
 intro ns
 induction ns with
 | nil=>
  intro vs w
  rw[List.map_nil] at w
  cases w
  exact .nil
 | cons n ns ih=>
  intro vs w
  rw[List.map_cons] at w
  cases w with
  | cons a b=>
   cases a
   exact .cons _ _ (ih _ b)
theorem script_of {l:OpenLaw} {n:Nat} (hn:l.most=some n) {P:Params} {h:Heap} {args:List WData} {vals:List Value}
  (hpre:l.row.toRowW.claim.pre args=true) (hwl:WellAll P h vals args) :
  ∃ a vs ns,vals = [Value.ref a] /\ args = [WData.list (ns.map WData.int)] /\ h.get? a = some { cls:=.type "list",data:=.seq vs.toArray } /\ IntsAre vs ns /\ ns.length <= n:= by
 have hsh:WShape.hasAll [] args [.list .int]=true:=(pre_splitW hpre).1
 have hc:l.pre.holds [] { args:=args }=true:=(pre_splitW hpre).2
 obtain ⟨d,r,rfl,h1,h2⟩:=hasAllW_cons hsh
 obtain rfl:=hasAllW_nil h2
 obtain ⟨xs,rfl,h3⟩:=hasW_list h1
 obtain ⟨ns,rfl⟩:=items_int h3
 have hlen:ns.length<=n:= by
  unfold OpenLaw.pre at hc
  have h4:(WTm.not (.lt (.lit (.int (n:Int))) (.len (.arg 0)))).holds [] { args:=[.list (ns.map .int)] }=true:= by
   have h4:=(holds_andW hc).1
   rw[hn] at h4
   exact h4
  have h5:=condW_of h4 (w_not (w_lt w_lit (w_len_list (w_arg rfl))))
  rw[List.length_map] at h5
  refine Nat.le_of_not_lt fun q=>?_
  have q':(n:Int)<((ns.length:Nat):Int):=by omega
  first
   | (rw[decide_eq_true q'] at h5;exact absurd h5 (by decide))
   | (simp at h5;omega)
 cases hwl with
 | cons w1 w2=>
  cases w2
  cases w1 with
  | list ho hall=>exact ⟨_,_,ns,rfl,rfl,ho,ints_of_wellAll ns _ hall,hlen⟩
theorem post_true (l:OpenLaw) (args:List WData):l.row.toRowW.claim.post args (.bool true) args=true:=
 postW_of (r:=l.row.toRowW) (X:=(true==true))
  (show WShape.has [] (.bool true) .bool=true by first | rfl | decide | simp [WShape.has,WShape.arms,WShape.armsAll])
  (show (WTm.eq .res (.lit (.bool true))).value [] { args:=args,res:=some (.bool true),after:=args }=some (.bool (true==true)) from w_eq_bool (w_res rfl) w_lit) rfl
theorem attach_call {l:OpenLaw} {n:Nat} {q:Program} {loose:List Str} {XP:(Str->Option Value)->Heap->Prop} {YP:World->Heap->Prop} {d:DefRec}
  (hn:l.most=some n) (hdf:d.params.defaults=[])
  (call : ∀ (w:World) (s₀ s₁:Shared) (mg mb:Str->Option Value) (fa:Addr) (o:Obj) (pm cd doc:Value) (a:Addr) (vs:List Value) (ns:List Int),
   Ground q loose [] XP w s₀ mg mb s₁.heap->YP w s₁.heap ->
   s₁.heap.get? fa=some o->o.data = .func (docDef d.name d.params d.body d.scope pm cd doc)->s₁.heap.CodeRec cd d.name->mg d.name=some (.ref fa) ->
   s₁.heap.get? a = some { cls:=.type "list",data:=.seq vs.toArray } -> IntsAre vs ns -> ns.length <= n -> s₁.gens = #[] ->
   codeAny (model l.prog w) callerA (.call (.ref fa) ⟨[.ref a],[]⟩) (fun r s'=>r = .ok (.ret (.bool true))/\OldK s₁.heap s'.heap/\s'.os=s₁.os/\AllBare s'.gens) s₁) :
  WalkO q loose XP YP l.row.toRowW d [] (fun f vs=>PySem.call f vs):= by
 intro w s₀ s₁ mg mb G Y fa o pm cd doc dV kV ho hd hcd hD hmg hg args vals as hpre hlay hrd hwl hlo
 obtain rfl:dV = .none:=Dflts.none hD hdf
 obtain rfl:kV = .none:=Dflts.noKw hD
 obtain ⟨a,vs,ns,rfl,rfl,hobj,hints,hlen⟩:=script_of hn hpre hwl
 refine enter_call (codeAny_mono (call w s₀ s₁ mg mb fa o pm cd doc a vs ns G Y ho (fd_plain hd) hcd hmg hobj hints hlen hg) fun r s' hq=>?_)
 obtain ⟨rfl,h2,h3,h4⟩:=hq
 exact ⟨.inl ⟨.bool true,.bool true,[],rfl,fun _=>rfl,.bool true,post_true l _,fun _=>⟨List.Pairwise.nil,fun _ hm=>(nomatch hm)⟩⟩,h2,h3,h4⟩
section
variable {prog:Program} {w:World} {A:Around} {E:Value->Shared->Prop} {s:Shared} {K:Frag}
end
end Att
namespace L2
open PySem PySem.Spec PyProof.Rows
theorem vals_ints : ∀ {vs:List Value} {ns:List Int},IntsAre vs ns->Vals (ns.map V.int) vs
 | _,_,.nil=>.nil
 | _,_,.cons n t h=>.cons ⟨t,rfl⟩ (vals_ints h)
end L2
namespace L2
open PySem PySem.Spec PyProof.Rows
end L2
namespace L2
open PySem PySem.Spec PyProof.Rows
def inClass (s:Stmt) (j:Nat):Stmt:=match s with
 | .ClassDef _ _ _ body _ _ _ _ _ _ _=>body.getD j (.Pass ⟨0,0,0,0⟩)
 | _=>.Pass ⟨0,0,0,0⟩
def defArgs (s:Stmt):Arguments:=match s with
 | .FunctionDef _ a _ _ _ _ _ _ _ _=>a
 | _=>{ posonlyargs:=[],args:=[],vararg:=none,kwonlyargs:=[],kw_defaults:=[],kwarg:=none,defaults:=[] }
def defBody (s:Stmt):List Stmt:=match s with
 | .FunctionDef _ _ b _ _ _ _ _ _ _=>b
 | _=>[]
def defScope (s:Stmt):Scope:=match s with
 | .FunctionDef _ _ _ _ _ _ sc _ _ _=>sc
 | _=>{ kind:=.function,names:=[],isGenerator:=false,isCoroutine:=false }
abbrev CX0:CXT:=fun _ _ _ _ _ _=>False
abbrev E0:XK:=fun _ _ _=>False
theorem pass0 {X:Cx}:Passes CX0 X E0:=fun _ _ _ _ _ _ _ h=>h.elim
structure Fun (K:PySem.W.Frag) (x qual:Str) (st:Stmt) (f:Addr) (fd:FuncData):Prop where
 ex : ∃ (oc:Value) (od:Option Addr) (kV doc pm:Value) (an:Option Addr) (cdv ct:Value) (osl:Array (Option Value)),
  fd=PySem.W.fnOf x qual (defArgs st) (defBody st) (defScope st) .none kV doc pm an cdv ct/\K.lookup f=some ⟨oc,od,.func fd,osl⟩/\PySem.W.codeIn K cdv qual=true
 kp:PySem.W.keepIn K (.ref f)=true
section
variable {P:Program} {w:World} {K:PySem.W.Frag} {mg:Str->Option Value} {base:Heap}
theorem Fun.ok {x qual:Str} {st:Stmt} {f:Addr} {fd:FuncData} {N ps:List Str} {k:Nat} {sp:Sp} (F:Fun K x qual st f fd) (S:FnScope N ps (defScope st)) (len : ∀ vs H Q E,sp vs H Q E->vs.length=ps.length)
  (hbody : ∀ (cdv:Value) (A:Around) (outer:List Env) (s:Shared) (H:Hp) (vs:List V) (Q:VK) (E:XK),Room k (A.deeper (envOfC qual (defScope st) s.heap.objs.size f cdv))->sp vs H Q E ->
   ∃ t,PSs (cxOf CX0 P w K mg base N qual (defScope st) f cdv A outer s H E).nox (defBody st) t/\t { nx:=fun _ H'=>Q .non H',rt:=Q } (start N vs) H):FnOk P w K mg base CX0 (k+1) f fd ps sp:= by
 obtain ⟨oc,od,kV,doc,pm,an,cdv,ct,osl,rfl,lk,hcd⟩:=F.ex
 refine fn_of lk hcd S len fun A outer s H vs Q E hr hsp=>?_
 obtain ⟨t,h,q⟩:=hbody cdv A outer s H vs Q E hr hsp
 exact ⟨t,h.nox,q⟩
theorem Fun.binds {x qual:Str} {st:Stmt} {f:Addr} {fd:FuncData} {ps:List Str} (F:Fun K x qual st f fd)
  (h : ∀ (kV doc pm:Value) (an:Option Addr) (cdv ct:Value) (us:List Value),us.length=ps.length->bindArgs (PySem.W.fnOf x qual (defArgs st) (defBody st) (defScope st) .none kV doc pm an cdv ct) ⟨us,[]⟩=pure (ps.zip us)):Binds K fd ps []:= by
 obtain ⟨oc,od,kV,doc,pm,an,cdv,ct,osl,rfl,lk,hcd⟩:=F.ex
 exact .all (h kV doc pm an cdv ct)
theorem fun_mk {x qual:Str} {st:Stmt} {f:Addr} {oc:Value} {od an:Option Addr} {osl:Array (Option Value)} {kV doc pm cdv ct:Value} (l:K.lookup f=some ⟨oc,od,.func (PySem.W.fnOf x qual (defArgs st) (defBody st) (defScope st) .none kV doc pm an cdv ct),osl⟩)
  (c:PySem.W.codeIn K cdv qual=true) (k:PySem.W.keepIn K (.ref f)=true):Fun K x qual st f (PySem.W.fnOf x qual (defArgs st) (defBody st) (defScope st) .none kV doc pm an cdv ct):=⟨⟨oc,od,kV,doc,pm,an,cdv,ct,osl,rfl,l,c⟩,k⟩
end
theorem hu_of {A:Around} {k:Nat} (hr:Room k A):A.units+1<cLine:=Nat.lt_of_le_of_lt (Nat.add_le_add_left (by decide:1<=64) _) hr.units
section
variable {X:Cx}
theorem pv (i : Nat) {x : Str} {pos : Pos} (hN : X.N[i]? = some x:=by rfl) (hv : Vis X.env.scope x:=by first | exact Or.inl rfl | exact Or.inr (Or.inl rfl) | exact Or.inr (Or.inr rfl)) (hd : (x == ("__debug__" : Str)) = false:=by decide)
  (hcd : (x == ("__classdict__" : Str)) = false:=by decide) : PE X (.Name x pos) (tVar i):=pe_var hN hv hd hcd
end
theorem iteF {A B:Prop} (h:B):if false=true then A else B:= by
 rw[if_neg Bool.false_ne_true]
 exact h
theorem iteT {A B:Prop} (h:A):if true=true then A else B:= by
 rw[if_pos rfl]
 exact h
theorem ite2 {c A B:Prop} [Decidable c] (h1:c->A) (h2 : ¬ c->B):if c then A else B:= by
 by_cases h:c
 ·rw[if_pos h]
  exact h1 h
 ·rw[if_neg h]
  exact h2 h
def Same (H H':Hp):Prop:=∀ b o,H b=some o->H' b=some o
theorem Same.refl (H:Hp):Same H H:=fun _ _ h=>h
theorem Same.trans {H H1 H2:Hp} (a:Same H H1) (b:Same H1 H2):Same H H2:=fun c o h=>b c o (a c o h)
theorem Same.free {H H':Hp} (e:Same H H') {l:Addr} (h:H' l=Option.none):H l=Option.none:= by
 cases q:H l with
 | none=>rfl
 | some o=>
  rw[e l o q] at h
  cases h
theorem Same.seq {K:PySem.W.Frag} {H H':Hp} {a:Addr} {xs:List V} (e:Same H H') (h:SqL K H a xs):SqL K H' a xs:= by
 rcases h with (h | ⟨o,h⟩) | h
 ·exact .inl (.inl (e _ _ h))
 ·exact .inl (.inr ⟨o,e _ _ h⟩)
 ·exact .inr h
end L2
namespace L2
open PySem PySem.Spec PyProof.Rows
theorem relabel_some {env:Env} : ∀ {names:List (Str × NameKind)} {x:Str} {k:NameKind},names.lookup x=some k ->
  ∃ k',(names.map fun (n,k)=>if (k==NameKind.free&&env.scope.kind == .function&&env.kindOf n==some .cell) then (n,NameKind.cell) else (n,k)).lookup x=some k'/\(k'=k\/(k = .free/\k' = .cell))
 | [],_,_,h=>by simp at h
 | (n,k0)::r,x,k,h=>by
  have ih:=@relabel_some env r x k
  show ∃ k',List.lookup x ((if (k0==NameKind.free&&env.scope.kind == .function&&env.kindOf n==some .cell)=true then (n,NameKind.cell) else (n,k0))::_)=some k'/\_
  cases hx:x==n with
  | true=>
   simp only [List.lookup_cons,hx] at h
   cases h
   by_cases hc:(k0==NameKind.free&&env.scope.kind == .function&&env.kindOf n==some .cell)=true
   ·rw[if_pos hc]
    refine ⟨.cell,by simp only [List.lookup_cons,hx],.inr ⟨?_,rfl⟩⟩
    have q:(k0==NameKind.free)=true:= by
     rw[Bool.and_eq_true,Bool.and_eq_true] at hc
     exact hc.1.1
    cases k0 <;> first | rfl | exact absurd q (by decide)
   ·rw[if_neg hc]
    exact ⟨k0,by simp only [List.lookup_cons,hx],.inl rfl⟩
  | false=>
   simp only [List.lookup_cons,hx] at h
   obtain ⟨k',e,q⟩:=ih h
   by_cases hc:(k0==NameKind.free&&env.scope.kind == .function&&env.kindOf n==some .cell)=true
   ·rw[if_pos hc];exact ⟨k',by simp only [List.lookup_cons,hx];exact e,q⟩
   ·rw[if_neg hc];exact ⟨k',by simp only [List.lookup_cons,hx];exact e,q⟩
theorem relabel_none {env:Env} : ∀ {names:List (Str × NameKind)} {x:Str},names.lookup x=none ->
  (names.map fun (n,k)=>if (k==NameKind.free&&env.scope.kind == .function&&env.kindOf n==some .cell) then (n,NameKind.cell) else (n,k)).lookup x=none
 | [],_,_=>rfl
 | (n,k0)::r,x,h=>by
  have ih:=@relabel_none env r x
  show List.lookup x ((if (k0==NameKind.free&&env.scope.kind == .function&&env.kindOf n==some .cell)=true then (n,NameKind.cell) else (n,k0))::_)=none
  cases hx:x==n with
  | true=>simp only [List.lookup_cons,hx] at h;cases h
  | false=>
   simp only [List.lookup_cons,hx] at h
   by_cases hc:(k0==NameKind.free&&env.scope.kind == .function&&env.kindOf n==some .cell)=true
   ·rw[if_pos hc];simp only [List.lookup_cons,hx];exact ih h
   ·rw[if_neg hc];simp only [List.lookup_cons,hx];exact ih h
theorem closure_go {env:Env} : ∀ (names:List (Str × NameKind)) (cs:List (Str × Addr)),(∀ y ∈ names,y.2=NameKind.free -> ∃ c,env.cells.lookup y.1=some c) ->
  (∀ y c,cs.lookup y=some c->env.cells.lookup y=some c) ->
  ∃ cl,(forIn names cs fun x r=>(match x with
   | (name,kind)=>if (kind==NameKind.free)=true then (do let a <- cellOf env name;pure (ForInStep.yield ((name,a)::r))) else pure (ForInStep.yield r)):Sem (List (Str × Addr)))=pure cl /\
   (∀ y c,cl.lookup y=some c->env.cells.lookup y=some c)/\(∀ y,((∃ c,cs.lookup y=some c)\/(y,NameKind.free) ∈ names) -> ∃ c,cl.lookup y=some c)
 | [],cs,_,h=>⟨cs,by simp,h,fun y q=>q.elim id fun z=>absurd z (by simp)⟩
 | (n,k)::r,cs,hf,h=>by
  by_cases hk:(k==NameKind.free)=true
  ·have hk':k=NameKind.free:=by cases k <;> first | rfl | exact absurd hk (by decide)
   obtain ⟨c,hc⟩:=hf (n,k) List.mem_cons_self hk'
   have h' : ∀ y c',((n,c)::cs).lookup y=some c'->env.cells.lookup y=some c':=fun y c' e=>by
    cases hy:y==n with
    | true=>
     simp only [List.lookup_cons,hy] at e
     cases e
     have:y=n:=by simpa using hy
     rw[this];exact hc
    | false=>
     simp only [List.lookup_cons,hy] at e
     exact h y c' e
   obtain ⟨cl,e,q1,q2⟩:=closure_go r ((n,c)::cs) (fun y hy=>hf y (List.mem_cons_of_mem _ hy)) h'
   refine ⟨cl,?_,q1,fun y q=>q2 y ?_⟩
   ·rw[List.forIn_cons]
    have ec:cellOf env n=pure c:=by unfold cellOf;rw[hc]
    simp only [hk,if_true,ec,pure_bind]
    exact e
   ·rcases q with ⟨c',q⟩ | q
    ·left
     cases hy:y==n with
     | true=>exact ⟨c,by simp only [List.lookup_cons,hy]⟩
     | false=>exact ⟨c',by simp only [List.lookup_cons,hy];exact q⟩
    ·rcases List.mem_cons.mp q with z | z
     ·cases z
      left
      exact ⟨c,by simp [List.lookup_cons]⟩
     ·exact .inr z
  ·obtain ⟨cl,e,q1,q2⟩:=closure_go r cs (fun y hy=>hf y (List.mem_cons_of_mem _ hy)) h
   refine ⟨cl,?_,q1,fun y q=>q2 y ?_⟩
   ·rw[List.forIn_cons]
    simp only [hk,if_false,pure_bind]
    exact e
   ·rcases q with q | q
    ·exact .inl q
    ·rcases List.mem_cons.mp q with z | z
     ·cases z
      exact absurd rfl hk
     ·exact .inr z
theorem closure_of {scope:Scope} {env:Env} (h : ∀ y ∈ scope.names,y.2=NameKind.free -> ∃ c,env.cells.lookup y.1=some c) :
  ∃ cl,closureFor scope env=pure cl/\(∀ y c,cl.lookup y=some c->env.cells.lookup y=some c)/\(∀ y,(y,NameKind.free) ∈ scope.names -> ∃ c,cl.lookup y=some c):= by
 obtain ⟨cl,e,q1,q2⟩:=closure_go (env:=env) scope.names [] h (fun y c e=>by simp at e)
 refine ⟨cl,?_,q1,fun y hy=>q2 y (.inr hy)⟩
 unfold closureFor
 dsimp only
 rw[show (forIn scope.names ([]:List (Str × Addr)) fun x r=>(match x with
   | (name,kind)=>if (kind==NameKind.free)=true then (do let a <- cellOf env name;pure (ForInStep.yield ((name,a)::r))) else pure (ForInStep.yield r)):Sem (List (Str × Addr)))=pure cl from e]
 rfl
end L2
namespace L2
open PySem PySem.Spec PyProof.Rows
section
variable {prog:Program} {w:World} {A:Around} {R:Result->Shared->Prop} {s:Shared}
theorem compLoop_gen {elt target iter:Expr} {ifs:List Expr} {scope:Scope} {pos:Pos} {it acc:Value} {env:Env} (Iv:Nat->Shared->Prop)
  (turn : ∀ n s,Iv n s->wpAny (model prog w) A (pyNext it) (fun r s₁=>match r with
   | none=>R (.ok .next) s₁
   | some v=>wpAny (model prog w) A (letOwnedTupleGo target it v) (fun _ s₁'=>wpAny (model prog w) A (assign target env v) (fun _ s₂=>
     wpAny (model prog w) A (forIn ifs true fun c r=>if r=true then do let ok <- isTrue c env (eval c env);pure (ForInStep.yield ok) else pure (ForInStep.yield r)) (fun ok s₃=>
      if ok=true then wpAny (model prog w) A (eval elt env) (fun x s₄=>
       wpAny (model prog w) A (call (.builtin "list.append") [acc,x]) (fun _ s₅=>∃ m,m < n /\ Iv m s₅) (fun _ _=>False) s₄) (fun _ _=>False) s₃
      else ∃ m,m<n/\Iv m s₃) (fun _ _=>False) s₂) (fun _ _=>False) s₁') (fun _ _=>False) s₁) (fun _ _=>False) s)
  (n:Nat) (h:Iv n s) :
  codeAny (model prog w) A (.compLoop (.ListComp elt [⟨target,iter,ifs,0⟩] scope pos) 0 it acc env) R s:= by
 refine codeAny_loop rfl Iv (fun n s hI=>?_) n h
 show wpAny _ A ((compTurn (.ListComp elt [⟨target,iter,ifs,0⟩] scope pos) 0 it acc env).onRaise (fun x=>do noteFrame x env;theTreesLotGoes x)) _ _ s
 refine wpAny_noted ?_
 rw[compTurn_list]
 refine wpAny_bind (wpAny_standAt (wpAny_bind (wpAny_mono (turn n s hI) (fun r s₁ h₁=>?_) fun _ _ z=>z.elim)))
 cases r with
 | none=>exact wpAny_pure h₁
 | some v=>
  refine wpAny_bind (wpAny_mono h₁ (fun _ s₁' h₁'=>?_) fun _ _ z=>z.elim)
  refine wpAny_bind (wpAny_mono h₁' (fun _ s₂ h₂=>wpAny_bind (wpAny_mono h₂ (fun ok s₃ h₃=>?_) fun _ _ z=>z.elim)) fun _ _ z=>z.elim)
  cases ok with
  | false=>exact wpAny_pure ⟨rfl,h₃⟩
  | true=>
   exact wpAny_bind (wpAny_bind (wpAny_mono h₃ (fun x s₄ h₄=>wpAny_bind (wpAny_mono h₄ (fun _ s₅ h₅=>wpAny_pure (wpAny_pure ⟨rfl,h₅⟩)) fun _ _ z=>z.elim)) fun _ _ z=>z.elim))
end
def inSt (M:List (Option Nat)) (σ:St):St:=M.map fun o=>o.bind fun j=>(σ[j]?).join
theorem inSt_length (M:List (Option Nat)) (σ:St):(inSt M σ).length=M.length:=by unfold inSt;rw[List.length_map]
theorem inSt_get {M:List (Option Nat)} {σ:St} {i:Nat} {v:V} (h:(inSt M σ)[i]?=some (some v)) : ∃ j,M[i]?=some (some j)/\σ[j]?=some (some v):= by
 unfold inSt at h
 rw[List.getElem?_map] at h
 cases e:M[i]? with
 | none=>rw[e] at h;cases h
 | some o=>
  rw[e] at h
  cases o with
  | none=>cases h
  | some j=>
   refine ⟨j,rfl,?_⟩
   have h':(σ[j]?).join=some v:=Option.some.inj h
   cases q:σ[j]? with
   | none=>rw[q] at h';cases h'
   | some o2=>rw[q] at h';cases o2 with
    | none=>cases h'
    | some v2=>cases h';rfl
def cxLc (X:Cx) (N':List Str) (scope:Scope) (cl:List (Str × Addr)) (C:Addr) (s:Shared) (H:Hp) (fp:List Addr):Cx:=
 { X with N:=N',s₀:=s,H₀:=H,env:=compEnvC scope cl C X.env,outer:=X.stack,stack:=X.stack,ex:=fp,fn:=fun _=>false,pn:=[],xe:=fun _ _=>False }
structure LcSc (N N':List Str) (M:List (Option Nat)) (sc osc:Scope):Prop where
 kind:sc.kind = .function
 len:N'.length=M.length
 cell : ∀ y ∈ sc.names,y.2≠NameKind.cell
 own : ∀ y ∈ sc.names,y.2=NameKind.local->sc.names.lookup y.1=some NameKind.local
 fre : ∀ y ∈ sc.names,y.2=NameKind.free->osc.names.lookup y.1=some NameKind.cell\/osc.names.lookup y.1=some NameKind.free
 at_ : ∀ (i j:Nat),M[i]?=some (some j) -> ∃ y,N'[i]?=some y/\N[j]?=some y/\sc.names.lookup y=some NameKind.free
def Frm (M:List (Option Nat)) (g:TG):Prop:=∀ v σ H Q,g v σ H Q->g v σ H fun σ' H'=>Q σ' H'/\σ'.length=σ.length /\ ∀ (i j:Nat),M[i]?=some (some j)->σ'[i]?=σ[i]?
theorem frm_name {M:List (Option Nat)} {i:Nat} (h:M[i]?=some none):Frm M (gName i):=fun v σ H Q q=>by
 refine ⟨q,List.length_set ..,fun k j e=>?_⟩
 have:i≠k:=by rintro rfl;rw[h] at e;cases e
 exact List.getElem?_set_ne this
def PTs (X:Cx) (ifs:List Expr) (t:TT):Prop:=
 ∀ (pins:List (Addr × Obj)) (s:Shared) (σ:St) (H:Hp) (Q:Bool->Hp->Prop),Inv X pins σ H s->t σ H Q ->
  wpAny (model X.prog X.w) X.A (forIn ifs true fun c r=>if r=true then do let ok <- isTrue c X.env (eval c X.env);pure (ForInStep.yield ok) else pure (ForInStep.yield r)) (TP X pins σ Q) X.xe s
def tYes:TT:=fun _ H Q=>Q true H
theorem pts_nil {X:Cx}:PTs X [] tYes:=fun pins s σ H Q I h=>wpAny_tests_nil ⟨H,I,h⟩
theorem pts_one {X:Cx} {c:Expr} {t:TT} (h:PT X c t):PTs X [c] t:=fun pins s σ H Q I q=>wpAny_tests_one (h pins s σ H Q I q)
def tLc (wi:TI) (M:List (Option Nat)) (g:TG) (tc:TT) (te:TE) (σ:St) (H:Hp) (F:List V->Hp->Prop):Prop:=wi σ H fun J H1=>
 ∃ W:Nat->Nat->List V->Hp->Prop,(∃ m,W 0 m [] H1) /\ ∀ i m ys H,W i m ys H->ys.length<=sizeLine /\
  ((J.stop i H/\F ys H)\/(J.go i H/\ys.length<sizeLine /\ ∃ N:List V->Hp->Prop,(∀ ys' H',N ys' H' -> ∃ m',m'<m/\W (i+1) m' ys' H') /\ ∀ x H',J.yld i H x H'->g x (inSt M σ) H' fun σ2 H2=>tc σ2 H2 fun b H3=>
   if b=true then te σ2 H3 fun v H4=>N (ys++[v]) H4 else N ys H3))
theorem lc_block {X:Cx} {N':List Str} {M:List (Option Nat)} {scope:Scope} {cl:List (Str × Addr)} {tg elt iter:Expr} {ifs:List Expr} {pos:Pos} {g:TG} {tc:TT} {te:TE} {pins:List (Addr × Obj)} {σ:St} {H2:Hp} {s2:Shared}
  {it:Addr} {fp:List Addr} {tn:Nat->Heap->Prop} {J:It} {F:List V->Hp->Prop} {RR:Value->Addr->Result->Shared->Prop} {E:Value->Shared->Prop}
  (S:LcSc X.N N' M scope X.env.scope) (hc:X.calm=true) (q1 : ∀ y c,cl.lookup y=some c->X.env.cells.lookup y=some c) (q2 : ∀ y,(y,NameKind.free) ∈ scope.names -> ∃ c,cl.lookup y=some c)
  (hg : ∀ C s H fp,PG (cxLc X N' scope cl C s H fp) tg g) (hf:Frm M g) (ht : ∀ C s H fp,PTs (cxLc X N' scope cl C s H fp) ifs tc) (he : ∀ C s H fp,PE (cxLc X N' scope cl C s H fp) elt te)
  (I2:Inv X pins σ H2 s2) (T:Turn X.prog X.w X.K tg J fp it tn) (st2:tn 0 s2.heap) (f2 : ∀ b ∈ fp,FpOk X pins H2 b)
  (hw : ∃ W:Nat->Nat->List V->Hp->Prop,(∃ m,W 0 m [] H2) /\ ∀ i m ys H,W i m ys H->ys.length<=sizeLine /\
   ((J.stop i H/\F ys H)\/(J.go i H/\ys.length<sizeLine /\ ∃ N:List V->Hp->Prop,(∀ ys' H',N ys' H' -> ∃ m',m'<m/\W (i+1) m' ys' H') /\ ∀ x H',J.yld i H x H'->g x (inSt M σ) H' fun σ2 H2=>tc σ2 H2 fun b H3=>
    if b=true then te σ2 H3 fun v H4=>N (ys++[v]) H4 else N ys H3)))
  (hend : ∀ (D C:Addr) (s':Shared) (H':Hp) (ys:List V),Inv X pins σ (upd H' D (.lst ys)) s'->H' D=none->s2.heap.objs.size<=D->s2.heap.objs.size<C->(∃ m,s'.heap.Ns C m)->(upd H' D (.lst ys)) C=none->F ys H'->RR (.ref D) C (.ok .next) s') :
  wpAny (model X.prog X.w) X.A (newList []) (fun acc s₃=>wpAny (model X.prog X.w) X.A (newFunctionEnv scope X.env.globals cl [] X.env.qual none .none (some X.env)) (fun cenv s₄=>
   codeAny (model X.prog X.w) X.A (.compStart (.ListComp elt [⟨tg,iter,ifs,0⟩] scope pos) 0 (.ref it) acc { cenv with scope:=relabel scope X.env }) (RR acc cenv.locals) s₄) E s₃) E s2:= by
 obtain ⟨W,⟨m0,w0⟩,turn⟩:=hw
 refine wpAny_newObj_type (wpAny_newFunctionEnv S.cell (by intro y hy;simp at hy) (fun h₁ hns₁ hsb₁=>?_) S.kind)
 dsimp only at hns₁ hsb₁ ⊢
 generalize hG : s2.heap.push { cls:=.type "list",dict:=none,data:=.seq ([] : List Value).toArray } = G at hns₁ hsb₁ ⊢
 generalize hD:s2.heap.objs.size=D at *
 have hC:G.objs.size=D+1:=by rw[<- hG,Heap.size_push,hD]
 generalize hCC:G.objs.size=C at *
 have DC:D<C:=by rw[hC];exact Nat.lt_succ_self _
 have lo : ∀ b o,s2.heap.get? b=some o->b<D:=fun b o e=>hD ▸ Heap.lt_size e
 have old : ∀ b o,s2.heap.get? b=some o->h₁.get? b=some o:=fun b o e=>by
  have hb:=lo b o e
  exact hsb₁.extBut b o (Nat.ne_of_lt (Nat.lt_trans hb DC)) (Heap.get?_push_of_some _ (hG ▸ Heap.get?_push_of_some _ e))
 have hacc : h₁.get? D = some { cls:=.type "list",data:=.seq ([] : List Value).toArray }:=
  hsb₁.extBut _ _ (Nat.ne_of_lt DC) (Heap.get?_push_of_some _ (by rw[<- hG,<- hD];exact Heap.get?_push_size _ rfl))
 have fpl : ∀ b ∈ fp,b<D:=fun b hb=>by
  obtain ⟨o,e,_⟩:=T.obj _ _ st2 b hb
  exact lo b o e
 have cel : ∀ y c,cl.lookup y=some c->c<D:=fun y c e=>by
  obtain ⟨v,z⟩:=I2.cell y c (q1 y c e)
  exact hD ▸ z.lt
 generalize hX':cxLc X N' scope cl C s2 H2 fp=X'
 have envE:X'.env=compEnvC scope cl C X.env:=by rw[<- hX'];rfl
 have locE:X'.env.locals=C:=by rw[envE];rfl
 have fsE:X'.fs=frs X.stack:=by rw[<- hX'];rfl
 have fsl : ∀ b ∈ frs X.stack,b<D:=fun b hb=>by
  rcases List.mem_cons.mp (I2.stkSub b hb) with z | z
  ·rw[z];exact hD ▸ I2.lt
  ·exact Nat.lt_of_not_le fun q=>I2.nofs (hD ▸ q) z
 have relS : ∀ x k,scope.names.lookup x=some k -> ∃ k',X'.env.kindOf x=some k'/\(k'=k\/(k = .free/\k' = .cell)):=fun x k e=>by
  obtain ⟨k',e',q⟩:=relabel_some (env:=X.env) e
  exact ⟨k',by rw[envE];exact e',q⟩
 have relN : ∀ x,scope.names.lookup x=none->X'.env.kindOf x=none:=fun x e=>by
  rw[envE];exact relabel_none (env:=X.env) e
 have cellsE:X'.env.cells=cl:=by rw[envE];rfl
 have ok':X'.Ok:= by
  refine ⟨?mod,?kind,?glob,?blt,?above,?inj,?has,?cab,?hd,?frames,?stk,?exf,?bs,?bsz,?noex,?exfs,?funs,?frf⟩
  case mod=>rw[<- hX'];exact I2.ok.mod
  case kind=>rw[envE];exact S.kind
  case glob=>rw[envE];exact I2.ok.glob
  case blt=>rw[envE];exact I2.ok.blt
  case above=>rw[locE,<- hX'];show s2.heap.objs.size<=C;rw[hD];exact Nat.le_of_lt DC
  case inj=>intro x y c e1 e2;rw[cellsE] at e1 e2;exact I2.ok.inj x y c (q1 x c e1) (q1 y c e2)
  case has=>
   intro x hx
   rw[cellsE]
   cases e:scope.names.lookup x with
   | none=>rw[relN x e] at hx;rcases hx with z | z <;> cases z
   | some k=>
    obtain ⟨k',e',q⟩:=relS x k e
    rw[e'] at hx
    have kf:k = .free:= by
     rcases q with q | q
     ·rcases hx with z | z
      ·cases z;exact absurd q.symm (S.cell _ (PySem.mem_of_lookup e))
      ·cases z;exact q.symm
     ·exact q.1
    subst kf
    exact q2 x (PySem.mem_of_lookup e)
  case cab=>intro x c h;rw[<- hX'] at h;exact absurd h (by show ¬ (false=true);decide)
  case hd=>rw[<- hX'];exact I2.ok.hd
  case frames=>rw[<- hX'];exact I2.ok.frames
  case stk=>rw[<- hX'];exact .inl rfl
  case exf=>
   intro b hb
   have hb':b ∈ fp:=by rw[<- hX'] at hb;exact hb
   refine ⟨by rw[locE];exact Nat.ne_of_lt (Nat.lt_trans (fpl b hb') DC),fun x c e=>?_⟩
   rw[cellsE] at e
   exact (f2 b hb').2.2.2.2.1 x c (q1 x c e)
  case bs=>rw[<- hX'];exact I2.bs
  case bsz=>rw[<- hX'];exact Nat.le_trans I2.ok.bsz I2.sz
  case noex=>
   intro b o e hb
   have hb':b ∈ fp:=by rw[<- hX'] at hb;exact hb
   have e':X.base.get? b=some o:=by rw[<- hX'] at e;exact e
   rcases (f2 b hb').2.2.2.1 with z | z
   ·exact I2.ok.noex b o e' z
   ·exact absurd (Nat.lt_of_lt_of_le (Heap.lt_size e') (Nat.le_trans I2.ok.bsz z)) (Nat.lt_irrefl _)
  case exfs=>
   intro b hb
   have hb':b ∈ fp:=by rw[<- hX'] at hb;exact hb
   rw[fsE]
   intro z
   rcases List.mem_cons.mp (I2.stkSub b z) with q | q
   ·exact (f2 b hb').2.1 q
   ·exact (f2 b hb').2.2.1 q
  case funs=>rw[<- hX'];exact I2.stack
  case frf=>rw[fsE,<- hX'];exact I2.stkFree
 have c0:H2 C=none:=I2.hok.fresh (by rw[hD];exact Nat.le_of_lt DC)
 have d0:H2 D=none:=I2.hok.fresh (by rw[hD];exact Nat.le_refl _)
 have I3:Inv X' [] (inSt M σ) H2 { s2 with heap:=h₁,toks:=s2.toks+([]:List (Str × Value)).length }:= by
  refine ⟨ok',?os,?bare,?base,?loc,?cell,?free,?freeC,?pin,?hok,?len⟩
  case os=>rw[<- hX'];rfl
  case bare=>exact I2.bare
  case base=>rw[fsE,<- hX'];exact Un.kept old
  case loc=>
   refine ⟨_,by rw[locE];exact hns₁,fun i x v e1 e2 _=>?_⟩
   obtain ⟨j,eM,eσ⟩:=inSt_get e2
   obtain ⟨y,n1,n2,n3⟩:=S.at_ i j eM
   have e1':N'[i]?=some x:=by rw[<- hX'] at e1;exact e1
   rw[n1] at e1';cases e1'
   have hyf:(x,NameKind.free) ∈ scope.names:=PySem.mem_of_lookup n3
   have kd:=S.fre _ hyf rfl
   obtain ⟨m,hn,hl⟩:=id I2.loc
   obtain ⟨u,ru,lk⟩:=hl j x v n2 eσ (kd.elim (fun z=>.inr (.inl z)) fun z=>.inr (.inr z))
   refine ⟨u,ru,?_⟩
   rcases lk with ⟨k,_⟩ | ⟨k,c,ec,z⟩
   ·have k':X.env.scope.names.lookup x=some NameKind.local:=k
    rcases kd with q | q <;> (rw[k'] at q;cases q)
   ·obtain ⟨c',ec'⟩:=q2 x hyf
    have hcc:=q1 x c' ec'
    rw[ec] at hcc;cases hcc
    obtain ⟨k',e',q⟩:=relS x _ n3
    refine .inr ⟨?_,c,by rw[cellsE];exact ec',?_⟩
    ·rw[e'];rcases q with q | q
     ·right;rw[q]
     ·left;rw[q.2]
    ·obtain ⟨o,ho,hd'⟩:=z
     exact ⟨o,old _ _ ho,hd'⟩
  case cell=>
   intro x c e
   rw[cellsE] at e
   obtain ⟨v,o,ho,hd'⟩:=I2.cell x c (q1 x c e)
   exact ⟨v,o,old _ _ ho,hd'⟩
  case free=>rw[locE];exact c0
  case freeC=>intro x c e;rw[cellsE] at e;exact I2.freeC x c (q1 x c e)
  case pin=>intro p hp;rw[<- hX'] at hp;exact absurd (show p ∈ ([]:List (Addr × Obj)) from hp) (by simp)
  case hok=>rw[<- hX'];exact I2.hok.kept old
  case len=>rw[inSt_length,<- hX'];exact S.len.symm
 have xE : ∀ (e:Value) (s':Shared),¬ X'.xe e s':=fun e s' z=>by rw[<- hX'] at z;exact z
 have progE:X'.prog=X.prog:=by rw[<- hX'];rfl
 have wE:X'.w=X.w:=by rw[<- hX'];rfl
 have KE':X'.K=X.K:=by rw[<- hX'];rfl
 have AE:X'.A=X.A:=by rw[<- hX'];rfl
 have cE:X'.calm=true:=by rw[<- hX'];exact hc
 have exE:X'.ex=fp:=by rw[<- hX'];rfl
 have s0E:X'.s₀=s2:=by rw[<- hX'];rfl
 have pnE:X'.pn=[]:=by rw[<- hX'];rfl
 have hgX:PG X' tg g:=by rw[<- hX'];exact hg C s2 H2 fp
 have htX:PTs X' ifs tc:=by rw[<- hX'];exact ht C s2 H2 fp
 have heX:PE X' elt te:=by rw[<- hX'];exact he C s2 H2 fp
 have Dfp:D ∉ fp:=fun z=>Nat.lt_irrefl _ (fpl D z)
 have Dcl : ∀ x c,X'.env.cells.lookup x=some c->c≠D:=fun x c e=>by rw[cellsE] at e;exact Nat.ne_of_lt (cel x c e)
 have Dloc:D≠X'.env.locals:=by rw[locE];exact Nat.ne_of_lt DC
 have Dfs:D ∉ X'.fs:=by rw[fsE];exact fun z=>Nat.lt_irrefl _ (fsl D z)
 have D0:D ∈ X'.ex\/X'.s₀.heap.objs.size<=D:=.inr (by rw[s0E,hD];exact Nat.le_refl _)
 have stat : ∀ {pl:List (Addr × Obj)} {H':Hp},(∀ p ∈ pl,p.1=D)->(∀ b ∈ fp,H' b=none) -> ∀ b ∈ fp,FpOk X' pl H' b:=fun {pl H'} hpl hn b hb=>by
  refine ⟨hn b hb,by rw[locE];exact Nat.ne_of_lt (Nat.lt_trans (fpl b hb) DC),?_,.inl (by rw[exE];exact hb),fun x c e=>?_,fun p hp=>?_⟩
  ·exact ok'.exfs b (by rw[exE];exact hb)
  ·rw[cellsE] at e;exact (f2 b hb).2.2.2.2.1 x c (q1 x c e)
  ·rw[pnE,List.nil_append] at hp
   rw[hpl p hp];exact (Nat.ne_of_lt (fpl b hb)).symm
 have loop:codeAny (model X.prog X.w) X.A (.compLoop (.ListComp elt [⟨tg,iter,ifs,0⟩] scope pos) 0 (.ref it) (.ref D) X'.env) (RR (.ref D) C) { s2 with heap:=h₁,toks:=s2.toks+([]:List (Str × Value)).length }:= by
  refine compLoop_gen (fun n s'=>∃ i ys H',Inv X' [] (inSt M σ) H' s' /\ tn i s'.heap /\ (∀ b ∈ fp,H' b = none) /\ (∃ (its : List Value) (k : Nat),Vals ys its /\ s'.heap.get? D = some { cls:=.type "list",data:=.seq its.toArray k }) /\ H' D = none /\ W i n ys H') ?_ m0
   ⟨0,[],H2,I3,T.keep _ _ _ st2 fun b hb o e=>old b o e,fun b hb=>(f2 b hb).1,⟨[],0,.nil,hacc⟩,d0,w0⟩
  rintro n s3 ⟨i,ys,H3,J3,st3,fr3,⟨its,k,rv,hDs⟩,dn,w3⟩
  obtain ⟨hsz,hcase⟩:=turn i n ys H3 w3
  have J3' : Inv X' [(D,{ cls:=.type "list",data:=.seq its.toArray k })] (inSt M σ) H3 s3:=J3.pins_of fun p hp=>by
   have e : p = (D,{ cls:=.type "list",data:=.seq its.toArray k }):=by simpa using hp
   subst e
   exact ⟨hDs,dn,Dloc,Dfs,fun v z=>by cases z⟩
  have hpl : ∀ p ∈ [((D,{ cls:=.type "list",data:=.seq its.toArray k }) : Addr × Obj)],p.1 = D:=fun p hp=>by
   have e : p = (D,{ cls:=.type "list",data:=.seq its.toArray k }):=by simpa using hp
   rw[e]
  rcases hcase with ⟨stop,qF⟩ | ⟨go,hlt,N,hN,step⟩
  ·have q:=T.done X' progE wE KE' cE i _ s3 _ H3 (fun _ _=>False) J3' (stat hpl fr3) st3 stop
   rw[AE] at q
   refine thn q fun r s4 ⟨hr,J4⟩=>?_
   subst hr
   have hD4 : s4.heap.get? D = some { cls:=.type "list",data:=.seq its.toArray k }:=(J4.pin _ (List.mem_append_right _ (List.mem_singleton.mpr rfl))).1
   obtain ⟨mC,hnC,_⟩:=id J4.loc
   rw[locE] at hnC
   have b4:=J4.base
   rw[fsE,exE,s0E,show X'.H₀=H2 by rw[<- hX'];rfl] at b4
   refine hend D C s4 H3 ys ?_ dn (Nat.le_refl _) DC ⟨mC,hnC⟩ (by rw[upd_ne (Nat.ne_of_gt DC)];have:=J4.free;rw[locE] at this;exact this) qF
   have hok4:=J4.hok
   rw[progE,wE] at hok4
   refine I2.call' (ch:=fp) (H':=upd H3 D (.lst ys)) (by rw[J4.os,s0E]) ⟨b4.keep,b4.slot,fun b o e nn hb=>?_,b4.there,fun b xs e=>?_,fun b o u e=>?_,fun b ps e=>?_⟩ ?_ J4.bare fun b hb=>?_
   ·rw[upd_ne (Nat.ne_of_lt (lo b o e))];exact b4.free b o e nn hb
   ·rw[upd_ne (ne_of_none (b4.tups b xs e) dn)];exact b4.tups b xs e
   ·rw[upd_ne (ne_of_none (b4.frzs b o u e) dn)];exact b4.frzs b o u e
   ·obtain ⟨more,e'⟩:=b4.tbls b ps e
    exact ⟨more,by rw[upd_ne (ne_of_none e' dn)];exact e'⟩
   ·intro b u e
    by_cases hb:b=D
    ·subst hb
     rw[upd_same] at e;cases e
     exact ⟨hsz,its,k,rv,hD4⟩
    ·rw[upd_ne hb] at e
     exact (hok4 b u e).stay (fun c v _ q=>q) (fun c q=>by rw[upd_ne (ne_of_none q dn)];exact q) fun c xs q=>by rw[upd_ne (ne_of_none q dn)];exact q
   ·obtain ⟨f0,f1,f3,f4,f5,f6⟩:=f2 b hb
    exact ⟨f4,f1,f5,f6⟩
  ·have q:=T.item X' progE wE KE' cE i _ s3 _ H3 (fun _ _=>False) J3' (stat hpl fr3) st3 go
   rw[AE] at q
   refine thn q fun r s4 ⟨u,hr,h4⟩=>?_
   subst hr
   dsimp only
   refine thn h4 fun _ s5 ⟨x,H5,J5,r5,y5,st5,fr5⟩=>?_
   have J5':=J5.pinned (stat hpl fr5) (T.obj _ _ st5)
   have qg:=hgX _ s5 (inSt M σ) H5 x u _ J5' r5 (hf _ _ _ _ (step x H5 y5))
   rw[progE,wE,AE] at qg
   refine wpAny_mono qg (fun _ s6 h6=>?_) fun e s' z=>xE e s' z
   obtain ⟨σ6,H6,J6,q6,l6,k6⟩:=h6
   have qt:=htX _ s6 σ6 H6 _ J6 q6
   rw[progE,wE,AE] at qt
   refine wpAny_mono qt (fun b s7 h7=>?_) fun e s' z=>xE e s' z
   obtain ⟨H7,J7,q7⟩:=h7
   have fin : ∀ {ys' : List V} {σ8 : St} {H8 : Hp} {s8 : Shared},σ8 = σ6 -> Inv X' ([(D,{ cls:=.type "list",data:=.seq its.toArray k })] ++ pinsAt fp s5.heap) σ8 H8 s8 ->
     s8.heap.get? D = some { cls:=.type "list",data:=.seq its.toArray k } /\ H8 D = none /\ tn (i + 1) s8.heap /\ (∀ b ∈ fp,H8 b = none) /\ Inv X' [] (inSt M σ) H8 s8:=fun {ys' σ8 H8 s8} e8 J8=>by
    subst e8
    obtain ⟨p1,p2,_⟩:=J8.pin _ (List.mem_append_right _ (List.mem_append_left _ (List.mem_singleton.mpr rfl)))
    refine ⟨p1,p2,T.keep _ _ _ st5 fun b hb o e=>(J8.pin (b,o) (List.mem_append_right _ (List.mem_append_right _ (mem_pinsAt hb e)))).1,fun b hb=>?_,?_⟩
    ·obtain ⟨o,e,d⟩:=T.obj _ _ st5 b hb
     exact (J8.pin (b,o) (List.mem_append_right _ (List.mem_append_right _ (mem_pinsAt hb e)))).2.1
    ·have J9:Inv X' [] σ8 H8 s8:=J8.pins_of fun p hp=>absurd hp (by simp)
     refine J9.weak (l6.symm) fun a v e=>?_
     obtain ⟨j,eM,_⟩:=inSt_get e
     rw[k6 a j eM];exact e
   cases b with
   | false=>
    rw[if_neg (by decide)] at q7
    rw[if_neg (by decide)]
    obtain ⟨m',hm,w7⟩:=hN _ _ q7
    obtain ⟨a1,a2,a3,a4,a5⟩:=fin (ys':=ys) rfl J7
    exact ⟨m',hm,i+1,ys,H7,a5,a3,a4,⟨its,k,rv,a1⟩,a2,w7⟩
   | true=>
    rw[if_pos rfl] at q7
    rw[if_pos rfl]
    have qe:=heX _ s7 σ6 H7 _ J7 q7
    rw[progE,wE,AE] at qe
    refine wpAny_mono qe (fun v8 s8 h8=>?_) fun e s' z=>xE e s' z
    obtain ⟨y8,H8,J8,r8,n8⟩:=h8
    obtain ⟨m',hm,w8⟩:=hN _ _ n8
    obtain ⟨a1,a2,a3,a4,a5⟩:=fin (ys':=ys) rfl J8
    refine wpAny_list_append_plain (items:=its.toArray) ⟨k,a1⟩ (fun h9 hl9 hs9=>?_) (by have:=rv.length;rw[List.size_toArray,<- this];exact hsz)
    have J9:Inv X' [] (inSt M σ) H8 { s8 with heap:=h9 }:=a5.turned (t':=s8.toks) (fun b o hb e=>(hs9.2 b hb).trans e) a2 Dloc D0 Dcl fun p hp=>by rw[pnE] at hp;exact absurd hp (by simp)
    obtain ⟨k9,e9⟩:=hl9
    refine ⟨m',hm,i+1,ys++[y8],H8,J9,T.keep _ _ _ a3 fun b hb o e=>(hs9.2 b (fun z=>Dfp (z ▸ hb))).trans e,a4,⟨its++[v8],k9,rv.append (.cons r8 .nil),?_⟩,a2,w8⟩
    rw[show (its++[v8]).toArray=its.toArray.push v8 by simp]
    exact e9
 have loop':codeAny (model X.prog X.w) X.A (.compLoop (.ListComp elt [⟨tg,iter,ifs,0⟩] scope pos) 0 (.ref it) (.ref D) (compEnvC scope cl C X.env)) (RR (.ref D) C) { s2 with heap:=h₁,toks:=s2.toks+([]:List (Str × Value)).length }:=envE ▸ loop
 exact codeAny_compStart_list loop' (T.self _ 0 _ _ _ (T.keep _ _ _ st2 fun b hb o e=>old b o e) loop')
end L2
namespace L2
open PySem PySem.Spec PyProof.Rows
section
variable {X:Cx} {N':List Str} {M:List (Option Nat)} {scope:Scope} {tg elt iter:Expr} {ifs:List Expr} {pos:Pos} {g:TG} {tc:TT} {te:TE} {wi:TI}
theorem lc_clos {pins:List (Addr × Obj)} {σ:St} {H:Hp} {s:Shared} (S:LcSc X.N N' M scope X.env.scope) (I:Inv X pins σ H s) :
  ∃ cl,closureFor scope X.env=pure cl/\(∀ y c,cl.lookup y=some c->X.env.cells.lookup y=some c)/\(∀ y,(y,NameKind.free) ∈ scope.names -> ∃ c,cl.lookup y=some c):=
 closure_of fun y hy hk=>I.ok.has y.1 (S.fre y hy hk)
theorem Inv.gone {pins:List (Addr × Obj)} {σ:St} {H:Hp} {s s':Shared} {C:Addr} {h':Heap} (I:Inv X pins σ H s) (hs:Heap.SameBut C s.heap h') (hn:H C=none) (hC:C≠X.env.locals) (h1:X.s₀.heap.objs.size<=C)
  (h2 : ∀ x c,X.env.cells.lookup x=some c->c≠C) (h3 : ∀ p ∈ X.pn++pins,p.1≠C):Inv X pins σ H { s with heap:=h' }:=
 I.turned (t':=s.toks) (fun b o hb e=>(hs.2 b hb).trans e) hn hC (.inr h1) h2 h3
theorem Inv.young {pins:List (Addr × Obj)} {σ:St} {H:Hp} {s:Shared} {C:Addr} (I:Inv X pins σ H s) (h:s.heap.objs.size<=C) :
  C≠X.env.locals/\X.s₀.heap.objs.size<=C/\(∀ x c,X.env.cells.lookup x=some c->c≠C) /\ ∀ p ∈ X.pn++pins,p.1≠C:= by
 refine ⟨(Nat.ne_of_lt (Nat.lt_of_lt_of_le I.lt h)).symm,Nat.le_trans I.sz h,fun x c e=>?_,fun p hp=>?_⟩
 ·obtain ⟨v,z⟩:=I.cell x c e
  exact Nat.ne_of_lt (Nat.lt_of_lt_of_le z.lt h)
 ·exact Nat.ne_of_lt (Nat.lt_of_lt_of_le (Heap.lt_size (I.pin p hp).1) h)
theorem pe_lc (S:LcSc X.N N' M scope X.env.scope) (hc:X.calm=true) (hi:PI X tg iter wi) (hg : ∀ cl C s H fp,PG (cxLc X N' scope cl C s H fp) tg g) (hf:Frm M g)
  (ht : ∀ cl C s H fp,PTs (cxLc X N' scope cl C s H fp) ifs tc) (he : ∀ cl C s H fp,PE (cxLc X N' scope cl C s H fp) elt te)
  (hs : ∀ x,foldedSetIterable iter X.env x=pure x:=by intro _;rfl) :
  PE X (.ListComp elt [⟨tg,iter,ifs,0⟩] scope pos) (fun σ H Q=>tLc wi M g tc te σ H fun ys H'=>∀ p,H' p=none->Q (.ref p) (upd H' p (.lst ys))):= by
 intro pins s σ H Q I h
 obtain ⟨cl,hclos,q1,q2⟩:=lc_clos S I
 rw[eval_ListComp]
 refine wpAny_comprehension_free (use:=none) rfl hs hclos S.kind S.own (thn (hi pins s σ H _ I h) fun v s1 h1=>thn h1 fun itv s2 h2=>?_)
 obtain ⟨it,fp,tn,J,H2,e,I2,T,st2,f2,hw⟩:=h2
 subst e
 refine lc_block (RR:=fun acc C=>compPost (model X.prog X.w) X.A X.xe none (EP X pins σ Q) acc C) S hc q1 q2 (hg cl) hf (ht cl) (he cl) I2 T st2 f2 hw ?_
 intro D C s' H' ys I' dn hD hC ⟨m,hn⟩ hCn q
 obtain ⟨y1,y2,y3,y4⟩:=I2.young (Nat.le_of_lt hC)
 exact ⟨m,hn,fun h' hs'=>⟨.ref D,_,I'.gone (s':=s') hs' hCn y1 y2 y3 y4,rfl,q D dn⟩⟩
theorem ps_lc {i:Nat} {x:Str} {pos' spos:Pos} (hN:X.N.Nodup) (hi:X.N[i]?=some x) (hx:X.env.scope.names.lookup x=some NameKind.local)
  (S:LcSc X.N N' M scope X.env.scope) (hc:X.calm=true) (hit:PI X tg iter wi) (hg : ∀ cl C s H fp,PG (cxLc X N' scope cl C s H fp) tg g) (hf:Frm M g)
  (ht : ∀ cl C s H fp,PTs (cxLc X N' scope cl C s H fp) ifs tc) (he : ∀ cl C s H fp,PE (cxLc X N' scope cl C s H fp) elt te)
  (hsw:swapsWith (.ListComp elt [⟨tg,iter,ifs,0⟩] scope pos) (some (.Name x pos')) spos.line X.env=pure true:=by rfl)
  (hs : ∀ x,foldedSetIterable iter X.env x=pure x:=by intro _;rfl) :
  PS X (.Assign [.Name x pos'] (.ListComp elt [⟨tg,iter,ifs,0⟩] scope pos) spos) (fun D σ H=>tLc wi M g tc te σ H fun ys H'=>∀ p,H' p=none->D.nx (σ.set i (some (.ref p))) (upd H' p (.lst ys))):= by
 intro pins s σ H Dn I h
 obtain ⟨cl,hclos,q1,q2⟩:=lc_clos S I
 rw[exec_Assign_Name_used _ _ _ _ hsw]
 refine wpAny_bind (wpAny_standAt (wpAny_bind ?_))
 show wpAny _ X.A (do let _ <- comprehension (.ListComp elt [⟨tg,iter,ifs,0⟩] scope pos) scope X.env _ (newList []) false (eval iter X.env) (some (assign (.Name x pos') X.env))) _ _ s
 refine wpAny_bind (wpAny_mono (wpAny_comprehension_free (use:=some (assign (.Name x pos') X.env)) (Q:=fun _ s'=>SP X pins Dn .next s') rfl hs hclos S.kind S.own
  (thn (hit pins s σ H _ I h) fun v s1 h1=>thn h1 fun itv s2 h2=>?_)) (fun _ s' hq=>wpAny_pure (wpAny_pure hq)) fun _ _ e=>e)
 obtain ⟨it,fp,tn,J,H2,e,I2,T,st2,f2,hw⟩:=h2
 subst e
 refine lc_block (RR:=fun acc C=>compPost (model X.prog X.w) X.A X.xe (some (assign (.Name x pos') X.env)) (fun _ s'=>SP X pins Dn .next s') acc C) S hc q1 q2 (hg cl) hf (ht cl) (he cl) I2 T st2 f2 hw ?_
 intro D C s' H' ys I' dn hD hC ⟨m,hn⟩ hCn q
 obtain ⟨y1,y2,y3,y4⟩:=I2.young (Nat.le_of_lt hC)
 show wpAny _ X.A (assign (.Name x pos') X.env (.ref D)) _ _ s'
 refine wpAny_assign_Name (store_ok2 I' hN hi (.inl hx) (v:=.ref D) rfl (fun s'' I'' ⟨a,hsb,ha⟩=>?_) (.inr hx))
 have hCa:C≠a:= by
  rcases ha with z | z
  ·rw[z];exact y1
  ·exact (y3 x a z).symm
 exact ⟨m,hn.sameBut hsb hCa,fun h' hs'=>⟨_,_,I''.gone (s':=s'') hs' hCn y1 y2 y3 y4,q D dn⟩⟩
end
end L2
namespace L2
open PySem PySem.Spec PyProof.Rows
theorem Same.seqT {K:PySem.W.Frag} {H H':Hp} {a:Addr} {xs:List V} (e:Same H H') (h:SqT K H a xs):SqT K H' a xs:= by
 rcases h with (h | ⟨o,h⟩) | h
 ·exact .inl (.inl (e _ _ h))
 ·exact .inl (.inr ⟨o,e _ _ h⟩)
 ·exact .inr h
theorem Same.new {H:Hp} {p:Addr} {o:HO} (h:H p=none):Same H (upd H p o):=fun b u e=>by rw[upd_ne (ne_of_none e h)];exact e
theorem Same.new2 {H H1:Hp} {p:Addr} {o:HO} (e:Same H H1) (h:H1 p=none):Same H (upd H1 p o):=e.trans (Same.new h)
theorem Same.put {H H1:Hp} {p:Addr} {o:HO} (e:Same H H1) (h:H p=none):Same H (upd H1 p o):=fun b u q=>by rw[upd_ne (ne_of_none q h)];exact e b u q
section
variable {X:Cx}
theorem op_mulW:OpR X (binaryOp .Mult) (rI IntMulOk fun i j=>.int (i*j)):=opI fun _ _ _ _ _ _ _ hc q=>mul_int q hc
def CDivW (i j:Int):Prop:=0<j/\j.natAbs.log2<9000
theorem op_fdivW:OpR X (binaryOp .FloorDiv) (rI CDivW fun i j=>.int (i / j)):=opI fun i j _ _ _ _ _ hc q=>by
 have e:i.fdiv j=i / j:=Int.fdiv_eq_ediv_of_nonneg i (Int.le_of_lt hc.1)
 exact floordiv_int (Int.ne_of_gt hc.1) (by rw[e];exact q) (.inl (PyProof.noPylong_of_log2 hc.2))
theorem mulOk_l {a b:Int} (h : -(2 ^ 64)<a/\a<2 ^ 64):IntMulOk a b:=CMul.ok (.inl h)
theorem mulOk_r {a b:Int} (h : -(2 ^ 64)<b/\b<2 ^ 64):IntMulOk a b:=CMul.ok (.inr h)
theorem old_keptT {s : Shared} {l : Addr} {h' : Heap} (hk : ∀ b o,b ∉ [s.heap.objs.size] -> (s.heap.push { cls:=.type "tuple_iterator",data:=.fields #[.ref l,.int 0 0] }).get? b = some o -> h'.get? b = some o) :
  ∀ b o,s.heap.get? b=some o->h'.get? b=some o:=fun b o e=>hk b o (fun hm=>absurd (Heap.lt_size e) (by rw[List.mem_singleton.mp hm];exact Nat.lt_irrefl _)) (Heap.get?_push_of_some _ e)
theorem seq_walk {pins:List (Addr × Obj)} {σ:St} {H:Hp} {s:Shared} {a:Addr} {xs:List V} {A:Around} {E:Value->Shared->Prop} {Q:Value->Shared->Prop} (I:Inv X pins σ H s) (hh:A.handled=none) (hq:SqL X.K H a xs\/SqT X.K H a xs)
  (h : ∀ (its:List Value) (I':Addr) (fp wr:List Addr) (St':Nat->Heap->Prop) (s2:Shared),Vals xs its->Walks X.prog X.w A I' fp wr its.toArray.size (fun i v=>its.toArray[i]?=some v) St'->St' 0 s2.heap->(∀ b ∈ fp,b<s2.heap.objs.size) ->
   s2.toks=s.toks->s2.os=s.os->s2.gens=s.gens->s2.drawn=s.drawn->(∀ h' tk,(∀ b o,b ∉ wr->s2.heap.get? b=some o->h'.get? b=some o)->Inv X pins σ H { s2 with heap:=h',toks:=tk })->Q (.ref I') s2) :
  wpAny (model X.prog X.w) A (pyIter (.ref a)) Q E s:= by
 rcases hq with hq | hq
 ·obtain ⟨its,rv,p,hz⟩:=I.list hq
  obtain ⟨o,ho,_⟩:=id p.isList
  have hlt:=Heap.lt_size ho
  refine wpAny_pyIter_list p.isList (h its s.heap.objs.size [s.heap.objs.size,a] [s.heap.objs.size] _ _ rv (Walks.list hh _ a (Nat.ne_of_lt hlt) its.toArray) ⟨⟨_,Heap.get?_push_size _ rfl,rfl,rfl⟩,p.isList.push _⟩ (fun b hb=>?_) rfl rfl rfl rfl fun h' tk hk=>?_)
  ·show b<(s.heap.push _).objs.size
   rw[Heap.size_push]
   rcases List.mem_cons.mp hb with rfl | hb
   ·exact Nat.lt_succ_self _
   ·rw[List.mem_singleton.mp hb];exact Nat.lt_succ_of_lt hlt
  ·exact I.kept (t':=tk) (old_kept hk)
 ·obtain ⟨its,rv,p,hz⟩:=I.tuple hq
  obtain ⟨o,ho,_⟩:=id p
  have hlt:=Heap.lt_size ho
  have p':s.heap.IsTuple a its.toArray:=p
  refine wpAny_pyIter_tuple p' (h its s.heap.objs.size [s.heap.objs.size,a] [s.heap.objs.size] _ _ rv (Walks.tuple hh _ a (Nat.ne_of_lt hlt) its.toArray) ⟨⟨_,Heap.get?_push_size _ rfl,rfl,rfl⟩,p'.push _⟩ (fun b hb=>?_) rfl rfl rfl rfl fun h' tk hk=>?_)
  ·show b<(s.heap.push _).objs.size
   rw[Heap.size_push]
   rcases List.mem_cons.mp hb with rfl | hb
   ·exact Nat.lt_succ_self _
   ·rw[List.mem_singleton.mp hb];exact Nat.lt_succ_of_lt hlt
  ·exact I.kept (t':=tk) (old_keptT hk)
theorem vals_int_at {ns:List Int} {its:List Value} (r:Vals (ns.map V.int) its) {i:Nat} {v:Value} (h:its.toArray[i]?=some v) : ∃ t,v = .int (ns.getD i 0) t/\i<ns.length:= by
 have h':its[i]?=some v:=by simpa using h
 have hl:=r.length
 rw[List.length_map] at hl
 have hi:i<ns.length:=by rw[hl];exact (List.getElem?_eq_some_iff.mp h').1
 obtain ⟨u,hu,ru⟩:=r.get (i:=i) (x:=V.int (ns[i])) (by rw[List.getElem?_map,List.getElem?_eq_getElem hi];rfl)
 rw[hu] at h';cases h'
 obtain ⟨t,rfl⟩:=ru
 exact ⟨t,by rw[List.getD_eq_getElem?_getD,List.getElem?_eq_getElem hi];rfl,hi⟩
def IsMax (ns:List Int) (m:Int):Prop:=m ∈ ns /\ ∀ a ∈ ns,a<=m
def IsMin (ns:List Int) (m:Int):Prop:=m ∈ ns /\ ∀ a ∈ ns,m<=a
theorem getD_mem' {ns:List Int} {i:Nat} (h:i<ns.length):ns.getD i 0 ∈ ns:= by
 rw[List.getD_eq_getElem?_getD,List.getElem?_eq_getElem h];exact List.getElem_mem h
theorem mem_getD' {ns:List Int} {a:Int} (h:a ∈ ns) : ∃ i,i<ns.length/\ns.getD i 0=a:= by
 obtain ⟨i,hi,e⟩:=List.mem_iff_getElem.mp h
 exact ⟨i,hi,by rw[List.getD_eq_getElem?_getD,List.getElem?_eq_getElem hi];exact e⟩
theorem call_maxL (hc : X.calm = true) : CallR X (.builtin "max") (fun xs H Q=>∃ (a : Addr) (ns : List Int),xs = [.ref a] /\ (SqL X.K H a (ns.map V.int) \/ SqT X.K H a (ns.map V.int)) /\ ns ≠ [] /\ ∀ m,IsMax ns m -> Q (.int m) H):= by
 intro pins s σ H xs us Q I r h
 obtain ⟨a,ns,rfl,hq,hne,q⟩:=h
 obtain ⟨u,rfl,ru⟩:=vals1 r
 cases ru
 refine call_max_walk (seq_walk I (A:=X.A.in1) (I.ok.hd hc) hq fun its I' fp wr St' s2 rv W st hfp _ _ _ _ hI=>?_)
 have hlen:its.toArray.size=ns.length:=by rw[List.size_toArray,<- rv.length,List.length_map]
 have hpos:0<ns.length:=List.length_pos_iff.mpr hne
 refine ⟨_,_,_,_,_,_,_,rfl,W,st,hfp,by rw[hlen];exact hpos,CmpOf.ints_gt (fun i=>ns.getD i 0) (fun i v hv=>(vals_int_at rv hv).imp fun t e=>e.1),fun v h' tk hP hk=>?_⟩
 obtain ⟨t,rfl,hi⟩:=vals_int_at rv hP
 obtain ⟨h1,h2⟩:=argBest_gt (fun i=>ns.getD i 0) (its.toArray.size-1)
 refine ⟨.int _,H,hI h' tk hk,⟨t,rfl⟩,q _ ⟨getD_mem' hi,fun b hb=>?_⟩⟩
 obtain ⟨j,hj,rfl⟩:=mem_getD' hb
 exact h2 j (by omega)
theorem call_sumL (hc : X.calm = true) : CallR X (.builtin "sum") (fun xs H Q=>∃ (a : Addr) (ns : List Int),xs = [.ref a] /\ (SqL X.K H a (ns.map V.int) \/ SqT X.K H a (ns.map V.int)) /\ Q (.int ns.sum) H):= by
 intro pins s σ H xs us Q I r h
 obtain ⟨a,ns,rfl,hq,q⟩:=h
 obtain ⟨u,rfl,ru⟩:=vals1 r
 cases ru
 refine call_sum_walkG (seq_walk I (A:=X.A.in1) (I.ok.hd hc) hq fun its I' fp wr St' s2 rv W st hfp _ _ _ _ hI=>?_)
 refine ⟨_,_,_,_,_,_,fun i=>ns.getD i 0,rfl,W,st,hfp,(fun i v hv=>(vals_int_at rv hv).imp fun t e=>e.1),fun h' tk t' hk=>?_⟩
 have hlen:its.toArray.size=ns.length:=by rw[List.size_toArray,<- rv.length,List.length_map]
 refine ⟨.int _,H,hI h' tk hk,⟨t',rfl⟩,?_⟩
 have e:preSum (fun i=>ns.getD i 0) its.toArray.size=ns.sum:= by
  rw[hlen]
  have gen : ∀ n,n<=ns.length->preSum (fun i=>ns.getD i 0) n=(ns.take n).sum:= by
   intro n
   induction n with
   | zero=>intro _;rfl
   | succ n ih=>
    intro hn
    have e1:preSum (fun i=>ns.getD i 0) (n+1)=preSum (fun i=>ns.getD i 0) n+ns.getD n 0:=rfl
    have hn':n<ns.length:=hn
    have e2:ns.take (n+1)=ns.take n++[ns[n]]:=by simp
    rw[e1,ih (by omega),e2,List.getD_eq_getElem?_getD,List.getElem?_eq_getElem hn',List.sum_append]
    simp
  rw[gen _ (Nat.le_refl _),List.take_length]
 rw[e];exact q
theorem vals_bl_at {bs:List Bool} {its:List Value} (r:Vals (bs.map V.bl) its) {i:Nat} {v:Value} (h:its.toArray[i]?=some v):v = .bool (bs.getD i true)/\i<bs.length:= by
 have h':its[i]?=some v:=by simpa using h
 have hl:=r.length
 rw[List.length_map] at hl
 have hi:i<bs.length:=by rw[hl];exact (List.getElem?_eq_some_iff.mp h').1
 obtain ⟨u,hu,ru⟩:=r.get (i:=i) (x:=V.bl (bs[i])) (by rw[List.getElem?_map,List.getElem?_eq_getElem hi];rfl)
 rw[hu] at h';cases h'
 cases (show v=Value.bool (bs[i]) from ru)
 exact ⟨by rw[List.getD_eq_getElem?_getD,List.getElem?_eq_getElem hi];rfl,hi⟩
theorem range_all (bs:List Bool) (d:Bool):(List.range bs.length).all (fun i=>bs.getD i d)=bs.all id:= by
 rw[Bool.eq_iff_iff,List.all_eq_true,List.all_eq_true]
 constructor
 ·intro h b hb
  obtain ⟨i,hi,e⟩:=List.mem_iff_getElem.mp hb
  have:=h i (List.mem_range.mpr hi)
  rw[List.getD_eq_getElem?_getD,List.getElem?_eq_getElem hi] at this
  rw[<- e];exact this
 ·intro h i hi
  have hi:=List.mem_range.mp hi
  rw[List.getD_eq_getElem?_getD,List.getElem?_eq_getElem hi]
  exact h _ (List.getElem_mem hi)
theorem call_allL (hc : X.calm = true) : CallR X (.builtin "all") (fun xs H Q=>∃ (a : Addr) (bs : List Bool),xs = [.ref a] /\ (SqL X.K H a (bs.map V.bl) \/ SqT X.K H a (bs.map V.bl)) /\ Q (.bl (bs.all id)) H):= by
 intro pins s σ H xs us Q I r h
 obtain ⟨a,bs,rfl,hq,q⟩:=h
 obtain ⟨u,rfl,ru⟩:=vals1 r
 cases ru
 refine call_all_walk (seq_walk I (A:=X.A.in1) (I.ok.hd hc) hq fun its I' fp wr St' s2 rv W st hfp _ _ _ _ hI=>?_)
 refine ⟨_,_,_,_,_,_,fun i=>bs.getD i true,rfl,W,st,(fun i v s Q E hv hQ=>by rw[(vals_bl_at rv hv).1];exact wpAny_truthy_bool hQ),fun h' tk hk=>?_⟩
 have hlen:its.toArray.size=bs.length:=by rw[List.size_toArray,<- rv.length,List.length_map]
 rw[hlen,range_all]
 exact ⟨.bl _,H,hI h' tk hk,rfl,q⟩
theorem call_isi : CallR X (.builtin "isinstance") (fun xs H Q=>∃ x n t b,xs = [x,.ty n] /\ TyOf X.K H x t /\ PySem.W.kitOne X.K t (.type n) = some b /\ Q (.bl b) H):= by
 intro pins s σ H xs us Q I r h
 obtain ⟨x,n,t,b,rfl,ty,e,q⟩:=h
 obtain ⟨u,w',rfl,rx,ru⟩:=vals2 r
 cases (show w'=Value.type n from ru)
 exact isinst_ok I rx ty e fun tk=>⟨.bl b,H,I.tok tk,rfl,q⟩
end
end L2
namespace L2
open PySem PySem.Spec PyProof.Rows
section
variable {prog:Program} {w:World} {A:Around} {E:Value->Shared->Prop} {s:Shared}
theorem isExact_tup {t:Addr} {items:Array Value} {Q:Bool->Shared->Prop} (ht:IsTup s.heap t items) (h:Q true s):wpAny (model prog w) A (Builtin.Tuple.tupleIsExact (.ref t)) Q E s:= by
 unfold Builtin.Tuple.tupleIsExact
 exact wpAny_bind (wpAny_typeOf ht.typeIs (wpAny_pure h))
theorem getItem_tuple_all {t sl:Addr} {items:Array Value} {vl vu:Value} {lo hi:Option Int} {Q:Value->Shared->Prop} (ht:IsTup s.heap t items) (hs:s.heap.IsSliceOf sl vl vu .none) (pl:IsPart vl lo) (pu:IsPart vu hi)
  (hw:HT.sIx items.size 0 lo=0/\HT.sIx items.size items.size hi=items.size) (h:Q (.ref t) s):wpAny (model prog w) A (getItem (.ref t) (.ref sl)) Q E s:= by
 obtain ⟨os,hos,hcs,hds⟩:=id hs
 have hTs : s.TypeIs (.ref sl) "slice":=⟨os,hos,hcs⟩
 unfold getItem
 try with_reducible refine wpAny_holding ?_
 first | refine wpAny_bind (wpAny_pure ?_) | skip
 refine wpAny_bind (wpAny_sequenceKey ht.typeIs (by decide) ?_)
 refine wpAny_bind (wpAny_callSpecial?_slot (name:=Str.ofString "__getitem__") ht.typeIs PyProof.Rows.slot_tuple_getitem
  (wpAny_call_entry PyProof.Rows.slot_tuple_getitem ht.typeIs entry_tuple_getitem ?_ (args_tuple_getitem _ _)))
 show wpAny _ _ (Builtin.Tuple.tupleItemsOf (.ref t) >>= _) _ _ s
 refine wpAny_bind (tupleItemsOf_ ht ?_)
 refine wpAny_bind (wpAny_typeOf hTs ?_)
 rw[if_pos (by decide)]
 refine wpAny_bind (HT.sliceApplied_gen hs pl pu ?_)
 have hyes:((((HT.sIx items.size 0 lo:Nat):Int)==0&&(1:Int)==1&&(HT.sIx items.size items.size hi-HT.sIx items.size 0 lo)==items.size)=true):= by
  rw[hw.1,hw.2];simp
 show wpAny _ _ (if (((HT.sIx items.size 0 lo:Nat):Int)==0&&(1:Int)==1&&(HT.sIx items.size items.size hi-HT.sIx items.size 0 lo)==items.size)=true then _ else _) _ _ s
 rw[if_pos hyes]
 refine wpAny_bind (isExact_tup ht ?_)
 rw[if_pos rfl]
 exact wpAny_bind (wpAny_rule (wpAny_bind (wpAny_pure (wpAny_pure ⟨_,rfl,wpAny_pure h⟩))))
end
section
variable {X:Cx}
theorem sl_tupA:SlR X (fun x lo hi H Q=>∃ a xs,x = .ref a/\SqT X.K H a xs /\ ∀ p H',Same H H'->SqT X.K H' p (cutV xs lo hi)->Q (.ref p) H'):= by
 intro pins s σ H x v vl vu lo hi sl Q I rx hs pl pu h
 obtain ⟨a,xs,rfl,hx,q⟩:=h
 by_cases hw:HT.sIx xs.length 0 lo=0/\HT.sIx xs.length xs.length hi=xs.length
 ·cases rx
  obtain ⟨its,r,ht,hz⟩:=I.tuple hx
  have hlen:its.toArray.size=xs.length:=by rw[List.size_toArray];exact r.length.symm
  refine ⟨"tuple",_,PyProof.Rows.slot_tuple_getitem.lookup,ht.typeIs,?_⟩
  refine getItem_tuple_all ht hs pl pu (by rw[hlen];exact hw) ⟨.ref a,H,I,rfl,q a H (Same.refl H) ?_⟩
  have e:cutV xs lo hi=xs:=by unfold cutV;rw[hw.1,hw.2];simp
  rw[e];exact hx
 ·exact sl_tup pins s σ H _ v vl vu lo hi sl Q I rx hs pl pu ⟨a,xs,rfl,hx,hw,fun p hp=>q p _ (Same.new hp) (SqT.of upd_same)⟩
end
section
variable {X:Cx}
theorem draw_list {prog:Program} {w:World} {A:Around} {E:Value->Shared->Prop} {it t:Addr} {items:Array Value} (hne:t≠it) : ∀ (n i:Nat) (s:Shared) (Q:List Value->Shared->Prop),s.heap.IsListIter it t i->s.heap.IsList t items->i+n<=items.size ->
  (∀ h',h'.IsListIter it t (i+n)->Heap.SameBut it s.heap h'->Q ((items.toList.drop i).take n) { s with heap:=h' })->wpAny (model prog w) A (draw (.ref it) n) Q E s
 | 0,i,s,Q,hit,_,_,hQ=>by
  show wpAny _ _ (pure []) Q E s
  exact wpAny_pure (by simpa using hQ s.heap hit (Heap.SameBut.refl ..))
 | n+1,i,s,Q,hit,ht,hle,hQ=>by
  have hlt:i<items.size:=by omega
  show wpAny _ _ (pyNext (.ref it) >>= _) Q E s
  refine wpAny_bind (wpAny_pyNext_list_item hit ht (x:=items[i]) (by simp [hlt]) fun h₁ hit₁ hs₁=>?_)
  refine wpAny_bind (wpAny_holding (draw_list hne n (i+1) _ _ hit₁ (ht.extBut hs₁.extBut hne) (by omega) fun h₂ hit₂ hs₂=>wpAny_pure ?_))
  have hd:items.toList.drop i=items[i]::items.toList.drop (i+1):=by simp [List.drop_eq_getElem_cons,hlt]
  have:=hQ h₂ (by rw[show i+(n+1)=i+1+n by omega];exact hit₂) (hs₁.trans hs₂)
  rw[hd,List.take_succ_cons] at this
  exact this
theorem unpackItems_list {prog:Program} {w:World} {A:Around} {E:Value->Shared->Prop} {s:Shared} {t:Addr} {items:Array Value} {Q:List Value->Shared->Prop} (hh:A.handled=none) (ht:s.heap.IsList t items)
  (hQ : ∀ h',Heap.ExtBut s.heap.objs.size s.heap h'->Q items.toList { s with heap:=h' }):wpAny (model prog w) A (unpackItems (.ref t) items.size none) Q E s:= by
 have hlt:t≠s.heap.objs.size:=by obtain ⟨o,ho,_⟩:=ht;exact Nat.ne_of_lt (Heap.lt_size ho)
 unfold unpackItems
 refine wpAny_bind ?_
 unfold notIterableAtAll
 refine wpAny_bind (wpAny_specialOf ht.typeIs slot_list_iter.lookup ?_)
 refine wpAny_pure ?_
 simp only [Bool.false_eq_true,if_false]
 refine wpAny_bind (wpAny_holding (wpAny_pyIter_list ht ?_))
 refine wpAny_bind (wpAny_holding (draw_list hlt items.size 0 _ _ ⟨_,Heap.get?_push_size _ rfl,rfl,rfl⟩ (ht.push _) (by omega) fun h₁ hit₁ hs₁=>?_))
 have hall:List.take items.size (List.drop 0 items.toList)=items.toList:= by
  rw[List.drop_zero];exact List.take_of_length_le (by simp)
 rw[hall]
 rw[if_neg (by simp)]
 have ht₁:h₁.IsList t items:=(ht.push _).extBut hs₁.extBut hlt
 refine wpAny_bind (wpAny_holding (wpAny_pyNext_list_end hh hit₁ ht₁ (by simp) fun h₂ he₂=>?_))
 simp only [Option.isSome_none,Bool.false_eq_true,if_false]
 refine wpAny_pure (hQ h₂ fun b o hb e=>he₂ b o hb (hs₁.extBut b o hb (Heap.get?_push_of_some _ e)))
def gLst (K:PySem.W.Frag) (n:Nat) (t:TGs):TG:=fun v σ H Q=>∃ a xs,v = .ref a/\SqL K H a xs/\xs.length=n/\t xs σ H Q
theorem pg_lst {es:List Expr} {k:Nat} {t:TGs} {n:Nat} {pos:Pos} (hc:X.calm=true) (h:PGs X es t)
  (hn:(assignEach es X.env).length=n:=by rfl) (hst:(assignEach es X.env).findIdx? (·.1)=none:=by rfl):PG X (.Tuple es k pos) (gLst X.K n t):= by
 intro pins s σ H v u Q I r hw
 obtain ⟨a,xs,e1,hq,hl,hw⟩:=hw
 subst e1
 cases r
 obtain ⟨its,rv,ht,hz⟩:=I.list hq
 rw[assign_Tuple]
 refine wpAny_bind (wpAny_standAt ?_)
 unfold unpack
 rw[show (assignEach es X.env).length=its.toArray.size by rw[hn,<- hl,rv.length,List.size_toArray],hst]
 refine wpAny_bind (wpAny_holding (unpackItems_list (I.ok.hd hc) ht.isList fun h' hx=>?_))
 have I1:Inv X pins σ H { s with heap:=h' }:=I.kept (t':=s.toks) fun b o e=>hx b o (Nat.ne_of_lt (Heap.lt_size e)) e
 exact h pins _ σ H xs _ Q I1 (by simpa using rv) hw
end
end L2
namespace L2
open PySem PySem.Spec PyProof.Rows
def lcChk (N N':List Str) (M:List (Option Nat)) (sc osc:Scope):Bool:=
 (sc.kind == .function)&&(N'.length==M.length)&&(sc.names.all fun y=>y.2 != NameKind.cell)&&(sc.names.all fun y=>y.2 != NameKind.local||sc.names.lookup y.1==some NameKind.local) &&
 (sc.names.all fun y=>y.2 != NameKind.free||(osc.names.lookup y.1==some NameKind.cell||osc.names.lookup y.1==some NameKind.free)) &&
 ((N'.zip M).all fun p=>match p.2 with | none=>true | some j=>N[j]?==some p.1&&sc.names.lookup p.1==some NameKind.free)
theorem nk_eq {a b:NameKind} (h:(a==b)=true):a=b:= by
 cases a <;> cases b <;> first | rfl | exact absurd h (by decide)
theorem nko_eq {a:Option NameKind} {b:NameKind} (h:(a==some b)=true):a=some b:= by
 cases a with
 | none=>exact absurd h (by cases b <;> decide)
 | some x=>rw[nk_eq (show (x==b)=true from h)]
theorem nk_ne {a b:NameKind} (h:(a != b)=true):a≠b:= by
 cases a <;> cases b <;> first | (intro z;cases z;done) | exact absurd h (by decide)
theorem lcSc_of {N N':List Str} {M:List (Option Nat)} {sc osc:Scope} (h:lcChk N N' M sc osc=true):LcSc N N' M sc osc:= by
 unfold lcChk at h
 simp only [Bool.and_eq_true] at h
 obtain ⟨⟨⟨⟨⟨h1,h2⟩,h3⟩,h4⟩,h5⟩,h6⟩:=h
 have hl:N'.length=M.length:=by simpa using h2
 refine ⟨?_,hl,fun y hy=>nk_ne (List.all_eq_true.mp h3 y hy),fun y hy hk=>?_,fun y hy hk=>?_,fun i j e=>?_⟩
 ·revert h1;cases sc.kind <;> intro h1 <;> first | rfl | exact absurd h1 (by decide)
 ·have q:=List.all_eq_true.mp h4 y hy
  rw[Bool.or_eq_true] at q
  rcases q with q | q
  ·exact absurd hk (nk_ne q)
  ·exact nko_eq q
 ·have q:=List.all_eq_true.mp h5 y hy
  rw[Bool.or_eq_true,Bool.or_eq_true] at q
  rcases q with q | q | q
  ·exact absurd hk (nk_ne q)
  ·exact .inl (nko_eq q)
  ·exact .inr (nko_eq q)
 ·have hi:i<M.length:=(List.getElem?_eq_some_iff.mp e).1
  have hi':i<N'.length:=by rw[hl];exact hi
  have em:(N'[i],some j) ∈ N'.zip M:= by
   refine List.mem_iff_getElem?.mpr ⟨i,?_⟩
   rw[List.getElem?_zip_eq_some]
   exact ⟨List.getElem?_eq_getElem hi',e⟩
  have q:=List.all_eq_true.mp h6 _ em
  simp only [Bool.and_eq_true] at q
  exact ⟨N'[i],List.getElem?_eq_getElem hi',by simpa using q.1,nko_eq q.2⟩
section
variable {K:PySem.W.Frag} {a:Addr} {xs:List V} {M:List (Option Nat)} {σ:St} {g:TG} {tc:TT} {te:TE} {F:List V->Hp->Prop} {H:Hp}
abbrev LcGoal (J:It) (M:List (Option Nat)) (σ:St) (g:TG) (tc:TT) (te:TE) (F:List V->Hp->Prop) (H1:Hp):Prop:=
 ∃ W:Nat->Nat->List V->Hp->Prop,(∃ m,W 0 m [] H1) /\ ∀ i m ys H,W i m ys H->ys.length<=sizeLine /\
  ((J.stop i H/\F ys H)\/(J.go i H/\ys.length<sizeLine /\ ∃ N:List V->Hp->Prop,(∀ ys' H',N ys' H' -> ∃ m',m'<m/\W (i+1) m' ys' H') /\ ∀ x H',J.yld i H x H'->g x (inSt M σ) H' fun σ2 H2=>tc σ2 H2 fun b H3=>
   if b=true then te σ2 H3 fun v H4=>N (ys++[v]) H4 else N ys H3))
theorem lc_list (Pv:Nat->List V->Hp->Prop) (hz:xs.length<=sizeLine) (h0:Pv 0 [] H) (hl : ∀ i ys H,i<=xs.length->Pv i ys H->SqL K H a xs/\ys.length<=i)
  (hs : ∀ i x ys H,xs[i]?=some x->Pv i ys H->g x (inSt M σ) H fun σ2 H2=>tc σ2 H2 fun b H3=>if b=true then te σ2 H3 fun v H4=>Pv (i+1) (ys++[v]) H4 else Pv (i+1) ys H3)
  (hd : ∀ ys H,Pv xs.length ys H->F ys H):LcGoal (Itl K a) M σ g tc te F H:= by
 refine ⟨fun i m ys H=>m=xs.length-i/\i<=xs.length/\Pv i ys H,⟨xs.length,by simp,Nat.zero_le _,h0⟩,?_⟩
 rintro i m ys H ⟨rfl,hi,p⟩
 obtain ⟨q,hy⟩:=hl i ys H hi p
 refine ⟨by omega,?_⟩
 by_cases hlt:i<xs.length
 ·refine .inr ⟨⟨xs,xs[i],q,by simp [hlt]⟩,by omega,Pv (i+1),fun ys' H' p'=>⟨xs.length-(i+1),by omega,rfl,hlt,p'⟩,fun x H' y=>?_⟩
  obtain ⟨e,y⟩:=y
  subst e
  exact hs i x ys _ (y xs q) p
 ·have e:i=xs.length:=by omega
  subst e
  exact .inl ⟨⟨xs,q,Nat.le_refl _⟩,hd ys H p⟩
theorem lc_tup (Pv:Nat->List V->Hp->Prop) (hz:xs.length<=sizeLine) (h0:Pv 0 [] H) (hl : ∀ i ys H,i<=xs.length->Pv i ys H->SqT K H a xs/\ys.length<=i)
  (hs : ∀ i x ys H,xs[i]?=some x->Pv i ys H->g x (inSt M σ) H fun σ2 H2=>tc σ2 H2 fun b H3=>if b=true then te σ2 H3 fun v H4=>Pv (i+1) (ys++[v]) H4 else Pv (i+1) ys H3)
  (hd : ∀ ys H,Pv xs.length ys H->F ys H):LcGoal (Itt K a) M σ g tc te F H:= by
 refine ⟨fun i m ys H=>m=xs.length-i/\i<=xs.length/\Pv i ys H,⟨xs.length,by simp,Nat.zero_le _,h0⟩,?_⟩
 rintro i m ys H ⟨rfl,hi,p⟩
 obtain ⟨q,hy⟩:=hl i ys H hi p
 refine ⟨by omega,?_⟩
 by_cases hlt:i<xs.length
 ·refine .inr ⟨⟨xs,xs[i],q,by simp [hlt]⟩,by omega,Pv (i+1),fun ys' H' p'=>⟨xs.length-(i+1),by omega,rfl,hlt,p'⟩,fun x H' y=>?_⟩
  obtain ⟨e,y⟩:=y
  subst e
  exact hs i x ys _ (y xs q) p
 ·have e:i=xs.length:=by omega
  subst e
  exact .inl ⟨⟨xs,q,Nat.le_refl _⟩,hd ys H p⟩
theorem lc_range {lo:Int} {n:Nat} (Pv:Nat->List V->Hp->Prop) (hz:n<=sizeLine) (h0:Pv 0 [] H) (hl : ∀ i ys H,i<=n->Pv i ys H->ys.length<=i)
  (hs : ∀ i ys H,i<n->Pv i ys H->g (.int (lo+i)) (inSt M σ) H fun σ2 H2=>tc σ2 H2 fun b H3=>if b=true then te σ2 H3 fun v H4=>Pv (i+1) (ys++[v]) H4 else Pv (i+1) ys H3)
  (hd : ∀ ys H,Pv n ys H->F ys H):LcGoal (Itr lo n) M σ g tc te F H:= by
 refine ⟨fun i m ys H=>m=n-i/\i<=n/\Pv i ys H,⟨n,by simp,Nat.zero_le _,h0⟩,?_⟩
 rintro i m ys H ⟨rfl,hi,p⟩
 have hy:=hl i ys H hi p
 refine ⟨by omega,?_⟩
 by_cases hlt:i<n
 ·refine .inr ⟨hlt,by omega,Pv (i+1),fun ys' H' p'=>⟨n-(i+1),by omega,rfl,hlt,p'⟩,fun x H' y=>?_⟩
  obtain ⟨e,y⟩:=y
  subst e y
  exact hs i ys _ hlt p
 ·have e:i=n:=by omega
  subst e
  exact .inl ⟨Nat.le_refl _,hd ys H p⟩
theorem map_snoc {α:Type} (f:Nat->α) (i:Nat):(List.range i).map f++[f i]=(List.range (i+1)).map f:=by rw[List.range_succ,List.map_append];rfl
end
structure Cal (P:Program) (w:World) (K:PySem.W.Frag) (mg:Str->Option Value) (base:Heap) (k:Nat) (x:Str) (dvs:List V) (sp:Sp):Prop where
 ex : ∃ f fd ps ds,FnOk P w K mg base CX0 k f fd ps sp/\mg x=some (.ref f)/\PySem.W.keepIn K (.ref f)=true/\Binds K fd ps ds/\Vals dvs ds
theorem pe_cal {X : Cx} {k : Nat} {x : Str} {dvs : List V} {sp : Sp} {e : Expr} {es : List Expr} {t : TA} {p pos : Pos} (c : Cal X.prog X.w X.K X.mg X.base k x dvs sp) (hr : Room k X.A) (hg : Gl X x) (ha : PA X (e :: es) t) (hd : (x == ("__debug__" : Str)) = false:=by decide)
  (he:starEach (e::es) X.env=(false,eval e X.env)::starEach es X.env:=by rfl) (hpl:(backTo pos (starEach es X.env)).any (·.1)=false:=by rfl) :
  PE X (.Call (.Name x p) (e::es) [] pos) (tCall sp dvs E0 t):= by
 obtain ⟨f,fd,ps,ds,F,hm,hk,hb,hv⟩:=c.ex
 exact pe_call F hr hg hm hk hb hv pass0 ha hd he hpl
end L2
namespace L2
open PySem
abbrev Drawn':List Int->List Int->Prop:=Paired fun l r=>0<=r/\r<l
def LimOk (l:Int):Prop:=0<l/\l.natAbs.log2<9000
def spDraw (K:PySem.W.Frag):Sp:=fun vs H Q _=>∃ (c:Int) (a:Addr) (ls:List Int),vs=[.int c,.ref a]/\SqL K H a (ls.map V.int)/\(∀ l ∈ ls,LimOk l)/\ls.length<=1000 /\
 ∀ (p:Addr) (rs:List Int) (H':Hp),H p=none->Same H H'->H' p=some (.lst (rs.map V.int))->Drawn' ls rs->Q (.ref p) H'
def spCell (K:PySem.W.Frag):Sp:=fun vs H Q _=>∃ (a:Addr) (ns:List Int) (k:Int),vs=[.ref a,.int k]/\SqL K H a (ns.map V.int)/\0<=k/\k<=1000/\ns.length<=1000 /\ ∀ z,Q (.int z) H
def spMany (K:PySem.W.Frag):Sp:=fun vs H Q _=>∃ (a:Addr) (ns:List Int) (f:Int),vs=[.ref a,.int f]/\SqL K H a (ns.map V.int) /\ ∀ z,f<=z->(z<=63\/z=f)->Q (.int z) H
def spSplit:Sp:=fun vs H Q _=>∃ (c n:Int) (w:Int),vs=[.int c,.int n,.int w]/\0<=n/\n<=100/\0<=w/\w<=2 /\
 ∀ (p:Addr) (rs:List Int) (H':Hp),H p=none->Same H H'->H' p=some (.lst (rs.map V.int))->rs.length=n.toNat->Q (.ref p) H'
def wayGo:Int->List Int->Bool
 | _,[]=>true
 | f,w::r=>decide (0<=w)&&decide (w<=f)&&wayGo (if w=f then f+1 else f) r
def isWay (ns:List Int):Bool:=decide (1<=ns.length)&&decide (ns.length<=9)&&wayGo 0 ns
theorem getI {ns:List Int} {i:Nat} {y:V} (h:(ns.map V.int)[i]?=some y) : ∃ z,y=V.int z/\ns[i]?=some z/\i<ns.length:= by
 rw[List.getElem?_map] at h
 cases e:ns[i]? with
 | none=>rw[e] at h;cases h
 | some z=>rw[e] at h;exact ⟨z,(Option.some.inj h).symm,rfl,(List.getElem?_eq_some_iff.mp e).1⟩
theorem mapV {ns:List Int} {z:Int}:ns.map V.int++[V.int z]=(ns++[z]).map V.int:=by rw[List.map_append];rfl
theorem nn63:(sizeLine:Nat)=16777216:=by decide
theorem le_line {n:Nat} (h:n<=16777216):n<=sizeLine:=by rw[nn63];exact h
theorem lt_line {n:Nat} (h:n<16777216):n<sizeLine:=by rw[nn63];exact h
theorem ltm (l:List Int):(l.map V.int).length=l.length:=List.length_map ..
theorem drawn_snoc {ls rs:List Int} {l r:Int} (h:Drawn' ls rs) (h1:0<=r) (h2:r<l):Drawn' (ls++[l]) (rs++[r]):=Paired.snoc h ⟨h1,h2⟩
theorem take_snoc {α:Type} {l:List α} {i:Nat} {x:α} (h:l[i]?=some x):l.take (i+1)=l.take i++[x]:= by
 rw[List.take_add_one,h];rfl
theorem modB (z:Int) {l:Int} (h:0<l):0<=z % l/\z % l<l:=⟨Int.emod_nonneg _ (Int.ne_of_gt h),Int.emod_lt_of_pos _ h⟩
theorem p0 {n:Nat}:(0:Int)<((n+1:Nat):Int):=Int.natCast_pos.mpr (Nat.succ_pos n)
theorem ite_P {c:Prop} [Decidable c] {ta tb:TE} {σ:St} {H:Hp} {Q:VK} (P:Int->Prop) (h : ∀ r,P r->Q (.int r) H) (ha : ∀ Q':VK,(∀ r,P r->Q' (.int r) H)->ta σ H Q') (hb : ∀ Q':VK,(∀ r,P r->Q' (.int r) H)->tb σ H Q'):if c then ta σ H Q else tb σ H Q:= by
 split
 ·exact ha _ h
 ·exact hb _ h
end L2
namespace L2
open PySem PySem.Spec PyProof.Rows
structure FunD (K:PySem.W.Frag) (x qual:Str) (st:Stmt) (f:Addr) (fd:FuncData) (ds:List Value):Prop where
 ex : ∃ (oc:Value) (od:Option Addr) (T:Addr) (oT:Obj) (nT:Nat) (kV doc pm:Value) (an:Option Addr) (cdv ct:Value) (osl:Array (Option Value)),
  fd=PySem.W.fnOf x qual (defArgs st) (defBody st) (defScope st) (.ref T) kV doc pm an cdv ct/\K.lookup f=some ⟨oc,od,.func fd,osl⟩/\PySem.W.codeIn K cdv qual=true/\K.lookup T=some oT/\oT.data = .seq ds.toArray nT
 kp:PySem.W.keepIn K (.ref f)=true
section
variable {P:Program} {w:World} {K:PySem.W.Frag} {mg:Str->Option Value} {base:Heap}
theorem FunD.ok {x qual:Str} {st:Stmt} {f:Addr} {fd:FuncData} {ds:List Value} {N ps:List Str} {k:Nat} {sp:Sp} (F:FunD K x qual st f fd ds) (S:FnScope N ps (defScope st)) (len : ∀ vs H Q E,sp vs H Q E->vs.length=ps.length)
  (hbody : ∀ (cdv:Value) (A:Around) (outer:List Env) (s:Shared) (H:Hp) (vs:List V) (Q:VK) (E:XK),Room k (A.deeper (envOfC qual (defScope st) s.heap.objs.size f cdv))->sp vs H Q E ->
   ∃ t,PSs (cxOf CX0 P w K mg base N qual (defScope st) f cdv A outer s H E).nox (defBody st) t/\t { nx:=fun _ H'=>Q .non H',rt:=Q } (start N vs) H):FnOk P w K mg base CX0 (k+1) f fd ps sp:= by
 obtain ⟨oc,od,T,oT,nT,kV,doc,pm,an,cdv,ct,osl,rfl,lk,hcd,_,_⟩:=F.ex
 refine fn_of lk hcd S len fun A outer s H vs Q E hr hsp=>?_
 obtain ⟨t,h,q⟩:=hbody cdv A outer s H vs Q E hr hsp
 exact ⟨t,h.nox,q⟩
theorem FunD.binds {x qual:Str} {st:Stmt} {f:Addr} {fd:FuncData} {ds es:List Value} {ps:List Str} (F:FunD K x qual st f fd ds)
  (h : ∀ (T:Addr) (kV doc pm:Value) (an:Option Addr) (cdv ct:Value) (us:List Value),(us++es).length=ps.length -> ∃ kk,bindArgs (PySem.W.fnOf x qual (defArgs st) (defBody st) (defScope st) (.ref T) kV doc pm an cdv ct) ⟨us,[]⟩=seqItems? (.ref T) >>= kk/\kk (some ds.toArray)=pure (ps.zip (us++es))):Binds K fd ps es:= by
 obtain ⟨oc,od,T,oT,nT,kV,doc,pm,an,cdv,ct,osl,rfl,lk,hcd,lT,dT⟩:=F.ex
 intro s us KX hl
 obtain ⟨kk,e1,e2⟩:=h T kV doc pm an cdv ct us hl
 exact BindsTo.of_defaults rfl (KX _ _ lT) dT e1 e2
theorem funD_mk {x qual:Str} {st:Stmt} {f T:Addr} {oT:Obj} {nT:Nat} {ds:List Value} {oc:Value} {od an:Option Addr} {osl:Array (Option Value)} {kV doc pm cdv ct:Value} (l:K.lookup f=some ⟨oc,od,.func (PySem.W.fnOf x qual (defArgs st) (defBody st) (defScope st) (.ref T) kV doc pm an cdv ct),osl⟩)
  (c:PySem.W.codeIn K cdv qual=true) (k:PySem.W.keepIn K (.ref f)=true) (lT:K.lookup T=some oT) (dT:oT.data = .seq ds.toArray nT):FunD K x qual st f (PySem.W.fnOf x qual (defArgs st) (defBody st) (defScope st) (.ref T) kV doc pm an cdv ct) ds:=⟨⟨oc,od,T,oT,nT,kV,doc,pm,an,cdv,ct,osl,rfl,l,c,lT,dT⟩,k⟩
theorem Fun.cal {x:Str} {qual:Str} {st:Stmt} {f:Addr} {fd:FuncData} {ps:List Str} {k:Nat} {sp:Sp} (F:Fun K x qual st f fd) (G:FnOk P w K mg base CX0 k f fd ps sp) (hm:mg x=some (.ref f))
  (h : ∀ (kV doc pm:Value) (an:Option Addr) (cdv ct:Value) (us:List Value),us.length=ps.length->bindArgs (PySem.W.fnOf x qual (defArgs st) (defBody st) (defScope st) .none kV doc pm an cdv ct) ⟨us,[]⟩=pure (ps.zip us)):Cal P w K mg base k x [] sp:=
 ⟨f,fd,ps,[],G,hm,F.kp,F.binds h,.nil⟩
end
end L2
namespace L2
open PySem
theorem IsMax.uniq {l:List Int} {m n:Int} (h:IsMax l m) (h':IsMax l n):m=n:=Int.le_antisymm (h'.2 m h.1) (h.2 n h'.1)
def maxL:List Int->Int
 | []=>0
 | a::r=>r.foldl max a
theorem foldl_max : ∀ (r:List Int) (a:Int),IsMax (a::r) (r.foldl max a)
 | [],a=>⟨List.mem_cons_self,fun b hb=>by rw[List.mem_singleton.mp hb];exact Int.le_refl _⟩
 | b::r,a=>by
  obtain ⟨h1,h2⟩:=foldl_max r (max a b)
  refine ⟨?_,fun c hc=>?_⟩
  ·show r.foldl max (max a b) ∈ a::b::r
   rcases List.mem_cons.mp h1 with e | e
   ·rw[e]
    by_cases q:a<=b
    ·rw[Int.max_eq_right q];exact List.mem_cons_of_mem _ List.mem_cons_self
    ·rw[Int.max_eq_left (by omega)];exact List.mem_cons_self
   ·exact List.mem_cons_of_mem _ (List.mem_cons_of_mem _ e)
  ·show c<=r.foldl max (max a b)
   have q:=h2 (max a b) List.mem_cons_self
   rcases List.mem_cons.mp hc with e | e
   ·rw[e];have:=Int.le_max_left a b;omega
   ·rcases List.mem_cons.mp e with e | e
    ·rw[e];have:=Int.le_max_right a b;omega
    ·exact h2 c (List.mem_cons_of_mem _ e)
theorem maxL_is {l:List Int} (h:l≠[]):IsMax l (maxL l):= by
 cases l with
 | nil=>exact absurd rfl h
 | cons a r=>exact foldl_max r a
theorem IsMax.eq {l:List Int} {m:Int} (h:IsMax l m):m=maxL l:=h.uniq (maxL_is (by rintro rfl;exact absurd h.1 (by simp)))
def fresh (f:Int) (xs:List Int):Int:=xs.foldl (fun f w=>if w=f then f+1 else f) f
theorem fresh_snoc (f:Int) (xs:List Int) (z:Int):fresh f (xs++[z])=if z=fresh f xs then fresh f xs+1 else fresh f xs:= by
 unfold fresh;rw[List.foldl_append];rfl
theorem wayGo_snoc : ∀ (xs:List Int) (f z:Int),wayGo f (xs++[z])=(wayGo f xs&&(decide (0<=z)&&decide (z<=fresh f xs)))
 | [],f,z=>by
  show (decide (0<=z)&&decide (z<=f)&&true)=(true&&_)
  rw[Bool.and_true,Bool.true_and];rfl
 | w::r,f,z=>by
  show (decide (0<=w)&&decide (w<=f)&&wayGo (if w=f then f+1 else f) (r++[z]))=((decide (0<=w)&&decide (w<=f)&&wayGo (if w=f then f+1 else f) r)&&_)
  rw[wayGo_snoc r,Bool.and_assoc,Bool.and_assoc,Bool.and_assoc];rfl
theorem snoc_ind {α:Type} {P:List α->Prop} (h0:P []) (h1 : ∀ xs z,P xs->P (xs++[z])) (l:List α):P l:= by
 have : ∀ n (l:List α),l.length=n->P l:= by
  intro n
  induction n with
  | zero=>intro l e;rw[List.length_eq_zero_iff.mp e];exact h0
  | succ n ih=>
   intro l e
   have hl:l≠[]:=by rintro rfl;simp at e
   rw[<- List.dropLast_concat_getLast hl]
   exact h1 _ _ (ih _ (by rw[List.length_dropLast,e];rfl))
 exact this _ l rfl
theorem fresh_max (xs:List Int):wayGo 0 xs=true->IsMax (-1::xs) (fresh 0 xs-1):= by
 refine snoc_ind (P:=fun xs=>wayGo 0 xs=true->IsMax (-1::xs) (fresh 0 xs-1)) ?_ ?_ xs
 ·intro _
  exact ⟨by simp [fresh],fun a ha=>by simp at ha;simp [fresh,ha]⟩
 ·intro xs z ih h
  rw[wayGo_snoc,Bool.and_eq_true,Bool.and_eq_true] at h
  obtain ⟨h1,h2,h3⟩:=h
  have h2:=of_decide_eq_true h2
  have h3:=of_decide_eq_true h3
  obtain ⟨i1,i2⟩:=ih h1
  rw[fresh_snoc]
  by_cases e:z=fresh 0 xs
  ·rw[if_pos e]
   refine ⟨by rw[e];simp,fun a ha=>?_⟩
   rcases List.mem_cons.mp ha with q | q
   ·omega
   ·rcases List.mem_append.mp q with q | q
    ·have:=i2 a (List.mem_cons_of_mem _ q);omega
    ·rw[List.mem_singleton.mp q];omega
  ·rw[if_neg e]
   refine ⟨?_,fun a ha=>?_⟩
   ·rcases List.mem_cons.mp i1 with q | q
    ·rw[q];exact List.mem_cons_self
    ·exact List.mem_cons_of_mem _ (List.mem_append_left _ q)
   ·rcases List.mem_cons.mp ha with q | q
    ·rw[q];exact i2 _ List.mem_cons_self
    ·rcases List.mem_append.mp q with q | q
     ·exact i2 a (List.mem_cons_of_mem _ q)
     ·rw[List.mem_singleton.mp q];omega
theorem fresh_pos {xs:List Int} (h:wayGo 0 xs=true) (hne:xs≠[]):1<=fresh 0 xs/\IsMax xs (fresh 0 xs-1):= by
 obtain ⟨i1,i2⟩:=fresh_max xs h
 cases xs with
 | nil=>exact absurd rfl hne
 | cons w r=>
  have hw:0<=w:= by
   have h':(decide (0<=w)&&decide (w<=0)&&wayGo (if w=0 then 0+1 else 0) r)=true:=h
   rw[Bool.and_eq_true,Bool.and_eq_true] at h'
   exact of_decide_eq_true h'.1.1
  have:=i2 w (by simp)
  refine ⟨by omega,?_,fun a ha=>i2 a (List.mem_cons_of_mem _ ha)⟩
  rcases List.mem_cons.mp i1 with q | q
  ·omega
  ·exact q
def rowAll (ns:List Int):Bool:=(List.range (ns.length-1)).all fun i=>decide (0<=ns.getD (i+1) 0)&&decide (ns.getD (i+1) 0<=maxL (ns.take (i+1))+1)
def rowOk (ns:List Int):Bool:=decide (1<=ns.length)&&decide (ns.length<=9)&&decide (ns.getD 0 1=0)&&rowAll ns
theorem rowAll_snoc {xs:List Int} (h:xs≠[]) (z:Int):rowAll (xs++[z])=(rowAll xs&&(decide (0<=z)&&decide (z<=maxL xs+1))):= by
 unfold rowAll
 have hp:0<xs.length:=List.length_pos_iff.mpr h
 have e1:(xs++[z]).length-1=(xs.length-1)+1:=by rw[List.length_append];simp;omega
 rw[e1,List.range_succ,List.all_append]
 congr 1
 ·rw[Bool.eq_iff_iff,List.all_eq_true,List.all_eq_true]
  constructor
  ·intro q i hi
   have q:=q i hi
   have hi:=List.mem_range.mp hi
   rw[List.getD_eq_getElem?_getD,List.getElem?_append_left (by omega),<- List.getD_eq_getElem?_getD,List.take_append_of_le_length (by omega)] at q
   exact q
  ·intro q i hi
   have q:=q i hi
   have hi:=List.mem_range.mp hi
   rw[List.getD_eq_getElem?_getD,List.getElem?_append_left (by omega),<- List.getD_eq_getElem?_getD,List.take_append_of_le_length (by omega)]
   exact q
 ·have e2:xs.length-1+1=xs.length:=by omega
  simp only [List.all_cons,List.all_nil,Bool.and_true]
  rw[e2,List.getD_eq_getElem?_getD,List.getElem?_append_right (Nat.le_refl _),Nat.sub_self,List.take_append_of_le_length (Nat.le_refl _),List.take_length]
  rfl
theorem way_row (xs:List Int):xs≠[]->wayGo 0 xs=(decide (xs.getD 0 1=0)&&rowAll xs):= by
 refine snoc_ind (P:=fun xs=>xs≠[]->wayGo 0 xs=(decide (xs.getD 0 1=0)&&rowAll xs)) (fun h=>absurd rfl h) ?_ xs
 intro xs z ih _
 by_cases hx:xs=[]
 ·subst hx
  show (decide (0<=z)&&decide (z<=0)&&true)=(decide (z=0)&&true)
  rw[Bool.and_true,Bool.and_true,Bool.eq_iff_iff,Bool.and_eq_true,decide_eq_true_iff,decide_eq_true_iff,decide_eq_true_iff]
  omega
 ·have e0:(xs++[z]).getD 0 1=xs.getD 0 1:= by
   rw[List.getD_eq_getElem?_getD,List.getElem?_append_left (List.length_pos_iff.mpr hx),<- List.getD_eq_getElem?_getD]
  rw[wayGo_snoc,rowAll_snoc hx,e0,ih hx,<- Bool.and_assoc (decide (xs.getD 0 1=0))]
  cases e:(decide (xs.getD 0 1=0)&&rowAll xs) with
  | false=>simp
  | true=>
   rw[Bool.true_and,Bool.true_and]
   have q:=(fresh_pos (by rw[ih hx];exact e) hx).2.eq
   rw[show fresh 0 xs=maxL xs+1 by omega]
theorem way_rowOk (ns:List Int):isWay ns=rowOk ns:= by
 unfold isWay rowOk
 by_cases h:ns=[]
 ·subst h;rfl
 ·rw[way_row ns h,<- Bool.and_assoc]
end L2
namespace L2
open PySem
theorem cut_take (xs:List V) (k:Nat):cutV xs none (some (k:Int))=xs.take k:= by
 unfold cutV
 rw[HT.sIx_none,HT.sIx_nat,List.drop_zero,Nat.sub_zero]
 by_cases h:k<=xs.length
 ·rw[Nat.min_eq_left h]
 ·rw[Nat.min_eq_right (by omega),List.take_of_length_le (Nat.le_refl _),List.take_of_length_le (by omega)]
theorem cut_drop (xs:List V) (k:Nat):cutV xs (some (k:Int)) none=xs.drop k:= by
 unfold cutV
 rw[HT.sIx_none,HT.sIx_nat]
 by_cases h:k<=xs.length
 ·rw[Nat.min_eq_left h,List.take_of_length_le (by rw[List.length_drop];exact Nat.le_refl _)]
 ·rw[Nat.min_eq_right (by omega),List.drop_of_length_le (Nat.le_refl _),List.drop_of_length_le (by omega)]
  simp
theorem cut_take_int (ns:List Int) (k:Nat):cutV (ns.map V.int) none (some (k:Int))=(ns.take k).map V.int:=by rw[cut_take,List.map_take]
theorem cut_drop_int (ns:List Int) (k:Nat):cutV (ns.map V.int) (some (k:Int)) none=(ns.drop k).map V.int:=by rw[cut_drop,List.map_drop]
theorem atI_int {ns:List Int} {i:Int} {z:Int} (h0:0<=i) (h:ns[i.toNat]?=some z):atI (ns.map V.int) i=some (V.int z):= by
 have:=atI_nat (xs:=ns.map V.int) (j:=i.toNat) (v:=V.int z) (by rw[List.getElem?_map,h];rfl)
 rw[Int.toNat_of_nonneg h0] at this
 exact this
theorem atI_lt {ns:List Int} {i:Int} (h0:0<=i) (h1:i<ns.length):atI (ns.map V.int) i=some (V.int (ns.getD i.toNat 0)):= by
 refine atI_int h0 ?_
 have:i.toNat<ns.length:=by omega
 rw[List.getElem?_eq_getElem this,List.getD_eq_getElem?_getD,List.getElem?_eq_getElem this];rfl
theorem mapB2 (f:Nat->Bool) (n:Nat):((List.range n).map fun j=>V.bl (f j))=((List.range n).map f).map V.bl:=by rw[List.map_map];rfl
theorem Drawn'.uncons {l:Int} {ls rs:List Int} (h:Drawn' (l::ls) rs) : ∃ r rs',rs=r::rs'/\0<=r/\r<l/\Drawn' ls rs':= by
 cases h with
 | cons h t=>exact ⟨_,_,rfl,h.1,h.2,t⟩
end L2
namespace L2
open PySem PySem.Spec PyProof.Rows
section
variable {X:Cx} {K:PySem.W.Frag}
theorem kix_list (h:X.K=K:=by rfl):IxR X (rIxL K):=by subst h;exact ix_list
theorem kix_tup (h:X.K=K:=by rfl):IxR X (rIxT K):=by subst h;exact ix_tup
theorem ksl_list (h:X.K=K:=by rfl):SlR X (rSlL K):=by subst h;exact sl_list
theorem ksl_tup (h:X.K=K:=by rfl):SlR X (fun x lo hi H Q=>∃ a xs,x = .ref a/\SqT K H a xs /\ ∀ p H',Same H H'->SqT K H' p (cutV xs lo hi)->Q (.ref p) H'):=by subst h;exact sl_tupA
theorem kop_notIn (h:X.K=K:=by rfl):OpR X (compareOp .NotIn) (rIn K true):=by subst h;exact op_notIn_seq
theorem kc_len (h : X.K = K:=by rfl) : CallR X (.builtin "len") (fun xs H Q=>∃ p ys,xs = [.ref p] /\ (SqL K H p ys \/ SqT K H p ys) /\ Q (.int ys.length) H):=by subst h; exact call_len_seq
theorem kc_max (hc : X.calm = true:=by rfl) (h : X.K = K:=by rfl) : CallR X (.builtin "max") (fun xs H Q=>∃ (a : Addr) (ns : List Int),xs = [.ref a] /\ (SqL K H a (ns.map V.int) \/ SqT K H a (ns.map V.int)) /\ ns ≠ [] /\ ∀ m,IsMax ns m -> Q (.int m) H):=by subst h; exact call_maxL hc
theorem kc_sum (hc : X.calm = true:=by rfl) (h : X.K = K:=by rfl) : CallR X (.builtin "sum") (fun xs H Q=>∃ (a : Addr) (ns : List Int),xs = [.ref a] /\ (SqL K H a (ns.map V.int) \/ SqT K H a (ns.map V.int)) /\ Q (.int ns.sum) H):=by subst h; exact call_sumL hc
theorem kc_all (hc : X.calm = true:=by rfl) (h : X.K = K:=by rfl) : CallR X (.builtin "all") (fun xs H Q=>∃ (a : Addr) (bs : List Bool),xs = [.ref a] /\ (SqL K H a (bs.map V.bl) \/ SqT K H a (bs.map V.bl)) /\ Q (.bl (bs.all id)) H):=by subst h; exact call_allL hc
theorem kc_isi (h : X.K = K:=by rfl) : CallR X (.builtin "isinstance") (fun xs H Q=>∃ x n t b,xs = [x,.ty n] /\ TyOf K H x t /\ PySem.W.kitOne K t (.type n) = some b /\ Q (.bl b) H):=by subst h; exact call_isi
theorem kc_tuple (h : X.K = K:=by rfl) : CallR X (.type "tuple") (fun xs H Q=>∃ p ys,xs = [.ref p] /\ ((SqL K H p ys /\ ∀ l,H l = none -> Q (.ref l) (upd H l (.tup ys))) \/ (SqT K H p ys /\ Q (.ref p) H))):=by subst h; exact call_tuple_of
theorem kc_list (h : X.K = K:=by rfl) : CallR X (.type "list") (fun xs H Q=>∃ p ys,xs = [.ref p] /\ (SqL K H p ys \/ SqT K H p ys) /\ ∀ l,H l = none -> Q (.ref l) (upd H l (.lst ys))):=by subst h; exact call_list_of
theorem kc_max2 (hc : X.calm = true:=by rfl) : CallR X (.builtin "max") (fun xs H Q=>∃ i j,xs = [.int i,.int j] /\ Q (.int (if j > i then j else i)) H):=call_max2 hc
theorem kc_min2 (hc : X.calm = true:=by rfl) : CallR X (.builtin "min") (fun xs H Q=>∃ i j,xs = [.int i,.int j] /\ Q (.int (if j < i then j else i)) H):=call_min2 hc
theorem kpi_list {tg l:Expr} {tl:TE} (hl:PE X l tl) (h:X.K=K:=by rfl):PI X tg l (iList K tl):=by subst h;exact pi_list hl
theorem kpi_tup {tg l:Expr} {tl:TE} (hl:PE X l tl) (h:X.K=K:=by rfl):PI X tg l (iTup K tl):=by subst h;exact pi_tup hl
end
theorem mulOk_of {a b:Int} (h:(decide (Builtin.Int.intBits a<=2 ^ 20)&&decide (Builtin.Int.intBits b<=2 ^ 20))=true):IntMulOk a b:= by
 rw[Bool.and_eq_true] at h
 exact IntMulOk.of_bits (of_decide_eq_true h.1) (of_decide_eq_true h.2)
theorem lcN {i:Nat} {x:V} {te:TE} {σ:St} {H:Hp} {N:V->Hp->Prop} {N':Hp->Prop} (h:te (σ.set i (some x)) H N):gName i x σ H fun σ2 H2=>tYes σ2 H2 fun b H3=>if b=true then te σ2 H3 N else N' H3:= by
 show if true=true then te (σ.set i (some x)) H N else N' H
 rw[if_pos rfl];exact h
end L2
namespace L2
open PySem PySem.Spec PyProof.Rows
def CXE (P:Program) (w:World):CXT:=fun outer H s E e s'=>∃ (ea:Addr) (cls:Value) (H':Hp) (B:Heap),e = .ref ea/\s'.os=s.os/\AllBare s'.gens/\Un (frs outer) [] H H' s.heap s'.heap/\HOk P w H' s'.heap /\
 (∃ a0,Heap.FlyingW B outer ea cls a0 s'.heap)/\(∀ b o u,s'.heap.get? b=some o->H' b=some u->B.get? b=some o)/\(∀ b o,s.heap.get? b=some o->H b=none->b ∉ frs outer->B.get? b=some o) /\
 (∀ b o,s.heap.get? b=some o->b ∉ frs outer -> ∃ o',B.get? b=some o')/\E cls none H'
theorem ObjOk.get {P:Program} {w:World} {H:Hp} {h:Heap} {a:Addr} {o:HO} (x:ObjOk P w H h a o) : ∃ ob,h.get? a=some ob:= by
 cases o with
 | lst xs=>obtain ⟨_,_,_,_,e⟩:=x;exact ⟨_,e⟩
 | tup xs=>obtain ⟨_,_,_,ob,e,_⟩:=x;exact ⟨ob,e⟩
 | dK kvs=>obtain ⟨_,_,_,_,ob,_,_,e,_⟩:=x;exact ⟨ob,e⟩
 | dT kvs=>obtain ⟨_,_,_,_,ob,_,_,e,_⟩:=x;exact ⟨ob,e⟩
 | set S n=>obtain ⟨ob,_,_,_,e,_⟩:=x;exact ⟨ob,e⟩
 | ins C dx fs=>obtain ⟨_,_,_,e,_⟩:=x;exact ⟨_,e⟩
 | own y=>exact x
 | xd fs=>obtain ⟨_,⟨ob,_,_,e,_⟩,_⟩:=x;exact ⟨ob,e⟩
 | rng lo hi=>obtain ⟨_,_,_,e⟩:=x;exact ⟨_,e⟩
 | frz ob u=>obtain ⟨e,_⟩:=x;exact ⟨_,e⟩
 | tbl ps=>exact ⟨_,x⟩
 | met f y=>exact ⟨_,x⟩
 | ext φ=>obtain ⟨_,e,_⟩:=x;exact e
section
variable {X:Cx} {pins:List (Addr × Obj)} {σ:St} {H:Hp} {s:Shared}
theorem cxe_mk {B h':Heap} {ea:Addr} {cls a0:Value} {E:XK} (I:Inv X pins σ H s) (hex:X.ex=[]) (fl:Heap.FlyingW B X.outer ea cls a0 h')
  (fr : ∀ b ∈ frs X.outer,∀ o,s.heap.get? b=some o->(∀ vs,o.data ≠ .fields vs) -> ∃ sl,h'.get? b=some { o with slots:=sl })
  (c1 : ∀ b o u,s.heap.get? b=some o->H b=some u->B.get? b=some o) (c2 : ∀ b o,X.s₀.heap.get? b=some o->X.H₀ b=none->b ∉ X.fs->B.get? b=some o)
  (c3 : ∀ b o,X.s₀.heap.get? b=some o->b ∉ X.fs -> ∃ o',B.get? b=some o') (hE:E cls none H):CXE X.prog X.w X.outer X.H₀ X.s₀ E (.ref ea) { s with heap:=h' }:= by
 have nex : ∀ b:Addr,b ∉ X.ex:=fun b=>by rw[hex];simp
 have hfr : ∀ b ∈ X.fs,∃ o,s.heap.get? b=some o /\ ∀ vs,o.data ≠ .fields vs:=fun b hb=>(I.funs.mem hb).2
 have tr : ∀ b o u,s.heap.get? b=some o->H b=some u->h'.get? b=some o:=fun b o u e q=>fl.1 b o (c1 b o u e q)
 refine ⟨ea,cls,H,B,rfl,I.os,I.bare,⟨fun b o e n hb _=>fl.1 b o (c2 b o e n hb),fun b o e n hb _=>?_,fun b o e n _=>I.base.free b o e n (nex b),fun b o e _=>?_,I.base.tups,I.base.frzs,I.base.tbls⟩,fun b u e=>?_,⟨a0,fl⟩,fun b o u e q=>?_,c2,c3,hE⟩
 ·obtain ⟨sl,e1⟩:=I.base.slot b o e n hb (nex b)
  obtain ⟨o1,e2,hd⟩:=hfr b hb
  obtain ⟨sl2,e3⟩:=fr b hb _ e2 hd
  rw[e1] at e2;cases e2
  exact ⟨sl2,e3⟩
 ·by_cases hb:b ∈ X.fs
  ·obtain ⟨o1,e2,hd⟩:=hfr b hb
   obtain ⟨sl2,e3⟩:=fr b hb _ e2 hd
   exact ⟨_,e3⟩
  ·obtain ⟨o',e'⟩:=c3 b o e hb
   exact ⟨o',fl.1 b o' e'⟩
 ·refine (I.hok b u e).stay (fun c v hc q=>?_) (fun _ q=>q) fun _ _ q=>q
  rcases hc with z | z
  ·subst z;exact tr c v u q e
  ·exact tr c v _ q z
 ·obtain ⟨o1,e0⟩:=(I.hok b u q).get
  have q1:=tr b o1 u e0 q
  rw[e] at q1;cases q1
  exact c1 b o u e0 q
structure Fn0 (X:Cx) (E:XK):Prop where
 xe:X.xe=fun e s'=>wpAny (model X.prog X.w) X.A (leaving X.env e) (fun _ s''=>CXE X.prog X.w X.outer X.H₀ X.s₀ E e s'') (fun e' s''=>CXE X.prog X.w X.outer X.H₀ X.s₀ E e' s'') s'
 stk:X.stack=X.env::X.outer
 frm:X.env.frame=some X.env.locals
 ex:X.ex=[]
theorem Fn0.nstk (F:Fn0 X E) (I:Inv X pins σ H s) {b:Addr} {o:Obj} (e:X.s₀.heap.get? b=some o) (hb:b ∉ X.fs):b ∉ frs X.stack:=fun z=>by
 rcases List.mem_cons.mp (I.stkSub b z) with q | q
 ·exact absurd (Nat.lt_of_lt_of_le (Heap.lt_size e) I.ok.above) (by rw[q];exact Nat.lt_irrefl _)
 ·exact hb q
theorem pass_fn {E:XK} (F:Fn0 X E):Passes (CXE X.prog X.w) X E:= by
 intro pins σ H s e s' I h
 obtain ⟨ea,cls,H',B,rfl,os,bare,un,hok,⟨a0,fl⟩,c1,c2,c3,hE⟩:=h
 have J:Inv X pins σ H' s':=I.call' os un hok bare fun b z=>absurd z (by simp)
 rw[F.xe]
 rw[F.stk] at fl
 refine wpAny_leaves_onW (by rw[I.ok.frames,F.stk]) F.frm fl fun h'' fl'' ups=>?_
 have nex : ∀ b:Addr,b ∉ X.ex:=fun b=>by rw[F.ex];simp
 refine cxe_mk J F.ex fl'' (fun b hb o e hd=>ups b o e hd) c1 (fun b o e n hb=>?_) (fun b o e hb=>?_) hE
 ·exact c2 b o (I.base.keep b o e n hb (nex b)) (I.base.free b o e n (nex b)) (F.nstk I e hb)
 ·obtain ⟨o',e'⟩:=I.base.there b o e (nex b)
  exact c3 b o' e' (F.nstk I e hb)
abbrev bmV : List Value:=[.type "ValueError",.type "Exception",.type "BaseException",.type "object"]
theorem excObj {K : PySem.W.Frag} {h : Heap} {C : Addr} (X : K.In h) (q : PySem.W.excIn K C bmV "ValueError.__new__" = true) :
  ∃ bm N nm q bs hdct sn sub ab col dd k0 k1 k2 k3 k5 mN,h.get? C = some (excClassObj nm q C N bs bm hdct sn sub ab col dd k0 k1 k2 k3 k5 "ValueError.__new__") /\ h.Ns N mN /\ mN "__init__" = none /\ OwnTail h bmV bm:= by
 unfold PySem.W.excIn at q
 split at q
 ·rename_i dd cd sl ho
  split at q
  ·rename_i C' bm k0 k1 k2 k3 n k5 hm hs
   simp only [Bool.and_eq_true,beq_iff_eq,Bool.not_eq_true'] at q
   obtain ⟨⟨⟨⟨⟨rfl,rfl⟩,hdel⟩,ht⟩,hok⟩,hni⟩:=q
   obtain ⟨nm,bs,mro,ns,qn,hd,sn,sub,ab,col,del⟩:=cd
   dsimp only at hm hdel hok hni
   subst hm hdel
   obtain ⟨l⟩:=sl
   simp only at hs
   subst hs
   exact ⟨bm,ns,nm,qn,bs,hd,sn,sub,ab,col,dd,k0,k1,k2,k3,k5,_,X _ _ ho,.of_isNs (PySem.W.isNs_of_in X hok),PySem.W.nsMap_none_of_in X hok hni,PySem.W.tail_of_in X ht⟩
  ·cases q
 ·cases q
theorem ps_raise {E : XK} {x : Str} {C : Addr} {e₀ : Expr} {rest : List Expr} {t : TA} {np cpos pos : Pos} (F : Fn0 X E) (hc : X.calm = true) (hg : Gl X x) (hm : X.mg x = some (.ref C)) (hq : PySem.W.excIn X.K C bmV "ValueError.__new__" = true) (ha : PA X (e₀ :: rest) t)
  (he : starEach (e₀ :: rest) X.env = (false,eval e₀ X.env) :: starEach rest X.env:=by rfl) (hplain : (backTo cpos (starEach rest X.env)).any (·.1) = false:=by rfl) (hd : (x == ("__debug__" : Str)) = false:=by decide) :
  PS X (.Raise (some (.Call (.Name x np) (e₀::rest) [] cpos)) none pos) (fun _ σ H=>t σ H fun vs H1=>vs.length<=sizeLine/\E (.ref C) none H1):= by
 intro pins s σ H D I h
 obtain ⟨bm,N,nm,q,bs,hdct,sn,sub,ab,col,dd,k0,k1,k2,k3,k5,mN,hC,hN,hni,T⟩:=excObj I.ok.mod.kin hq
 refine wpAny_Raise_call_subT (C:=C) (nm:=nm) (q:=q) (N:=N) (bs:=bs) (bm:=bm) (hdct:=hdct) (sn:=sn) (sub:=sub) (ab:=ab) (col:=col) (dd:=dd) (k0:=k0) (k1:=k1) (k2:=k2) (k3:=k3) (k5:=k5)
  PySem.F.excBase_ValueError (mN:=mN) (T.hasType (by decide +kernel)) (I.ok.hd hc) (by rw[he];show (false||(backTo cpos (starEach rest X.env)).any (·.1))=false;rw[hplain];rfl) hni (ld_glob I hg hm ⟨rfl,?_⟩ hd)
 have hA:=ha cpos pins s σ H _ I h
 rw[he] at hA ⊢
 refine Calls.evalArgs_plain (wpAny_mono hA (fun us s2 h2=>?_) fun _ _ y=>y)
 obtain ⟨vs,H1,I1,r,hl,hE⟩:=h2
 refine ⟨rfl,by rw[<- r.length];exact hl,I1.bk _ _ hC,hN.keeps I1.bk,T.keeps I1.bk,fun h' e hme=>?_⟩
 rw[F.xe]
 have hin : ∀ env ∈ X.env::X.outer,∀ b,env.frame=some b->b ∈ frs X.stack:=fun env he b hb=>by
  rw[F.stk];exact List.mem_filterMap.mpr ⟨env,he,hb⟩
 have hstk:=I1.stack
 rw[F.stk] at hstk
 refine wpAny_leaves_madeW (base:=PySem.W.hideAll s2.heap (frs X.stack)) (by rw[I1.ok.frames,F.stk]) F.frm (fun b o q=>PySem.W.of_hideAll _ q) (PySem.W.funFrames_hide hstk hin) hme fun h'' t fl tup bt ups=>?_
 have nex : ∀ b:Addr,b ∉ X.ex:=fun b=>by rw[F.ex];simp
 show CXE X.prog X.w X.outer X.H₀ X.s₀ E (.ref e) { s2 with heap:=h'' }
 refine cxe_mk I1 F.ex fl (fun b hb o e hd=>ups b o (hme.keeps b o e) hd) (fun b o u e q=>PySem.W.hideAll_get _ e fun z=>?_) (fun b o e n hb=>PySem.W.hideAll_get _ (I1.base.keep b o e n hb (nex b)) (F.nstk I1 e hb)) (fun b o e hb=>?_) hE
 ·rw[I1.stkFree b z] at q;cases q
 ·obtain ⟨o',e'⟩:=I1.base.there b o e (nex b)
  exact ⟨o',PySem.W.hideAll_get _ e' (F.nstk I1 e hb)⟩
theorem Inv.slots {B h':Heap} (I:Inv X pins σ H s) (hB:B.StaysIn h') (ups:s.heap.UpToSlots h') (c1 : ∀ b o u,s.heap.get? b=some o->H b=some u->B.get? b=some o)
  (c2 : ∀ b o,X.s₀.heap.get? b=some o->X.H₀ b=none->b ∉ X.fs->b ∉ X.ex->B.get? b=some o) (c3 : ∀ b o,X.s₀.heap.get? b=some o->b ∉ X.fs->b ∉ X.ex -> ∃ o',B.get? b=some o')
  (c4 : ∀ p ∈ X.pn++pins,B.get? p.1=some p.2):Inv X pins σ H { s with heap:=h' }:= by
 have hfr : ∀ b ∈ X.fs,∃ o,s.heap.get? b=some o /\ ∀ vs,o.data ≠ .fields vs:=fun b hb=>(I.funs.mem hb).2
 have tr : ∀ b o u,s.heap.get? b=some o->H b=some u->h'.get? b=some o:=fun b o u e q=>hB b o (c1 b o u e q)
 have cl : ∀ c v,s.heap.IsCell c v->h'.IsCell c v:=fun c v z=>by
  obtain ⟨o,ho,hd⟩:=z
  obtain ⟨sl,e⟩:=ups c o ho fun vs q=>by rw[hd] at q;cases q
  exact ⟨_,e,hd⟩
 refine ⟨I.ok,I.os,I.bare,⟨fun b o e n hb hx=>hB b o (c2 b o e n hb hx),fun b o e n hb hx=>?_,I.base.free,fun b o e hx=>?_,I.base.tups,I.base.frzs,I.base.tbls⟩,?_,fun x c e=>?_,I.free,I.freeC,fun p hp=>?_,fun b u e=>?_,I.len⟩
 ·obtain ⟨sl,e1⟩:=I.base.slot b o e n hb hx
  obtain ⟨o1,e2,hd⟩:=hfr b hb
  obtain ⟨sl2,e3⟩:=ups b _ e2 hd
  rw[e1] at e2;cases e2
  exact ⟨sl2,e3⟩
 ·by_cases hb:b ∈ X.fs
  ·obtain ⟨o1,e2,hd⟩:=hfr b hb
   obtain ⟨sl2,e3⟩:=ups b _ e2 hd
   exact ⟨_,e3⟩
  ·obtain ⟨o',e'⟩:=c3 b o e hb hx
   exact ⟨o',hB b o' e'⟩
 ·obtain ⟨m,hn,hl⟩:=I.loc
  refine ⟨m,ups.ns hn,fun i x v e1 e2 e3=>?_⟩
  obtain ⟨u,ru,lk⟩:=hl i x v e1 e2 e3
  refine ⟨u,ru,?_⟩
  rcases lk with lk | ⟨k,c,ec,z⟩
  ·exact .inl lk
  ·exact .inr ⟨k,c,ec,cl c _ z⟩
 ·obtain ⟨v,z⟩:=I.cell x c e
  exact ⟨v,cl c v z⟩
 ·obtain ⟨_,n,ne,nf,d⟩:=I.pin p hp
  exact ⟨hB _ _ (c4 p hp),n,ne,nf,d⟩
 ·refine (I.hok b u e).stay (fun c v hc q=>?_) (fun _ q=>q) fun _ _ q=>q
  rcases hc with z | z
  ·subst z;exact tr c v u q e
  ·exact tr c v _ q z
abbrev Cx.alt (X:Cx) (pn:List (Addr × Obj)) (A:Around) (cm:Bool) (E:Value->Shared->Prop):Cx:={ X with pn:=pn,A:=A,calm:=cm,xe:=E }
theorem Inv.alt {pn:List (Addr × Obj)} {A:Around} {cm:Bool} {E:Value->Shared->Prop} {pins':List (Addr × Obj)} (I:Inv X pins σ H s) (hfr:A.frames=X.A.frames) (hcm:cm=true->A.handled=none) (hp : ∀ p ∈ pn++pins',p ∈ X.pn++pins):Inv (X.alt pn A cm E) pins' σ H s:=
 ⟨⟨I.ok.mod,I.ok.kind,I.ok.glob,I.ok.blt,I.ok.above,I.ok.inj,I.ok.has,I.ok.cab,hcm,hfr.trans I.ok.frames,I.ok.stk,I.ok.exf,I.ok.bs,I.ok.bsz,I.ok.noex,I.ok.exfs,I.ok.funs,I.ok.frf⟩,I.os,I.bare,I.base,I.loc,I.cell,I.free,I.freeC,fun p h=>I.pin p (hp p h),I.hok,I.len⟩
def XB (X:Cx) (pins:List (Addr × Obj)) (E:XK):Value->Shared->Prop:=fun e s1=>∃ (ea:Addr) (cls:Value) (H':Hp) (B:Heap) (σ':St),e = .ref ea/\Inv (X.alt (X.pn++pins) X.A X.calm fun _ _=>False) [] σ' H' s1/\(∃ a0,Heap.FlyingW B X.stack ea cls a0 s1.heap) /\
 (∀ b o u,s1.heap.get? b=some o->H' b=some u->B.get? b=some o)/\(∀ b o,X.s₀.heap.get? b=some o->X.H₀ b=none->b ∉ X.fs->b ∉ X.ex->B.get? b=some o)/\(∀ b o,X.s₀.heap.get? b=some o->b ∉ X.fs->b ∉ X.ex -> ∃ o',B.get? b=some o')/\(∀ p ∈ X.pn++pins,B.get? p.1=some p.2)/\E cls none H'
abbrev tryCx (X:Cx) (pins:List (Addr × Obj)) (E:XK):Cx:=X.alt (X.pn++pins) X.A X.calm (XB X pins E)
theorem pass_try {E:XK}:Passes (CXE X.prog X.w) (tryCx X pins E) E:= by
 intro pins' σ H s e s' I h
 obtain ⟨ea,cls,H',B,rfl,os,bare,un,hok,fl,c1,c2,c3,hE⟩:=h
 have J:Inv (tryCx X pins E) pins' σ H' s':=I.call' os un hok bare fun b z=>absurd z (by simp)
 have nst : ∀ b o,X.s₀.heap.get? b=some o->b ∉ X.fs->b ∉ frs X.stack:=fun b o e hb z=>by
  rcases List.mem_cons.mp (I.stkSub b z) with q | q
  ·exact absurd (Nat.lt_of_lt_of_le (Heap.lt_size e) I.ok.above) (by rw[q];exact Nat.lt_irrefl _)
  ·exact hb q
 refine ⟨ea,cls,H',B,σ,rfl,J.alt rfl J.ok.hd fun p hp=>?_,fl,c1,fun b o e n hb hx=>c2 b o (I.base.keep b o e n hb hx) (I.base.free b o e n hx) (nst b o e hb),fun b o e hb hx=>?_,fun p hp=>?_,hE⟩
 ·exact List.mem_append_left _ (by simpa using hp)
 ·obtain ⟨o',e'⟩:=I.base.there b o e hx
  exact c3 b o' e' (nst b o e hb)
 ·obtain ⟨e,n,ne,nf,d⟩:=I.pin p (List.mem_append_left _ hp)
  refine c2 _ _ e n fun z=>?_
  rcases List.mem_cons.mp (I.stkSub _ z) with q | q
  ·exact ne q
  ·exact nf q
abbrev hndCx (X:Cx) (pins:List (Addr × Obj)) (ea:Addr):Cx:=X.alt (X.pn++pins) (X.A.mark (some (.ref ea))) false fun _ _=>False
end
section
variable {P:Program} {w:World} {K:PySem.W.Frag} {mg:Str->Option Value} {base:Heap}
theorem Fun.okE {x qual:Str} {st:Stmt} {f:Addr} {fd:FuncData} {N ps:List Str} {k:Nat} {sp:Sp} (F:Fun K x qual st f fd) (S:FnScope N ps (defScope st)) (len : ∀ vs H Q E,sp vs H Q E->vs.length=ps.length)
  (hbody : ∀ (cdv:Value) (A:Around) (outer:List Env) (s:Shared) (H:Hp) (vs:List V) (Q:VK) (E:XK),Room k (A.deeper (envOfC qual (defScope st) s.heap.objs.size f cdv))->Fn0 (cxOf (CXE P w) P w K mg base N qual (defScope st) f cdv A outer s H E) E->sp vs H Q E ->
   ∃ t,PSs (cxOf (CXE P w) P w K mg base N qual (defScope st) f cdv A outer s H E) (defBody st) t/\t { nx:=fun _ H'=>Q .non H',rt:=Q } (start N vs) H):FnOk P w K mg base (CXE P w) (k+1) f fd ps sp:= by
 obtain ⟨oc,od,kV,doc,pm,an,cdv,ct,osl,rfl,lk,hcd⟩:=F.ex
 exact fn_of lk hcd S len fun A outer s H vs Q E hr hsp=>hbody cdv A outer s H vs Q E hr ⟨rfl,rfl,rfl,rfl⟩ hsp
structure CalE (P:Program) (w:World) (K:PySem.W.Frag) (mg:Str->Option Value) (base:Heap) (k:Nat) (x:Str) (dvs:List V) (sp:Sp):Prop where
 ex : ∃ f fd ps ds,FnOk P w K mg base (CXE P w) k f fd ps sp/\mg x=some (.ref f)/\PySem.W.keepIn K (.ref f)=true/\Binds K fd ps ds/\Vals dvs ds
theorem Fun.calE {x:Str} {qual:Str} {st:Stmt} {f:Addr} {fd:FuncData} {ps:List Str} {k:Nat} {sp:Sp} (F:Fun K x qual st f fd) (G:FnOk P w K mg base (CXE P w) k f fd ps sp) (hm:mg x=some (.ref f))
  (h : ∀ (kV doc pm:Value) (an:Option Addr) (cdv ct:Value) (us:List Value),us.length=ps.length->bindArgs (PySem.W.fnOf x qual (defArgs st) (defBody st) (defScope st) .none kV doc pm an cdv ct) ⟨us,[]⟩=pure (ps.zip us)):CalE P w K mg base k x [] sp:=
 ⟨f,fd,ps,[],G,hm,F.kp,F.binds h,.nil⟩
end
theorem pe_calE {X : Cx} {k : Nat} {x : Str} {dvs : List V} {sp : Sp} {E : XK} {e : Expr} {es : List Expr} {t : TA} {p pos : Pos} (c : CalE X.prog X.w X.K X.mg X.base k x dvs sp) (hr : Room k X.A) (hg : Gl X x) (hx : Passes (CXE X.prog X.w) X E) (ha : PA X (e :: es) t) (hd : (x == ("__debug__" : Str)) = false:=by decide)
  (he:starEach (e::es) X.env=(false,eval e X.env)::starEach es X.env:=by rfl) (hpl:(backTo pos (starEach es X.env)).any (·.1)=false:=by rfl) :
  PE X (.Call (.Name x p) (e::es) [] pos) (tCall sp dvs E t):= by
 obtain ⟨f,fd,ps,ds,F,hm,hk,hb,hv⟩:=c.ex
 exact pe_call F hr hg hm hk hb hv hx ha hd he hpl
end L2
namespace L2
open PySem PySem.Spec PyProof.Rows
section
variable {κ:Type} [DecidableEq κ]
def valV (kvs:List (κ × V)) (k:κ):Option V:=(kvs.find? fun kv=>decide (kv.1=k)).map (·.2)
def putK (kvs:List (κ × V)) (k:κ) (v:V):List (κ × V):=
 if (kvs.any fun kv=>decide (kv.1=k))=true then kvs.map (fun kv=>if kv.1=k then (kv.1,v) else kv) else kvs++[(k,v)]
theorem valV_pos {p:κ × V} {r:List (κ × V)} {k:κ} (e:p.1=k):valV (p::r) k=some p.2:=by simp [valV,List.find?_cons,e]
theorem valV_neg {p:κ × V} {r:List (κ × V)} {k:κ} (e : ¬ p.1=k):valV (p::r) k=valV r k:=by simp [valV,List.find?_cons,e]
theorem valV_any (k:κ) : ∀ kvs:List (κ × V),(kvs.any fun kv=>decide (kv.1=k))=(valV kvs k).isSome
 | []=>rfl
 | p::r=>by
  rw[List.any_cons]
  by_cases e:p.1=k
  ·simp only [valV_pos e,decide_eq_true e,Bool.true_or,Option.isSome_some]
  ·rw[valV_neg e,decide_eq_false e,Bool.false_or];exact valV_any k r
theorem valV_map (k j:κ) (y:V) : ∀ kvs:List (κ × V),valV (kvs.map fun kv=>if kv.1=k then (kv.1,y) else kv) j=(valV kvs j).map fun x=>if j=k then y else x
 | []=>rfl
 | p::r=>by
  have ih:=valV_map k j y r
  rw[List.map_cons]
  by_cases h:p.1=k
  ·rw[if_pos h]
   by_cases e:p.1=j
   ·rw[valV_pos (p:=(p.1,y)) e,valV_pos e,Option.map_some,if_pos (e.symm.trans h)]
   ·rw[valV_neg (p:=(p.1,y)) e,valV_neg e,ih]
  ·rw[if_neg h]
   by_cases e:p.1=j
   ·rw[valV_pos (p:=p) e,valV_pos e,Option.map_some,if_neg (fun z=>h (e.trans z))]
   ·rw[valV_neg (p:=p) e,valV_neg e,ih]
theorem valV_snoc (k j:κ) (y:V) : ∀ kvs:List (κ × V),valV kvs k=none->valV (kvs++[(k,y)]) j=if j=k then some y else valV kvs j
 | [],_=>by
  by_cases e:k=j
  ·rw[if_pos e.symm];exact valV_pos (p:=(k,y)) e
  ·rw[if_neg (fun z=>e z.symm)];exact valV_neg (p:=(k,y)) e
 | p::r,hn=>by
  rw[List.cons_append]
  have hk : ¬ p.1=k:=fun z=>by rw[valV_pos z] at hn;cases hn
  rw[valV_neg hk] at hn
  have ih:=valV_snoc k j y r hn
  by_cases e:p.1=j
  ·rw[valV_pos e,valV_pos e,if_neg (fun z=>hk (e.trans z))]
  ·rw[valV_neg e,valV_neg e,ih]
theorem valV_put (kvs:List (κ × V)) (k j:κ) (y:V):valV (putK kvs k y) j=if j=k then some y else valV kvs j:= by
 unfold putK
 by_cases a:(kvs.any fun kv=>decide (kv.1=k))=true
 ·rw[if_pos a,valV_map]
  rw[valV_any] at a
  by_cases e:j=k
  ·obtain ⟨x,hx⟩:=Option.isSome_iff_exists.mp a
   rw[if_pos e,e,hx,Option.map_some,if_pos rfl]
  ·rw[if_neg e]
   cases valV kvs j with
   | none=>rfl
   | some x=>rw[Option.map_some,if_neg e]
 ·rw[if_neg a]
  refine valV_snoc k j y kvs ?_
  rw[valV_any] at a
  cases q:valV kvs k with
  | none=>rfl
  | some x=>rw[q] at a;exact (a rfl).elim
theorem length_putK (kvs:List (κ × V)) (k:κ) (v:V):(putK kvs k v).length<=kvs.length+1:= by
 unfold putK
 split
 ·rw[List.length_map];omega
 ·rw[List.length_append,List.length_cons,List.length_nil];omega
theorem RelO.isSome_eq {o:Option V} {u:Option Value} (r:RelO o u):o.isSome=u.isSome:= by
 cases o with
 | none=>cases u with
  | none=>rfl
  | some _=>exact (show False from r).elim
 | some _=>cases u with
  | none=>exact (show False from r).elim
  | some _=>rfl
theorem RelO.getD {o:Option V} {u:Option Value} {d:V} {d':Value} (r:RelO o u) (rd:RelV d d'):RelV (o.getD d) (u.getD d'):= by
 cases o with
 | none=>cases u with
  | none=>exact rd
  | some _=>exact (show False from r).elim
 | some _=>cases u with
  | none=>exact (show False from r).elim
  | some _=>exact r
theorem KV.val {kvs:List (κ × V)} {vs:List (κ × Value)} (r:KV kvs vs) (k:κ):RelO (valV kvs k) (valueAt vs k):= by
 unfold KV at r
 induction r with
 | nil=>exact True.intro
 | @cons p q ps qs h t ih=>
  obtain ⟨h1,h2⟩:=h
  by_cases e:p.1=k
  ·have e':q.1=k:=h1.symm.trans e
   have b:valueAt (q::qs) k=some q.2:=by simp [valueAt,List.find?_cons,e']
   rw[valV_pos e,b];exact h2
  ·have e' : ¬ q.1=k:=fun z=>e (h1.trans z)
   have b:valueAt (q::qs) k=valueAt qs k:=by simp [valueAt,List.find?_cons,e']
   rw[valV_neg e,b];exact ih
theorem KV.any {kvs:List (κ × V)} {vs:List (κ × Value)} (r:KV kvs vs) (k:κ):(kvs.any fun kv=>decide (kv.1=k))=vs.any fun kv=>decide (kv.1=k):= by
 unfold KV at r
 induction r with
 | nil=>rfl
 | cons h t ih=>rw[List.any_cons,List.any_cons,ih,h.1]
theorem KV.repl {kvs:List (κ × V)} {vs:List (κ × Value)} (r:KV kvs vs) (k:κ) {y:V} {u:Value} (ry:RelV y u) :
  KV (kvs.map fun kv=>if kv.1=k then (kv.1,y) else kv) (vs.map fun kv=>if kv.1=k then (kv.1,u) else kv):= by
 unfold KV at r ⊢
 induction r with
 | nil=>exact .nil
 | @cons p q ps qs h t ih=>
  rw[List.map_cons,List.map_cons]
  refine .cons ?_ ih
  obtain ⟨h1,h2⟩:=h
  by_cases e:p.1=k
  ·rw[if_pos e,if_pos (h1.symm.trans e)];exact ⟨h1,ry⟩
  ·rw[if_neg e,if_neg (fun z=>e (h1.trans z))];exact ⟨h1,h2⟩
theorem KV.put {kvs:List (κ × V)} {vs:List (κ × Value)} (r:KV kvs vs) (k:κ) {y:V} {u:Value} (ry:RelV y u):KV (putK kvs k y) (stored vs k u):= by
 unfold putK stored
 rw[r.any k]
 by_cases e:(vs.any fun kv=>decide (kv.1=k))=true
 ·rw[if_pos e,if_pos e];exact r.repl k ry
 ·rw[if_neg e,if_neg e];exact Paired.snoc r ⟨rfl,ry⟩
theorem KV.length {kvs:List (κ × V)} {vs:List (κ × Value)} (r:KV kvs vs):kvs.length=vs.length:=Paired.length r
end
theorem kV_is {P:Program} {w:World} {k:Key} {u:Value} (r:RelV (kV k) u):(mixKind P w).is k u=true:= by
 cases k with
 | inl i=>obtain ⟨t,e⟩:=(show ∃ t,u=Value.int i t from r);subst e;exact mixKind_int P w i t
 | inr x=>obtain ⟨t,e⟩:=(show ∃ t,u=Value.str x t from r);subst e;exact mixKind_str P w x t
theorem items_are {P:Program} {w:World} : ∀ {ks:List Key} {us:List Value},Vals (ks.map kV) us->ItemsAre (mixKind P w) ks us
 | [],_,r=>by rw[List.map_nil] at r;cases r;exact .nil
 | k::ks,_,r=>by
  rw[List.map_cons] at r
  cases r with
  | cons h t=>exact .cons (kV_is h) (items_are t)
abbrev KT (H:Hp):List (List Key × V)->List (List Key × Addr × Value)->Prop:=Paired fun p q=>p.1=q.1/\H q.2.1=some (.tup (p.1.map kV))/\RelV p.2 q.2.2
theorem KT.val {H:Hp} {kvs:List (List Key × V)} {xs:List (List Key × Addr × Value)} (r:KT H kvs xs) (k:List Key):RelO (valV kvs k) ((atKey xs k).map (·.2)):= by
 induction r with
 | nil=>exact True.intro
 | @cons p q ps qs h t ih=>
  obtain ⟨h1,_,h2⟩:=h
  by_cases e:p.1=k
  ·have e':q.1=k:=h1.symm.trans e
   have b:atKey (q::qs) k=some q.2:=by simp [atKey,List.find?_cons,e']
   rw[valV_pos e,b];exact h2
  ·have e' : ¬ q.1=k:=fun z=>e (h1.trans z)
   have b:atKey (q::qs) k=atKey qs k:=by simp [atKey,List.find?_cons,e']
   rw[valV_neg e,b];exact ih
theorem KT.repl {H:Hp} {kvs:List (List Key × V)} {xs:List (List Key × Addr × Value)} (r:KT H kvs xs) (k:List Key) {y:V} {u:Value} (ry:RelV y u) :
  KT H (kvs.map fun kv=>if kv.1=k then (kv.1,y) else kv) (xs.map (putAt k u)):= by
 induction r with
 | nil=>exact .nil
 | @cons p q ps qs h t ih=>
  rw[List.map_cons,List.map_cons]
  refine .cons ?_ ih
  obtain ⟨h1,h2,h3⟩:=h
  unfold putAt
  by_cases e:p.1=k
  ·rw[if_pos e,if_pos (h1.symm.trans e)];exact ⟨h1,h2,ry⟩
  ·rw[if_neg e,if_neg (fun z=>e (h1.trans z))];exact ⟨h1,h2,h3⟩
theorem KT.put {H:Hp} {kvs:List (List Key × V)} {xs:List (List Key × Addr × Value)} (r:KT H kvs xs) (k:List Key) {b:Addr} {y:V} {u:Value} (hb:H b=some (.tup (k.map kV))) (ry:RelV y u) :
  KT H (putK kvs k y) (storedH xs k b u):= by
 have e:(kvs.any fun kv=>decide (kv.1=k))=(atKey xs k).isSome:= by
  rw[valV_any,(r.val k).isSome_eq,Option.isSome_map]
 unfold putK storedH
 rw[e]
 by_cases q:(atKey xs k).isSome=true
 ·rw[if_pos q,if_pos q];exact r.repl k ry
 ·rw[if_neg q,if_neg q];exact Paired.snoc r ⟨rfl,hb,ry⟩
theorem KT.keeps {H H':Hp} {kvs:List (List Key × V)} {xs:List (List Key × Addr × Value)} (r:KT H kvs xs) (ht : ∀ b ys,H b=some (.tup ys)->H' b=some (.tup ys)):KT H' kvs xs:=
 Paired.mapP r fun _ _ z=>⟨z.1,ht _ _ z.2.1,z.2.2⟩
section
variable {P:Program} {w:World} {H:Hp} {h:Heap} {a:Addr}
theorem rd_of {u:HO} (ok:HOk P w H h) (e:Rd H a u):ObjOk P w H h a u:=e.ok ok
theorem dk_rd {kvs:List (Key × V)} (ok:HOk P w H h) (e:Rd H a (.dK kvs)):kvs.length<=sizeLine/\(a==sysModules)=false /\ ∃ vs,KV kvs vs/\h.DictOf (mixKind P w) a vs:=
 show ObjOk P w H h a (.dK kvs) from rd_of ok e
theorem dk_of {kvs:List (Key × V)} (ok:HOk P w H h) (e:H a=some (.dK kvs)):kvs.length<=sizeLine/\(a==sysModules)=false /\ ∃ vs,KV kvs vs/\h.DictOf (mixKind P w) a vs:=dk_rd ok (.inl e)
theorem key_of {ks:List Key} (ok:HOk P w H h) (e:H a=some (.tup (ks.map kV))):(tupleKind (mixKind P w)).is h ks a:= by
 obtain ⟨_,its,r,o,h1,h2,n,h3⟩:=(show ObjOk P w H h a (.tup (ks.map kV)) from ok a _ e)
 exact ⟨o,its.toArray,n,h1,h2,h3,by simpa using items_are r⟩
theorem dt_rd {kvs:List (List Key × V)} (ok:HOk P w H h) (e:Rd H a (.dT kvs)):kvs.length<=sizeLine/\(a==sysModules)=false /\
  ∃ xs,KT H kvs xs/\h.DictOfH (tupleKind (mixKind P w)) a xs:= by
 obtain ⟨z,y,xs,r,o,es,ep,h1,h2,h3,h4,h5⟩:=(show ObjOk P w H h a (.dT kvs) from rd_of ok e)
 refine ⟨z,y,xs,r,o,es,ep,h1,h2,h3,h4,fun x hx=>?_,h5⟩
 have all : ∀ {l:List (List Key × V)} {m:List (List Key × Addr × Value)},KT H l m -> ∀ x ∈ m,(tupleKind (mixKind P w)).is h x.1 x.2.1:= by
  intro l m q
  induction q with
  | nil=>intro x hx;exact nomatch hx
  | @cons p q ps qs hq t ih=>
   intro x hx
   rcases List.mem_cons.mp hx with e | hx
   ·subst e
    exact key_of ok (by rw[<- hq.1];exact hq.2.1)
   ·exact ih x hx
 exact all r x hx
theorem dt_of {kvs:List (List Key × V)} (ok:HOk P w H h) (e:H a=some (.dT kvs)):kvs.length<=sizeLine/\(a==sysModules)=false /\
  ∃ xs,KT H kvs xs/\h.DictOfH (tupleKind (mixKind P w)) a xs:=dt_rd ok (.inl e)
end
def DGet (H:Hp) (a:Addr) (y:V) (r:Option V):Prop:=
 (∃ kvs k,Rd H a (.dK kvs)/\y=kV k/\r=valV kvs k) \/ ∃ kvs k b,Rd H a (.dT kvs)/\y = .ref b/\H b=some (.tup (k.map kV))/\r=valV kvs k
def DPut (H:Hp) (a:Addr) (y v:V) (H':Hp):Prop:=
 (∃ kvs k,H a=some (.dK kvs)/\y=kV k/\kvs.length<sizeLine/\H'=upd H a (.dK (putK kvs k v))) \/
 ∃ kvs k b,H a=some (.dT kvs)/\y = .ref b/\H b=some (.tup (k.map kV))/\kvs.length<sizeLine/\H'=upd H a (.dT (putK kvs k v))
theorem DGet.k {H:Hp} {a:Addr} {kvs:List (Key × V)} {k:Key} (e:H a=some (.dK kvs)):DGet H a (kV k) (valV kvs k):=.inl ⟨kvs,k,.inl e,rfl,rfl⟩
theorem DGet.t {H:Hp} {a b:Addr} {kvs:List (List Key × V)} {k:List Key} (e:H a=some (.dT kvs)) (eb:H b=some (.tup (k.map kV))):DGet H a (.ref b) (valV kvs k):=.inr ⟨kvs,k,b,.inl e,rfl,eb,rfl⟩
theorem DPut.k {H:Hp} {a:Addr} {kvs:List (Key × V)} {k:Key} {v:V} (e:H a=some (.dK kvs)) (hl:kvs.length<sizeLine):DPut H a (kV k) v (upd H a (.dK (putK kvs k v))):=.inl ⟨kvs,k,e,rfl,hl,rfl⟩
theorem DPut.t {H:Hp} {a b:Addr} {kvs:List (List Key × V)} {k:List Key} {v:V} (e:H a=some (.dT kvs)) (eb:H b=some (.tup (k.map kV))) (hl:kvs.length<sizeLine) :
  DPut H a (.ref b) v (upd H a (.dT (putK kvs k v))):=.inr ⟨kvs,k,b,e,rfl,eb,hl,rfl⟩
section
variable {X:Cx} {pins:List (Addr × Obj)} {σ:St} {H:Hp} {s:Shared} {a:Addr} {y v:V} {u r:Value} {o:Option V} {A:Around} {E:Value->Shared->Prop}
theorem Inv.big (I:Inv X pins σ H s):sysModules<s.heap.objs.size:= by
 have h:mainGlobals<s.heap.objs.size:=(I.mod.glob.keeps I.bk).lt
 exact Nat.lt_trans (by decide) h
theorem d_getItem {Q:Value->Shared->Prop} (hu:A.units+1<cLine) (I:Inv X pins σ H s) (g:DGet H a y (some v)) (ry:RelV y u) (h : ∀ w' s',Inv X pins σ H s'->RelV v w'->Q w' s') :
  wpAny (model X.prog X.w) A (getItem (.ref a) u) Q E s:= by
 rcases g with ⟨kvs,k,e,ey,l⟩ | ⟨kvs,k,b,e,ey,eb,l⟩
 ·subst ey
  obtain ⟨z,hd,vs,rel,dd⟩:=dk_rd I.hok e
  obtain ⟨w',hw,rw'⟩:=RelO.some_of (v:=v) (o:=valueAt vs k) (by rw[l];exact rel.val k)
  exact wpAny_getItem_of (kV_is ry) dd.mapOf hw (h w' _ (I.tok _) rw')
 ·subst ey
  cases (show u=Value.ref b from ry)
  obtain ⟨z,hd,xs,rel,dd⟩:=dt_rd I.hok e
  obtain ⟨w',hw,rw'⟩:=RelO.some_of (v:=v) (o:=(atKey xs k).map (·.2)) (by rw[l];exact rel.val k)
  obtain ⟨p,hp,hp2⟩:=Option.map_eq_some_iff.mp hw
  refine wpAny_getItem_heap (tupleKind_room_in1 hu) (key_of I.hok eb) dd hp ?_
  rw[hp2]
  exact h w' _ (I.tok _) rw'
theorem d_write {h':Heap} {t':Nat} {ob:HO} (I:Inv X pins σ H s) (mu:Mut (H a)) (hs:Heap.SameBut a s.heap h') (he : ∃ q,h'.get? a=some q) (new:ObjOk X.prog X.w (upd H a ob) h' a ob) :
  Inv X pins σ (upd H a ob) { s with heap:=h',toks:=t' }:=
 I.write (x:=a) (e:=a) mu (.inl rfl) (fun b q hb z=>(hs.2 b hb).trans z) he new
theorem dk_new {P:Program} {w:World} {H':Hp} {h':Heap} {kvs:List (Key × V)} {vs:List (Key × Value)} (z:kvs.length<=sizeLine) (hd:(a==sysModules)=false) (rel:KV kvs vs) (dd:h'.DictOf (mixKind P w) a vs) :
  ObjOk P w H' h' a (.dK kvs):=⟨z,hd,vs,rel,dd⟩
theorem d_setItem {H':Hp} {Q:Unit->Shared->Prop} (hu:A.units+1<cLine) (I:Inv X pins σ H s) (g:DPut H a y v H') (ry:RelV y u) (rv:RelV v r) (h : ∀ s',Inv X pins σ H' s'->Q () s') :
  wpAny (model X.prog X.w) A (setItem (.ref a) u r) Q E s:= by
 rcases g with ⟨kvs,k,e,ey,l,eH⟩ | ⟨kvs,k,b,e,ey,eb,l,eH⟩
 ·subst ey eH
  obtain ⟨z,hd,vs,rel,dd⟩:=dk_of I.hok e
  have hz:vs.length<=sizeLine:=by rw[<- rel.length];exact z
  have hl:(putK kvs k v).length<=sizeLine:=by have:=length_putK kvs k v;omega
  refine wpAny_setItem_pairs (hsz:=hz) (kV_is ry) dd fun h' dd' hs=>h _ ?_
  have he : ∃ q,h'.get? a=some q:=let ⟨q,_,_,hq,_⟩:=dd';⟨q,hq⟩
  exact d_write I (by rw[e];exact True.intro) hs he (dk_new hl hd (rel.put k rv) dd')
 ·subst ey eH
  cases (show u=Value.ref b from ry)
  obtain ⟨z,hd,xs,rel,dd⟩:=dt_of I.hok e
  have hz:xs.length<=sizeLine:=by rw[<- Paired.length rel];exact z
  have hl:(putK kvs k v).length<=sizeLine:=by have:=length_putK kvs k v;omega
  refine wpAny_setItem_heap (hsz:=hz) (tupleKind_room_in1 hu) (key_of I.hok eb) dd fun h' dd' hs=>h _ ?_
  obtain ⟨q,es,ep,hq,h2,h3,h4,_,h5⟩:=dd'
  refine d_write I (by rw[e];exact True.intro) hs ⟨q,hq⟩ ⟨hl,hd,_,(rel.put k eb rv).keeps fun c ys ec=>?_,q,es,ep,hq,h2,h3,h4,h5⟩
  rw[upd_ne (ne_of ec e (fun z=>nomatch z))]
  exact ec
end
section
variable {X:Cx} {pins:List (Addr × Obj)} {σ:St} {H:Hp} {s:Shared} {a:Addr} {kvs:List (Key × V)} {k:Key} {u:Value} {A:Around} {E:Value->Shared->Prop}
end
def NoSl (i:Expr):Prop:=∀ ov iv,subscripted i false ov iv=operate [ov,iv] (getItem ov iv)
theorem subD_of {prog:Program} {w:World} {A:Around} {E:Value->Shared->Prop} {s:Shared} {env:Env} {value slice:Expr} {pos:Pos} {T id:String} {Q:Value->Shared->Prop}
  (hl : typeLookup (.type T) "__getitem__" = pure (some (.builtin id))) (hs : NoSl slice)
  (h:wpAny (model prog w) A (eval value env) (fun o s₁=>wpAny (model prog w) A (eval slice env) (fun i s₂=>s₂.TypeIs o T/\wpAny (model prog w) A (getItem o i) Q E s₂) E s₁) E s) :
  wpAny (model prog w) A (eval (.Subscript value slice pos) env) Q E s:= by
 refine Subscript_ (wpAny_mono h (fun o s₁ h₁=>wpAny_mono h₁ (fun i s₂ h₂=>?_) fun _ _ x=>x) fun _ _ x=>x)
 obtain ⟨hT,h₂⟩:=h₂
 unfold subscriptTail
 refine wpAny_bind ?_
 rw[getitemInPython_of_ne hT.not_modules]
 refine wpAny_bind (wpAny_specialOf hT hl ?_)
 have fin:wpAny (model prog w) A (subscripted slice false o i) (fun r s₃=>wpAny (model prog w) A (letTemporaryGo value o r >>= fun _=>pure r) Q E s₃) E s₂:= by
  rw[hs o i]
  exact wpAny_operating (wpAny_mono h₂ (fun r s₃ h₃=>wpAny_bind (wpAny_letTemporaryGo (wpAny_pure h₃))) fun _ _ x=>x)
 first
  | exact wpAny_pure (wpAny_bind fin)
  | exact wpAny_bind (wpAny_pure (wpAny_bind fin))
  | exact wpAny_bind fin
theorem dict_typeIs {X : Cx} {pins : List (Addr × Obj)} {σ : St} {H : Hp} {s : Shared} {a : Addr} {y : V} {o : Option V} (I : Inv X pins σ H s) (g : DGet H a y o) : s.TypeIs (.ref a) "dict":= by
 rcases g with ⟨kvs,k,e,_,_⟩ | ⟨kvs,k,b,e,_,_,_⟩
 ·obtain ⟨_,_,vs,_,dd⟩:=dk_rd I.hok e
  exact dd.typeIs
 ·obtain ⟨_,_,xs,_,dd⟩:=dt_rd I.hok e
  exact dd.typeIs
def tDGet (td ty:TE):TE:=fun σ H Q=>td σ H fun x H1=>ty σ H1 fun y H2=>∃ a v,x = .ref a/\DGet H2 a y (some v)/\Q v H2
def sDPut (td ty tv:TE):TS:=fun D σ H=>tv σ H fun v H1=>td σ H1 fun x H2=>ty σ H2 fun y H3=>∃ a H4,x = .ref a/\DPut H3 a y v H4/\D.nx σ H4
section
variable {X:Cx} {o i e value:Expr} {pos pos' tpos:Pos} {td ty tv:TE}
theorem pe_dget (hu:X.A.units+1<cLine) (ho:PE X o td) (hi:PE X i ty) (hs:NoSl i):PE X (.Subscript o i pos) (tDGet td ty):= by
 intro pins s σ H Q I h
 refine subD_of PySem.F.slot_dict_getitem.lookup hs (thn (ho pins s σ H _ I h) fun u s1 ⟨x,H1,I1,rx,q1⟩=>thn (hi pins s1 σ H1 _ I1 q1) fun iv s2 ⟨y,H2,I2,ry,a,v,ex,g,q2⟩=>?_)
 subst ex
 obtain rfl:u=Value.ref a:=rx
 exact ⟨dict_typeIs I2 g,d_getItem hu I2 g ry fun w' s3 I3 rw'=>⟨v,H2,I3,rw',q2⟩⟩
theorem ps_dput (hu:X.A.units+1<cLine) (ho:PE X o td) (hi:PE X i ty) (hv:PE X value tv) (hs:swapsWith value (some (.Subscript o i pos')) pos.line X.env=pure false) :
  PS X (.Assign [.Subscript o i pos'] value pos) (sDPut td ty tv):= by
 intro pins s σ H D I h
 refine wpAny_Assign_Subscript (thn (hv pins s σ H _ I h) fun r s1 ⟨v,H1,I1,rv,q1⟩=>thn (ho pins s1 σ H1 _ I1 q1) fun u s2 ⟨x,H2,I2,rx,q2⟩=>thn (hi pins s2 σ H2 _ I2 q2) fun iv s3 ⟨y,H3,I3,ry,a,H4,ex,g,q3⟩=>?_) hs
 subst ex
 obtain rfl:u=Value.ref a:=rx
 exact d_setItem hu I3 g ry rv fun s4 I4=>⟨σ,H4,I4,q3⟩
end
theorem dt_empty {P : Program} {w : World} {H : Hp} (h : Heap) (hb : sysModules < h.objs.size) : ObjOk P w H (h.push { cls:=.type "dict",data:=.dict #[] }) h.objs.size (.dT []):=
 ⟨Nat.zero_le _,beq_eq_false_iff_ne.mpr (Ne.symm (Nat.ne_of_lt hb)),[],.nil,_,#[],0,Heap.get?_push_size _ rfl,⟨rfl,rfl,rfl⟩,rfl,rfl,List.nodup_nil⟩
section
variable {X:Cx} {pos:Pos}
end
def tPairs:List (TE × TE)->St->Hp->(List (V × V)->Hp->Prop)->Prop
 | [],_,H,Q=>Q [] H
 | (tk,tv)::r,σ,H,Q=>tk σ H fun x H1=>tv σ H1 fun y H2=>tPairs r σ H2 fun ps H3=>Q ((x,y)::ps) H3
abbrev VV:List (V × V)->List (Value × Value)->Prop:=Paired fun p q=>RelV p.1 q.1/\RelV p.2 q.2
def PPs (X:Cx) (pos:Pos) (keys:List (Option Expr)) (values:List Expr) (trs:List (TE × TE)):Prop:=
 ∀ (pins:List (Addr × Obj)) (s:Shared) (σ:St) (H:Hp) (Q:List (V × V)->Hp->Prop),Inv X pins σ H s->tPairs trs σ H Q ->
  wpAny (model X.prog X.w) X.A (evalPairs (pairTrees keys values X.env pos)) (fun vs s'=>∃ ps H',Inv X pins σ H' s'/\VV ps vs/\Q ps H') X.xe s
theorem pps_nil {X:Cx} {pos:Pos}:PPs X pos [] [] []:=fun pins s σ H Q I h=>pairTrees_nil_walk ⟨[],H,I,.nil,h⟩
theorem pps_cons {X:Cx} {pos:Pos} {k v:Expr} {ks:List (Option Expr)} {vs:List Expr} {tk tv:TE} {trs:List (TE × TE)} (hk:PE X k tk) (hv:PE X v tv) (hr:PPs X pos ks vs trs) :
  PPs X pos (some k::ks) (v::vs) ((tk,tv)::trs):=fun pins s σ H Q I h=>
 pairTrees_cons_walk (thn (hk pins s σ H _ I h) fun u s1 ⟨x,H1,I1,rx,q1⟩=>thn (hv pins s1 σ H1 _ I1 q1) fun w2 s2 ⟨y,H2,I2,ry,q2⟩=>
  thn (hr pins s2 σ H2 _ I2 q2) fun ws s3 ⟨ps,H3,I3,rel,q3⟩=>⟨(x,y)::ps,H3,I3,.cons ⟨rx,ry⟩ rel,q3⟩)
structure M2 (X:Cx) (o:Expr) (m:Str) (apos:Pos) (e f:Expr) (cpos:Pos):Prop where
 base:attributeBase o m X.env (eval o X.env)=eval o X.env
 few:((backTo cpos (starEach [e,f] X.env)).all (fun x=>!x.1)&&(backToKw cpos (keywordEach [] X.env)).all (fun x=>x.1.isSome)
  && decide (([e,f]:List Expr).length+([]:List Keyword).length+(if ([]:List Keyword).isEmpty then 0 else 1)<30))=true
 line:(apos.endLine==cpos.line)=true
 trees:backTo cpos (starEach [e,f] X.env)=[(false,eval e X.env),(false,eval f X.env)]
def IsD (H:Hp) (a:Addr):Prop:=(∃ kvs,Rd H a (.dK kvs)) \/ ∃ kvs,Rd H a (.dT kvs)
theorem isD_at {X:Cx} {pins:List (Addr × Obj)} {σ:St} {H:Hp} {s:Shared} {a:Addr} (I:Inv X pins σ H s) (d:IsD H a) :
  s.TypeIs (.ref a) "dict" /\ (∀ b,Value.ref a = .ref b -> ∃ ob,s.heap.get? b = some ob /\ ob.dict = none) /\ (a == sysModules) = false:= by
 rcases d with ⟨kvs,e⟩ | ⟨kvs,e⟩
 ·obtain ⟨_,hd,vs,_,dd⟩:=dk_rd I.hok e
  refine ⟨dd.typeIs,fun b q=>?_,hd⟩
  cases q
  obtain ⟨ob,_,_,h1,h2,_⟩:=dd
  exact ⟨ob,h1,h2.2.1⟩
 ·obtain ⟨_,hd,xs,_,dd⟩:=dt_rd I.hok e
  refine ⟨dd.typeIs,fun b q=>?_,hd⟩
  cases q
  obtain ⟨ob,_,_,h1,h2,_⟩:=dd
  exact ⟨ob,h1,h2.2.1⟩
section
variable {X:Cx} {pins:List (Addr × Obj)} {σ:St} {H:Hp} {s:Shared} {a:Addr} {y d:V} {u r:Value} {o:Option V} {A:Around} {E:Value->Shared->Prop}
theorem d_get2 {Q:Value->Shared->Prop} (hu:A.units+1<cLine) (I:Inv X pins σ H s) (g:DGet H a y o) (ry:RelV y u) (rd:RelV d r) (h : ∀ w' s',Inv X pins σ H s'->RelV (o.getD d) w'->Q w' s') :
  wpAny (model X.prog X.w) A (call (.builtin "dict.get") [.ref a,u,r]) Q E s:= by
 rcases g with ⟨kvs,k,e,ey,l⟩ | ⟨kvs,k,b,e,ey,eb,l⟩
 ·subst ey
  obtain ⟨z,hd,vs,rel,dd⟩:=dk_rd I.hok e
  refine call_meetsIn PySem.F.slot_dict_get dd.typeIs PySem.F.entry_dict_get (PySem.F.args_dict_get_3 _ _ _) (meets_dict_get_default (mixKind X.prog X.w) a (kV_is ry) hd r) ⟨_,dd.mapOf,h _ _ (I.tok _) ?_⟩
  rw[l]
  exact (rel.val k).getD rd
 ·subst ey
  cases (show u=Value.ref b from ry)
  obtain ⟨z,hd,xs,rel,dd⟩:=dt_rd I.hok e
  refine call_meetsIn PySem.F.slot_dict_get dd.typeIs PySem.F.entry_dict_get (PySem.F.args_dict_get_3 _ _ _) (meetsH_dict_get_default (tupleKind (mixKind X.prog X.w)) a b hd r) ⟨tupleKind_room_in1 hu,k,xs,key_of I.hok eb,dd,h _ _ (I.tok _) ?_⟩
  rw[l]
  exact (rel.val k).getD rd
end
def tDGet2 (td ty tx:TE):TE:=fun σ H Q=>td σ H fun x H1=>∃ a,x = .ref a/\IsD H1 a/\ty σ H1 fun y H2=>tx σ H2 fun z H3=>∃ o,DGet H3 a y o/\Q (o.getD z) H3
section
variable {X:Cx} {o e f:Expr} {apos cpos:Pos} {td ty tx:TE}
theorem pe_dget2 (hu : X.A.units + 1 < cLine) (ho : PE X o td) (he : PE X e ty) (hf : PE X f tx) (m : M2 X o "get" apos e f cpos) : PE X (.Call (.Attribute o "get" apos) [e,f] [] cpos) (tDGet2 td ty tx):= by
 intro pins s σ H Q I h
 refine wpAny_Call_method m.base m.few m.line PySem.F.plainAttrs_dict PySem.F.slot_dict_get PySem.F.type_dict_get (thn (ho pins s σ H _ I h) fun u s1 ⟨x,H1,I1,rx,a,ex,d,q1⟩=>?_)
 subst ex
 obtain rfl:u=Value.ref a:=rx
 obtain ⟨t1,t2,_⟩:=isD_at I1 d
 refine ⟨t1,t2,?_⟩
 rw[m.trees]
 refine Calls.callWith_builtin rfl (Calls.evalArgs_plain (Calls.spliced_cons (thn (he pins s1 σ H1 _ I1 q1) fun iv s2 ⟨y,H2,I2,ry,q2⟩=>
  Calls.spliced_cons (thn (hf pins s2 σ H2 _ I2 q2) fun fv s3 ⟨z,H3,I3,rz,ov,g,q3⟩=>Calls.spliced_nil ?_))))
 exact d_get2 hu I3 g ry rz fun w' s4 I4 rw'=>⟨_,H3,I4,rw',q3⟩
end
section
variable {X:Cx} {pins:List (Addr × Obj)} {σ:St} {H:Hp} {s:Shared} {a:Addr} {kvs:List (Key × V)} {A:Around} {E:Value->Shared->Prop}
end
section
variable {X:Cx} {pins:List (Addr × Obj)} {σ:St} {H:Hp} {s:Shared} {a:Addr} {y:V} {u:Value} {A:Around} {E:Value->Shared->Prop}
end
end L2
namespace L2
open PySem PySem.Spec PyProof.Rows
section
variable {X:Cx}
end
section
variable {κ:Type} [DecidableEq κ]
end
end L2
namespace L2
open PySem PySem.Spec PyProof.Rows
section
variable {X:Cx} {K:PySem.W.Frag}
theorem idx_before : ∀ (ns:List Int) (z:Int) (m:Nat),m<ns.idxOf z->ns.getD m 0≠z
 | [],_,_,h=>by simp at h
 | a::r,z,m,h=>by
  rw[List.idxOf_cons] at h
  by_cases e:a=z
  ·subst e;simp at h
  ·have e':(a==z)=false:=beq_eq_false_iff_ne.mpr e
   rw[e'] at h
   cases m with
   | zero=>exact e
   | succ m=>exact idx_before r z m (by simp at h;omega)
def rIndex:V->List V->Hp->VK->Prop:=fun x vs H Q=>∃ (l:Addr) (ns:List Int) (z:Int),x = .ref l/\vs=[.int z]/\H l=some (.lst (ns.map V.int))/\z ∈ ns/\ns.length<=1000/\Q (.int (ns.idxOf z)) H
theorem mt_index : MtR X "list.index" rIndex:= by
 intro pins s σ H x vs v us Q I rx rv h
 obtain ⟨l,ns,z,rfl,rfl,hH,hz,hl,q⟩:=h
 cases rx
 obtain ⟨u,rfl,ru⟩:=rv.one
 obtain ⟨hzz,its,n,r,hlen,e⟩:=I.lstM hH
 have hj:ns.idxOf z<ns.length:=List.idxOf_lt_length_of_mem hz
 have l1:its.toArray.size=ns.length:=by rw[List.size_toArray,<- r.length,ltm]
 have at_ : ∀ m (hm:m<its.toArray.size),∃ t,its.toArray[m] = .int (ns.getD m 0) t:=fun m hm=>(vals_int_at r (i:=m) (v:=its.toArray[m]) (by simp)).imp fun t e=>e.1
 refine call_meets F.slot_list_index ⟨_,e,rfl⟩ F.entry_list_index (F.args_list_index_2 _ _) (SeqAt.list_indexAt l its.toArray n none #[] u (fun y=>match y with | .int i _=>i==z | _=>false) (ns.idxOf z) (by omega) (by omega) ?_ ?_) ⟨e,?_,?_⟩
 ·obtain ⟨t,q1⟩:=at_ (ns.idxOf z) (by omega)
  rw[q1]
  show (ns.getD (ns.idxOf z) 0==z)=true
  rw[List.getD_eq_getElem?_getD,List.getElem?_eq_getElem hj]
  simp
 ·intro m hm hmj
  obtain ⟨t,q1⟩:=at_ m hm
  rw[q1]
  show (ns.getD m 0==z)=false
  exact beq_eq_false_iff_ne.mpr (idx_before ns z m hmj)
 ·intro y hy
  obtain ⟨m,hm,rfl⟩:=Array.mem_iff_getElem.mp hy
  obtain ⟨t,q1⟩:=at_ m hm
  rw[q1]
  obtain ⟨t2,rfl⟩:=ru
  exact eqAt_V (y:=.int _) (x:=.int _) ⟨_,rfl⟩ ⟨_,rfl⟩ rfl rfl
 ·exact ⟨.int _,H,I.tok _,⟨_,rfl⟩,q⟩
end
end L2
namespace L2
open PySem
end L2
namespace L2
open PySem
def endStep (u:Int) (cs:List Int):List Int:=(List.range (cs.length-1)).map fun (k:Nat)=>(u+(k:Int))*cs.getD k 0+cs.getD (k+1) 0
def endC (l:Nat) (u:Int):Nat->List Int
 | 0=>List.replicate (l+1) 1
 | n+1=>endStep u (endC l u n)
def endF (l:Nat) (u:Int):Int:=(endC l u l).getD 0 0
def moStep (n:Nat) (cs:List Int):List Int:=0::(List.range n).map fun (j:Nat)=>cs.getD j 0+((j:Int)+1)*cs.getD (j+1) 0
def moC (n:Nat):Nat->List Int
 | 0=>1::List.replicate n 0
 | s+1=>moStep n (moC n s)
def manyOf (n c:Int):Int:=if 1<=c/\c<=n then (moC n.toNat n.toNat).getD c.toNat 0 else 0
def stAt (w:List Int) (k:Nat):Int:=(k:Int)*w.getD k 0+(if k=0 then w.getD (w.length-1) 0 else w.getD (k-1) 0)*(if (1:Int)<(k:Int) then 1 else (k:Int))
def stStep (row:List Int):List Int:=(List.range (row.length+1)).map (stAt (row++[0]))
def stC:Nat->List Int
 | 0=>[1]
 | n+1=>stStep (stC n)
theorem chk9:((List.range 9).all fun m=>decide (endF (m+1) 0=(stC (m+1)).sum)&&((List.range (m+2)).all fun c=>decide (manyOf ((m:Int)+1) (c:Int)=(stC (m+1)).getD c 0)))=true:=by decide +kernel
theorem m9 {n:Int} (h1:1<=n) (h9:n<=9):endF n.toNat 0=(stC n.toNat).sum /\ ∀ c:Int,manyOf n c=if 0<=c/\c<=n then (stC n.toNat).getD c.toNat 0 else 0:= by
 have q:=List.all_eq_true.mp chk9 (n.toNat-1) (List.mem_range.mpr (by omega))
 rw[Bool.and_eq_true,List.all_eq_true] at q
 rw[show n.toNat-1+1=n.toNat by omega] at q
 refine ⟨of_decide_eq_true q.1,fun c=>?_⟩
 by_cases hc:0<=c/\c<=n
 ·rw[if_pos hc]
  have q2:=of_decide_eq_true (q.2 c.toNat (List.mem_range.mpr (by omega)))
  rw[show ((n.toNat-1:Nat):Int)+1=n by omega,Int.toNat_of_nonneg hc.1] at q2
  exact q2
 ·rw[if_neg hc]
  unfold manyOf
  rw[if_neg (fun z=>hc ⟨by omega,z.2⟩)]
end L2
namespace L2
open PySem PySem.Spec PyProof.Rows
section
variable {X:Cx} {K:PySem.W.Frag}
theorem ints_vals : ∀ {its:List Value} {ns:List Int},Vals (ns.map V.int) its->IntsAre its ns
 | [],[],_=>.nil
 | _,n::ns,.cons ⟨t,e⟩ r=>by subst e;exact .cons n t (ints_vals r)
theorem call_sorted (h : X.K = K:=by rfl) : CallR X (.builtin "sorted") (fun xs H Q=>∃ (p : Addr) (ns : List Int),xs = [.ref p] /\ SqL K H p (ns.map V.int) /\ ns.length < 64 /\ ∀ (l : Addr) (ms : List Int),ms.Perm ns -> ms.Pairwise (· <= ·) -> H l = none -> Q (.ref l) (upd H l (.lst (ms.map V.int)))):= by
 subst h
 intro pins s σ H xs us Q I r h
 obtain ⟨p,ns,rfl,hq,h64,q⟩:=h
 obtain ⟨u,rfl,ru⟩:=vals1 r
 cases ru
 obtain ⟨its,r',pl,hz⟩:=I.list hq
 have hlen:=r'.length
 rw[List.length_map] at hlen
 refine sorted_ints pl.isList (ints_vals r') (by omega) fun out ms a1 a2 a3=>?_
 obtain ⟨e,he⟩:=sortedAll_at s.heap its out
 have hml:=a2.length_eq
 have he' : (sortedAll s.heap its out).get? (s.heap.objs.size + 1) = some { cls:=.type "list",dict:=none,data:=.seq out.toList.toArray e,slots:=#[] }:=by rw[Array.toArray_toList]; exact he
 exact ⟨.ref (s.heap.objs.size+1),_,I.laid (t':=s.toks) (fun _ _=>sortedAll_old) (Nat.le_succ _) (show ObjOk X.prog X.w _ _ _ (.lst (ms.map V.int)) from ⟨le_line (by rw[List.length_map];omega),out.toList,e,vals_ints a1,he'⟩),rfl,q _ ms a2 a3 (I.hok.fresh (Nat.le_succ _))⟩
end
end L2
namespace L2
open PySem PySem.Spec PyProof.Rows
end L2
namespace PySem
open Sem (wp)
open AutoSeq1 (wpAny_loadPart')
section
variable {prog:Program} {w:World} {A:Around} {E:Value->Shared->Prop} {s:Shared}
theorem wpAny_nextOf_tuple_item {it l:Addr} {i:Nat} {items} {x:Value} {Q:Value->Shared->Prop} (hit:s.heap.IsTupleIter it l i)
  (hl:s.heap.IsTuple l items) (hx:items[i]?=some x)
  (hQ : ∀ h',h'.IsTupleIter it l (i+1)->Heap.SameBut it s.heap h'->Q x { s with heap:=h' }) :
  wpAny (model prog w) A (Builtin.SmallTypes.nextOf (.ref it)) Q E s:= by
 obtain ⟨o,ho,hc,hd⟩:=id hit
 obtain ⟨ol,hol,_,nl,hdl⟩:=hl
 unfold Builtin.SmallTypes.nextOf
 refine wpAny_bind (wpAny_callSpecial?_slot (name:=Str.ofString "__next__") hit.typeIs F.slot_tuple_iterator_next
  (wpAny_call_entry F.slot_tuple_iterator_next hit.typeIs F.entry_tuple_iterator_next ?_ (F.args_tuple_iterator_next_1 _)))
 show wpAny _ _ (field (.ref it) 0 >>= _) _ _ s
 refine wpAny_bind (wpAny_field ho hd (x:=.ref l) rfl ?_)
 show wpAny _ _ (if (Value.ref l==Value.none)=true then _ else _) _ _ s
 rw[if_neg (show ¬ ((Value.ref l==Value.none)=true) from Bool.false_ne_true)]
 show wpAny _ _ (field (.ref it) 1 >>= _) _ _ s
 refine wpAny_bind (wpAny_field ho hd (x:=.int i 0) rfl ?_)
 show wpAny _ _ (seqItems? (.ref l) >>= _) _ _ s
 refine wpAny_bind (wpAny_seqItems hol hdl ?_)
 simp only [Int.toNat_natCast,hx]
 refine wpAny_bind (wpAny_setField ho hd (by simp) (wpAny_pure ⟨x,rfl,wpAny_pure (hQ _ ?_ (Heap.SameBut.update ..))⟩))
 exact ⟨_,Heap.get?_update_self _ ho (Obj.isFreed_of_fields (Obj.data_mapFields hd _)),(Obj.cls_mapFields ..).trans hc,by
  rw[Obj.data_mapFields hd];simp [rawInt]⟩
theorem wpAny_nextOf_tuple_end {it l:Addr} {i:Nat} {items} {Q:Value->Shared->Prop} (hh:A.handled=none)
  (hit:s.heap.IsTupleIter it l i) (hl:s.heap.IsTuple l items) (hx:items[i]?=none)
  (hE : ∀ h' e,Heap.ExtBut it s.heap h' -> (∃ o,h'.get? e = some o /\ o.cls = .type "StopIteration") -> E (.ref e) { s with heap:=h' }) :
  wpAny (model prog w) A (Builtin.SmallTypes.nextOf (.ref it)) Q E s:= by
 obtain ⟨o,ho,hc,hd⟩:=id hit
 obtain ⟨ol,hol,_,nl,hdl⟩:=hl
 unfold Builtin.SmallTypes.nextOf
 refine wpAny_bind (wpAny_callSpecial?_slot (name:=Str.ofString "__next__") hit.typeIs F.slot_tuple_iterator_next
  (wpAny_call_entry F.slot_tuple_iterator_next hit.typeIs F.entry_tuple_iterator_next ?_ (F.args_tuple_iterator_next_1 _)))
 show wpAny _ _ (field (.ref it) 0 >>= _) _ _ s
 refine wpAny_bind (wpAny_field ho hd (x:=.ref l) rfl ?_)
 show wpAny _ _ (if (Value.ref l==Value.none)=true then _ else _) _ _ s
 rw[if_neg (show ¬ ((Value.ref l==Value.none)=true) from Bool.false_ne_true)]
 show wpAny _ _ (field (.ref it) 1 >>= _) _ _ s
 refine wpAny_bind (wpAny_field ho hd (x:=.int i 0) rfl ?_)
 show wpAny _ _ (seqItems? (.ref l) >>= _) _ _ s
 refine wpAny_bind (wpAny_seqItems hol hdl ?_)
 simp only [Int.toNat_natCast,hx]
 refine wpAny_bind (wpAny_rule (wpAny_bind (wpAny_setField ho hd (by simp) ?_)))
 show wpAny _ _ (newExc (.type "StopIteration") [] >>= _) _ _ _
 refine wpAny_bind ?_
 simp only [newExc,newTuple]
 refine wpAny_bind (wpAny_newObj_type ?_ (by size_fits))
 refine wpAny_bind (m:=firstArgMember _ _) (wpAny_of_eq (a:=Value.none) (by first | rfl | (simp only [firstArgMember];rfl)) ?_)
 refine wpAny_newObj_type ?_ (by size_fits)
 simp only [raiseNew]
 refine wpAny_bind (wpAny_handled ?_)
 first | rw[show A.in1.handled=none from hh] | rw[hh]
 refine wpAny_bind (wpAny_pure (wpAny_throw ?_))
 exact hE _ _ (((Heap.SameBut.update ..).extBut.push _).push _) ⟨_,Heap.get?_push_size _ rfl,rfl⟩
end
theorem Draws.tuple {prog:Program} {w:World} {A:Around} (hh:A.handled=none) (it l:Addr) (hne:l≠it) (items:Array Value) :
  Draws prog w A it [it,l] items.size (fun i v=>items[i]?=some v) (fun i h=>h.IsTupleIter it l i/\h.IsTuple l items) where
 live:=fun _ _ st=>let ⟨o,ho,_⟩:=st.1;⟨o,ho⟩
 frame:=fun _ _ _ st hk=>⟨st.1.at fun o e=>hk it (by simp) o e,st.2.at fun o e=>hk l (by simp) o e⟩
 item:=fun i s Q E hi st hQ=>by
  refine wpAny_nextOf_tuple_item st.1 st.2 (x:=items[i]) (by simp [hi]) fun h' hit' hs'=>?_
  exact hQ _ h' s.toks (by simp [hi]) ⟨hit',st.2.extBut hs'.extBut hne⟩ hs'
 done:=fun s Q E st hE=>wpAny_nextOf_tuple_end hh st.1 st.2 (by simp) hE
theorem meets_enumerate_newT (l:Addr) (items:Array Value) (n:Nat) (dct:Option Addr) (sl:Array (Option Value)) :
  Meets (Builtin.«enumerate.__new__» ⟨[.type "enumerate",.ref l],[]⟩) (fun _ R s=>s.heap.get? l = some { cls:=.type "tuple",dict:=dct,data:=.seq items n,slots:=sl } /\
   R (.ok (.ret (.ref (s.heap.push { cls:=.type "tuple_iterator",data:=.fields #[.ref l,.int 0 0] }).objs.size)))
    { s with heap:=(s.heap.push { cls:=.type "tuple_iterator",data:=.fields #[.ref l,.int 0 0] }).push { cls:=.type "enumerate",data:=.fields #[.none,.bool false,.ref s.heap.objs.size,rawInt 0,.none,.none] } }):=
 .of_wp fun prog w A R s h=>by
  obtain ⟨hp,g,d,tk,os⟩:=s;obtain ⟨hl,h⟩:=h
  have hsub:=sub_enumerate
  have hL:Heap.IsTuple (Shared.heap ⟨hp,g,d,tk,os⟩) l items:=⟨_,hl,rfl,n,rfl⟩
  wp_walk using wpAny_loadPart' hl
  refine wpAny_stack_any fun st=>wpAny_pure ?_
  split
  ·rename_i c _ _ _ _ _
   cases (c == Value.type "enumerate")
   ·wp_walk using wpAny_loadPart' hl,wpAny_pyIter_tuple hL
    exact ⟨_,rfl,h⟩
   ·wp_walk using wpAny_loadPart' hl,wpAny_pyIter_tuple hL
    exact ⟨_,rfl,h⟩
  ·wp_walk using wpAny_loadPart' hl,wpAny_pyIter_tuple hL
   exact ⟨_,rfl,h⟩
section
variable {prog:Program} {w:World} {A:Around} {E:Value->Shared->Prop} {s:Shared}
theorem call_enumerate_tuple {l:Addr} {items:Array Value} {Q:Value->Shared->Prop} (hL:s.heap.IsTuple l items)
  (h : ∀ h',IsEnum h' (s.heap.objs.size+1) s.heap.objs.size 0 .none->h'.IsTupleIter s.heap.objs.size l 0->h'.objs.size=s.heap.objs.size+2 ->
   (∀ b o,s.heap.get? b=some o->h'.get? b=some o)->Q (.ref (s.heap.objs.size+1)) { s with heap:=h' }) :
  wpAny (model prog w) A (call (.type "enumerate") [.ref l]) Q E s:= by
 obtain ⟨⟨c,dct,dt,sl⟩,hl,hc,n,hd⟩:=hL
 replace hc : c = .type "tuple":=hc
 replace hd:dt = .seq items n:=hd
 subst hc hd
 refine callType_new F.called_enumerate (by decide) (F.typeCall_enumerate_1 _) (F.newCall_enumerate_1 _) (fun obj=>F.args_object_init_2 obj _) F.entry_enumerate_new
  (meets_enumerate_newT l items n dct sl) ⟨hl,?_⟩
 have hz : (s.heap.push { cls:=.type "tuple_iterator",data:=.fields #[.ref l,.int 0 0] }).objs.size = s.heap.objs.size + 1:=Heap.size_push ..
 show _/\_
 rw[hz]
 have he : IsEnum ((s.heap.push { cls:=.type "tuple_iterator",data:=.fields #[.ref l,.int 0 0] }).push
   { cls:=.type "enumerate",data:=.fields #[.none,.bool false,.ref s.heap.objs.size,rawInt 0,.none,.none] }) (s.heap.objs.size + 1) s.heap.objs.size 0 .none:= by
  have:=Heap.get?_push_size (s.heap.push { cls:=.type "tuple_iterator",data:=.fields #[.ref l,.int 0 0] })
   (o:={ cls:=.type "enumerate",data:=.fields #[.none,.bool false,.ref s.heap.objs.size,rawInt 0,.none,.none] }) rfl
  rw[hz] at this;exact this
 refine ⟨⟨_,he,rfl⟩,h _ he ⟨_,Heap.get?_push_of_some _ (Heap.get?_push_size _ rfl),rfl,rfl⟩ (by rw[Heap.size_push,hz]) fun b o x=>Heap.get?_push_of_some _ (Heap.get?_push_of_some _ x)⟩
end
end PySem
namespace L2
open PySem PySem.Spec PyProof.Rows
theorem Inv.turnL {X:Cx} {pins:List (Addr × Obj)} {σ:St} {H:Hp} {s:Shared} {h':Heap} {t':Nat} {wr:List Addr} (I:Inv X pins σ H s) (k : ∀ b o,b ∉ wr->s.heap.get? b=some o->h'.get? b=some o) (f : ∀ b ∈ wr,FpOk X pins H b):Inv X pins σ H { s with heap:=h',toks:=t' }:= by
 have nit : ∀ b u,H b=some u->b ∉ wr:=fun b u e z=>by rw[(f b z).1] at e;cases e
 refine I.step (g':=s.gens) (d':=s.drawn) (ch:=wr) (fun b hb=>?_) (fun b o _ _ hc e _=>k b o hc e) (fun b o _ _ hc e _=>⟨o.slots,k b o hc e⟩) (fun _ _ _ _ n=>n)
  (fun b o hc e=>⟨o,k b o hc e⟩) (fun _ _ e=>e) (fun _ _ _ e=>e) (fun b ps e=>⟨#[],by rw[e];simp⟩) (fun m hm=>?_) (fun b u e=>?_) I.bare
 ·obtain ⟨_,a2,_,a4,a5,a6⟩:=f b hb
  exact ⟨a4,a2,a5,a6⟩
 ·obtain ⟨o,es,ep,ho,r⟩:=hm
  exact ⟨o,es,ep,k _ o (fun z=>(f _ z).2.1 rfl) ho,r⟩
 ·refine (I.hok b u e).stay (fun c v hc q=>k c v ?_ q) (fun _ q=>q) fun _ _ q=>q
  rcases hc with z | z
  ·rw[z];exact nit b u e
  ·exact nit c _ z
theorem Inv.turnNew {X:Cx} {pins:List (Addr × Obj)} {σ:St} {H:Hp} {s:Shared} {h':Heap} {t':Nat} {wr:List Addr} {T:Addr} {xs:List V} {its:List Value} (I:Inv X pins σ H s) (k : ∀ b o,b ∉ wr->s.heap.get? b=some o->h'.get? b=some o) (f : ∀ b ∈ wr,FpOk X pins H b)
  (hT:s.heap.objs.size<=T) (hz:xs.length<=sizeLine) (r:Vals xs its) (ht:h'.IsTuple T its.toArray):Inv X pins σ (upd H T (.tup xs)) { s with heap:=h',toks:=t' }:= by
 have hn:H T=none:=I.hok.fresh hT
 have nT : ∀ b o,s.heap.get? b=some o->b≠T:=fun b o e z=>absurd (Heap.lt_size e) (by rw[z];exact Nat.not_lt.mpr hT)
 have nit : ∀ b u,H b=some u->b ∉ wr:=fun b u e z=>by rw[(f b z).1] at e;cases e
 refine I.step (g':=s.gens) (d':=s.drawn) (ch:=wr) (fun b hb=>?_) (fun b o _ _ hc e _=>k b o hc e) (fun b o _ _ hc e _=>⟨o.slots,k b o hc e⟩) (fun b o _ e n=>by rw[upd_ne (nT b o e)];exact n)
  (fun b o hc e=>⟨o,k b o hc e⟩) (fun b xs e=>by rw[upd_ne (ne_of_none e hn)];exact e) (fun b o u e=>by rw[upd_ne (ne_of_none e hn)];exact e) (fun b ps e=>⟨#[],by rw[upd_ne (ne_of_none e hn),e];simp⟩) (fun m hm=>?_) (fun b u e=>?_) I.bare
 ·obtain ⟨_,a2,_,a4,a5,a6⟩:=f b hb
  exact ⟨a4,a2,a5,a6⟩
 ·obtain ⟨o,es,ep,ho,r⟩:=hm
  exact ⟨o,es,ep,k _ o (fun z=>(f _ z).2.1 rfl) ho,r⟩
 ·by_cases hb:b=T
  ·subst hb
   rw[upd_same] at e
   cases e
   exact ⟨hz,its,r,ht⟩
  ·rw[upd_ne hb] at e
   refine (I.hok b u e).stay (fun c v hc q=>k c v ?_ q) (fun c q=>by rw[upd_ne (ne_of_none q hn)];exact q) fun c ys q=>by rw[upd_ne (ne_of_none q hn)];exact q
   rcases hc with z | z
   ·rw[z];exact nit b u e
   ·exact nit c _ z
theorem for_it {J:It} {n:Nat} {g:TG} {tb:TS} {D:Ends} {σ:St} {H:Hp} (Pv:Nat->St->Hp->Prop) (h0:Pv 0 σ H) (hgo : ∀ i σ H,i<n->Pv i σ H->J.go i H) (hst : ∀ σ H,Pv n σ H->J.stop n H)
  (hs : ∀ i x σ H H',i<n->Pv i σ H->J.yld i H x H'->g x σ H' fun σ2 H2=>tb { D with nx:=Pv (i+1),ct:=Pv (i+1),bk:=D.nx } σ2 H2) (hd : ∀ σ H,Pv n σ H->D.nx σ H) :
  ∃ W:Nat->Nat->St->Hp->Prop,(∃ m,W 0 m σ H) /\ ∀ i m σ H,W i m σ H ->
   (J.stop i H/\D.nx σ H)\/(J.go i H /\ ∃ N:St->Hp->Prop,(∀ σ' H',N σ' H' -> ∃ m',m'<m/\W (i+1) m' σ' H') /\ ∀ x H',J.yld i H x H'->g x σ H' fun σ2 H2=>tb { D with nx:=N,ct:=N,bk:=D.nx } σ2 H2):= by
 refine ⟨fun i m σ H=>m=n-i/\i<=n/\Pv i σ H,⟨n,by simp,Nat.zero_le _,h0⟩,?_⟩
 rintro i m σ H ⟨rfl,hi,p⟩
 by_cases hlt:i<n
 ·exact .inr ⟨hgo i σ H hlt p,Pv (i+1),fun σ' H' p'=>⟨n-(i+1),by omega,rfl,hlt,p'⟩,fun x H' y=>hs i x σ H H' hlt p y⟩
 ·have e:i=n:=by omega
  subst e
  exact .inl ⟨hst σ H p,hd σ H p⟩
theorem lc_it {J:It} {n:Nat} {M:List (Option Nat)} {σ:St} {g:TG} {tc:TT} {te:TE} {F:List V->Hp->Prop} {H:Hp} (Pv:Nat->List V->Hp->Prop) (hz:n<=sizeLine) (h0:Pv 0 [] H) (hgo : ∀ i ys H,i<n->Pv i ys H->J.go i H) (hst : ∀ ys H,Pv n ys H->J.stop n H) (hl : ∀ i ys H,i<=n->Pv i ys H->ys.length<=i)
  (hs : ∀ i x ys H H',i<n->Pv i ys H->J.yld i H x H'->g x (inSt M σ) H' fun σ2 H2=>tc σ2 H2 fun b H3=>if b=true then te σ2 H3 fun v H4=>Pv (i+1) (ys++[v]) H4 else Pv (i+1) ys H3)
  (hd : ∀ ys H,Pv n ys H->F ys H):LcGoal J M σ g tc te F H:= by
 refine ⟨fun i m ys H=>m=n-i/\i<=n/\Pv i ys H,⟨n,by simp,Nat.zero_le _,h0⟩,?_⟩
 rintro i m ys H ⟨rfl,hi,p⟩
 have hy:=hl i ys H hi p
 refine ⟨by omega,?_⟩
 by_cases hlt:i<n
 ·exact .inr ⟨hgo i ys H hlt p,by omega,Pv (i+1),fun ys' H' p'=>⟨n-(i+1),by omega,rfl,hlt,p'⟩,fun x H' y=>hs i x ys H H' hlt p y⟩
 ·have e:i=n:=by omega
  subst e
  exact .inl ⟨hst ys H p,hd ys H p⟩
def IteT (K:PySem.W.Frag) (a:Addr):It:=
 ⟨fun i H=>∃ xs x,SqT K H a xs/\xs[i]?=some x,fun i H x H'=>∃ T y,H T=none/\x = .ref T/\H'=upd H T (.tup [.int (i:Int),y]) /\ ∀ xs,SqT K H a xs->xs[i]?=some y,fun i H=>∃ xs,SqT K H a xs/\xs.length<=i⟩
theorem turn_enumT {P:Program} {w:World} {K:PySem.W.Frag} {elts:List Expr} {kk:Nat} {ps:Pos} (a e it:Addr) (hei:e≠it):Turn P w K (.Tuple elts kk ps) (IteT K a) [e,it] e (fun i h=>(∃ old,IsEnum h e it i old)/\h.IsTupleIter it a i) where
 mem:=by simp
 obj:=fun i h st b hb=>by
  obtain ⟨⟨old,h1⟩,o,e2,c,d⟩:=st
  rcases List.mem_cons.mp hb with rfl | hb
  ·exact ⟨_,h1,fun v z=>by cases z⟩
  ·have:b=it:=by simpa using hb
   subst this
   exact ⟨o,e2,fun v z=>by rw[d] at z;cases z⟩
 keep:=fun i h h' st k=>⟨let ⟨old,h1⟩:=st.1;⟨old,k e (by simp) _ h1⟩,let ⟨o,h1,r⟩:=st.2;⟨o,k it (by simp) _ h1,r⟩⟩
 item:= by
  intro X hP hw hK hc i pins s σ H E I hf st hg
  subst hP hw hK
  obtain ⟨xs,x,hq,hx⟩:=hg
  obtain ⟨its,rv,p,hz⟩:=I.tuple hq
  obtain ⟨u,hu,ru⟩:=rv.get hx
  have hp:s.heap.IsTuple a its.toArray:=show s.heap.IsTuple a its.toArray from p
  have hai:a≠it:=fun z=>by
   obtain ⟨o1,e1,c1,_⟩:=hp
   obtain ⟨o2,e2,c2,_⟩:=st.2
   rw[z,e2] at e1;cases e1;rw[c1] at c2;injection c2 with c3;exact absurd c3 (by decide)
  have hea:e≠a:=fun z=>by
   obtain ⟨o1,e1,c1,_⟩:=hp
   obtain ⟨old,e2⟩:=st.1
   rw[<- z,e2] at e1;cases e1;injection c1 with c3;exact absurd c3 (by decide)
  have hh:X.A.in1.handled=none:=I.ok.hd hc
  have W:=WalksT.enumerateD (Draws.tuple (prog:=X.prog) (w:=X.w) hh it a hai its.toArray) e hei (by simp [hei,hea]) (by simp)
  have il:i<its.toArray.size:= by
   have:=(List.getElem?_eq_some_iff.mp hu).1
   simpa using this
  refine W.item i s _ _ il ⟨st.1,st.2,hp⟩ fun T vals h' tk hP hT ht mid k=>?_
  obtain ⟨t,y,hy,rfl⟩:=hP
  have ey:y=u:= by
   have:its.toArray[i]?=some u:=by simpa using hu
   rw[this] at hy;exact (Option.some.inj hy).symm
  subst ey
  have hf' : ∀ b ∈ [e,it],FpOk X pins H b:=hf
  have I1:Inv X pins σ (upd H T (.tup [.int (i:Int),x])) { s with heap:=h',toks:=tk }:=I.turnNew (its:=[.int i t,y]) k hf' hT (by simp [le_line]) (.cons ⟨t,rfl⟩ (.cons ru .nil)) ht
  have hTn:H T=none:=I.hok.fresh hT
  have hne : ∀ b ∈ [e,it],upd H T (.tup [.int (i:Int),x]) b=none:=fun b hb=>by
   have hbT:b≠T:=fun z=>absurd hb (by rw[z];exact W.apart _ _ _ mid)
   rw[upd_ne hbT];exact (hf b hb).1
  refine ⟨_,rfl,W.go elts kk ps i T { s with heap:=h',toks:=tk } _ E mid fun h'' st2 k2=>?_⟩
  refine ⟨.ref T,upd H T (.tup [.int (i:Int),x]),I1.turnL (t':=tk) (wr:=[e,it]) k2 (fun b hb=>⟨hne b hb,(hf b hb).2⟩),rfl,⟨T,x,hTn,rfl,rfl,fun ys hy=>by rw[I.tuple_inj hy hq];exact hx⟩,⟨st2.1,st2.2.1⟩,hne⟩
 done:= by
  intro X hP hw hK hc i pins s σ H E I hf st hg
  subst hP hw hK
  obtain ⟨xs,hq,hx⟩:=hg
  obtain ⟨its,rv,p,hz⟩:=I.tuple hq
  have hp:s.heap.IsTuple a its.toArray:=show s.heap.IsTuple a its.toArray from p
  have hai:a≠it:=fun z=>by
   obtain ⟨o1,e1,c1,_⟩:=hp
   obtain ⟨o2,e2,c2,_⟩:=st.2
   rw[z,e2] at e1;cases e1;rw[c1] at c2;injection c2 with c3;exact absurd c3 (by decide)
  have hh:X.A.in1.handled=none:=I.ok.hd hc
  have hl:=rv.length
  have st2:=st.2
  obtain ⟨old,st1⟩:=st.1
  unfold pyNext
  have hT : s.TypeIs (.ref e) "enumerate":=⟨_,st1,rfl⟩
  refine wpAny_bind (wpAny_attempt (wpAny_callSpecial?_slot (name:=Str.ofString "__next__") hT F.slot_enumerate_next (wpAny_call_entry F.slot_enumerate_next hT F.entry_enumerate_next ?_ (F.args_enumerate_next_1 _))))
  show wpAny _ _ (field (.ref e) 2 >>= _) _ _ _
  refine wpAny_bind (wpAny_field st1 rfl (x:=.ref it) rfl ?_)
  refine wpAny_bind (wpAny_nextOf_tuple_end hh st2 hp (by simp;omega) fun h' x he' hx'=>?_)
  obtain ⟨o,ho,hc'⟩:=hx'
  refine wpAny_bind (wpAny_isInstance (T:="StopIteration") (b:=true) ⟨o,ho,hc'⟩ isSubtype_stop ?_)
  exact wpAny_pure ⟨rfl,I.turnL (t':=s.toks) (wr:=[it]) (fun b o hb q=>he' b o (by simpa using hb) q) fun b hb=>hf b (List.mem_cons_of_mem _ hb)⟩
 self:=fun _ _ _ _ _ st h=>let ⟨_,h1⟩:=st.1;wpAny_pyIter_enum h1 h
def iEnumT (K:PySem.W.Frag) (ta:TA):TI:=fun σ H R=>ta σ H fun vs H1=>∃ a,vs=[.ref a]/\(∃ xs,SqT K H1 a xs)/\R (IteT K a) H1
theorem pi_enumT {X : Cx} {K : PySem.W.Frag} {elts : List Expr} {kk : Nat} {ps p pos : Pos} {l : Expr} {ta : TA} (hg : Gl X "enumerate") (hm : X.mg "enumerate" = none) (ha : PA X [l] ta) (hs : starEach [l] X.env = [(false,eval l X.env)]:=by rfl) (h : X.K = K:=by rfl) :
  PI X (.Tuple elts kk ps) (.Call (.Name "enumerate" p) [l] [] pos) (iEnumT K ta):= by
 subst h
 intro pins s σ H R I h
 refine Call_ (ld_blt I hg hm (PyProof.Rows.boot_enumerate) (PyProof.Rows.callWith_type1 (thn (ha pos pins s σ H _ I h) fun us s1 ⟨vs,H1,I1,r1,q1⟩=>?_) hs rfl))
 obtain ⟨a,e,⟨xs,hq⟩,q⟩:=q1
 subst e
 obtain ⟨u,rfl,ru⟩:=r1.one
 cases ru
 obtain ⟨its,rv,p,hz⟩:=I1.tuple hq
 have hp:s1.heap.IsTuple a its.toArray:=show s1.heap.IsTuple a its.toArray from p
 refine call_enumerate_tuple hp fun h' he hit hsz hk=>?_
 have I2:Inv X pins σ H1 { s1 with heap:=h',toks:=s1.toks }:=I1.kept hk
 refine wpAny_pyIter_enum he ⟨_,[s1.heap.objs.size+1,s1.heap.objs.size],_,_,H1,rfl,I2,turn_enumT a (s1.heap.objs.size+1) s1.heap.objs.size (Nat.succ_ne_self _),⟨⟨_,he⟩,hit⟩,fun b hb=>?_,q⟩
 have hge:s1.heap.objs.size<=b:= by
  rcases List.mem_cons.mp hb with rfl | hb
  ·exact Nat.le_succ _
  ·rw[List.mem_singleton.mp hb];exact Nat.le_refl _
 exact I1.fpOk hge (I1.hok.fresh hge)
def IteL (K:PySem.W.Frag) (a:Addr):It:=
 ⟨fun i H=>∃ xs x,SqL K H a xs/\xs[i]?=some x,fun i H x H'=>∃ T y,H T=none/\x = .ref T/\H'=upd H T (.tup [.int (i:Int),y]) /\ ∀ xs,SqL K H a xs->xs[i]?=some y,fun i H=>∃ xs,SqL K H a xs/\xs.length<=i⟩
theorem turn_enumL {P:Program} {w:World} {K:PySem.W.Frag} {elts:List Expr} {kk:Nat} {ps:Pos} (a e it:Addr) (hei:e≠it):Turn P w K (.Tuple elts kk ps) (IteL K a) [e,it] e (fun i h=>(∃ old,IsEnum h e it i old)/\h.IsListIter it a i) where
 mem:=by simp
 obj:=fun i h st b hb=>by
  obtain ⟨⟨old,h1⟩,o,e2,c,d⟩:=st
  rcases List.mem_cons.mp hb with rfl | hb
  ·exact ⟨_,h1,fun v z=>by cases z⟩
  ·have:b=it:=by simpa using hb
   subst this
   exact ⟨o,e2,fun v z=>by rw[d] at z;cases z⟩
 keep:=fun i h h' st k=>⟨let ⟨old,h1⟩:=st.1;⟨old,k e (by simp) _ h1⟩,let ⟨o,h1,r⟩:=st.2;⟨o,k it (by simp) _ h1,r⟩⟩
 item:= by
  intro X hP hw hK hc i pins s σ H E I hf st hg
  subst hP hw hK
  obtain ⟨xs,x,hq,hx⟩:=hg
  obtain ⟨its,rv,p,hz⟩:=I.list hq
  obtain ⟨u,hu,ru⟩:=rv.get hx
  have hp:s.heap.IsList a its.toArray:=show s.heap.IsList a its.toArray from p.isList
  have hai:a≠it:=fun z=>by
   obtain ⟨o1,e1,c1,_⟩:=hp
   obtain ⟨o2,e2,c2,_⟩:=st.2
   rw[z,e2] at e1;cases e1;rw[c1] at c2;injection c2 with c3;exact absurd c3 (by decide)
  have hea:e≠a:=fun z=>by
   obtain ⟨o1,e1,c1,_⟩:=hp
   obtain ⟨old,e2⟩:=st.1
   rw[<- z,e2] at e1;cases e1;injection c1 with c3;exact absurd c3 (by decide)
  have hh:X.A.in1.handled=none:=I.ok.hd hc
  have W:=WalksT.enumerateD (Draws.list (prog:=X.prog) (w:=X.w) hh it a hai its.toArray) e hei (by simp [hei,hea]) (by simp)
  have il:i<its.toArray.size:= by
   have:=(List.getElem?_eq_some_iff.mp hu).1
   simpa using this
  refine W.item i s _ _ il ⟨st.1,st.2,hp⟩ fun T vals h' tk hP hT ht mid k=>?_
  obtain ⟨t,y,hy,rfl⟩:=hP
  have ey:y=u:= by
   have:its.toArray[i]?=some u:=by simpa using hu
   rw[this] at hy;exact (Option.some.inj hy).symm
  subst ey
  have hf' : ∀ b ∈ [e,it],FpOk X pins H b:=hf
  have I1:Inv X pins σ (upd H T (.tup [.int (i:Int),x])) { s with heap:=h',toks:=tk }:=I.turnNew (its:=[.int i t,y]) k hf' hT (by simp [le_line]) (.cons ⟨t,rfl⟩ (.cons ru .nil)) ht
  have hTn:H T=none:=I.hok.fresh hT
  have hne : ∀ b ∈ [e,it],upd H T (.tup [.int (i:Int),x]) b=none:=fun b hb=>by
   have hbT:b≠T:=fun z=>absurd hb (by rw[z];exact W.apart _ _ _ mid)
   rw[upd_ne hbT];exact (hf b hb).1
  refine ⟨_,rfl,W.go elts kk ps i T { s with heap:=h',toks:=tk } _ E mid fun h'' st2 k2=>?_⟩
  refine ⟨.ref T,upd H T (.tup [.int (i:Int),x]),I1.turnL (t':=tk) (wr:=[e,it]) k2 (fun b hb=>⟨hne b hb,(hf b hb).2⟩),rfl,⟨T,x,hTn,rfl,rfl,fun ys hy=>by rw[I.list_inj hy hq];exact hx⟩,⟨st2.1,st2.2.1⟩,hne⟩
 done:= by
  intro X hP hw hK hc i pins s σ H E I hf st hg
  subst hP hw hK
  obtain ⟨xs,hq,hx⟩:=hg
  obtain ⟨its,rv,p,hz⟩:=I.list hq
  have hp:s.heap.IsList a its.toArray:=show s.heap.IsList a its.toArray from p.isList
  have hai:a≠it:=fun z=>by
   obtain ⟨o1,e1,c1,_⟩:=hp
   obtain ⟨o2,e2,c2,_⟩:=st.2
   rw[z,e2] at e1;cases e1;rw[c1] at c2;injection c2 with c3;exact absurd c3 (by decide)
  have hh:X.A.in1.handled=none:=I.ok.hd hc
  have hl:=rv.length
  have st2:=st.2
  obtain ⟨old,st1⟩:=st.1
  unfold pyNext
  have hT : s.TypeIs (.ref e) "enumerate":=⟨_,st1,rfl⟩
  refine wpAny_bind (wpAny_attempt (wpAny_callSpecial?_slot (name:=Str.ofString "__next__") hT F.slot_enumerate_next (wpAny_call_entry F.slot_enumerate_next hT F.entry_enumerate_next ?_ (F.args_enumerate_next_1 _))))
  show wpAny _ _ (field (.ref e) 2 >>= _) _ _ _
  refine wpAny_bind (wpAny_field st1 rfl (x:=.ref it) rfl ?_)
  refine wpAny_bind (wpAny_nextOf_list_end hh st2 hp (by simp;omega) fun h' x he' hx'=>?_)
  obtain ⟨o,ho,hc'⟩:=hx'
  refine wpAny_bind (wpAny_isInstance (T:="StopIteration") (b:=true) ⟨o,ho,hc'⟩ isSubtype_stop ?_)
  exact wpAny_pure ⟨rfl,I.turnL (t':=s.toks) (wr:=[it]) (fun b o hb q=>he' b o (by simpa using hb) q) fun b hb=>hf b (List.mem_cons_of_mem _ hb)⟩
 self:=fun _ _ _ _ _ st h=>let ⟨_,h1⟩:=st.1;wpAny_pyIter_enum h1 h
def iEnumL (K:PySem.W.Frag) (ta:TA):TI:=fun σ H R=>ta σ H fun vs H1=>∃ a,vs=[.ref a]/\(∃ xs,SqL K H1 a xs)/\R (IteL K a) H1
theorem pi_enumL {X : Cx} {K : PySem.W.Frag} {elts : List Expr} {kk : Nat} {ps p pos : Pos} {l : Expr} {ta : TA} (hg : Gl X "enumerate") (hm : X.mg "enumerate" = none) (ha : PA X [l] ta) (hs : starEach [l] X.env = [(false,eval l X.env)]:=by rfl) (h : X.K = K:=by rfl) :
  PI X (.Tuple elts kk ps) (.Call (.Name "enumerate" p) [l] [] pos) (iEnumL K ta):= by
 subst h
 intro pins s σ H R I h
 refine Call_ (ld_blt I hg hm (PyProof.Rows.boot_enumerate) (PyProof.Rows.callWith_type1 (thn (ha pos pins s σ H _ I h) fun us s1 ⟨vs,H1,I1,r1,q1⟩=>?_) hs rfl))
 obtain ⟨a,e,⟨xs,hq⟩,q⟩:=q1
 subst e
 obtain ⟨u,rfl,ru⟩:=r1.one
 cases ru
 obtain ⟨its,rv,p,hz⟩:=I1.list hq
 have hp:s1.heap.IsList a its.toArray:=show s1.heap.IsList a its.toArray from p.isList
 refine call_enumerate_list hp fun h' he hit hsz hk=>?_
 have I2:Inv X pins σ H1 { s1 with heap:=h',toks:=s1.toks }:=I1.kept hk
 refine wpAny_pyIter_enum he ⟨_,[s1.heap.objs.size+1,s1.heap.objs.size],_,_,H1,rfl,I2,turn_enumL a (s1.heap.objs.size+1) s1.heap.objs.size (Nat.succ_ne_self _),⟨⟨_,he⟩,hit⟩,fun b hb=>?_,q⟩
 have hge:s1.heap.objs.size<=b:= by
  rcases List.mem_cons.mp hb with rfl | hb
  ·exact Nat.le_succ _
  ·rw[List.mem_singleton.mp hb];exact Nat.le_refl _
 exact I1.fpOk hge (I1.hok.fresh hge)
end L2
namespace PySem
open Sem (wp)
open AutoSeq1 (wpAny_loadPart')
section
variable {prog:Program} {w:World} {A:Around} {E:Value->Shared->Prop} {s:Shared}
end
section
variable {prog:Program} {w:World} {A:Around} {E:Value->Shared->Prop} {s:Shared}
end
end PySem
namespace L2
open PySem PySem.Spec PyProof.Rows
end L2
namespace PySem
open Sem (wp)
open AutoSeq1 (wpAny_loadPart')
namespace RV
theorem mro : mroOf (.type "reversed") = pure [.type "reversed",.type "object"]:=by rw[mroOf_type]; kernel_rfl
theorem sub : isSubtype (.type "reversed") (.type "reversed") = pure true:=by rw[isSubtype_type]; kernel_rfl
end RV
section
variable {prog:Program} {w:World} {A:Around} {E:Value->Shared->Prop} {s:Shared}
end
end PySem
namespace HT
open PySem PySem.Spec PyProof.Rows
section
open PySem.SeqAt
open PySem.AutoSeq1 (wpAny_loadPart')
open PySem.MeetsSeq PySem.MeetsSeq2 PySem.MeetsSeq3
end
section
variable {prog:Program} {w:World} {A:Around} {E:Value->Shared->Prop} {s:Shared}
end
end HT
namespace L2
open PySem PySem.Spec PyProof.Rows
section
variable {X:Cx} {K:PySem.W.Frag}
end
end L2
namespace PySem
open Sem (wp)
open AutoSeq1 (wpAny_loadPart')
section
variable {prog:Program} {w:World} {A:Around} {E:Value->Shared->Prop} {s:Shared}
end
end PySem
namespace L2
open PySem PySem.Spec PyProof.Rows
section
variable {X:Cx} {K:PySem.W.Frag}
end
end L2
namespace L2
open PySem PySem.Spec PyProof.Rows
section
variable {X:Cx} {K:PySem.W.Frag}
def tTry2 (C D:Addr) (n:Nat) (tb:XK->TS) (th tk:TS):TS:=fun Z σ H=>tb (fun c _ H'=>(c = .ref C/\th Z (List.replicate n none) H')\/(c = .ref D/\tk Z (List.replicate n none) H')) Z σ H
theorem ps_try2 {x y:Str} {C D:Addr} {body:List Stmt} {b₀ c₀:Stmt} {suite tuite:List Stmt} {tb:XK->TS} {th tk:TS} {np hpos np2 hpos2 pos:Pos} (hst:X.stack=X.env::X.outer) (hfm:X.env.frame=some X.env.locals) (hc:X.calm=true)
  (hg : Gl X x) (hm : X.mg x = some (.ref C)) (hq : PySem.W.excIn X.K C bmV "ValueError.__new__" = true) (hg2 : Gl X y) (hm2 : X.mg y = some (.ref D)) (hq2 : PySem.W.excIn X.K D bmV "ValueError.__new__" = true) (hne : PySem.W.exmOne X.K (.ref D) (.ref C) = some false)
  (hb : ∀ pins E,PSs (tryCx X pins E) body (tb E)) (hh : ∀ pins ea,PSs (hndCx X pins ea) (b₀ :: suite) th) (hk : ∀ pins ea,PSs (hndCx X pins ea) (c₀ :: tuite) tk) (hd : (x == ("__debug__" : Str)) = false:=by decide) (hd2 : (y == ("__debug__" : Str)) = false:=by decide) :
  PS X (.Try body [.ExceptHandler (some (.Name x np)) none (b₀::suite) hpos,.ExceptHandler (some (.Name y np2)) none (c₀::tuite) hpos2] [] [] pos) (tTry2 C D X.N.length tb th tk):= by
 intro pins s σ H Z I h
 have back : ∀ {A:Around} {cm:Bool} {E:Value->Shared->Prop} {f:Flow} {s':Shared},SP (X.alt (X.pn++pins) A cm E) [] Z f s'->SP X pins Z f s':=fun {A cm E f s'} q=>by
  have un : ∀ {σ':St} {H':Hp},Inv (X.alt (X.pn++pins) A cm E) [] σ' H' s'->Inv X pins σ' H' s':=fun {σ' H'} J=>
   ⟨I.ok,J.os,J.bare,J.base,J.loc,J.cell,J.free,J.freeC,fun p hp=>J.pin p (by simpa using hp),J.hok,J.len⟩
  cases f with
  | next=>obtain ⟨σ',H',J,q⟩:=q;exact ⟨σ',H',un J,q⟩
  | brk=>obtain ⟨σ',H',J,q⟩:=q;exact ⟨σ',H',un J,q⟩
  | cont=>obtain ⟨σ',H',J,q⟩:=q;exact ⟨σ',H',un J,q⟩
  | ret v=>obtain ⟨x',σ',H',J,r,q⟩:=q;exact ⟨x',σ',H',un J,r,q⟩
 have I0:Inv (tryCx X pins (fun c _ H'=>(c = .ref C/\th Z (List.replicate X.N.length none) H')\/(c = .ref D/\tk Z (List.replicate X.N.length none) H'))) [] σ H s:=I.alt rfl I.ok.hd fun p hp=>by simpa using hp
 refine wpAny_Try_except (wpAny_mono (hb pins _ [] s σ H Z I0 h) (fun f s1 q=>?_) (fun e s1 q=>?_))
 ·have q':=back q
  cases f with
  | next=>exact wpAny_execs_nil q'
  | brk=>exact q'
  | cont=>exact q'
  | ret v=>exact q'
 ·obtain ⟨ea,cls,H',B,σ',rfl,J,⟨a0,fl⟩,c1,c2,c3,c4,hE⟩:=q
  rw[hst] at fl
  refine wpAny_looks_onW (by rw[I.ok.frames,hst]) hfm fl fun h4 hheld hsm4=>?_
  refine wpAny_landsW hheld fun h5 fl5 hsm5=>?_
  have sm5:=hsm4.trans hsm5
  have J5:=J.slots fl5.1 sm5 c1 c2 c3 (fun p hp=>c4 p (by simpa using hp))
  obtain ⟨ob,hob,hobc⟩:=fl5.there
  have Jh:Inv (hndCx X pins ea) [] σ' H' { s1 with heap:=h5 }:=J5.alt rfl (fun z=>by cases z) fun p hp=>hp
  have fin : ∀ {bs:List Stmt} {c:Stmt} {t:TS},(∀ pins ea,PSs (hndCx X pins ea) (c::bs) t)->t Z (List.replicate X.N.length none) H' -> ∀ (hp:Pos),
    codeAny (model X.prog X.w) (X.A.mark (some (.ref ea))) (.handlers (.ref ea) [.ExceptHandler none none (c::bs) hp] X.env) (fun r s₂=>match r with | .ok f=>SP X pins Z f s₂ | .error x=>cameBackBy (model X.prog X.w) X.A X.env X.xe x s₂) { s1 with heap:=h5 }:=fun {bs c t} ht hz hp=>by
   refine codeAny_handlers_suite ?_
   refine lands_againW fl5 fun h6 fl6 hsm6=>?_
   have J6:=J.slots fl6.1 (sm5.trans hsm6) c1 c2 c3 (fun p hp=>c4 p (by simpa using hp))
   have Jh6:Inv (hndCx X pins ea) [] σ' H' { s1 with heap:=h6 }:=J6.alt rfl (fun z=>by cases z) fun p hp=>hp
   have Jw:Inv (hndCx X pins ea) [] (List.replicate X.N.length none) H' { s1 with heap:=h6 }:=Jh6.weak (by rw[List.length_replicate];exact Jh6.len.symm) fun i v e=>by
    rw[List.getElem?_replicate] at e
    split at e <;> cases e
   exact wpAny_mono (ht pins ea [] _ _ H' Z Jw hz) (fun f s2 q2=>back q2) fun _ _ z=>z.elim
  refine wpAny_handleBy_cons (codeAny_handlers_test (ld_glob Jh hg hm ?_ hd)) (by intro q;cases q)
  rcases hE with ⟨hcls,hE⟩ | ⟨hcls,hE⟩
  ·subst hcls
   obtain ⟨bm,N,nm,q,bs,hdct,sn,sub,ab,col,dd,k0,k1,k2,k3,k5,mN,hC,hN,hni,TL⟩:=excObj Jh.ok.mod.kin hq
   refine wpAny_excMatches_sub_self (Jh.bk _ _ hC) hob hobc (TL.hasType (by decide +kernel)) ?_
   exact fin hh hE hpos
  ·subst hcls
   have LT:PySem.W.Looks (model X.prog X.w) h5 (typeOf (.ref ea)) (.ref D):= by
    rw[<- hobc]
    exact (PySem.W.Looks.ld hob).andThen .now
   refine (PySem.W.exm_one (M:=model X.prog X.w) (c:=.ref C) Jh.kIn LT hne) _ _ _ { s1 with heap:=h5 } (fun b o e=>e) ?_
   show wpAny _ _ (handleBy _ _ _) _ _ _
   refine wpAny_handleBy_cons (codeAny_handlers_test (ld_glob Jh hg2 hm2 ?_ hd2)) (by intro q;cases q)
   obtain ⟨bm,N,nm,q,bs,hdct,sn,sub,ab,col,dd,k0,k1,k2,k3,k5,mN,hC,hN,hni,TL⟩:=excObj Jh.ok.mod.kin hq2
   refine wpAny_excMatches_sub_self (Jh.bk _ _ hC) hob hobc (TL.hasType (by decide +kernel)) ?_
   exact fin hk hE hpos2
def eqVs:List V->List V->Bool
 | [],[]=>true
 | x::xs,y::ys=>eqV x y&&eqVs xs ys
 | _,_=>false
theorem range_succ_all (n:Nat) (f:Nat->Bool):(List.range (n+1)).all f=(f 0&&(List.range n).all fun j=>f (j+1)):= by
 rw[List.range_succ_eq_map,List.all_cons,List.all_map];rfl
theorem eqVs_range : ∀ (xs ys:List V),((List.range (min xs.length ys.length)).all (fun j=>eqV (xs.getD j .non) (ys.getD j .non))&&(xs.length==ys.length))=eqVs xs ys
 | [],[]=>rfl
 | [],_::_=>by simp [eqVs]
 | _::_,[]=>by simp [eqVs]
 | x::xs,y::ys=>by
  rw[List.length_cons,List.length_cons,Nat.succ_min_succ,range_succ_all]
  have h:=eqVs_range xs ys
  show (eqV x y&&(List.range (min xs.length ys.length)).all (fun j=>eqV (xs.getD j .non) (ys.getD j .non))&&(xs.length+1==ys.length+1))=(eqV x y&&eqVs xs ys)
  rw[<- h,Bool.and_assoc]
  congr 2
  simp
theorem eqVs_len {xs ys:List V} (h:xs.length≠ys.length):eqVs xs ys=false:= by
 rw[<- eqVs_range,Bool.and_eq_false_iff];right;simpa using h
theorem vals_at {xs:List V} {us:List Value} (r:Vals xs us) (j:Nat) (h:j<us.toArray.size):RelV (xs.getD j .non) us.toArray[j]/\j<xs.length:= by
 have hl:=r.length
 have hj:j<xs.length:=by simp at h;omega
 obtain ⟨u,e,ru⟩:=r.get (List.getElem?_eq_getElem hj)
 have:us.toArray[j]=u:= by
  have h2:j<us.length:=by simpa using h
  rw[List.getElem?_eq_getElem h2] at e
  simpa using Option.some.inj e
 rw[this,List.getD_eq_getElem?_getD,List.getElem?_eq_getElem hj]
 exact ⟨ru,hj⟩
theorem flat_at {xs:List V} (h:xs.all flatV=true) (j:Nat):flatV (xs.getD j .non)=true:= by
 rw[List.getD_eq_getElem?_getD]
 cases e:xs[j]? with
 | none=>rfl
 | some x=>exact List.all_eq_true.mp h x (List.mem_of_getElem? e)
theorem flats_eqAt {A:Around} {s:Shared} {xs ys:List V} {its its2:List Value} (r1:Vals xs its) (r2:Vals ys its2) (f1:xs.all flatV=true) (f2:ys.all flatV=true) (j:Nat) (h1:j<its.toArray.size) (h2:j<its2.toArray.size) :
  SeqAt.EqAt A s its.toArray[j] its2.toArray[j] (eqV (xs.getD j .non) (ys.getD j .non)):=
 eqAt_V (vals_at r1 j h1).1 (vals_at r2 j h2).1 (flat_at f1 j) (flat_at f2 j)
def SqEqF (K:PySem.W.Frag) (g:Bool->V):R2:=fun x y H Q=>∃ (a b:Addr) (xs ys:List V),x = .ref a/\y = .ref b/\((SqT K H a xs/\SqT K H b ys)\/(SqL K H a xs/\SqL K H b ys))/\xs.all flatV=true/\ys.all flatV=true/\Q (g (eqVs xs ys)) H
theorem op_neF (hu:X.A.units<cLine) (h:X.K=K:=by rfl):OpR X (compareOp .NotEq) (SqEqF K fun b=>.bl (!b)):= by
 subst h
 intro pins s σ H x y v u Q I rx ry h
 obtain ⟨a,b,ns,ms,rfl,rfl,hq,f1,f2,q⟩:=h
 cases rx
 cases ry
 rcases hq with ⟨ha,hb⟩ | ⟨ha,hb⟩
 ·obtain ⟨its,r1,p1,_⟩:=I.tuple ha
  obtain ⟨its2,r2,p2,_⟩:=I.tuple hb
  have l1:its.toArray.size=ns.length:=by rw[List.size_toArray,<- r1.length]
  have l2:its2.toArray.size=ms.length:=by rw[List.size_toArray,<- r2.length]
  refine SeqAt.RcNeAt.tuples p1 p2 hu (fun j h1 h2=>flats_eqAt r1 r2 f1 f2 j h1 h2) _ _ _ _ ?_
  rw[l1,l2,eqVs_range]
  exact ⟨.bl _,H,I,rfl,q⟩
 ·obtain ⟨its,r1,p1,_⟩:=I.list ha
  obtain ⟨its2,r2,p2,_⟩:=I.list hb
  have l1:its.toArray.size=ns.length:=by rw[List.size_toArray,<- r1.length]
  have l2:its2.toArray.size=ms.length:=by rw[List.size_toArray,<- r2.length]
  by_cases hl:ns.length=ms.length
  ·refine SeqAt.RcNeAt.lists p1.isList p2.isList (by rw[l1,l2,hl]) hu (fun j h1 h2=>flats_eqAt r1 r2 f1 f2 j h1 h2) _ _ _ _ ?_
   have e:=eqVs_range ns ms
   rw[<- hl,Nat.min_self] at e
   simp only [beq_self_eq_true,Bool.and_true] at e
   rw[l1,e]
   exact ⟨.bl _,H,I,rfl,q⟩
  ·rw[eqVs_len hl] at q
   exact SeqAt.RcNeAt.lists_lengths p1.isList p2.isList (by rw[l1,l2];simpa using hl) hu _ _ _ _ ⟨.bl _,H,I,rfl,q⟩
end
end L2
namespace L2
open PySem
def En:Nat->Int->Int
 | 0,_=>1
 | n+1,u=>u*En n u+En n (u+1)
def nf (f w:Int):Int:=if w=f then f+1 else f
theorem isWay_iff {ws:List Int}:isWay ws=true ↔ 1<=ws.length/\ws.length<=9/\wayGo 0 ws=true:= by
 unfold isWay
 simp only [Bool.and_eq_true,decide_eq_true_eq]
 exact ⟨fun ⟨⟨a,b⟩,c⟩=>⟨a,b,c⟩,fun ⟨a,b,c⟩=>⟨⟨a,b⟩,c⟩⟩
def pre:Nat->Int->List Int->Int
 | _,_,[]=>0
 | m,f,w::r=>w*En (r.length+m) f+pre m (nf f w) r
end L2
namespace L2
open PySem PySem.Spec PyProof.Rows
section
variable {X:Cx} {K:PySem.W.Frag}
theorem passE0:Passes (CXE X.prog X.w) X E0:= by
 intro pins σ H e s' x y h
 obtain ⟨ea,cls,H',B,_,_,_,_,_,_,_,_,_,hE⟩:=h
 exact hE.elim
end
end L2
namespace L2
open PySem
end L2
namespace L2
open PySem PySem.Spec PyProof.Rows
theorem cf_lookup : ∀ (names:List (Str × NameKind)) (n:Nat) (acc:List (Str × Addr)) (y:Str) (c:Addr),(cellsFrom n names acc).lookup y=some c->((y,NameKind.cell) ∈ names/\n<=c)\/acc.lookup y=some c
 | [],n,acc,y,c,h=>.inr h
 | (x,k)::r,n,acc,y,c,h=>by
  unfold cellsFrom at h
  split at h
  ·rename_i hk
   rcases cf_lookup r _ _ y c h with ⟨h1,h2⟩ | h1
   ·exact .inl ⟨List.mem_cons_of_mem _ h1,Nat.le_trans (Nat.le_succ _) h2⟩
   ·rw[List.lookup_cons] at h1
    cases hb:y==x with
    | true=>
     rw[hb] at h1
     have e:n=c:=Option.some.inj h1
     have ek:k=NameKind.cell:=nk_eq hk
     have ey:y=x:=by simpa using hb
     subst e ek ey
     exact .inl ⟨List.mem_cons_self,Nat.le_refl _⟩
    | false=>rw[hb] at h1;exact .inr h1
  ·rcases cf_lookup r _ _ y c h with ⟨h1,h2⟩ | h1
   ·exact .inl ⟨List.mem_cons_of_mem _ h1,h2⟩
   ·exact .inr h1
theorem cf_acc : ∀ (names:List (Str × NameKind)) (n:Nat) (acc:List (Str × Addr)) (y:Str),(∃ c,acc.lookup y=some c) -> ∃ c,(cellsFrom n names acc).lookup y=some c
 | [],n,acc,y,h=>h
 | (x,k)::r,n,acc,y,h=>by
  unfold cellsFrom
  split
  ·refine cf_acc r _ _ y ?_
   obtain ⟨c,hc⟩:=h
   rw[List.lookup_cons]
   cases y==x with
   | true=>exact ⟨n,rfl⟩
   | false=>exact ⟨c,hc⟩
  ·exact cf_acc r _ _ y h
theorem cf_has : ∀ (names:List (Str × NameKind)) (n:Nat) (acc:List (Str × Addr)) (y:Str),(y,NameKind.cell) ∈ names -> ∃ c,(cellsFrom n names acc).lookup y=some c
 | [],n,acc,y,h=>by simp at h
 | (x,k)::r,n,acc,y,h=>by
  unfold cellsFrom
  rcases List.mem_cons.mp h with e | h
  ·cases e
   rw[if_pos (by decide)]
   exact cf_acc r _ _ x ⟨n,by rw[List.lookup_cons];simp⟩
  ·split
   ·exact cf_has r _ _ y h
   ·exact cf_has r _ _ y h
theorem cf_keep : ∀ (names:List (Str × NameKind)) (n:Nat) (acc:List (Str × Addr)) (y:Str),(y,NameKind.cell) ∉ names->(cellsFrom n names acc).lookup y=acc.lookup y
 | [],n,acc,y,h=>rfl
 | (x,k)::r,n,acc,y,h=>by
  unfold cellsFrom
  split
  ·rename_i hk
   rw[cf_keep r _ _ y (fun z=>h (List.mem_cons_of_mem _ z)),List.lookup_cons]
   cases hb:y==x with
   | true=>
    have ek:k=NameKind.cell:=nk_eq hk
    have ey:y=x:=by simpa using hb
    subst ek ey
    exact absurd List.mem_cons_self h
   | false=>rfl
  ·exact cf_keep r _ _ y (fun z=>h (List.mem_cons_of_mem _ z))
theorem cf_own : ∀ (names:List (Str × NameKind)) (n:Nat) (acc:List (Str × Addr)) (y:Str) (c:Addr),(y,NameKind.cell) ∈ names->(cellsFrom n names acc).lookup y=some c->n<=c
 | [],n,acc,y,c,h,_=>by simp at h
 | (x,k)::r,n,acc,y,c,h,e=>by
  unfold cellsFrom at e
  by_cases hr:(y,NameKind.cell) ∈ r
  ·split at e
   ·exact Nat.le_trans (Nat.le_succ _) (cf_own r _ _ y c hr e)
   ·exact cf_own r _ _ y c hr e
  ·rcases List.mem_cons.mp h with q | q
   ·cases q
    rw[if_pos (by decide),cf_keep r _ _ x hr,List.lookup_cons] at e
    simp at e
    exact Nat.le_of_eq e
   ·exact absurd q hr
theorem cf_inj : ∀ (names:List (Str × NameKind)) (n:Nat) (acc:List (Str × Addr)),(∀ z d,(z,d) ∈ acc->d<n) -> ∀ (x y:Str) (c:Addr),(x,c) ∈ cellsFrom n names acc->(y,c) ∈ cellsFrom n names acc->n<=c->x=y:= by
 have gen : ∀ (names:List (Str × NameKind)) (m n:Nat) (acc:List (Str × Addr)),m<=n->(∀ z d,(z,d) ∈ acc->d<n)->(∀ x y c,(x,c) ∈ acc->(y,c) ∈ acc->m<=c->x=y) -> ∀ (x y:Str) (c:Addr),(x,c) ∈ cellsFrom n names acc->(y,c) ∈ cellsFrom n names acc->m<=c->x=y:= by
  intro names
  induction names with
  | nil=>intro m n acc _ _ h x y c h1 h2 h3;exact h x y c h1 h2 h3
  | cons p r ih=>
   obtain ⟨z,k⟩:=p
   intro m n acc hm hlt hin x y c h1 h2 h3
   unfold cellsFrom at h1 h2
   split at h1
   ·rename_i hk
    rw[if_pos hk] at h2
    refine ih m (n+1) ((z,n)::acc) (Nat.le_trans hm (Nat.le_succ _)) (fun a d hd=>?_) (fun a b d ha hb hd=>?_) x y c h1 h2 h3
    ·rcases List.mem_cons.mp hd with q | q
     ·cases q;exact Nat.lt_succ_self _
     ·exact Nat.lt_succ_of_lt (hlt a d q)
    ·rcases List.mem_cons.mp ha with q | q <;> rcases List.mem_cons.mp hb with q' | q'
     ·cases q;cases q';rfl
     ·cases q;exact absurd (hlt b n q') (Nat.lt_irrefl _)
     ·cases q';exact absurd (hlt a n q) (Nat.lt_irrefl _)
     ·exact hin a b d q q' hd
   ·rename_i hk
    rw[if_neg hk] at h2
    exact ih m n acc hm hlt hin x y c h1 h2 h3
 intro names n acc hlt x y c h1 h2 h3
 exact gen names n n acc (Nat.le_refl _) hlt (fun x y c hx _ hc=>absurd (hlt x c hx) (Nat.not_lt.mpr hc)) x y c h1 h2 h3
theorem cf_cell : ∀ (names:List (Str × NameKind)) (h:Heap) (acc:List (Str × Addr)) (lo:h.objs.size=h.objs.size),(∀ z d,(z,d) ∈ acc->h.objs.size<=d->h.IsCell d none) -> ∀ (y:Str) (c:Addr),(y,c) ∈ cellsFrom h.objs.size names acc->h.objs.size<=c->(pushCells h names).IsCell c none:= by
 have gen : ∀ (names:List (Str × NameKind)) (m:Nat) (h:Heap) (acc:List (Str × Addr)),m<=h.objs.size->(∀ z d,(z,d) ∈ acc->m<=d->h.IsCell d none) -> ∀ (y:Str) (c:Addr),(y,c) ∈ cellsFrom h.objs.size names acc->m<=c->(pushCells h names).IsCell c none:= by
  intro names
  induction names with
  | nil=>intro m h acc _ ha y c hy hc;exact ha y c hy hc
  | cons p r ih=>
   obtain ⟨z,k⟩:=p
   intro m h acc hm ha y c hy hc
   unfold cellsFrom at hy
   unfold pushCells
   split at hy
   ·rename_i hk
    rw[if_pos hk]
    have hz : (h.push { cls:=.type "cell",data:=.cell none }).objs.size = h.objs.size + 1:=Heap.size_push ..
    refine ih m (h.push { cls:=.type "cell",data:=.cell none }) ((z,h.objs.size) :: acc) (by rw[hz]; exact Nat.le_trans hm (Nat.le_succ _)) (fun a d hd hmd=>?_) y c (by rw[hz]; exact hy) hc
    rcases List.mem_cons.mp hd with q | q
    ·cases q;exact ⟨_,Heap.get?_push_size _ rfl,rfl⟩
    ·exact (ha a d q hmd).keeps fun b o e=>Heap.get?_push_of_some _ e
   ·rename_i hk
    rw[if_neg hk]
    exact ih m h acc hm ha y c hy hc
 intro names h acc _ ha y c hy hc
 exact gen names h.objs.size h acc (Nat.le_refl _) ha y c hy hc
theorem newEnv_cells {M:Model} {A:Around} {E:Value->Shared->Prop} {s:Shared} {scope:Scope} {globals:Addr} {closure:List (Str × Addr)} {qual:Str} {func:Option Addr} {code:Value} {outer:Env} {builtins:Addr} {Q:Env->Shared->Prop}
  (hQ : Q (newEnv scope s.heap.objs.size globals (cellsFrom (s.heap.objs.size + 1) scope.names closure) qual func code (some outer) builtins) { s with heap:=pushCells (s.heap.push { cls:=.type "dict",data:=.dict #[] }) scope.names }) :
  wpAny M A (newFunctionEnv scope globals closure [] qual func code (some outer) builtins) Q E s:= by
 simp only [newFunctionEnv,Option.isSome_some,if_true]
 refine wpAny_bind (wpAny_alloc ?_)
 refine wpAny_bind (wpAny_layCells _ (fun name kind cells=>by cases hkc:kind==NameKind.cell <;> simp [hkc]) _ _ _ _ ?_)
 rw[show ({ s with heap:=s.heap.push { cls:=.type "dict",data:=.dict #[] } } : Shared).heap.objs.size = s.heap.objs.size + 1 from Heap.size_push ..]
 rw[List.forIn_nil]
 refine wpAny_bind (wpAny_pure ?_)
 exact wpAny_pure hQ
def cxLcC (X:Cx) (N':List Str) (scope:Scope) (cl:List (Str × Addr)) (C:Addr) (s:Shared) (H:Hp) (fp:List Addr):Cx:=
 { X with N:=N',s₀:=s,H₀:=H,env:=compEnvC scope cl C X.env,outer:=X.stack,stack:=X.stack,ex:=fp,fn:=fun x=>scope.names.lookup x==some NameKind.cell,pn:=[],xe:=fun _ _=>False }
structure LcScC (N N':List Str) (M:List (Option Nat)) (sc osc:Scope):Prop where
 kind:sc.kind = .function
 len:N'.length=M.length
 uni : ∀ y ∈ sc.names,y.2=NameKind.cell->sc.names.lookup y.1=some NameKind.cell
 own : ∀ y ∈ sc.names,y.2=NameKind.local->sc.names.lookup y.1=some NameKind.local
 fre : ∀ y ∈ sc.names,y.2=NameKind.free->osc.names.lookup y.1=some NameKind.cell\/osc.names.lookup y.1=some NameKind.free
 at_ : ∀ (i j:Nat),M[i]?=some (some j) -> ∃ y,N'[i]?=some y/\N[j]?=some y/\sc.names.lookup y=some NameKind.free
theorem nko_eq0 {a:Option NameKind} {b:NameKind} (h:(a==some b)=true):a=some b:=nko_eq h
theorem lc_blockC {X:Cx} {N':List Str} {M:List (Option Nat)} {scope:Scope} {cl:List (Str × Addr)} {tg elt iter:Expr} {ifs:List Expr} {pos:Pos} {g:TG} {tc:TT} {te:TE} {pins:List (Addr × Obj)} {σ:St} {H2:Hp} {s2:Shared}
  {it:Addr} {fp:List Addr} {tn:Nat->Heap->Prop} {J:It} {F:List V->Hp->Prop} {RR:Value->Addr->Result->Shared->Prop} {E:Value->Shared->Prop}
  (S:LcScC X.N N' M scope X.env.scope) (hc:X.calm=true) (q0 : ∀ y c,(y,c) ∈ cl->X.env.cells.lookup y=some c) (q1 : ∀ y c,cl.lookup y=some c->X.env.cells.lookup y=some c) (q2 : ∀ y,(y,NameKind.free) ∈ scope.names -> ∃ c,cl.lookup y=some c)
  (hg : ∀ cl C s H fp,PG (cxLcC X N' scope cl C s H fp) tg g) (hf:Frm M g) (ht : ∀ cl C s H fp,PTs (cxLcC X N' scope cl C s H fp) ifs tc) (he : ∀ cl C s H fp,PE (cxLcC X N' scope cl C s H fp) elt te)
  (I2:Inv X pins σ H2 s2) (T:Turn X.prog X.w X.K tg J fp it tn) (st2:tn 0 s2.heap) (f2 : ∀ b ∈ fp,FpOk X pins H2 b)
  (hw : ∃ W:Nat->Nat->List V->Hp->Prop,(∃ m,W 0 m [] H2) /\ ∀ i m ys H,W i m ys H->ys.length<=sizeLine /\
   ((J.stop i H/\F ys H)\/(J.go i H/\ys.length<sizeLine /\ ∃ N:List V->Hp->Prop,(∀ ys' H',N ys' H' -> ∃ m',m'<m/\W (i+1) m' ys' H') /\ ∀ x H',J.yld i H x H'->g x (inSt M σ) H' fun σ2 H2=>tc σ2 H2 fun b H3=>
    if b=true then te σ2 H3 fun v H4=>N (ys++[v]) H4 else N ys H3)))
  (hend : ∀ (D C:Addr) (s':Shared) (H':Hp) (ys:List V),Inv X pins σ (upd H' D (.lst ys)) s'->H' D=none->s2.heap.objs.size<=D->s2.heap.objs.size<C->(∃ m,s'.heap.Ns C m)->(upd H' D (.lst ys)) C=none->F ys H'->RR (.ref D) C (.ok .next) s') :
  wpAny (model X.prog X.w) X.A (newList []) (fun acc s₃=>wpAny (model X.prog X.w) X.A (newFunctionEnv scope X.env.globals cl [] X.env.qual none .none (some X.env)) (fun cenv s₄=>
   codeAny (model X.prog X.w) X.A (.compStart (.ListComp elt [⟨tg,iter,ifs,0⟩] scope pos) 0 (.ref it) acc { cenv with scope:=relabel scope X.env }) (RR acc cenv.locals) s₄) E s₃) E s2:= by
 obtain ⟨W,⟨m0,w0⟩,turn⟩:=hw
 refine wpAny_newObj_type (newEnv_cells ?_)
 dsimp only
 generalize hG : s2.heap.push { cls:=.type "list",dict:=none,data:=.seq ([] : List Value).toArray } = G
 generalize hD:s2.heap.objs.size=D at *
 have cel0 : ∀ y c,(y,c) ∈ cl->c<D:=fun y c hm=>by
  obtain ⟨v,z⟩:=I2.cell y c (q0 y c hm)
  exact hD ▸ z.lt
 have hC:G.objs.size=D+1:=by rw[<- hG,Heap.size_push,hD]
 generalize hCC:G.objs.size=C at *
 have DC:D<C:=by rw[hC];exact Nat.lt_succ_self _
 have hpush : (G.push { cls:=.type "dict",data:=.dict #[] }).objs.size = C + 1:=by rw[Heap.size_push,hCC]
 generalize hh₁ : pushCells (G.push { cls:=.type "dict",data:=.dict #[] }) scope.names = h₁
 have hns₁:h₁.Ns C (fun _=>none):= by
  rw[<- hh₁,<- hCC]
  exact (Heap.Ns.new G (.type "dict")).keeps (pushCells_keeps _ _)
 have keepG : ∀ b o,G.get? b=some o->h₁.get? b=some o:=fun b o e=>by rw[<- hh₁];exact pushCells_keeps _ _ b o (Heap.get?_push_of_some _ e)
 have newCell : ∀ y c,(y,c) ∈ cellsFrom (C+1) scope.names cl->C+1<=c->h₁.IsCell c none:=fun y c hm hc=>by
  rw[<- hh₁]
  exact cf_cell scope.names _ cl (by rw[hpush]) (fun z d hz hd=>by
   rw[hpush] at hd
   exact absurd (Nat.lt_trans (cel0 z d hz) DC) (Nat.not_lt.mpr (Nat.le_trans (Nat.le_succ _) hd))) y c (by rw[hpush];exact hm) (by rw[hpush];exact hc)
 have lo : ∀ b o,s2.heap.get? b=some o->b<D:=fun b o e=>hD ▸ Heap.lt_size e
 have old : ∀ b o,s2.heap.get? b=some o->h₁.get? b=some o:=fun b o e=>by
  exact keepG b o (hG ▸ Heap.get?_push_of_some _ e)
 have hacc : h₁.get? D = some { cls:=.type "list",data:=.seq ([] : List Value).toArray }:=
  keepG _ _ (by rw[<- hG,<- hD];exact Heap.get?_push_size _ rfl)
 have fpl : ∀ b ∈ fp,b<D:=fun b hb=>by
  obtain ⟨o,e,_⟩:=T.obj _ _ st2 b hb
  exact lo b o e
 have cel : ∀ y c,cl.lookup y=some c->c<D:=fun y c e=>by
  obtain ⟨v,z⟩:=I2.cell y c (q1 y c e)
  exact hD ▸ z.lt
 generalize hcl':cellsFrom (C+1) scope.names cl=cl' at newCell ⊢
 have cl1 : ∀ y c,cl'.lookup y=some c->((y,NameKind.cell) ∈ scope.names/\C+1<=c)\/cl.lookup y=some c:=fun y c e=>by rw[<- hcl'] at e;exact cf_lookup _ _ _ _ _ e
 have cl2 : ∀ y,(y,NameKind.cell) ∈ scope.names -> ∃ c,cl'.lookup y=some c:=fun y hy=>by rw[<- hcl'];exact cf_has _ _ _ _ hy
 have cl3 : ∀ y,(y,NameKind.cell) ∉ scope.names->cl'.lookup y=cl.lookup y:=fun y hy=>by rw[<- hcl'];exact cf_keep _ _ _ _ hy
 have cl4 : ∀ x y c,cl'.lookup x=some c->cl'.lookup y=some c->C+1<=c->x=y:=fun x y c e1 e2 hc=>by
  rw[<- hcl'] at e1 e2
  exact cf_inj _ _ _ (fun z d hz=>Nat.lt_succ_of_lt (Nat.lt_trans (cel0 z d hz) DC)) _ _ _ (PySem.mem_of_lookup e1) (PySem.mem_of_lookup e2) hc
 have cl5 : ∀ y c,cl'.lookup y=some c->c≠D/\c≠C/\(C+1<=c\/c<D):=fun y c e=>by
  rcases cl1 y c e with ⟨_,h⟩ | h
  ·exact ⟨by intro z;subst z;exact absurd DC (Nat.not_lt.mpr (Nat.le_trans (Nat.le_succ _) h)),by intro z;subst z;exact absurd h (Nat.not_succ_le_self _),.inl h⟩
  ·have:=cel y c h
   exact ⟨Nat.ne_of_lt this,Nat.ne_of_lt (Nat.lt_trans this DC),.inr this⟩
 generalize hX':cxLcC X N' scope cl' C s2 H2 fp=X'
 have envE:X'.env=compEnvC scope cl' C X.env:=by rw[<- hX'];rfl
 have locE:X'.env.locals=C:=by rw[envE];rfl
 have fsE:X'.fs=frs X.stack:=by rw[<- hX'];rfl
 have fsl : ∀ b ∈ frs X.stack,b<D:=fun b hb=>by
  rcases List.mem_cons.mp (I2.stkSub b hb) with z | z
  ·rw[z];exact hD ▸ I2.lt
  ·exact Nat.lt_of_not_le fun q=>I2.nofs (hD ▸ q) z
 have relS : ∀ x k,scope.names.lookup x=some k -> ∃ k',X'.env.kindOf x=some k'/\(k'=k\/(k = .free/\k' = .cell)):=fun x k e=>by
  obtain ⟨k',e',q⟩:=relabel_some (env:=X.env) e
  exact ⟨k',by rw[envE];exact e',q⟩
 have relN : ∀ x,scope.names.lookup x=none->X'.env.kindOf x=none:=fun x e=>by
  rw[envE];exact relabel_none (env:=X.env) e
 have cellsE:X'.env.cells=cl':=by rw[envE];rfl
 have s0E0:X'.s₀=s2:=by rw[<- hX'];rfl
 have ok':X'.Ok:= by
  refine ⟨?mod,?kind,?glob,?blt,?above,?inj,?has,?cab,?hd,?frames,?stk,?exf,?bs,?bsz,?noex,?exfs,?funs,?frf⟩
  case mod=>rw[<- hX'];exact I2.ok.mod
  case kind=>rw[envE];exact S.kind
  case glob=>rw[envE];exact I2.ok.glob
  case blt=>rw[envE];exact I2.ok.blt
  case above=>rw[locE,<- hX'];show s2.heap.objs.size<=C;rw[hD];exact Nat.le_of_lt DC
  case inj=>
   intro x y c e1 e2
   rw[cellsE] at e1 e2
   rcases (cl5 x c e1).2.2 with h | h
   ·exact cl4 x y c e1 e2 h
   ·have f : ∀ z,cl'.lookup z=some c->cl.lookup z=some c:=fun z ez=>by
     rcases cl1 z c ez with ⟨_,h'⟩ | h'
     ·exact absurd (Nat.lt_of_lt_of_le (Nat.lt_trans h DC) (Nat.le_trans (Nat.le_succ _) h')) (Nat.lt_irrefl _)
     ·exact h'
    exact I2.ok.inj x y c (q1 x c (f x e1)) (q1 y c (f y e2))
  case has=>
   intro x hx
   rw[cellsE]
   cases e:scope.names.lookup x with
   | none=>rw[relN x e] at hx;rcases hx with z | z <;> cases z
   | some k=>
    obtain ⟨k',e',q⟩:=relS x k e
    rw[e'] at hx
    by_cases hcx:(x,NameKind.cell) ∈ scope.names
    ·exact cl2 x hcx
    rw[cl3 x hcx]
    have kf:k = .free:= by
     rcases q with q | q
     ·rcases hx with z | z
      ·cases z;exact absurd (PySem.mem_of_lookup (q ▸ e)) hcx
      ·cases z;exact q.symm
     ·exact q.1
    subst kf
    exact q2 x (PySem.mem_of_lookup e)
  case cab=>
   intro x c h e
   rw[<- hX'] at h
   rw[cellsE] at e
   have hx:scope.names.lookup x=some NameKind.cell:=nko_eq0 h
   rw[s0E0,hD]
   rcases cl1 x c e with ⟨_,h'⟩ | h'
   ·exact Nat.le_trans (Nat.le_of_lt DC) (Nat.le_trans (Nat.le_succ _) h')
   ·obtain ⟨c2,e2⟩:=cl2 x (PySem.mem_of_lookup hx)
    rw[e] at e2;cases e2
    rw[<- hcl'] at e
    exact absurd (cf_own _ _ _ _ _ (PySem.mem_of_lookup hx) e) (Nat.not_le.mpr (Nat.lt_succ_of_lt (Nat.lt_trans (cel x c h') DC)))
  case hd=>rw[<- hX'];exact I2.ok.hd
  case frames=>rw[<- hX'];exact I2.ok.frames
  case stk=>rw[<- hX'];exact .inl rfl
  case exf=>
   intro b hb
   have hb':b ∈ fp:=by rw[<- hX'] at hb;exact hb
   refine ⟨by rw[locE];exact Nat.ne_of_lt (Nat.lt_trans (fpl b hb') DC),fun x c e=>?_⟩
   rw[cellsE] at e
   rcases cl1 x c e with ⟨_,h'⟩ | h'
   ·intro z;subst z;exact absurd (fpl _ hb') (Nat.not_lt.mpr (Nat.le_trans (Nat.le_of_lt DC) (Nat.le_trans (Nat.le_succ _) h')))
   ·exact (f2 b hb').2.2.2.2.1 x c (q1 x c h')
  case bs=>rw[<- hX'];exact I2.bs
  case bsz=>rw[<- hX'];exact Nat.le_trans I2.ok.bsz I2.sz
  case noex=>
   intro b o e hb
   have hb':b ∈ fp:=by rw[<- hX'] at hb;exact hb
   have e':X.base.get? b=some o:=by rw[<- hX'] at e;exact e
   rcases (f2 b hb').2.2.2.1 with z | z
   ·exact I2.ok.noex b o e' z
   ·exact absurd (Nat.lt_of_lt_of_le (Heap.lt_size e') (Nat.le_trans I2.ok.bsz z)) (Nat.lt_irrefl _)
  case exfs=>
   intro b hb
   have hb':b ∈ fp:=by rw[<- hX'] at hb;exact hb
   rw[fsE]
   intro z
   rcases List.mem_cons.mp (I2.stkSub b z) with q | q
   ·exact (f2 b hb').2.1 q
   ·exact (f2 b hb').2.2.1 q
  case funs=>rw[<- hX'];exact I2.stack
  case frf=>rw[fsE,<- hX'];exact I2.stkFree
 have c0:H2 C=none:=I2.hok.fresh (by rw[hD];exact Nat.le_of_lt DC)
 have d0:H2 D=none:=I2.hok.fresh (by rw[hD];exact Nat.le_refl _)
 have I3:Inv X' [] (inSt M σ) H2 { s2 with heap:=h₁,toks:=s2.toks }:= by
  refine ⟨ok',?os,?bare,?base,?loc,?cell,?free,?freeC,?pin,?hok,?len⟩
  case os=>rw[<- hX'];rfl
  case bare=>exact I2.bare
  case base=>rw[fsE,<- hX'];exact Un.kept old
  case loc=>
   refine ⟨_,by rw[locE];exact hns₁,fun i x v e1 e2 _=>?_⟩
   obtain ⟨j,eM,eσ⟩:=inSt_get e2
   obtain ⟨y,n1,n2,n3⟩:=S.at_ i j eM
   have e1':N'[i]?=some x:=by rw[<- hX'] at e1;exact e1
   rw[n1] at e1';cases e1'
   have hyf:(x,NameKind.free) ∈ scope.names:=PySem.mem_of_lookup n3
   have kd:=S.fre _ hyf rfl
   obtain ⟨m,hn,hl⟩:=id I2.loc
   obtain ⟨u,ru,lk⟩:=hl j x v n2 eσ (kd.elim (fun z=>.inr (.inl z)) fun z=>.inr (.inr z))
   refine ⟨u,ru,?_⟩
   rcases lk with ⟨k,_⟩ | ⟨k,c,ec,z⟩
   ·have k':X.env.scope.names.lookup x=some NameKind.local:=k
    rcases kd with q | q <;> (rw[k'] at q;cases q)
   ·obtain ⟨c',ec'⟩:=q2 x hyf
    have hcc:=q1 x c' ec'
    rw[ec] at hcc;cases hcc
    obtain ⟨k',e',q⟩:=relS x _ n3
    refine .inr ⟨?_,c,by rw[cellsE,cl3 x (fun z=>by have:=S.uni _ z rfl;rw[n3] at this;cases this)];exact ec',?_⟩
    ·rw[e'];rcases q with q | q
     ·right;rw[q]
     ·left;rw[q.2]
    ·obtain ⟨o,ho,hd'⟩:=z
     exact ⟨o,old _ _ ho,hd'⟩
  case cell=>
   intro x c e
   rw[cellsE] at e
   rcases cl1 x c e with ⟨_,h'⟩ | h'
   ·exact ⟨none,newCell x c (PySem.mem_of_lookup e) h'⟩
   ·obtain ⟨v,o,ho,hd'⟩:=I2.cell x c (q1 x c h')
    exact ⟨v,o,old _ _ ho,hd'⟩
  case free=>rw[locE];exact c0
  case freeC=>
   intro x c e
   rw[cellsE] at e
   rcases cl1 x c e with ⟨_,h'⟩ | h'
   ·exact I2.hok.fresh (by rw[hD];exact Nat.le_trans (Nat.le_of_lt DC) (Nat.le_trans (Nat.le_succ _) h'))
   ·exact I2.freeC x c (q1 x c h')
  case pin=>intro p hp;rw[<- hX'] at hp;exact absurd (show p ∈ ([]:List (Addr × Obj)) from hp) (by simp)
  case hok=>rw[<- hX'];exact I2.hok.kept old
  case len=>rw[inSt_length,<- hX'];exact S.len.symm
 have xE : ∀ (e:Value) (s':Shared),¬ X'.xe e s':=fun e s' z=>by rw[<- hX'] at z;exact z
 have progE:X'.prog=X.prog:=by rw[<- hX'];rfl
 have wE:X'.w=X.w:=by rw[<- hX'];rfl
 have KE':X'.K=X.K:=by rw[<- hX'];rfl
 have AE:X'.A=X.A:=by rw[<- hX'];rfl
 have cE:X'.calm=true:=by rw[<- hX'];exact hc
 have exE:X'.ex=fp:=by rw[<- hX'];rfl
 have s0E:X'.s₀=s2:=by rw[<- hX'];rfl
 have pnE:X'.pn=[]:=by rw[<- hX'];rfl
 have hgX:PG X' tg g:=by rw[<- hX'];exact hg cl' C s2 H2 fp
 have htX:PTs X' ifs tc:=by rw[<- hX'];exact ht cl' C s2 H2 fp
 have heX:PE X' elt te:=by rw[<- hX'];exact he cl' C s2 H2 fp
 have Dfp:D ∉ fp:=fun z=>Nat.lt_irrefl _ (fpl D z)
 have Dcl : ∀ x c,X'.env.cells.lookup x=some c->c≠D:=fun x c e=>by rw[cellsE] at e;exact (cl5 x c e).1
 have Dloc:D≠X'.env.locals:=by rw[locE];exact Nat.ne_of_lt DC
 have Dfs:D ∉ X'.fs:=by rw[fsE];exact fun z=>Nat.lt_irrefl _ (fsl D z)
 have D0:D ∈ X'.ex\/X'.s₀.heap.objs.size<=D:=.inr (by rw[s0E,hD];exact Nat.le_refl _)
 have stat : ∀ {pl:List (Addr × Obj)} {H':Hp},(∀ p ∈ pl,p.1=D)->(∀ b ∈ fp,H' b=none) -> ∀ b ∈ fp,FpOk X' pl H' b:=fun {pl H'} hpl hn b hb=>by
  refine ⟨hn b hb,by rw[locE];exact Nat.ne_of_lt (Nat.lt_trans (fpl b hb) DC),?_,.inl (by rw[exE];exact hb),fun x c e=>?_,fun p hp=>?_⟩
  ·exact ok'.exfs b (by rw[exE];exact hb)
  ·rw[cellsE] at e
   rcases cl1 x c e with ⟨_,h'⟩ | h'
   ·intro z;subst z;exact absurd (fpl _ hb) (Nat.not_lt.mpr (Nat.le_trans (Nat.le_of_lt DC) (Nat.le_trans (Nat.le_succ _) h')))
   ·exact (f2 b hb).2.2.2.2.1 x c (q1 x c h')
  ·rw[pnE,List.nil_append] at hp
   rw[hpl p hp];exact (Nat.ne_of_lt (fpl b hb)).symm
 have loop:codeAny (model X.prog X.w) X.A (.compLoop (.ListComp elt [⟨tg,iter,ifs,0⟩] scope pos) 0 (.ref it) (.ref D) X'.env) (RR (.ref D) C) { s2 with heap:=h₁,toks:=s2.toks }:= by
  refine compLoop_gen (fun n s'=>∃ i ys H',Inv X' [] (inSt M σ) H' s' /\ tn i s'.heap /\ (∀ b ∈ fp,H' b = none) /\ (∃ (its : List Value) (k : Nat),Vals ys its /\ s'.heap.get? D = some { cls:=.type "list",data:=.seq its.toArray k }) /\ H' D = none /\ W i n ys H') ?_ m0
   ⟨0,[],H2,I3,T.keep _ _ _ st2 fun b hb o e=>old b o e,fun b hb=>(f2 b hb).1,⟨[],0,.nil,hacc⟩,d0,w0⟩
  rintro n s3 ⟨i,ys,H3,J3,st3,fr3,⟨its,k,rv,hDs⟩,dn,w3⟩
  obtain ⟨hsz,hcase⟩:=turn i n ys H3 w3
  have J3' : Inv X' [(D,{ cls:=.type "list",data:=.seq its.toArray k })] (inSt M σ) H3 s3:=J3.pins_of fun p hp=>by
   have e : p = (D,{ cls:=.type "list",data:=.seq its.toArray k }):=by simpa using hp
   subst e
   exact ⟨hDs,dn,Dloc,Dfs,fun v z=>by cases z⟩
  have hpl : ∀ p ∈ [((D,{ cls:=.type "list",data:=.seq its.toArray k }) : Addr × Obj)],p.1 = D:=fun p hp=>by
   have e : p = (D,{ cls:=.type "list",data:=.seq its.toArray k }):=by simpa using hp
   rw[e]
  rcases hcase with ⟨stop,qF⟩ | ⟨go,hlt,N,hN,step⟩
  ·have q:=T.done X' progE wE KE' cE i _ s3 _ H3 (fun _ _=>False) J3' (stat hpl fr3) st3 stop
   rw[AE] at q
   refine thn q fun r s4 ⟨hr,J4⟩=>?_
   subst hr
   have hD4 : s4.heap.get? D = some { cls:=.type "list",data:=.seq its.toArray k }:=(J4.pin _ (List.mem_append_right _ (List.mem_singleton.mpr rfl))).1
   obtain ⟨mC,hnC,_⟩:=id J4.loc
   rw[locE] at hnC
   have b4:=J4.base
   rw[fsE,exE,s0E,show X'.H₀=H2 by rw[<- hX'];rfl] at b4
   refine hend D C s4 H3 ys ?_ dn (Nat.le_refl _) DC ⟨mC,hnC⟩ (by rw[upd_ne (Nat.ne_of_gt DC)];have:=J4.free;rw[locE] at this;exact this) qF
   have hok4:=J4.hok
   rw[progE,wE] at hok4
   refine I2.call' (ch:=fp) (H':=upd H3 D (.lst ys)) (by rw[J4.os,s0E]) ⟨b4.keep,b4.slot,fun b o e nn hb=>?_,b4.there,fun b xs e=>?_,fun b o u e=>?_,fun b ps e=>?_⟩ ?_ J4.bare fun b hb=>?_
   ·rw[upd_ne (Nat.ne_of_lt (lo b o e))];exact b4.free b o e nn hb
   ·rw[upd_ne (ne_of_none (b4.tups b xs e) dn)];exact b4.tups b xs e
   ·rw[upd_ne (ne_of_none (b4.frzs b o u e) dn)];exact b4.frzs b o u e
   ·obtain ⟨more,e'⟩:=b4.tbls b ps e
    exact ⟨more,by rw[upd_ne (ne_of_none e' dn)];exact e'⟩
   ·intro b u e
    by_cases hb:b=D
    ·subst hb
     rw[upd_same] at e;cases e
     exact ⟨hsz,its,k,rv,hD4⟩
    ·rw[upd_ne hb] at e
     exact (hok4 b u e).stay (fun c v _ q=>q) (fun c q=>by rw[upd_ne (ne_of_none q dn)];exact q) fun c xs q=>by rw[upd_ne (ne_of_none q dn)];exact q
   ·obtain ⟨f0,f1,f3,f4,f5,f6⟩:=f2 b hb
    exact ⟨f4,f1,f5,f6⟩
  ·have q:=T.item X' progE wE KE' cE i _ s3 _ H3 (fun _ _=>False) J3' (stat hpl fr3) st3 go
   rw[AE] at q
   refine thn q fun r s4 ⟨u,hr,h4⟩=>?_
   subst hr
   dsimp only
   refine thn h4 fun _ s5 ⟨x,H5,J5,r5,y5,st5,fr5⟩=>?_
   have J5':=J5.pinned (stat hpl fr5) (T.obj _ _ st5)
   have qg:=hgX _ s5 (inSt M σ) H5 x u _ J5' r5 (hf _ _ _ _ (step x H5 y5))
   rw[progE,wE,AE] at qg
   refine wpAny_mono qg (fun _ s6 h6=>?_) fun e s' z=>xE e s' z
   obtain ⟨σ6,H6,J6,q6,l6,k6⟩:=h6
   have qt:=htX _ s6 σ6 H6 _ J6 q6
   rw[progE,wE,AE] at qt
   refine wpAny_mono qt (fun b s7 h7=>?_) fun e s' z=>xE e s' z
   obtain ⟨H7,J7,q7⟩:=h7
   have fin : ∀ {ys' : List V} {σ8 : St} {H8 : Hp} {s8 : Shared},σ8 = σ6 -> Inv X' ([(D,{ cls:=.type "list",data:=.seq its.toArray k })] ++ pinsAt fp s5.heap) σ8 H8 s8 ->
     s8.heap.get? D = some { cls:=.type "list",data:=.seq its.toArray k } /\ H8 D = none /\ tn (i + 1) s8.heap /\ (∀ b ∈ fp,H8 b = none) /\ Inv X' [] (inSt M σ) H8 s8:=fun {ys' σ8 H8 s8} e8 J8=>by
    subst e8
    obtain ⟨p1,p2,_⟩:=J8.pin _ (List.mem_append_right _ (List.mem_append_left _ (List.mem_singleton.mpr rfl)))
    refine ⟨p1,p2,T.keep _ _ _ st5 fun b hb o e=>(J8.pin (b,o) (List.mem_append_right _ (List.mem_append_right _ (mem_pinsAt hb e)))).1,fun b hb=>?_,?_⟩
    ·obtain ⟨o,e,d⟩:=T.obj _ _ st5 b hb
     exact (J8.pin (b,o) (List.mem_append_right _ (List.mem_append_right _ (mem_pinsAt hb e)))).2.1
    ·have J9:Inv X' [] σ8 H8 s8:=J8.pins_of fun p hp=>absurd hp (by simp)
     refine J9.weak (l6.symm) fun a v e=>?_
     obtain ⟨j,eM,_⟩:=inSt_get e
     rw[k6 a j eM];exact e
   cases b with
   | false=>
    rw[if_neg (by decide)] at q7
    rw[if_neg (by decide)]
    obtain ⟨m',hm,w7⟩:=hN _ _ q7
    obtain ⟨a1,a2,a3,a4,a5⟩:=fin (ys':=ys) rfl J7
    exact ⟨m',hm,i+1,ys,H7,a5,a3,a4,⟨its,k,rv,a1⟩,a2,w7⟩
   | true=>
    rw[if_pos rfl] at q7
    rw[if_pos rfl]
    have qe:=heX _ s7 σ6 H7 _ J7 q7
    rw[progE,wE,AE] at qe
    refine wpAny_mono qe (fun v8 s8 h8=>?_) fun e s' z=>xE e s' z
    obtain ⟨y8,H8,J8,r8,n8⟩:=h8
    obtain ⟨m',hm,w8⟩:=hN _ _ n8
    obtain ⟨a1,a2,a3,a4,a5⟩:=fin (ys':=ys) rfl J8
    refine wpAny_list_append_plain (items:=its.toArray) ⟨k,a1⟩ (fun h9 hl9 hs9=>?_) (by have:=rv.length;rw[List.size_toArray,<- this];exact hsz)
    have J9:Inv X' [] (inSt M σ) H8 { s8 with heap:=h9 }:=a5.turned (t':=s8.toks) (fun b o hb e=>(hs9.2 b hb).trans e) a2 Dloc D0 Dcl fun p hp=>by rw[pnE] at hp;exact absurd hp (by simp)
    obtain ⟨k9,e9⟩:=hl9
    refine ⟨m',hm,i+1,ys++[y8],H8,J9,T.keep _ _ _ a3 fun b hb o e=>(hs9.2 b (fun z=>Dfp (z ▸ hb))).trans e,a4,⟨its++[v8],k9,rv.append (.cons r8 .nil),?_⟩,a2,w8⟩
    rw[show (its++[v8]).toArray=its.toArray.push v8 by simp]
    exact e9
 have loop':codeAny (model X.prog X.w) X.A (.compLoop (.ListComp elt [⟨tg,iter,ifs,0⟩] scope pos) 0 (.ref it) (.ref D) (compEnvC scope cl' C X.env)) (RR (.ref D) C) { s2 with heap:=h₁,toks:=s2.toks }:=envE ▸ loop
 exact codeAny_compStart_list loop' (T.self _ 0 _ _ _ (T.keep _ _ _ st2 fun b hb o e=>old b o e) loop')
end L2
namespace L2
open PySem PySem.Spec PyProof.Rows
theorem closure_mem {env:Env} : ∀ (names:List (Str × NameKind)) (cs:List (Str × Addr)),(∀ y ∈ names,y.2=NameKind.free -> ∃ c,env.cells.lookup y.1=some c)->(∀ y c,(y,c) ∈ cs->env.cells.lookup y=some c) ->
  ∀ cl,(forIn names cs fun x r=>(match x with
   | (name,kind)=>if (kind==NameKind.free)=true then (do let a <- cellOf env name;pure (ForInStep.yield ((name,a)::r))) else pure (ForInStep.yield r)):Sem (List (Str × Addr)))=pure cl -> ∃ cl2,(forIn names cs fun x r=>(match x with
   | (name,kind)=>if (kind==NameKind.free)=true then (do let a <- cellOf env name;pure (ForInStep.yield ((name,a)::r))) else pure (ForInStep.yield r)):Sem (List (Str × Addr)))=pure cl2 /\ ∀ y c,(y,c) ∈ cl2->env.cells.lookup y=some c
 | [],cs,_,h,cl,_=>⟨cs,by rw[List.forIn_nil],h⟩
 | (n,k)::r,cs,hf,h,cl,e=>by
  rw[List.forIn_cons] at e ⊢
  by_cases hk:(k==NameKind.free)=true
  ·obtain ⟨c,hc⟩:=hf (n,k) List.mem_cons_self (nk_eq hk)
   have ec:cellOf env n=pure c:=by unfold cellOf;rw[hc]
   simp only [hk,if_true,ec,pure_bind] at e ⊢
   refine closure_mem r ((n,c)::cs) (fun y hy=>hf y (List.mem_cons_of_mem _ hy)) (fun y c' hm=>?_) cl e
   rcases List.mem_cons.mp hm with q | q
   ·cases q;exact hc
   ·exact h y c' q
  ·simp only [hk,if_false,pure_bind] at e ⊢
   exact closure_mem r cs (fun y hy=>hf y (List.mem_cons_of_mem _ hy)) h cl e
theorem pure_inj_sem {α:Type} {a b:α} (h:(pure a:Sem α)=pure b):a=b:= by
 injection h
section
variable {X:Cx} {N':List Str} {M:List (Option Nat)} {scope:Scope} {tg elt iter:Expr} {ifs:List Expr} {pos:Pos} {g:TG} {tc:TT} {te:TE} {wi:TI}
theorem lc_closC {pins:List (Addr × Obj)} {σ:St} {H:Hp} {s:Shared} (S:LcScC X.N N' M scope X.env.scope) (I:Inv X pins σ H s) :
  ∃ cl,closureFor scope X.env=pure cl/\(∀ y c,(y,c) ∈ cl->X.env.cells.lookup y=some c)/\(∀ y c,cl.lookup y=some c->X.env.cells.lookup y=some c)/\(∀ y,(y,NameKind.free) ∈ scope.names -> ∃ c,cl.lookup y=some c):= by
 have hh : ∀ y ∈ scope.names,y.2=NameKind.free -> ∃ c,X.env.cells.lookup y.1=some c:=fun y hy hk=>I.ok.has y.1 (S.fre y hy hk)
 obtain ⟨cl,e,q1,q2⟩:=closure_go (env:=X.env) scope.names [] hh (fun y c e=>by simp at e)
 obtain ⟨cl2,e2,q0⟩:=closure_mem (env:=X.env) scope.names [] hh (fun y c h=>by simp at h) cl e
 have ecl:cl=cl2:=pure_inj_sem (e.symm.trans e2)
 subst ecl
 refine ⟨cl,?_,q0,q1,fun y hy=>q2 y (.inr hy)⟩
 unfold closureFor
 dsimp only
 rw[show (forIn scope.names ([]:List (Str × Addr)) fun x r=>(match x with
   | (name,kind)=>if (kind==NameKind.free)=true then (do let a <- cellOf X.env name;pure (ForInStep.yield ((name,a)::r))) else pure (ForInStep.yield r)):Sem (List (Str × Addr)))=pure cl from e]
 rfl
theorem pe_lcC (S:LcScC X.N N' M scope X.env.scope) (hc:X.calm=true) (hi:PI X tg iter wi) (hg : ∀ cl C s H fp,PG (cxLcC X N' scope cl C s H fp) tg g) (hf:Frm M g)
  (ht : ∀ cl C s H fp,PTs (cxLcC X N' scope cl C s H fp) ifs tc) (he : ∀ cl C s H fp,PE (cxLcC X N' scope cl C s H fp) elt te)
  (hs : ∀ x,foldedSetIterable iter X.env x=pure x:=by intro _;rfl) :
  PE X (.ListComp elt [⟨tg,iter,ifs,0⟩] scope pos) (fun σ H Q=>tLc wi M g tc te σ H fun ys H'=>∀ p,H' p=none->Q (.ref p) (upd H' p (.lst ys))):= by
 intro pins s σ H Q I h
 obtain ⟨cl,hclos,q0,q1,q2⟩:=lc_closC S I
 rw[eval_ListComp]
 refine wpAny_comprehension_free (use:=none) rfl hs hclos S.kind S.own (thn (hi pins s σ H _ I h) fun v s1 h1=>thn h1 fun itv s2 h2=>?_)
 obtain ⟨it,fp,tn,J,H2,e,I2,T,st2,f2,hw⟩:=h2
 subst e
 refine lc_blockC (RR:=fun acc C=>compPost (model X.prog X.w) X.A X.xe none (EP X pins σ Q) acc C) S hc q0 q1 q2 hg hf ht he I2 T st2 f2 hw ?_
 intro D C s' H' ys I' dn hD hC ⟨m,hn⟩ hCn q
 obtain ⟨y1,y2,y3,y4⟩:=I2.young (Nat.le_of_lt hC)
 exact ⟨m,hn,fun h' hs'=>⟨.ref D,_,I'.gone (s':=s') hs' hCn y1 y2 y3 y4,rfl,q D dn⟩⟩
end
def lcChkC (N N':List Str) (M:List (Option Nat)) (sc osc:Scope):Bool:=
 (sc.kind == .function)&&(N'.length==M.length)&&(sc.names.all fun y=>y.2 != NameKind.cell||sc.names.lookup y.1==some NameKind.cell)&&(sc.names.all fun y=>y.2 != NameKind.local||sc.names.lookup y.1==some NameKind.local) &&
 (sc.names.all fun y=>y.2 != NameKind.free||(osc.names.lookup y.1==some NameKind.cell||osc.names.lookup y.1==some NameKind.free)) &&
 ((N'.zip M).all fun p=>match p.2 with | none=>true | some j=>N[j]?==some p.1&&sc.names.lookup p.1==some NameKind.free)
theorem lcScC_of {N N':List Str} {M:List (Option Nat)} {sc osc:Scope} (h:lcChkC N N' M sc osc=true):LcScC N N' M sc osc:= by
 unfold lcChkC at h
 simp only [Bool.and_eq_true] at h
 obtain ⟨⟨⟨⟨⟨h1,h2⟩,h3⟩,h4⟩,h5⟩,h6⟩:=h
 have hl:N'.length=M.length:=by simpa using h2
 have one : ∀ {k:NameKind} (hh:(sc.names.all fun y=>y.2 != k||sc.names.lookup y.1==some k)=true),∀ y ∈ sc.names,y.2=k->sc.names.lookup y.1=some k:=fun {k} hh y hy hk=>by
  have q:=List.all_eq_true.mp hh y hy
  rw[Bool.or_eq_true] at q
  rcases q with q | q
  ·exact absurd hk (nk_ne q)
  ·exact nko_eq q
 refine ⟨?_,hl,one h3,one h4,fun y hy hk=>?_,fun i j e=>?_⟩
 ·revert h1;cases sc.kind <;> intro h1 <;> first | rfl | exact absurd h1 (by decide)
 ·have q:=List.all_eq_true.mp h5 y hy
  rw[Bool.or_eq_true,Bool.or_eq_true] at q
  rcases q with q | q | q
  ·exact absurd hk (nk_ne q)
  ·exact .inl (nko_eq q)
  ·exact .inr (nko_eq q)
 ·have hi:i<M.length:=(List.getElem?_eq_some_iff.mp e).1
  have hi':i<N'.length:=by rw[hl];exact hi
  have em:(N'[i],some j) ∈ N'.zip M:= by
   refine List.mem_iff_getElem?.mpr ⟨i,?_⟩
   rw[List.getElem?_zip_eq_some]
   exact ⟨List.getElem?_eq_getElem hi',e⟩
  have q:=List.all_eq_true.mp h6 _ em
  simp only [Bool.and_eq_true] at q
  exact ⟨N'[i],List.getElem?_eq_getElem hi',by simpa using q.1,nko_eq q.2⟩
def tLcV (wi:TI) (M:List (Option Nat)) (g:TG) (tc:TT) (te:TE):TE:=fun σ H Q=>tLc wi M g tc te σ H fun ys H'=>∀ p,H' p=none->Q (.ref p) (upd H' p (.lst ys))
theorem pe_lcV {X:Cx} {N':List Str} {M:List (Option Nat)} {scope:Scope} {tg elt iter:Expr} {ifs:List Expr} {pos:Pos} {g:TG} {tc:TT} {te:TE} {wi:TI} (S:LcSc X.N N' M scope X.env.scope) (hc:X.calm=true) (hi:PI X tg iter wi) (hg : ∀ cl C s H fp,PG (cxLc X N' scope cl C s H fp) tg g) (hf:Frm M g)
  (ht : ∀ cl C s H fp,PTs (cxLc X N' scope cl C s H fp) ifs tc) (he : ∀ cl C s H fp,PE (cxLc X N' scope cl C s H fp) elt te)
  (hs : ∀ x,foldedSetIterable iter X.env x=pure x:=by intro _;rfl):PE X (.ListComp elt [⟨tg,iter,ifs,0⟩] scope pos) (tLcV wi M g tc te):=pe_lc S hc hi hg hf ht he hs
end L2
namespace L2
open PySem
theorem getD_lt {α:Type} {l:List α} {i:Nat} (h:i<l.length) (d:α):l.getD i d=l[i]:=by rw[List.getD_eq_getElem?_getD,List.getElem?_eq_getElem h];rfl
theorem way_memJ (ws:List Int):wayGo 0 ws=true -> ∀ z,z ∈ ws ↔ 0<=z/\z<fresh 0 ws:= by
 refine snoc_ind (P:=fun ws=>wayGo 0 ws=true -> ∀ z,z ∈ ws ↔ 0<=z/\z<fresh 0 ws) (fun _ z=>by simp [fresh] <;> omega) (fun ws y ih h z=>?_) ws
 rw[wayGo_snoc,Bool.and_eq_true,Bool.and_eq_true] at h
 obtain ⟨h1,h2,h3⟩:=h
 have h2:=of_decide_eq_true h2
 have h3:=of_decide_eq_true h3
 have ih:=ih h1 z
 have f0:0<=fresh 0 ws:=by have:=(fresh_max ws h1).2 (-1) List.mem_cons_self;omega
 rw[List.mem_append,List.mem_singleton,ih,fresh_snoc]
 split <;> omega
theorem fresh_le (ws:List Int):fresh 0 ws<=ws.length:= by
 refine snoc_ind (P:=fun ws=>fresh 0 ws<=(ws.length:Int)) (by show (0:Int)<=_;simp) (fun xs z ih=>?_) ws
 rw[fresh_snoc,List.length_append]
 show _<=((xs.length+1:Nat):Int)
 split <;> omega
def relab (L:List Int) (old new:Int):List Int:=L.map fun l=>if l=old then new else l
def mg (L:List Int) (p:Nat × Nat):List Int:=relab L (L.getD p.2 0) (L.getD p.1 0)
def lotN (ws:List Int) (k:Int) (i:Nat):List Nat:=(List.range i).filter fun j=>decide (ws.getD j 0=k)
end L2
namespace L2
open PySem
theorem getRef {qs:List Addr} {j:Nat} {y:V} (h:(qs.map V.ref)[j]?=some y) : ∃ q,y=V.ref q/\qs[j]?=some q/\j<qs.length:= by
 rw[List.getElem?_map] at h
 cases e:qs[j]? with
 | none=>rw[e] at h;cases h
 | some q=>rw[e] at h;exact ⟨q,(Option.some.inj h).symm,rfl,(List.getElem?_eq_some_iff.mp e).1⟩
theorem atI_ref {qs:List Addr} {j:Nat} {q:Addr} (h:qs[j]?=some q):atI (qs.map V.ref) (j:Int)=some (V.ref q):=atI_nat (by rw[List.getElem?_map,h];rfl)
end L2
namespace L2
open PySem
end L2
namespace L2
open PySem PySem.Spec PyProof.Rows
section
variable {X:Cx} {K:PySem.W.Frag} {pos:Pos}
theorem kpg_tup {es:List Expr} {k:Nat} {t:TGs} {n:Nat} (hc:X.calm=true) (h:PGs X es t)
  (hn:(assignEach es X.env).length=n:=by rfl) (hst:(assignEach es X.env).findIdx? (·.1)=none:=by rfl) (hK:X.K=K:=by rfl):PG X (.Tuple es k pos) (gTup K n t):= by
 subst hK;exact pg_tup hc h hn hst
theorem frm_two {M:List (Option Nat)} {n:Nat} (h0:M[0]?=some none:=by rfl) (h1:M[1]?=some none:=by rfl):Frm M (gTup K n (gCons (gName 0) (gCons (gName 1) gNil))):=fun v σ H Q q=>by
 obtain ⟨a,xs,e,hq,hl,v1,r,e1,v2,r2,e2,e3,q⟩:=q
 refine ⟨a,xs,e,hq,hl,v1,r,e1,v2,r2,e2,e3,q,by rw[List.length_set,List.length_set],fun k j ek=>?_⟩
 have n0:0≠k:=by rintro rfl;rw[h0] at ek;cases ek
 have n1:1≠k:=by rintro rfl;rw[h1] at ek;cases ek
 rw[List.getElem?_set_ne n1,List.getElem?_set_ne n0]
end
end L2
namespace L2
open PySem
theorem lcY {te:TE} {σ:St} {H:Hp} {N:V->Hp->Prop} {N':Hp->Prop} (h:te σ H N):tYes σ H (fun b H3=>if b=true then te σ H3 N else N' H3):= by
 unfold tYes
 exact iteT h
end L2
namespace L2
open PySem PySem.Spec PyProof.Rows
def turnG (e:Expr) (dep:Nat) (tg iter:Expr) (ifs:List Expr) (it acc:Value) (env:Env) (EM:Sem Unit):Sem Fin:=do
   standAt iter.pos
   match <- pyNext it with
   | none=>pure (.done .next)
   | some v=>
    letOwnedTupleGo tg it v
    assign tg env v
    let mut ok:=true
    for c in ifs do
     if ok then ok <- isTrue c env (eval c env)
    if ok then EM
    again (.compLoop e dep it acc env)
def emElt (elt : Expr) (acc : Value) (env : Env) : Sem Unit:=(do let _ <- call (.builtin "list.append") [acc,<- eval elt env])
def emIn (e iter2:Expr) (acc:Value) (env:Env):Sem Unit:=(do
    let x <- eval iter2 env
    standAt iter2.pos
    let x <- foldedSetIterable iter2 env x
    let _ <- runOwn (.compStart e 1 (<- holding [x] (pyIter x)) acc env) env)
theorem turn_last (elt:Expr) (g0:Comprehension) (tg iter:Expr) (ifs:List Expr) (scope:Scope) (pos:Pos) (it acc:Value) (env:Env) :
  compTurn (.ListComp elt [g0,⟨tg,iter,ifs,0⟩] scope pos) 1 it acc env=turnG (.ListComp elt [g0,⟨tg,iter,ifs,0⟩] scope pos) 1 tg iter ifs it acc env (emElt elt acc env):=by rfl
def turnF (e:Expr) (tg iter iter2:Expr) (ifs:List Expr) (it acc:Value) (env:Env):Sem Fin:=do
   standAt iter.pos
   match <- pyNext it with
   | none=>pure (.done .next)
   | some v=>
    letOwnedTupleGo tg it v
    assign tg env v
    let mut ok:=true
    for c in ifs do
     if ok then ok <- isTrue c env (eval c env)
    if ok then
     let x <- eval iter2 env
     standAt iter2.pos
     let x <- foldedSetIterable iter2 env x
     let _ <- runOwn (.compStart e 1 (<- holding [x] (pyIter x)) acc env) env
    again (.compLoop e 0 it acc env)
theorem turn_first0 (elt:Expr) (tg iter tg2 iter2:Expr) (ifs ifs2:List Expr) (scope:Scope) (pos:Pos) (it acc:Value) (env:Env) :
  compTurn (.ListComp elt [⟨tg,iter,ifs,0⟩,⟨tg2,iter2,ifs2,0⟩] scope pos) 0 it acc env=turnF (.ListComp elt [⟨tg,iter,ifs,0⟩,⟨tg2,iter2,ifs2,0⟩] scope pos) tg iter iter2 ifs it acc env:=by rfl
theorem turnF_eq (e:Expr) (tg iter iter2:Expr) (ifs:List Expr) (it acc:Value) (env:Env):turnF e tg iter iter2 ifs it acc env=turnG e 0 tg iter ifs it acc env (emIn e iter2 acc env):= by
 unfold turnF turnG emIn
 simp only [bind_assoc,pure_bind]
section
variable {prog:Program} {w:World} {A:Around} {R:Result->Shared->Prop} {s:Shared}
theorem compLoop_em {e tg iter:Expr} {ifs:List Expr} {dep:Nat} {it acc:Value} {env:Env} {EM:Sem Unit} (hq:(Code.compLoop e dep it acc env).quiet=true) (hfr:(Code.compLoop e dep it acc env).isFrame=false)
  (heq:compTurn e dep it acc env=turnG e dep tg iter ifs it acc env EM) (hu:A.under (.compLoop e dep it acc env)=A) (Iv:Nat->Shared->Prop)
  (turn : ∀ n s,Iv n s->wpAny (model prog w) A (pyNext it) (fun r s₁=>match r with
   | none=>R (.ok .next) s₁
   | some v=>wpAny (model prog w) A (letOwnedTupleGo tg it v) (fun _ s₁'=>wpAny (model prog w) A (assign tg env v) (fun _ s₂=>
     wpAny (model prog w) A (forIn ifs true fun c r=>if r=true then do let ok <- isTrue c env (eval c env);pure (ForInStep.yield ok) else pure (ForInStep.yield r)) (fun ok s₃=>
      if ok=true then wpAny (model prog w) A EM (fun _ s₅=>∃ m,m<n/\Iv m s₅) (fun _ _=>False) s₃
      else ∃ m,m<n/\Iv m s₃) (fun _ _=>False) s₂) (fun _ _=>False) s₁') (fun _ _=>False) s₁) (fun _ _=>False) s)
  (n:Nat) (h:Iv n s) :
  codeAny (model prog w) A (.compLoop e dep it acc env) R s:= by
 refine codeAny_loop hq Iv (fun n s hI=>?_) n h
 rw[hu]
 have hden:(model prog w).den (.compLoop e dep it acc env)=(compTurn e dep it acc env).onRaise (fun x=>do noteFrame x env;theTreesLotGoes x):= by
  show (if (Code.compLoop e dep it acc env).isFrame then _ else _)=_
  rw[hfr];rfl
 rw[hden]
 refine wpAny_noted ?_
 rw[heq]
 unfold turnG
 refine wpAny_bind (wpAny_standAt (wpAny_bind (wpAny_mono (turn n s hI) (fun r s₁ h₁=>?_) fun _ _ z=>z.elim)))
 cases r with
 | none=>exact wpAny_pure h₁
 | some v=>
  refine wpAny_bind (wpAny_mono h₁ (fun _ s₁' h₁'=>?_) fun _ _ z=>z.elim)
  refine wpAny_bind (wpAny_mono h₁' (fun _ s₂ h₂=>wpAny_bind (wpAny_mono h₂ (fun ok s₃ h₃=>?_) fun _ _ z=>z.elim)) fun _ _ z=>z.elim)
  cases ok with
  | false=>exact wpAny_pure ⟨rfl,h₃⟩
  | true=>
   exact wpAny_bind (wpAny_mono h₃ (fun _ s₅ h₅=>wpAny_pure ⟨rfl,h₅⟩) fun _ _ z=>z.elim)
theorem codeAny_compStart_two {elt target iter ifs g0 scope pos it acc env}
  (h0:codeAny (model prog w) A (.compLoop (.ListComp elt [g0,⟨target,iter,ifs,0⟩] scope pos) 1 it acc env) R s)
  (h:wpAny (model prog w) A (pyIter it) (fun it' s'=>codeAny (model prog w) A (.compLoop (.ListComp elt [g0,⟨target,iter,ifs,0⟩] scope pos) 1 it' acc env) R s')
   (notedBy (model prog w) A env fun x s'=>R (.error x) s') s) :
  codeAny (model prog w) A (.compStart (.ListComp elt [g0,⟨target,iter,ifs,0⟩] scope pos) 1 it acc env) R s:= by
 refine codeAny_of_tree ?_
 show wpAny _ _ ((compStart (.ListComp elt [g0,⟨target,iter,ifs,0⟩] scope pos) 1 it acc env).onRaise (fun x=>do noteFrame x env;standAt theWindowsPlace)) _ _ s
 refine wpAny_notedAt ?_
 unfold compStart
 show wpAny _ _ (ask >>= _) _ _ s
 refine wpAny_bind (wpAny_askSetting (wpAny_ite ?_))
 split
 ·first
   | exact wpAny_bind (wpAny_pure (wpAny_pure (And.intro rfl h0)))
   | exact wpAny_pure (And.intro rfl h0)
 ·first
   | exact wpAny_bind (wpAny_rule (wpAny_bind (wpAny_standAt (wpAny_bind (wpAny_mono h (fun it' s' h'=>wpAny_pure (And.intro rfl h')) fun _ _ x=>x)))))
   | (refine wpAny_bind (wpAny_rule ?_);show wpAny _ _ (standAt iter.pos >>= _) _ _ s;exact wpAny_bind (wpAny_standAt (wpAny_bind (wpAny_mono h (fun it' s' h'=>wpAny_pure (And.intro rfl h')) fun _ _ x=>x))))
end
def Own (ks:List Nat) (g:TG):Prop:=∀ v σ H Q,g v σ H Q->g v σ H fun σ' H'=>Q σ' H'/\σ'.length=σ.length /\ ∀ i,i ∉ ks->σ'[i]?=σ[i]?
theorem own_name {i:Nat}:Own [i] (gName i):=fun v σ H Q q=>by
 refine ⟨q,List.length_set ..,fun k hk=>?_⟩
 exact List.getElem?_set_ne fun e=>hk (by rw[e];exact List.mem_singleton.mpr rfl)
theorem own_two {K:PySem.W.Frag} {n i j:Nat}:Own [i,j] (gTup K n (gCons (gName i) (gCons (gName j) gNil))):=fun v σ H Q q=>by
 obtain ⟨a,xs,e,hS,hl,v1,r1,e1,v2,r2,e2,e3,q⟩:=q
 refine ⟨a,xs,e,hS,hl,v1,r1,e1,v2,r2,e2,e3,q,by rw[List.length_set,List.length_set],fun k hk=>?_⟩
 have h1:i≠k:=fun e=>hk (by rw[e];simp)
 have h2:j≠k:=fun e=>hk (by rw[e];simp)
 rw[List.getElem?_set_ne h2,List.getElem?_set_ne h1]
def Acc (h : Heap) (D : Addr) (ys : List V) : Prop:=∃ (its : List Value) (k : Nat),Vals ys its /\ h.get? D = some { cls:=.type "list",data:=.seq its.toArray k }
abbrev TM:=St->Hp->List V->(List V->Hp->Prop)->Prop
def PEm (X:Cx) (D:Addr) (EM:Sem Unit) (Z:St->Prop) (tm:TM):Prop:=
 ∀ (pins:List (Addr × Obj)) (s:Shared) (σ:St) (H:Hp) (ys:List V) (Q:List V->Hp->Prop),Inv X pins σ H s->FpOk X pins H D->Acc s.heap D ys->ys.length<=sizeLine->Z σ->tm σ H ys Q ->
  wpAny (model X.prog X.w) X.A EM (fun _ s'=>∃ H' ys',Inv X pins σ H' s'/\H' D=none/\Acc s'.heap D ys'/\Q ys' H') X.xe s
def tmElt (te:TE):TM:=fun σ H ys Q=>ys.length<sizeLine/\te σ H fun v H'=>Q (ys++[v]) H'
section
variable {X:Cx}
theorem Acc.pin {pins : List (Addr × Obj)} {σ : St} {H : Hp} {s : Shared} {D : Addr} {its : List Value} {k : Nat} (I : Inv X pins σ H s) (f : FpOk X pins H D) (e : s.heap.get? D = some { cls:=.type "list",data:=.seq its.toArray k }) : Inv X (pins ++ [(D,{ cls:=.type "list",data:=.seq its.toArray k })]) σ H s:=
 I.pins_of fun p hp=>(List.mem_append.mp hp).elim (fun z=>I.pin p (List.mem_append_right _ z)) fun z=>by
  have e' : p = (D,{ cls:=.type "list",data:=.seq its.toArray k }):=by simpa using z
  subst e'
  exact ⟨e,f.1,f.2.1,f.2.2.1,fun v z=>by cases z⟩
theorem pem_elt {D:Addr} {elt:Expr} {te:TE} {Z:St->Prop} (he:PE X elt te):PEm X D (emElt elt (.ref D) X.env) Z (tmElt te):= by
 intro pins s σ H ys Q I f ⟨its,k,rv,hD⟩ hsz _ ⟨hlt,q⟩
 have I':=Acc.pin I f hD
 unfold emElt
 refine wpAny_bind (thn (he _ s σ H _ I' q) fun v8 s8 ⟨y8,H8,J8,r8,n8⟩=>?_)
 obtain ⟨p1,p2,_⟩:=J8.pin _ (List.mem_append_right _ (List.mem_append_right _ (List.mem_singleton.mpr rfl)))
 have J9:Inv X pins σ H8 s8:=J8.unpinned
 refine wpAny_bind (wpAny_list_append_plain (items:=its.toArray) ⟨k,p1⟩ (fun h9 hl9 hs9=>wpAny_pure ?_) (by have:=rv.length;rw[List.size_toArray,<- this];exact hsz))
 have Jt:Inv X pins σ H8 { s8 with heap:=h9 }:=J9.turned (t':=s8.toks) (fun b o hb e=>(hs9.2 b hb).trans e) p2 f.2.1 f.2.2.2.1 f.2.2.2.2.1 f.2.2.2.2.2
 obtain ⟨k9,e9⟩:=hl9
 refine ⟨H8,ys++[y8],Jt,p2,⟨its++[v8],k9,rv.append (.cons r8 .nil),?_⟩,n8⟩
 rw[show (its++[v8]).toArray=its.toArray.push v8 by simp]
 exact e9
def LcW (J:It) (g:TG) (tc:TT) (tm:TM) (σ0:St) (ys0:List V) (H0:Hp) (F:List V->Hp->Prop):Prop:=
 ∃ W:Nat->Nat->List V->Hp->Prop,(∃ m,W 0 m ys0 H0) /\ ∀ i m ys H,W i m ys H->ys.length<=sizeLine /\
  ((J.stop i H/\F ys H)\/(J.go i H /\ ∃ N:List V->Hp->Prop,(∀ ys' H',N ys' H' -> ∃ m',m'<m/\W (i+1) m' ys' H') /\ ∀ x H',J.yld i H x H'->g x σ0 H' fun σ2 H2=>tc σ2 H2 fun b H3=>
   if b=true then tm σ2 H3 ys N else N ys H3))
theorem lc_loop {e tg iter:Expr} {ifs:List Expr} {dep:Nat} {EM:Sem Unit} {ks:List Nat} {Z:St->Prop} {g:TG} {tc:TT} {tm:TM} {pins:List (Addr × Obj)} {σ0:St} {H2:Hp} {s2:Shared} {it D:Addr} {fp:List Addr} {tn:Nat->Heap->Prop} {J:It} {F:List V->Hp->Prop} {R:Result->Shared->Prop} {ys0:List V}
  (hq:(Code.compLoop e dep (.ref it) (.ref D) X.env).quiet=true) (hfr:(Code.compLoop e dep (.ref it) (.ref D) X.env).isFrame=false) (heq:compTurn e dep (.ref it) (.ref D) X.env=turnG e dep tg iter ifs (.ref it) (.ref D) X.env EM) (hu:X.A.under (.compLoop e dep (.ref it) (.ref D) X.env)=X.A)
  (hc:X.calm=true) (xE : ∀ v s',¬ X.xe v s') (hg:PG X tg g) (ho:Own ks g) (hks : ∀ i v,σ0[i]?=some (some v)->i ∉ ks) (hZ : ∀ σ':St,(∀ i,i ∉ ks->σ'[i]?=σ0[i]?)->Z σ') (ht:PTs X ifs tc) (hem:PEm X D EM Z tm)
  (I2:Inv X pins σ0 H2 s2) (T:Turn X.prog X.w X.K tg J fp it tn) (st2:tn 0 s2.heap) (f2 : ∀ b ∈ fp,FpOk X pins H2 b) (fD:FpOk X pins H2 D) (aD:Acc s2.heap D ys0) (Dfp:D ∉ fp)
  (hw:LcW J g tc tm σ0 ys0 H2 F) (hend : ∀ (s':Shared) (H':Hp) (ys:List V),Inv X pins σ0 H' s'->H' D=none->Acc s'.heap D ys->ys.length<=sizeLine->(∀ b ∈ fp,H' b=none)->F ys H'->R (.ok .next) s') :
  codeAny (model X.prog X.w) X.A (.compLoop e dep (.ref it) (.ref D) X.env) R s2:= by
 obtain ⟨W,⟨m0,w0⟩,turn⟩:=hw
 have stat : ∀ {pl:List (Addr × Obj)} {H':Hp},(∀ p ∈ pl,p.1=D)->(∀ b ∈ fp,H' b=none) -> ∀ b ∈ fp,FpOk X (pins++pl) H' b:=fun {pl H'} hpl hn b hb=>by
  obtain ⟨_,a1,a2,a3,a4,a5⟩:=f2 b hb
  refine ⟨hn b hb,a1,a2,a3,a4,fun p hp=>?_⟩
  rw[<- List.append_assoc] at hp
  rcases List.mem_append.mp hp with z | z
  ·exact a5 p z
  ·rw[hpl p z];exact fun z=>Dfp (z ▸ hb)
 refine compLoop_em hq hfr heq hu (fun n s'=>∃ i ys H',Inv X pins σ0 H' s'/\tn i s'.heap/\(∀ b ∈ fp,H' b=none)/\Acc s'.heap D ys/\H' D=none/\W i n ys H') ?_ m0
  ⟨0,ys0,H2,I2,st2,fun b hb=>(f2 b hb).1,aD,fD.1,w0⟩
 rintro n s3 ⟨i,ys,H3,J3,st3,fr3,⟨its,k,rv,hDs⟩,dn,w3⟩
 obtain ⟨hsz,hcase⟩:=turn i n ys H3 w3
 have fD3:FpOk X pins H3 D:=⟨dn,fD.2⟩
 have J3':=Acc.pin J3 fD3 hDs
 have hpl : ∀ p ∈ [((D,{ cls:=.type "list",data:=.seq its.toArray k }) : Addr × Obj)],p.1 = D:=fun p hp=>by
  have e : p = (D,{ cls:=.type "list",data:=.seq its.toArray k }):=by simpa using hp
  rw[e]
 rcases hcase with ⟨stop,qF⟩ | ⟨go,N,hN,step⟩
 ·have q:=T.done X rfl rfl rfl hc i _ s3 _ H3 (fun _ _=>False) J3' (stat hpl fr3) st3 stop
  refine thn q fun r s4 ⟨hr,J4⟩=>?_
  subst hr
  have hD4 : s4.heap.get? D = some { cls:=.type "list",data:=.seq its.toArray k }:=(J4.pin _ (List.mem_append_right _ (List.mem_append_right _ (List.mem_singleton.mpr rfl)))).1
  exact hend s4 H3 ys J4.unpinned dn ⟨its,k,rv,hD4⟩ hsz fr3 qF
 ·have q:=T.item X rfl rfl rfl hc i _ s3 _ H3 (fun _ _=>False) J3' (stat hpl fr3) st3 go
  refine thn q fun r s4 ⟨u,hr,h4⟩=>?_
  subst hr
  dsimp only
  refine thn h4 fun _ s5 ⟨x,H5,J5,r5,y5,st5,fr5⟩=>?_
  have J5':=J5.pinned (stat hpl fr5) (T.obj _ _ st5)
  refine wpAny_mono (hg _ s5 σ0 H5 x u _ J5' r5 (ho _ _ _ _ (step x H5 y5))) (fun _ s6 h6=>?_) fun e s' z=>xE e s' z
  obtain ⟨σ6,H6,J6,q6,l6,k6⟩:=h6
  refine wpAny_mono (ht _ s6 σ6 H6 _ J6 q6) (fun b s7 h7=>?_) fun e s' z=>xE e s' z
  obtain ⟨H7,J7,q7⟩:=h7
  have fin : ∀ {pl:List (Addr × Obj)} {H8:Hp} {s8:Shared},Inv X (pl++pinsAt fp s5.heap) σ6 H8 s8->(∀ p ∈ pins,p ∈ pl)->tn (i+1) s8.heap/\(∀ b ∈ fp,H8 b=none)/\Inv X pins σ0 H8 s8:=fun {pl H8 s8} J8 hp=>by
   refine ⟨T.keep _ _ _ st5 fun b hb o e=>(J8.pin (b,o) (List.mem_append_right _ (List.mem_append_right _ (mem_pinsAt hb e)))).1,fun b hb=>?_,?_⟩
   ·obtain ⟨o,e,d⟩:=T.obj _ _ st5 b hb
    exact (J8.pin (b,o) (List.mem_append_right _ (List.mem_append_right _ (mem_pinsAt hb e)))).2.1
   ·have J9:Inv X pins σ6 H8 s8:=J8.pins_of fun p hp'=>J8.pin p (List.mem_append_right _ (List.mem_append_left _ (hp p hp')))
    refine J9.weak (l6.symm) fun a v e=>?_
    rw[k6 a (hks a v e)];exact e
  obtain ⟨p1,p2,_⟩:=J7.pin _ (List.mem_append_right _ (List.mem_append_left _ (List.mem_append_right _ (List.mem_singleton.mpr rfl))))
  cases b with
  | false=>
   rw[if_neg (by decide)] at q7
   rw[if_neg (by decide)]
   obtain ⟨m',hm,w7⟩:=hN _ _ q7
   obtain ⟨a3,a4,a5⟩:=fin J7 (fun p hp=>List.mem_append_left _ hp)
   exact ⟨m',hm,i+1,ys,H7,a5,a3,a4,⟨its,k,rv,p1⟩,p2,w7⟩
  | true=>
   rw[if_pos rfl] at q7
   rw[if_pos rfl]
   have J7':Inv X (pins++pinsAt fp s5.heap) σ6 H7 s7:=J7.pins_of fun p hp=>by
    refine J7.pin p (List.mem_append_right _ ?_)
    rcases List.mem_append.mp hp with z | z
    ·exact List.mem_append_left _ (List.mem_append_left _ z)
    ·exact List.mem_append_right _ z
   have fD7:FpOk X (pins++pinsAt fp s5.heap) H7 D:= by
    obtain ⟨_,a1,a2,a3,a4,a5⟩:=fD
    refine ⟨p2,a1,a2,a3,a4,fun p hp=>?_⟩
    rw[<- List.append_assoc] at hp
    rcases List.mem_append.mp hp with z | z
    ·exact a5 p z
    ·exact fun e=>Dfp (e ▸ (of_pinsAt z).1)
   refine wpAny_mono (hem _ s7 σ6 H7 ys _ J7' fD7 ⟨its,k,rv,p1⟩ hsz (hZ σ6 k6) q7) (fun _ s8 h8=>?_) fun e s' z=>xE e s' z
   obtain ⟨H8,ys',J8,d8,a8,n8⟩:=h8
   obtain ⟨m',hm,w8⟩:=hN _ _ n8
   obtain ⟨a3,a4,a5⟩:=fin J8 (fun p hp=>hp)
   exact ⟨m',hm,i+1,ys',H8,a5,a3,a4,a8,d8,w8⟩
def tmIn (wi:TI) (g:TG) (tc:TT) (te:TE):TM:=fun σ H ys Q=>wi σ H fun J H1=>LcW J g tc (tmElt te) σ ys H1 Q
theorem pem_in {D:Addr} {elt tg iter:Expr} {g0:Comprehension} {ifs:List Expr} {scope:Scope} {pos:Pos} {ks:List Nat} {wi:TI} {g:TG} {tc:TT} {te:TE} (hc:X.calm=true) (xE : ∀ v s',¬ X.xe v s') (hi:PI X tg iter wi) (hg:PG X tg g) (ho:Own ks g) (ht:PTs X ifs tc) (he:PE X elt te)
  (hu : ∀ (it:Value),X.A.under (.compLoop (.ListComp elt [g0,⟨tg,iter,ifs,0⟩] scope pos) 1 it (.ref D) X.env)=X.A) (hs : ∀ x,foldedSetIterable iter X.env x=pure x:=by intro _;rfl) :
  PEm X D (emIn (.ListComp elt [g0,⟨tg,iter,ifs,0⟩] scope pos) iter (.ref D) X.env) (fun σ=>∀ i v,σ[i]?=some (some v)->i ∉ ks) (tmIn wi g tc te):= by
 intro pins s σ H ys Q I f ⟨its,k,rv,hD⟩ hsz hz q
 have I':=Acc.pin I f hD
 unfold emIn
 refine wpAny_bind (thn (hi _ s σ H _ I' q) fun v s1 h1=>wpAny_bind (wpAny_standAt (wpAny_bind (wpAny_of_eq (hs v) (wpAny_bind (wpAny_holding (thn h1 fun itv s2 h2=>wpAny_bind (wpAny_runOwn ?_))))))))
 obtain ⟨it,fp,tn,J,H2,e,I2,T,st2,f2,hw⟩:=h2
 subst e
 obtain ⟨p1,p2,_⟩:=I2.pin _ (List.mem_append_right _ (List.mem_append_right _ (List.mem_singleton.mpr rfl)))
 have fD:FpOk X pins H2 D:=⟨p2,f.2⟩
 have f2' : ∀ b ∈ fp,FpOk X pins H2 b:=fun b hb=>by
  obtain ⟨a0,a1,a2,a3,a4,a5⟩:=f2 b hb
  exact ⟨a0,a1,a2,a3,a4,fun p hp=>a5 p (by rw[<- List.append_assoc];exact List.mem_append_left _ hp)⟩
 have Dfp : D ∉ fp:=fun z=>(f2 D z).2.2.2.2.2 (D,{ cls:=.type "list",data:=.seq its.toArray k }) (List.mem_append_right _ (List.mem_append_right _ (List.mem_singleton.mpr rfl))) rfl
 have loop:codeAny (model X.prog X.w) X.A (.compLoop (.ListComp elt [g0,⟨tg,iter,ifs,0⟩] scope pos) 1 (.ref it) (.ref D) X.env) (fun r s'=>match r with | .ok f=>wpAny (model X.prog X.w) X.A (pure PUnit.unit:Sem PUnit) (fun _ s'=>∃ H' ys',Inv X pins σ H' s'/\H' D=none/\Acc s'.heap D ys'/\Q ys' H') X.xe s' | .error e=>cameBackBy (model X.prog X.w) X.A X.env X.xe e s') s2:=
  lc_loop (F:=Q) (ks:=ks) (Z:=fun _=>True) rfl rfl (turn_last ..) (hu _) hc xE hg ho hz (fun _ _=>trivial) ht (pem_elt he) I2.unpinned T st2 f2' fD ⟨its,k,rv,p1⟩ Dfp hw fun s' H' ys' J' d' a' _ _ q'=>wpAny_pure ⟨H',ys',J',d',a',q'⟩
 exact codeAny_compStart_two loop (T.self _ 0 _ _ _ st2 loop)
end
end L2
namespace L2
open PySem PySem.Spec PyProof.Rows
theorem lc_block2 {X:Cx} {N':List Str} {M:List (Option Nat)} {scope:Scope} {cl:List (Str × Addr)} {tg elt iter tg2 iter2:Expr} {ifs ifs2:List Expr} {ks ks2:List Nat} {wi2:TI} {g2:TG} {tc2:TT} {pos:Pos} {g:TG} {tc:TT} {te:TE} {pins:List (Addr × Obj)} {σ:St} {H2:Hp} {s2:Shared}
  {it:Addr} {fp:List Addr} {tn:Nat->Heap->Prop} {J:It} {F:List V->Hp->Prop} {RR:Value->Addr->Result->Shared->Prop} {E:Value->Shared->Prop}
  (S:LcSc X.N N' M scope X.env.scope) (hc:X.calm=true) (q1 : ∀ y c,cl.lookup y=some c->X.env.cells.lookup y=some c) (q2 : ∀ y,(y,NameKind.free) ∈ scope.names -> ∃ c,cl.lookup y=some c)
  (hg : ∀ C s H fp,PG (cxLc X N' scope cl C s H fp) tg g) (ho:Own ks g) (ht : ∀ C s H fp,PTs (cxLc X N' scope cl C s H fp) ifs tc) (hks : ∀ i ∈ ks,M[i]?=some none) (hks2 : ∀ i ∈ ks2,M[i]?=some none/\i ∉ ks)
  (hi2 : ∀ C s H fp,PI (cxLc X N' scope cl C s H fp) tg2 iter2 wi2) (hg2 : ∀ C s H fp,PG (cxLc X N' scope cl C s H fp) tg2 g2) (ho2:Own ks2 g2) (ht2 : ∀ C s H fp,PTs (cxLc X N' scope cl C s H fp) ifs2 tc2) (he : ∀ C s H fp,PE (cxLc X N' scope cl C s H fp) elt te) (hs2 : ∀ env x,foldedSetIterable iter2 env x=pure x)
  (I2:Inv X pins σ H2 s2) (T:Turn X.prog X.w X.K tg J fp it tn) (st2:tn 0 s2.heap) (f2 : ∀ b ∈ fp,FpOk X pins H2 b)
  (hw:LcW J g tc (tmIn wi2 g2 tc2 te) (inSt M σ) [] H2 F)
  (hend : ∀ (D C:Addr) (s':Shared) (H':Hp) (ys:List V),Inv X pins σ (upd H' D (.lst ys)) s'->H' D=none->s2.heap.objs.size<=D->s2.heap.objs.size<C->(∃ m,s'.heap.Ns C m)->(upd H' D (.lst ys)) C=none->F ys H'->RR (.ref D) C (.ok .next) s') :
  wpAny (model X.prog X.w) X.A (newList []) (fun acc s₃=>wpAny (model X.prog X.w) X.A (newFunctionEnv scope X.env.globals cl [] X.env.qual none .none (some X.env)) (fun cenv s₄=>
   codeAny (model X.prog X.w) X.A (.compStart (.ListComp elt [⟨tg,iter,ifs,0⟩,⟨tg2,iter2,ifs2,0⟩] scope pos) 0 (.ref it) acc { cenv with scope:=relabel scope X.env }) (RR acc cenv.locals) s₄) E s₃) E s2:= by
 refine wpAny_newObj_type (wpAny_newFunctionEnv S.cell (by intro y hy;simp at hy) (fun h₁ hns₁ hsb₁=>?_) S.kind)
 dsimp only at hns₁ hsb₁ ⊢
 generalize hG : s2.heap.push { cls:=.type "list",dict:=none,data:=.seq ([] : List Value).toArray } = G at hns₁ hsb₁ ⊢
 generalize hD:s2.heap.objs.size=D at *
 have hC:G.objs.size=D+1:=by rw[<- hG,Heap.size_push,hD]
 generalize hCC:G.objs.size=C at *
 have DC:D<C:=by rw[hC];exact Nat.lt_succ_self _
 have lo : ∀ b o,s2.heap.get? b=some o->b<D:=fun b o e=>hD ▸ Heap.lt_size e
 have old : ∀ b o,s2.heap.get? b=some o->h₁.get? b=some o:=fun b o e=>by
  have hb:=lo b o e
  exact hsb₁.extBut b o (Nat.ne_of_lt (Nat.lt_trans hb DC)) (Heap.get?_push_of_some _ (hG ▸ Heap.get?_push_of_some _ e))
 have hacc : h₁.get? D = some { cls:=.type "list",data:=.seq ([] : List Value).toArray }:=
  hsb₁.extBut _ _ (Nat.ne_of_lt DC) (Heap.get?_push_of_some _ (by rw[<- hG,<- hD];exact Heap.get?_push_size _ rfl))
 have fpl : ∀ b ∈ fp,b<D:=fun b hb=>by
  obtain ⟨o,e,_⟩:=T.obj _ _ st2 b hb
  exact lo b o e
 have cel : ∀ y c,cl.lookup y=some c->c<D:=fun y c e=>by
  obtain ⟨v,z⟩:=I2.cell y c (q1 y c e)
  exact hD ▸ z.lt
 generalize hX':cxLc X N' scope cl C s2 H2 fp=X'
 have envE:X'.env=compEnvC scope cl C X.env:=by rw[<- hX'];rfl
 have locE:X'.env.locals=C:=by rw[envE];rfl
 have fsE:X'.fs=frs X.stack:=by rw[<- hX'];rfl
 have fsl : ∀ b ∈ frs X.stack,b<D:=fun b hb=>by
  rcases List.mem_cons.mp (I2.stkSub b hb) with z | z
  ·rw[z];exact hD ▸ I2.lt
  ·exact Nat.lt_of_not_le fun q=>I2.nofs (hD ▸ q) z
 have relS : ∀ x k,scope.names.lookup x=some k -> ∃ k',X'.env.kindOf x=some k'/\(k'=k\/(k = .free/\k' = .cell)):=fun x k e=>by
  obtain ⟨k',e',q⟩:=relabel_some (env:=X.env) e
  exact ⟨k',by rw[envE];exact e',q⟩
 have relN : ∀ x,scope.names.lookup x=none->X'.env.kindOf x=none:=fun x e=>by
  rw[envE];exact relabel_none (env:=X.env) e
 have cellsE:X'.env.cells=cl:=by rw[envE];rfl
 have ok':X'.Ok:= by
  refine ⟨?mod,?kind,?glob,?blt,?above,?inj,?has,?cab,?hd,?frames,?stk,?exf,?bs,?bsz,?noex,?exfs,?funs,?frf⟩
  case mod=>rw[<- hX'];exact I2.ok.mod
  case kind=>rw[envE];exact S.kind
  case glob=>rw[envE];exact I2.ok.glob
  case blt=>rw[envE];exact I2.ok.blt
  case above=>rw[locE,<- hX'];show s2.heap.objs.size<=C;rw[hD];exact Nat.le_of_lt DC
  case inj=>intro x y c e1 e2;rw[cellsE] at e1 e2;exact I2.ok.inj x y c (q1 x c e1) (q1 y c e2)
  case has=>
   intro x hx
   rw[cellsE]
   cases e:scope.names.lookup x with
   | none=>rw[relN x e] at hx;rcases hx with z | z <;> cases z
   | some k=>
    obtain ⟨k',e',q⟩:=relS x k e
    rw[e'] at hx
    have kf:k = .free:= by
     rcases q with q | q
     ·rcases hx with z | z
      ·cases z;exact absurd q.symm (S.cell _ (PySem.mem_of_lookup e))
      ·cases z;exact q.symm
     ·exact q.1
    subst kf
    exact q2 x (PySem.mem_of_lookup e)
  case cab=>intro x c h;rw[<- hX'] at h;exact absurd h (by show ¬ (false=true);decide)
  case hd=>rw[<- hX'];exact I2.ok.hd
  case frames=>rw[<- hX'];exact I2.ok.frames
  case stk=>rw[<- hX'];exact .inl rfl
  case exf=>
   intro b hb
   have hb':b ∈ fp:=by rw[<- hX'] at hb;exact hb
   refine ⟨by rw[locE];exact Nat.ne_of_lt (Nat.lt_trans (fpl b hb') DC),fun x c e=>?_⟩
   rw[cellsE] at e
   exact (f2 b hb').2.2.2.2.1 x c (q1 x c e)
  case bs=>rw[<- hX'];exact I2.bs
  case bsz=>rw[<- hX'];exact Nat.le_trans I2.ok.bsz I2.sz
  case noex=>
   intro b o e hb
   have hb':b ∈ fp:=by rw[<- hX'] at hb;exact hb
   have e':X.base.get? b=some o:=by rw[<- hX'] at e;exact e
   rcases (f2 b hb').2.2.2.1 with z | z
   ·exact I2.ok.noex b o e' z
   ·exact absurd (Nat.lt_of_lt_of_le (Heap.lt_size e') (Nat.le_trans I2.ok.bsz z)) (Nat.lt_irrefl _)
  case exfs=>
   intro b hb
   have hb':b ∈ fp:=by rw[<- hX'] at hb;exact hb
   rw[fsE]
   intro z
   rcases List.mem_cons.mp (I2.stkSub b z) with q | q
   ·exact (f2 b hb').2.1 q
   ·exact (f2 b hb').2.2.1 q
  case funs=>rw[<- hX'];exact I2.stack
  case frf=>rw[fsE,<- hX'];exact I2.stkFree
 have c0:H2 C=none:=I2.hok.fresh (by rw[hD];exact Nat.le_of_lt DC)
 have d0:H2 D=none:=I2.hok.fresh (by rw[hD];exact Nat.le_refl _)
 have I3:Inv X' [] (inSt M σ) H2 { s2 with heap:=h₁,toks:=s2.toks+([]:List (Str × Value)).length }:= by
  refine ⟨ok',?os,?bare,?base,?loc,?cell,?free,?freeC,?pin,?hok,?len⟩
  case os=>rw[<- hX'];rfl
  case bare=>exact I2.bare
  case base=>rw[fsE,<- hX'];exact Un.kept old
  case loc=>
   refine ⟨_,by rw[locE];exact hns₁,fun i x v e1 e2 _=>?_⟩
   obtain ⟨j,eM,eσ⟩:=inSt_get e2
   obtain ⟨y,n1,n2,n3⟩:=S.at_ i j eM
   have e1':N'[i]?=some x:=by rw[<- hX'] at e1;exact e1
   rw[n1] at e1';cases e1'
   have hyf:(x,NameKind.free) ∈ scope.names:=PySem.mem_of_lookup n3
   have kd:=S.fre _ hyf rfl
   obtain ⟨m,hn,hl⟩:=id I2.loc
   obtain ⟨u,ru,lk⟩:=hl j x v n2 eσ (kd.elim (fun z=>.inr (.inl z)) fun z=>.inr (.inr z))
   refine ⟨u,ru,?_⟩
   rcases lk with ⟨k,_⟩ | ⟨k,c,ec,z⟩
   ·have k':X.env.scope.names.lookup x=some NameKind.local:=k
    rcases kd with q | q <;> (rw[k'] at q;cases q)
   ·obtain ⟨c',ec'⟩:=q2 x hyf
    have hcc:=q1 x c' ec'
    rw[ec] at hcc;cases hcc
    obtain ⟨k',e',q⟩:=relS x _ n3
    refine .inr ⟨?_,c,by rw[cellsE];exact ec',?_⟩
    ·rw[e'];rcases q with q | q
     ·right;rw[q]
     ·left;rw[q.2]
    ·obtain ⟨o,ho,hd'⟩:=z
     exact ⟨o,old _ _ ho,hd'⟩
  case cell=>
   intro x c e
   rw[cellsE] at e
   obtain ⟨v,o,ho,hd'⟩:=I2.cell x c (q1 x c e)
   exact ⟨v,o,old _ _ ho,hd'⟩
  case free=>rw[locE];exact c0
  case freeC=>intro x c e;rw[cellsE] at e;exact I2.freeC x c (q1 x c e)
  case pin=>intro p hp;rw[<- hX'] at hp;exact absurd (show p ∈ ([]:List (Addr × Obj)) from hp) (by simp)
  case hok=>rw[<- hX'];exact I2.hok.kept old
  case len=>rw[inSt_length,<- hX'];exact S.len.symm
 have xE : ∀ (e:Value) (s':Shared),¬ X'.xe e s':=fun e s' z=>by rw[<- hX'] at z;exact z
 have progE:X'.prog=X.prog:=by rw[<- hX'];rfl
 have wE:X'.w=X.w:=by rw[<- hX'];rfl
 have KE':X'.K=X.K:=by rw[<- hX'];rfl
 have AE:X'.A=X.A:=by rw[<- hX'];rfl
 have cE:X'.calm=true:=by rw[<- hX'];exact hc
 have exE:X'.ex=fp:=by rw[<- hX'];rfl
 have s0E:X'.s₀=s2:=by rw[<- hX'];rfl
 have pnE:X'.pn=[]:=by rw[<- hX'];rfl
 have hgX:PG X' tg g:=by rw[<- hX'];exact hg C s2 H2 fp
 have htX:PTs X' ifs tc:=by rw[<- hX'];exact ht C s2 H2 fp
 have heX:PE X' elt te:=by rw[<- hX'];exact he C s2 H2 fp
 have Dfp:D ∉ fp:=fun z=>Nat.lt_irrefl _ (fpl D z)
 have Dcl : ∀ x c,X'.env.cells.lookup x=some c->c≠D:=fun x c e=>by rw[cellsE] at e;exact Nat.ne_of_lt (cel x c e)
 have Dloc:D≠X'.env.locals:=by rw[locE];exact Nat.ne_of_lt DC
 have Dfs:D ∉ X'.fs:=by rw[fsE];exact fun z=>Nat.lt_irrefl _ (fsl D z)
 have D0:D ∈ X'.ex\/X'.s₀.heap.objs.size<=D:=.inr (by rw[s0E,hD];exact Nat.le_refl _)
 have stat : ∀ {pl:List (Addr × Obj)} {H':Hp},(∀ p ∈ pl,p.1=D)->(∀ b ∈ fp,H' b=none) -> ∀ b ∈ fp,FpOk X' pl H' b:=fun {pl H'} hpl hn b hb=>by
  refine ⟨hn b hb,by rw[locE];exact Nat.ne_of_lt (Nat.lt_trans (fpl b hb) DC),?_,.inl (by rw[exE];exact hb),fun x c e=>?_,fun p hp=>?_⟩
  ·exact ok'.exfs b (by rw[exE];exact hb)
  ·rw[cellsE] at e;exact (f2 b hb).2.2.2.2.1 x c (q1 x c e)
  ·rw[pnE,List.nil_append] at hp
   rw[hpl p hp];exact (Nat.ne_of_lt (fpl b hb)).symm
 have hiX2:PI X' tg2 iter2 wi2:=by rw[<- hX'];exact hi2 C s2 H2 fp
 have hgX2:PG X' tg2 g2:=by rw[<- hX'];exact hg2 C s2 H2 fp
 have htX2:PTs X' ifs2 tc2:=by rw[<- hX'];exact ht2 C s2 H2 fp
 have loop:codeAny (model X.prog X.w) X.A (.compLoop (.ListComp elt [⟨tg,iter,ifs,0⟩,⟨tg2,iter2,ifs2,0⟩] scope pos) 0 (.ref it) (.ref D) X'.env) (RR (.ref D) C) { s2 with heap:=h₁,toks:=s2.toks+([]:List (Str × Value)).length }:= by
  have T':Turn X'.prog X'.w X'.K tg J fp it tn:=by rw[progE,wE,KE'];exact T
  have em:=pem_in (X:=X') (D:=D) (elt:=elt) (g0:=⟨tg,iter,ifs,0⟩) (scope:=scope) (pos:=pos) (ks:=ks2) cE xE hiX2 hgX2 ho2 htX2 heX (fun _=>rfl) (hs2 _)
  have inN : ∀ i,M[i]?=some none->(inSt M σ)[i]?=some none:=fun i e=>by unfold inSt;rw[List.getElem?_map,e];rfl
  have base:codeAny (model X'.prog X'.w) X'.A (.compLoop (.ListComp elt [⟨tg,iter,ifs,0⟩,⟨tg2,iter2,ifs2,0⟩] scope pos) 0 (.ref it) (.ref D) X'.env) (RR (.ref D) C) _:=lc_loop (F:=F) (ks:=ks) rfl rfl ((turn_first0 ..).trans (turnF_eq ..)) rfl cE xE hgX ho
   (fun i v e hk=>by rw[inN i (hks i hk)] at e;cases e) (fun σ' hσ i v e hk=>by rw[hσ i (hks2 i hk).2,inN i (hks2 i hk).1] at e;cases e) htX em I3 T' (T.keep _ _ _ st2 fun b hb o e=>old b o e) (stat (pl:=[]) (fun p hp=>absurd hp (by simp)) fun b hb=>(f2 b hb).1)
   ⟨d0,Dloc,Dfs,D0,Dcl,fun p hp=>by rw[pnE] at hp;exact absurd hp (by simp)⟩ ⟨[],0,.nil,hacc⟩ Dfp hw (fun s4 H3 ys J4 dn ⟨its,k,rv,hD4⟩ hsz fr4 qF=>by
   obtain ⟨mC,hnC,_⟩:=id J4.loc
   rw[locE] at hnC
   have b4:=J4.base
   rw[fsE,exE,s0E,show X'.H₀=H2 by rw[<- hX'];rfl] at b4
   refine hend D C s4 H3 ys ?_ dn (Nat.le_refl _) DC ⟨mC,hnC⟩ (by rw[upd_ne (Nat.ne_of_gt DC)];have:=J4.free;rw[locE] at this;exact this) qF
   have hok4:=J4.hok
   rw[progE,wE] at hok4
   refine I2.call' (ch:=fp) (H':=upd H3 D (.lst ys)) (by rw[J4.os,s0E]) ⟨b4.keep,b4.slot,fun b o e nn hb=>?_,b4.there,fun b xs e=>?_,fun b o u e=>?_,fun b ps e=>?_⟩ ?_ J4.bare fun b hb=>?_
   ·rw[upd_ne (Nat.ne_of_lt (lo b o e))];exact b4.free b o e nn hb
   ·rw[upd_ne (ne_of_none (b4.tups b xs e) dn)];exact b4.tups b xs e
   ·rw[upd_ne (ne_of_none (b4.frzs b o u e) dn)];exact b4.frzs b o u e
   ·obtain ⟨more,e'⟩:=b4.tbls b ps e
    exact ⟨more,by rw[upd_ne (ne_of_none e' dn)];exact e'⟩
   ·intro b u e
    by_cases hb:b=D
    ·subst hb
     rw[upd_same] at e;cases e
     exact ⟨hsz,its,k,rv,hD4⟩
    ·rw[upd_ne hb] at e
     exact (hok4 b u e).stay (fun c v _ q=>q) (fun c q=>by rw[upd_ne (ne_of_none q dn)];exact q) fun c xs q=>by rw[upd_ne (ne_of_none q dn)];exact q
   ·obtain ⟨f0,f1,f3,f4,f5,f6⟩:=f2 b hb
    exact ⟨f4,f1,f5,f6⟩)
  rw[progE,wE,AE] at base
  exact base
 have loop':codeAny (model X.prog X.w) X.A (.compLoop (.ListComp elt [⟨tg,iter,ifs,0⟩,⟨tg2,iter2,ifs2,0⟩] scope pos) 0 (.ref it) (.ref D) (compEnvC scope cl C X.env)) (RR (.ref D) C) { s2 with heap:=h₁,toks:=s2.toks+([]:List (Str × Value)).length }:=envE ▸ loop
 exact codeAny_compStart_list loop' (T.self _ 0 _ _ _ (T.keep _ _ _ st2 fun b hb o e=>old b o e) loop')
def tLc2 (wi:TI) (M:List (Option Nat)) (g:TG) (tc:TT) (wi2:TI) (g2:TG) (tc2:TT) (te:TE) (σ:St) (H:Hp) (F:List V->Hp->Prop):Prop:=wi σ H fun J H1=>LcW J g tc (tmIn wi2 g2 tc2 te) (inSt M σ) [] H1 F
section
variable {X:Cx} {N':List Str} {M:List (Option Nat)} {scope:Scope} {tg elt iter tg2 iter2:Expr} {ifs ifs2:List Expr} {ks ks2:List Nat} {pos:Pos} {g g2:TG} {tc tc2:TT} {te:TE} {wi wi2:TI}
theorem pe_lc2 (S:LcSc X.N N' M scope X.env.scope) (hc:X.calm=true) (hi:PI X tg iter wi) (hg : ∀ cl C s H fp,PG (cxLc X N' scope cl C s H fp) tg g) (ho:Own ks g)
  (ht : ∀ cl C s H fp,PTs (cxLc X N' scope cl C s H fp) ifs tc) (hks : ∀ i ∈ ks,M[i]?=some none) (hks2 : ∀ i ∈ ks2,M[i]?=some none/\i ∉ ks) (hi2 : ∀ cl C s H fp,PI (cxLc X N' scope cl C s H fp) tg2 iter2 wi2) (hg2 : ∀ cl C s H fp,PG (cxLc X N' scope cl C s H fp) tg2 g2) (ho2:Own ks2 g2) (ht2 : ∀ cl C s H fp,PTs (cxLc X N' scope cl C s H fp) ifs2 tc2) (he : ∀ cl C s H fp,PE (cxLc X N' scope cl C s H fp) elt te)
  (hs : ∀ x,foldedSetIterable iter X.env x=pure x:=by intro _;rfl) (hs2 : ∀ env x,foldedSetIterable iter2 env x=pure x:=by intro _ _;rfl) :
  PE X (.ListComp elt [⟨tg,iter,ifs,0⟩,⟨tg2,iter2,ifs2,0⟩] scope pos) (fun σ H Q=>tLc2 wi M g tc wi2 g2 tc2 te σ H fun ys H'=>∀ p,H' p=none->Q (.ref p) (upd H' p (.lst ys))):= by
 intro pins s σ H Q I h
 obtain ⟨cl,hclos,q1,q2⟩:=lc_clos S I
 rw[eval_ListComp]
 refine wpAny_comprehension_free (use:=none) rfl hs hclos S.kind S.own (thn (hi pins s σ H _ I h) fun v s1 h1=>thn h1 fun itv s2 h2=>?_)
 obtain ⟨it,fp,tn,J,H2,e,I2,T,st2,f2,hw⟩:=h2
 subst e
 refine lc_block2 (RR:=fun acc C=>compPost (model X.prog X.w) X.A X.xe none (EP X pins σ Q) acc C) S hc q1 q2 (hg cl) ho (ht cl) hks hks2 (hi2 cl) (hg2 cl) ho2 (ht2 cl) (he cl) hs2 I2 T st2 f2 hw ?_
 intro D C s' H' ys I' dn hD hC ⟨m,hn⟩ hCn q
 obtain ⟨y1,y2,y3,y4⟩:=I2.young (Nat.le_of_lt hC)
 exact ⟨m,hn,fun h' hs'=>⟨.ref D,_,I'.gone (s':=s') hs' hCn y1 y2 y3 y4,rfl,q D dn⟩⟩
end
end L2
namespace L2
open PySem PySem.W PyProof.Rows
def kRun {α:Type} (lt:Nat->Nat->Bool):KasT α->α
 | .ret a=>a
 | .ask i j k=>kRun lt (k (lt i j))
theorem kRun_bind {α β:Type} (lt:Nat->Nat->Bool) (f:α->KasT β) : ∀ t:KasT α,kRun lt (t.bind f)=kRun lt (f (kRun lt t))
 | .ret a=>rfl
 | .ask i j k=>kRun_bind lt f (k (lt i j))
section
variable {r:Nat->Int}
def ltR (r:Nat->Int) (i j:Nat):Bool:=decide (r i<r j)
def ky (r:Nat->Int) (p:Array Nat) (k:Nat):Int:=r (p.getD k 0)
def UpTo (r:Nat->Int) (p:Array Nat) (k:Nat):Prop:=∀ i j,i<=j->j<k->ky r p i<=ky r p j
def DnTo (r:Nat->Int) (p:Array Nat) (k:Nat):Prop:=∀ i j,i<=j->j<k->ky r p j<=ky r p i
theorem gd {p:Array Nat} {k:Nat}:p.getD k 0=(p[k]?).getD 0:=by rw[Array.getD_eq_getD_getElem?]
theorem ky_of {p q:Array Nat} {k j:Nat} (h:q[k]?=p[j]?):ky r q k=ky r p j:=by unfold ky;rw[gd,gd,h]
theorem ky_mirror {p:Array Nat} {i j:Nat} (hj:j<=p.size) (k:Nat):ky r (kas_rev p i j) k=if i<=k/\k<j then ky r p (i+j-1-k) else ky r p k:= by
 have e:(kas_rev p i j)[k]?=_:=getElem?_mirror_all (i:=i) hj k
 by_cases h1:i<=k/\k<j
 ·rw[if_pos h1] at e ⊢;exact ky_of e
 ·rw[if_neg h1] at e ⊢;exact ky_of e
theorem ky_bubble {p:Array Nat} {src d:Nat} (hs:src<p.size) (hd:d<=src) (k:Nat):ky r (bubble p src d) k=if k=src-d then ky r p src else if src-d<k/\k<=src then ky r p (k-1) else ky r p k:= by
 have e:=getElem?_bubble hs d hd k
 by_cases h1:k=src-d
 ·rw[if_pos h1] at e ⊢;exact ky_of e
 ·rw[if_neg h1] at e ⊢
  by_cases h2:src-d<k/\k<=src
  ·rw[if_pos h2] at e ⊢;exact ky_of e
  ·rw[if_neg h2] at e ⊢;exact ky_of e
theorem rev_size {p:Array Nat} {i j:Nat}:(kas_rev p i j).size=p.size:=mirror_size _ _ _ _
theorem asc_spec {p:Array Nat} : ∀ (f n:Nat),1<=n->UpTo r p n->n<=kRun (ltR r) (kas_asc p f n)/\kRun (ltR r) (kas_asc p f n)<=n+f/\UpTo r p (kRun (ltR r) (kas_asc p f n))/\(kRun (ltR r) (kas_asc p f n)=n+f\/ky r p (kRun (ltR r) (kas_asc p f n))<ky r p (kRun (ltR r) (kas_asc p f n)-1))
 | 0,n,h1,hu=>⟨Nat.le_refl _,Nat.le_refl _,hu,.inl rfl⟩
 | f+1,n,h1,hu=>by
  have e:kRun (ltR r) (kas_asc p (f+1) n)=kRun (ltR r) (if ltR r (p.getD n 0) (p.getD (n-1) 0)=true then .ret n else kas_asc p f (n+1)):=rfl
  rw[e]
  by_cases c:ltR r (p.getD n 0) (p.getD (n-1) 0)=true
  ·rw[if_pos c]
   exact ⟨Nat.le_refl _,by show n<=n+(f+1);omega,hu,.inr (of_decide_eq_true c)⟩
  ·rw[if_neg c]
   have c':ky r p (n-1)<=ky r p n:=Int.not_lt.mp fun z=>c (decide_eq_true z)
   have hu':UpTo r p (n+1):=fun i j hij hj=>by
    by_cases e:j=n
    ·subst e
     by_cases e2:i=j
     ·subst e2;exact Int.le_refl _
     ·exact Int.le_trans (hu i (j-1) (by omega) (by omega)) c'
    ·exact hu i j hij (by omega)
   obtain ⟨a,b,c1,d⟩:=asc_spec f (n+1) (by omega) hu'
   refine ⟨by omega,by omega,c1,?_⟩
   rcases d with d | d
   ·exact .inl (by omega)
   ·exact .inr d
theorem ky_rev_eq {p:Array Nat} {i j:Nat} (hj:j<=p.size) (he : ∀ k,i<=k->k<j->ky r p k=ky r p (j-1)) (k:Nat):ky r (kas_rev p i j) k=ky r p k:= by
 rw[ky_mirror hj]
 split
 ·rw[he _ (by omega) (by omega),he k (by omega) (by omega)]
 ·rfl
theorem DnTo.congr {p q:Array Nat} {n:Nat} (h:DnTo r p n) (e : ∀ k,ky r q k=ky r p k):DnTo r q n:=fun i j a b=>by rw[e,e];exact h i j a b
theorem desc_spec : ∀ (f:Nat) (p:Array Nat) (n q:Nat),1<=n->n+f<=p.size->q+1<=n->DnTo r p n->(∀ k,n-(q+1)<=k->k<n->ky r p k=ky r p (n-1)) ->
  let o:=kRun (ltR r) (kas_desc f p n q)
  o.1.Perm p/\n<=o.2.1/\o.2.1<=n+f/\DnTo r o.1 o.2.1/\o.2.2+1<=o.2.1/\(∀ k,o.2.1-(o.2.2+1)<=k->k<o.2.1->ky r o.1 k=ky r o.1 (o.2.1-1))
 | 0,p,n,q,h1,hn,hq,hd,he=>⟨Array.Perm.refl _,Nat.le_refl _,Nat.le_refl _,hd,hq,he⟩
 | f+1,p,n,q,h1,hn,hq,hd,he=>by
  have e:kRun (ltR r) (kas_desc (f+1) p n q)=kRun (ltR r) (if ltR r (p.getD n 0) (p.getD (n-1) 0)=true then (if q > 0 then kas_desc f (kas_rev p (n-(q+1)) n) (n+1) 0 else kas_desc f p (n+1) 0)
   else .ask (p.getD (n-1) 0) (p.getD n 0) fun d=>if d=true then .ret (p,n,q) else kas_desc f p (n+1) (q+1)):=rfl
  intro o
  have eo:o=kRun (ltR r) (kas_desc (f+1) p n q):=rfl
  rw[e] at eo
  by_cases c:ltR r (p.getD n 0) (p.getD (n-1) 0)=true
  ·rw[if_pos c] at eo
   have c':ky r p n<ky r p (n-1):=of_decide_eq_true c
   have dn:DnTo r p (n+1):=fun i j hij hj=>by
    by_cases e:j=n
    ·subst e
     by_cases e2:i=j
     ·subst e2;exact Int.le_refl _
     ·exact Int.le_trans (Int.le_of_lt c') (hd i (j-1) (by omega) (by omega))
    ·exact hd i j hij (by omega)
   by_cases hq0:q > 0
   ·rw[if_pos hq0] at eo
    have ek:=ky_rev_eq (r:=r) (p:=p) (i:=n-(q+1)) (j:=n) (by omega) he
    have:=desc_spec f (kas_rev p (n-(q+1)) n) (n+1) 0 (by omega) (by rw[rev_size];omega) (by omega) (dn.congr ek) (fun k a b=>by rw[show k=n+1-1 by omega])
    rw[eo]
    obtain ⟨a1,a2,a3,a4,a5,a6⟩:=this
    exact ⟨a1.trans (mirror_perm _ _ _ _),by omega,by omega,a4,a5,a6⟩
   ·rw[if_neg hq0] at eo
    have:=desc_spec f p (n+1) 0 (by omega) (by omega) (by omega) dn (fun k a b=>by rw[show k=n+1-1 by omega])
    rw[eo]
    obtain ⟨a1,a2,a3,a4,a5,a6⟩:=this
    exact ⟨a1,by omega,by omega,a4,a5,a6⟩
  ·rw[if_neg c] at eo
   have c':ky r p (n-1)<=ky r p n:=Int.not_lt.mp fun z=>c (decide_eq_true z)
   have e2:kRun (ltR r) (.ask (p.getD (n-1) 0) (p.getD n 0) fun d=>if d=true then .ret (p,n,q) else kas_desc f p (n+1) (q+1))=kRun (ltR r) (if ltR r (p.getD (n-1) 0) (p.getD n 0)=true then .ret (p,n,q) else kas_desc f p (n+1) (q+1)):=rfl
   rw[e2] at eo
   by_cases d:ltR r (p.getD (n-1) 0) (p.getD n 0)=true
   ·rw[if_pos d] at eo
    rw[eo]
    exact ⟨Array.Perm.refl _,Nat.le_refl _,by show n<=n+(f+1);omega,hd,hq,he⟩
   ·rw[if_neg d] at eo
    have d':ky r p n<=ky r p (n-1):=Int.not_lt.mp fun z=>d (decide_eq_true z)
    have ee:ky r p n=ky r p (n-1):=Int.le_antisymm d' c'
    have dn:DnTo r p (n+1):=fun i j hij hj=>by
     by_cases e:j=n
     ·subst e
      by_cases e2:i=j
      ·subst e2;exact Int.le_refl _
      ·rw[ee];exact hd i (j-1) (by omega) (by omega)
     ·exact hd i j hij (by omega)
    have:=desc_spec f p (n+1) (q+1) (by omega) (by omega) (by omega) dn (fun k a b=>by
     show ky r p k=ky r p n
     by_cases e:k=n
     ·rw[e]
     ·rw[he k (by omega) (by omega),ee])
    rw[eo]
    obtain ⟨a1,a2,a3,a4,a5,a6⟩:=this
    exact ⟨a1,by omega,by omega,a4,a5,a6⟩
theorem tail3_spec {p:Array Nat} {n nrem:Nat} (h1:1<=n) (hn:n<=nrem) (hz:nrem<=p.size) (hd:DnTo r p n) :
  let o:=kRun (ltR r) (kas_tail3 n nrem p)
  o.2.Perm p/\1<=o.1/\o.1<=nrem/\UpTo r o.2 o.1:= by
 intro o
 have eo:o=(kRun (ltR r) (kas_asc (kas_rev p 0 n) (nrem-n) n),kas_rev p 0 n):= by
  show kRun (ltR r) (kas_tail3 n nrem p)=_
  unfold kas_tail3
  rw[kRun_bind];rfl
 have up:UpTo r (kas_rev p 0 n) n:=fun i j hij hj=>by
  rw[ky_mirror (by omega),ky_mirror (by omega),if_pos ⟨Nat.zero_le _,by omega⟩,if_pos ⟨Nat.zero_le _,hj⟩]
  exact hd _ _ (by omega) (by omega)
 obtain ⟨a,b,c,_⟩:=asc_spec (nrem-n) n h1 up
 rw[eo]
 exact ⟨mirror_perm _ _ _ _,by show 1<=kRun _ _;omega,by show kRun _ _<=nrem;omega,c⟩
theorem descPart_spec {p:Array Nat} {n nrem:Nat} (hn:n+1<=nrem) (hz:nrem<=p.size) (hd:DnTo r p (n+1)) :
  let o:=kRun (ltR r) (kas_descPart n nrem p)
  o.2.Perm p/\1<=o.1/\o.1<=nrem/\UpTo r o.2 o.1:= by
 intro o
 obtain ⟨a1,a2,a3,a4,a5,a6⟩:=desc_spec (r:=r) (nrem-(n+1)) p (n+1) 0 (by omega) (by omega) (by omega) hd (fun k a b=>by rw[show k=n+1-1 by omega])
 have eo:o=kRun (ltR r) (let rr:=kRun (ltR r) (kas_desc (nrem-(n+1)) p (n+1) 0);if rr.2.2 > 0 then kas_tail3 rr.2.1 nrem (kas_rev rr.1 (rr.2.1-(rr.2.2+1)) rr.2.1) else kas_tail3 rr.2.1 nrem rr.1):= by
  show kRun (ltR r) (kas_descPart n nrem p)=_
  unfold kas_descPart
  rw[kRun_bind]
 dsimp only at eo
 generalize kRun (ltR r) (kas_desc (nrem-(n+1)) p (n+1) 0)=rr at eo a1 a2 a3 a4 a5 a6
 have hsz:rr.1.size=p.size:=a1.size_eq
 by_cases hq:rr.2.2 > 0
 ·rw[if_pos hq] at eo
  have ek:=ky_rev_eq (r:=r) (p:=rr.1) (i:=rr.2.1-(rr.2.2+1)) (j:=rr.2.1) (by omega) a6
  have:=tail3_spec (r:=r) (p:=kas_rev rr.1 (rr.2.1-(rr.2.2+1)) rr.2.1) (n:=rr.2.1) (nrem:=nrem) (by omega) (by omega) (by rw[rev_size];omega) (a4.congr ek)
  rw[eo]
  exact ⟨(this.1.trans (mirror_perm _ _ _ _)).trans a1,this.2⟩
 ·rw[if_neg hq] at eo
  have:=tail3_spec (r:=r) (p:=rr.1) (n:=rr.2.1) (nrem:=nrem) (by omega) (by omega) (by omega) a4
  rw[eo]
  exact ⟨this.1.trans a1,this.2⟩
theorem count_spec {p:Array Nat} {nrem:Nat} (h1:1<=nrem) (hz:nrem<=p.size) :
  let o:=kRun (ltR r) (kas_count nrem p)
  o.2.Perm p/\1<=o.1/\o.1<=nrem/\UpTo r o.2 o.1:= by
 intro o
 have u1:UpTo r p 1:=fun i j hij hj=>by
  have:i=j:=by omega
  rw[this];exact Int.le_refl _
 obtain ⟨b1,b2,b3,b4⟩:=asc_spec (r:=r) (p:=p) (nrem-1) 1 (Nat.le_refl _) u1
 have eo:o=kRun (ltR r) (let n:=kRun (ltR r) (kas_asc p (nrem-1) 1);if (n==nrem)=true then .ret (n,p) else if n > 1 then .ask (p.getD 0 0) (p.getD (n-1) 0) fun c=>if c=true then .ret (n,p) else kas_descPart n nrem (kas_rev p 0 n)
  else kas_descPart n nrem p):= by
  show kRun (ltR r) (kas_count nrem p)=_
  unfold kas_count
  rw[kRun_bind]
 dsimp only at eo
 generalize kRun (ltR r) (kas_asc p (nrem-1) 1)=n at eo b1 b2 b3 b4
 by_cases e:(n==nrem)=true
 ·rw[if_pos e] at eo
  rw[eo]
  exact ⟨Array.Perm.refl _,b1,by show n<=nrem;omega,b3⟩
 ·rw[if_neg e] at eo
  have hne:n≠nrem:=by simpa using e
  have hlt:ky r p n<ky r p (n-1):=b4.resolve_left (by omega)
  have step : ∀ q:Array Nat,(∀ k,ky r q k=ky r p k)->(∀ k,k<n->ky r p k=ky r p (n-1))->DnTo r q (n+1):=fun q hq he i j hij hj=>by
   rw[hq,hq]
   by_cases e:j=n
   ·subst e
    by_cases e2:i=j
    ·subst e2;exact Int.le_refl _
    ·rw[he i (by omega)];exact Int.le_of_lt hlt
   ·rw[he i (by omega),he j (by omega)];exact Int.le_refl _
  by_cases h2:n > 1
  ·rw[if_pos h2] at eo
   have e2:kRun (ltR r) (.ask (p.getD 0 0) (p.getD (n-1) 0) fun c=>if c=true then .ret (n,p) else kas_descPart n nrem (kas_rev p 0 n))=kRun (ltR r) (if ltR r (p.getD 0 0) (p.getD (n-1) 0)=true then .ret (n,p) else kas_descPart n nrem (kas_rev p 0 n)):=rfl
   rw[e2] at eo
   by_cases c:ltR r (p.getD 0 0) (p.getD (n-1) 0)=true
   ·rw[if_pos c] at eo
    rw[eo]
    exact ⟨Array.Perm.refl _,b1,by show n<=nrem;omega,b3⟩
   ·rw[if_neg c] at eo
    have c':ky r p (n-1)<=ky r p 0:=Int.not_lt.mp fun z=>c (decide_eq_true z)
    have he : ∀ k,k<n->ky r p k=ky r p (n-1):=fun k hk=>Int.le_antisymm (b3 k (n-1) (by omega) (by omega)) (Int.le_trans c' (b3 0 k (Nat.zero_le _) hk))
    have ek:=ky_rev_eq (r:=r) (p:=p) (i:=0) (j:=n) (by omega) (fun k _ hk=>he k hk)
    have:=descPart_spec (r:=r) (p:=kas_rev p 0 n) (n:=n) (nrem:=nrem) (by omega) (by rw[rev_size];exact hz) (step _ ek he)
    rw[eo]
    exact ⟨this.1.trans (mirror_perm _ _ _ _),this.2⟩
  ·rw[if_neg h2] at eo
   have:=descPart_spec (r:=r) (p:=p) (n:=n) (nrem:=nrem) (by omega) hz (step p (fun _=>rfl) fun k hk=>by rw[show k=n-1 by omega])
   rw[eo]
   exact this
theorem place_spec {p:Array Nat} {k:Nat} (hu:UpTo r p k) : ∀ (f l rr:Nat),l<=rr->rr<=k->rr-l<=f->(∀ i,i<l->ky r p i<=ky r p k)->(∀ i,rr<=i->i<k->ky r p k<ky r p i) ->
  let o:=kRun (ltR r) (kas_place p k f l rr)
  o<=k/\(∀ i,i<o->ky r p i<=ky r p k)/\(∀ i,o<=i->i<k->ky r p k<ky r p i)
 | 0,l,rr,hl,hr,hf,h1,h2=>⟨by show l<=k;omega,h1,fun i a b=>h2 i (by have:l<=i:=a;omega) b⟩
 | f+1,l,rr,hl,hr,hf,h1,h2=>by
  intro o
  have eo:o=kRun (ltR r) (if l >= rr then .ret l else .ask (p.getD k 0) (p.getD ((l+rr) / 2) 0) fun c=>if c=true then kas_place p k f l ((l+rr) / 2) else kas_place p k f ((l+rr) / 2+1) rr):=rfl
  by_cases e:l >= rr
  ·rw[if_pos e] at eo
   have eo:o=l:=eo
   rw[eo]
   exact ⟨by omega,h1,fun i a b=>h2 i (by omega) b⟩
  ·rw[if_neg e] at eo
   have e2:o=kRun (ltR r) (if ltR r (p.getD k 0) (p.getD ((l+rr) / 2) 0)=true then kas_place p k f l ((l+rr) / 2) else kas_place p k f ((l+rr) / 2+1) rr):=eo
   by_cases c:ltR r (p.getD k 0) (p.getD ((l+rr) / 2) 0)=true
   ·rw[if_pos c] at e2
    have c':ky r p k<ky r p ((l+rr) / 2):=of_decide_eq_true c
    rw[e2]
    refine place_spec hu f l ((l+rr) / 2) (by omega) (by omega) (by omega) h1 fun i a b=>?_
    exact Int.lt_of_lt_of_le c' (hu _ _ a b)
   ·rw[if_neg c] at e2
    have c':ky r p ((l+rr) / 2)<=ky r p k:=Int.not_lt.mp fun z=>c (decide_eq_true z)
    rw[e2]
    refine place_spec hu f ((l+rr) / 2+1) rr (by omega) (by omega) (by omega) (fun i a=>?_) h2
    exact Int.le_trans (hu _ _ (by omega) (by omega)) c'
theorem bin_spec : ∀ (f:Nat) (p:Array Nat) (k:Nat),k+f<=p.size->UpTo r p k ->
  let o:=kRun (ltR r) (kas_bin f p k)
  o.Perm p/\UpTo r o (k+f)
 | 0,p,k,hz,hu=>⟨Array.Perm.refl _,hu⟩
 | f+1,p,k,hz,hu=>by
  intro o
  have eo:o=kRun (ltR r) (kas_bin f (bubble p k (k-kRun (ltR r) (kas_place p k k 0 k))) (k+1)):= by
   show kRun (ltR r) ((kas_place p k k 0 k).bind fun l=>kas_bin f (bubble p k (k-l)) (k+1))=_
   rw[kRun_bind]
  obtain ⟨l0,l1,l2⟩:=place_spec (r:=r) (p:=p) (k:=k) hu k 0 k (Nat.zero_le _) (Nat.le_refl _) (by omega) (fun i a=>absurd a (by omega)) (fun i a b=>absurd a (by omega))
  generalize kRun (ltR r) (kas_place p k k 0 k)=l at eo l0 l1 l2
  have kb:=ky_bubble (r:=r) (p:=p) (src:=k) (d:=k-l) (by omega) (by omega)
  rw[show k-(k-l)=l by omega] at kb
  have up:UpTo r (bubble p k (k-l)) (k+1):=fun i j hij hj=>by
   rw[kb,kb]
   by_cases ei:i=l
   ·rw[if_pos ei]
    by_cases ej:j=l
    ·rw[if_pos ej];exact Int.le_refl _
    ·rw[if_neg ej,if_pos ⟨by omega,by omega⟩]
     exact Int.le_of_lt (l2 _ (by omega) (by omega))
   ·rw[if_neg ei]
    by_cases hi:l<i/\i<=k
    ·rw[if_pos hi,if_neg (by omega),if_pos ⟨by omega,by omega⟩]
     exact hu _ _ (by omega) (by omega)
    ·rw[if_neg hi]
     have hil:i<l:=by omega
     by_cases ej:j=l
     ·rw[if_pos ej];exact l1 i hil
     ·rw[if_neg ej]
      by_cases hj2:l<j/\j<=k
      ·rw[if_pos hj2];exact hu _ _ (by omega) (by omega)
      ·rw[if_neg hj2];exact hu _ _ hij (by omega)
  obtain ⟨q1,q2⟩:=bin_spec f (bubble p k (k-l)) (k+1) (by rw[bubble_size];omega) up
  rw[eo]
  exact ⟨q1.trans (bubble_perm _ _ _),by rw[show k+(f+1)=k+1+f by omega];exact q2⟩
theorem sort_spec {n:Nat} (h1:1<=n) :
  let o:=kRun (ltR r) (kas_sort n)
  o.Perm (List.toArray (List.range n))/\UpTo r o n:= by
 intro o
 obtain ⟨a1,a2,a3,a4⟩:=count_spec (r:=r) (p:=List.toArray (List.range n)) (nrem:=n) h1 (by simp)
 have eo:o=kRun (ltR r) (let rr:=kRun (ltR r) (kas_count n (List.toArray (List.range n)));if rr.1<n then kas_bin (n-max rr.1 1) rr.2 (max rr.1 1) else .ret rr.2):= by
  show kRun (ltR r) (kas_sort n)=_
  unfold kas_sort
  rw[kRun_bind]
 dsimp only at eo
 generalize kRun (ltR r) (kas_count n (List.toArray (List.range n)))=rr at eo a1 a2 a3 a4
 have hsz:rr.2.size=n:=by rw[a1.size_eq];simp
 by_cases h:rr.1<n
 ·rw[if_pos h] at eo
  have em:max rr.1 1=rr.1:=by omega
  rw[em] at eo
  have:=bin_spec (r:=r) (n-rr.1) rr.2 rr.1 (by omega) a4
  rw[eo]
  exact ⟨this.1.trans a1,by have:=this.2;rw[show rr.1+(n-rr.1)=n by omega] at this;exact this⟩
 ·rw[if_neg h] at eo
  rw[eo]
  exact ⟨a1,by rw[show rr.1=n by omega] at a4;exact a4⟩
end
end L2
namespace L2
open PySem PySem.Spec PyProof.Rows
end L2
namespace L2
open PySem
end L2
namespace L2
open PySem
end L2
namespace L2
open PySem
end L2
namespace L2
open PySem
def hdL (ws:List Int) (k:Nat):Int:=(((lotN ws (k:Int) ws.length).headD 0:Nat):Int)
def tlL (ws:List Int) (k:Nat):Int:=(((lotN ws (k:Int) ws.length).getLastD 0:Nat):Int)
def lieS (a0 a1 b0 b1 : Int) : Str:=if a0 = b0 /\ a1 = b1 then "same" else if a1 < b0 \/ b1 < a0 then "apart" else if b0 < a0 /\ a1 < b1 then "inside" else if a0 < b0 /\ b1 < a1 then "around" else "crossing"
end L2
namespace L2
open PySem PySem.Spec PyProof.Rows
section
variable {X:Cx} {K:PySem.W.Frag}
end
end L2
namespace L2
open PySem
theorem flat_ints (s:List Int):(s.map V.int).all flatV=true:=by rw[List.all_map];exact List.all_eq_true.mpr fun _ _=>rfl
end L2
namespace L2
theorem ixN_pos {n:Nat} {i:Int} (h0:0<=i) (h1:i<n):ixN n i=some i.toNat:=by unfold ixN;rw[if_pos h0,if_pos h1]
end L2
namespace L2
open PySem PySem.Spec PyProof.Rows
section
variable {X:Cx} {K:PySem.W.Frag}
abbrev TsAt (K:PySem.W.Frag) (H:Hp) (ps:List Addr) (xss:List (List Int)):Prop:=Paired (fun a (xs:List Int)=>SqT K H a (xs.map V.int)) ps xss
theorem ts_get {H:Hp} : ∀ {l1:List Addr} {l2:List (List Int)} {j:Nat} {a:Addr},TsAt K H l1 l2->l1[j]?=some a -> ∃ b,SqT K H a (b.map V.int)/\l2[j]?=some b:= by
 intro l1 l2 j a h e
 induction h generalizing j with
 | nil=>simp at e
 | cons r t ih=>
  cases j with
  | zero=>simp at e;subst e;exact ⟨_,r,rfl⟩
  | succ j=>obtain ⟨b,q,e2⟩:=ih (by simpa using e);exact ⟨b,q,by simpa using e2⟩
end
end L2
namespace L2
open PySem
end L2
namespace L2
open PySem PySem.Spec PyProof.Rows
section
variable {X:Cx} {K:PySem.W.Frag}
end
end L2
namespace L2
open PySem
end L2
namespace L2
open PySem PySem.Spec PyProof.Rows
section
variable {X:Cx}
def PlT (H:Hp) (a:Addr) (xs:List V):Prop:=∃ ob:Obj,ob.dict=none/\H a=some (.frz ob (.tup xs))
theorem PlT.sq {K:PySem.W.Frag} {H:Hp} {a:Addr} {xs:List V} (h:PlT H a xs):SqT K H a xs:= by
 obtain ⟨ob,_,h⟩:=h
 exact .inl (.inr ⟨ob,h⟩)
theorem PlT.same {H H':Hp} {a:Addr} {xs:List V} (h:PlT H a xs) (s:Same H H'):PlT H' a xs:= by
 obtain ⟨ob,h1,h⟩:=h
 exact ⟨ob,h1,s a _ h⟩
theorem kc_tupleO {K : PySem.W.Frag} (h : X.K = K:=by rfl) : CallR X (.type "tuple") (fun xs H Q=>∃ p ys,xs = [.ref p] /\ SqL K H p ys /\ ((∀ l,H l = none -> Q (.ref l) (upd H l (.tup ys))) \/ (∀ l ob,H l = none -> ob.dict = none -> Q (.ref l) (upd H l (.frz ob (.tup ys)))))):= by
 subst h
 intro pins s σ H xs us Q I r h
 obtain ⟨p,ys,rfl,hq,h⟩:=h
 obtain ⟨u,rfl,rx⟩:=vals1 r
 cases rx
 obtain ⟨its,r',pl,hz⟩:=I.list hq
 have hlen:=r'.length
 refine call_tuple_list pl.isList (fun h' kp=>?_) (by simp only [List.size_toArray] <;> omega)
 have I1:Inv X pins σ H { s with heap:=h' }:=I.kept (t':=s.toks) kp
 rcases h with q | q
 ·have I2 : Inv X pins σ (upd H h'.objs.size (.tup ys)) { s with heap:=h'.push { cls:=.type "tuple",data:=.seq its.toArray } }:=
   I1.laid (t':=s.toks) (fun b o e=>Heap.get?_push_of_some _ e) (Nat.le_refl _) (show ObjOk X.prog X.w _ _ _ (.tup ys) from ⟨hz,its,r',IsTup.new _ _⟩)
  exact ⟨.ref h'.objs.size,_,I2,rfl,q _ (I1.hok.fresh (Nat.le_refl _))⟩
 ·have I2 : Inv X pins σ (upd H h'.objs.size (.frz { cls:=.type "tuple",data:=.seq its.toArray } (.tup ys))) { s with heap:=h'.push { cls:=.type "tuple",data:=.seq its.toArray } }:=
   I1.laid (t':=s.toks) (fun b o e=>Heap.get?_push_of_some _ e) (Nat.le_refl _) ⟨Heap.get?_push_size _ rfl,show ObjOk X.prog X.w _ _ _ (.tup ys) from ⟨hz,its,r',IsTup.new _ _⟩⟩
  exact ⟨.ref h'.objs.size,_,I2,rfl,q _ _ (I1.hok.fresh (Nat.le_refl _)) rfl⟩
def tBMT (r:V->List V->Hp->VK->Prop) (to:TE) (t:TA):TE:=fun σ H Q=>to σ H fun x H1=>(∃ a xs,x = .ref a/\PlT H1 a xs)/\t σ H1 fun xs H2=>r x xs H2 Q
theorem pe_bmT {name : Str} {id : String} {r : V -> List V -> Hp -> VK -> Prop} {o e : Expr} {es : List Expr} {to : TE} {t : TA} {apos cpos : Pos} (slot : Slot "tuple" name id) (hty : typeOf (.builtin id) = pure (.type "method_descriptor")) (hm : MtR X id r) (ho : PE X o to) (ha : PA X (e :: es) t)
  (hbase:attributeBase o name X.env (eval o X.env)=eval o X.env:=by rfl)
  (hfew:((backTo cpos (starEach (e::es) X.env)).all (fun x=>!x.1)&&(backToKw cpos (keywordEach [] X.env)).all (fun x=>x.1.isSome)
   && decide ((e::es).length+([]:List Keyword).length+(if ([]:List Keyword).isEmpty then 0 else 1)<30))=true:=by rfl)
  (hline:(apos.endLine==cpos.line)=true:=by rfl) (hs:starEach (e::es) X.env=(false,eval e X.env)::starEach es X.env:=by rfl) (hplain:(backTo cpos (starEach es X.env)).any (·.1)=false:=by rfl) :
  PE X (.Call (.Attribute o name apos) (e::es) [] cpos) (tBMT r to t):= by
 intro pins s σ H Q I h
 refine wpAny_Call_method_late hbase hfew hline rfl (thn (ho pins s σ H _ I h) fun v s1 ⟨x,H1,I1,r1,ty,q1⟩=>?_)
 obtain ⟨a,xs,rfl,hH⟩:=ty
 have r1':=r1
 cases r1'
 obtain ⟨ob,e4,hH⟩:=hH
 obtain ⟨e1,_,its,rv,ob',e1',e2,_⟩:=I1.hok a _ hH
 rw[e1] at e1'
 cases e1'
 refine ⟨"tuple",id,F.plainAttrs_tuple,slot,hty,⟨ob,e1,e2⟩,fun b eb=>?_,?_⟩
 ·cases eb;exact ⟨ob,e1,e4⟩
 have hA:=ha cpos pins s1 σ H1 _ I1 q1
 rw[hs] at hA ⊢
 refine Calls.callWith_builtin (by show (false||(backTo cpos (starEach es X.env)).any (·.1))=false;rw[hplain] <;> rfl) (Calls.evalArgs_plain ?_)
 exact thn hA fun us s2 ⟨vs,H2,I2,r2,q2⟩=>hm pins s2 σ H2 _ vs _ us Q I2 r1 r2 q2
end
end L2
namespace L2
open PySem
def suitsB (ar cr:Nat->Nat->Bool) (C:List Int) (h:Int):Bool:=
 (List.range C.length).all fun k=>!(ar k C.length&&decide (C.getD k 0<=h)) && !(cr k C.length&&decide (C.getD k 0=h))
def comp (ar cr:Nat->Nat->Bool) (n g:Nat):Nat->List Int->Option (List Int)
 | 0,_=>none
 | d+1,C=>if C.length=n then some C else
   (List.range g).findSome? fun (h:Nat)=>if suitsB ar cr C ((h:Int)+1) then comp ar cr n g d (C++[(h:Int)+1]) else none
variable {ar cr:Nat->Nat->Bool} {n g:Nat}
def IsH (ar cr:Nat->Nat->Bool) (n:Nat) (F:List Int):Prop:=∃ g,1<=g/\comp ar cr n g (n+1) []=some F /\ ∀ g',1<=g'->g'<g->comp ar cr n g' (n+1) []=none
def arW (ws : List Int) (k j : Nat) : Bool:=decide (lieS (hdL ws k) (tlL ws k) (hdL ws j) (tlL ws j) = "around")
def crW (ws : List Int) (k j : Nat) : Bool:=decide (lieS (hdL ws k) (tlL ws k) (hdL ws j) (tlL ws j) = "crossing")
end L2
namespace L2
open PySem PySem.Spec PyProof.Rows
section
variable {X:Cx} {K:PySem.W.Frag}
theorem kc_minL (hc : X.calm = true:=by rfl) (h : X.K = K:=by rfl) : CallR X (.builtin "min") (fun xs H Q=>∃ (a : Addr) (ns : List Int),xs = [.ref a] /\ (SqL K H a (ns.map V.int) \/ SqT K H a (ns.map V.int)) /\ ns ≠ [] /\ ∀ m,IsMin ns m -> Q (.int m) H):= by
 subst h
 intro pins s σ H xs us Q I r h
 obtain ⟨a,ns,rfl,hq,hne,q⟩:=h
 obtain ⟨u,rfl,ru⟩:=vals1 r
 cases ru
 refine call_min_walk (seq_walk I (A:=X.A.in1) (I.ok.hd hc) hq fun its I' fp wr St' s2 rv W st hfp _ _ _ _ hI=>?_)
 have hlen:its.toArray.size=ns.length:=by rw[List.size_toArray,<- rv.length,List.length_map]
 have hpos:0<ns.length:=List.length_pos_iff.mpr hne
 refine ⟨_,_,_,_,_,_,_,rfl,W,st,hfp,by rw[hlen];exact hpos,CmpOf.ints_lt (fun i=>ns.getD i 0) (fun i v hv=>(vals_int_at rv hv).imp fun t e=>e.1),fun v h' tk hP hk=>?_⟩
 obtain ⟨t,rfl,hi⟩:=vals_int_at rv hP
 obtain ⟨h1,h2⟩:=argBest_lt (fun i=>ns.getD i 0) (its.toArray.size-1)
 refine ⟨.int _,H,hI h' tk hk,⟨t,rfl⟩,q _ ⟨getD_mem' hi,fun b hb=>?_⟩⟩
 obtain ⟨j,hj,rfl⟩:=mem_getD' hb
 exact h2 j (by omega)
end
end L2
namespace L2
open PySem
variable {ar cr:Nat->Nat->Bool} {n g:Nat}
theorem filt_lt {p q:Nat->Bool} : ∀ (l:List Nat),(∀ x ∈ l,q x=true->p x=true) -> ∀ k ∈ l,p k=true->q k=false->(l.filter q).length+1<=(l.filter p).length
 | [],_,k,hk,_,_=>by simp at hk
 | a::l,h,k,hk,hp,hq=>by
  have le : ∀ (l:List Nat),(∀ x ∈ l,q x=true->p x=true)->(l.filter q).length<=(l.filter p).length:= by
   intro l
   induction l with
   | nil=>intro _;simp
   | cons b l ih=>
    intro h
    have:=ih fun x hx=>h x (List.mem_cons_of_mem _ hx)
    rw[List.filter_cons,List.filter_cons]
    by_cases hb:q b=true
    ·rw[if_pos hb,if_pos (h b List.mem_cons_self hb)];simpa using this
    ·rw[if_neg hb];split
     ·rw[List.length_cons];omega
     ·exact this
  rw[List.filter_cons,List.filter_cons]
  rcases List.mem_cons.mp hk with e | hk
  ·subst e
   rw[if_pos hp,hq,if_neg (by simp),List.length_cons]
   have:=le l fun x hx=>h x (List.mem_cons_of_mem _ hx)
   omega
  ·have:=filt_lt l (fun x hx=>h x (List.mem_cons_of_mem _ hx)) k hk hp hq
   by_cases hb:q a=true
   ·rw[if_pos hb,if_pos (h a List.mem_cons_self hb),List.length_cons,List.length_cons];omega
   ·rw[if_neg hb];split
    ·rw[List.length_cons];omega
    ·exact this
abbrev LhAt (H:Hp) (ps:List Addr) (xss:List (List Int)):Prop:=Paired (fun a (xs:List Int)=>H a=some (.lst (xs.map V.int))) ps xss
end L2
namespace L2
open PySem PySem.W PyProof.Rows
def KIn {α:Type} (n:Nat) (P:α->Prop):KasT α->Prop
 | .ret a=>P a
 | .ask i j k=>i<n/\j<n /\ ∀ b,KIn n P (k b)
theorem KIn.bind {α β:Type} {n:Nat} {P:α->Prop} {Q:β->Prop} {f:α->KasT β} : ∀ {t:KasT α},KIn n P t->(∀ a,P a->KIn n Q (f a))->KIn n Q (t.bind f)
 | .ret a,h,hf=>hf a h
 | .ask i j k,h,hf=>⟨h.1,h.2.1,fun b=>KIn.bind (h.2.2 b) hf⟩
def AllIn (n:Nat) (p:Array Nat):Prop:=∀ k,p.getD k 0<n
theorem AllIn.perm {n:Nat} {p q:Array Nat} (h:AllIn n p) (e:q.Perm p) (hn:0<n):AllIn n q:=fun k=>by
 rw[gd]
 cases hk:q[k]? with
 | none=>exact hn
 | some x=>
  have hx:x ∈ q:=Array.mem_of_getElem? hk
  have hx':x ∈ p:=e.mem_iff.mp hx
  obtain ⟨j,hj⟩:=Array.mem_iff_getElem?.mp hx'
  have:=h j
  rw[gd,hj] at this
  exact this
variable {n:Nat}
theorem kin_asc {p:Array Nat} (h:AllIn n p) : ∀ (f m:Nat),KIn n (fun _=>True) (kas_asc p f m)
 | 0,m=>trivial
 | f+1,m=>⟨h _,h _,fun b=>by
   show KIn n _ (if b=true then _ else _)
   split
   ·trivial
   ·exact kin_asc h f (m+1)⟩
theorem kin_desc (hn:0<n) : ∀ (f:Nat) (p:Array Nat) (m q:Nat),AllIn n p->KIn n (fun o=>AllIn n o.1) (kas_desc f p m q)
 | 0,p,m,q,h=>h
 | f+1,p,m,q,h=>⟨h _,h _,fun b=>by
   show KIn n _ (if b=true then _ else _)
   split
   ·split
    ·exact kin_desc hn f _ _ _ (h.perm (mirror_perm _ _ _ _) hn)
    ·exact kin_desc hn f _ _ _ h
   ·refine ⟨h _,h _,fun d=>?_⟩
    show KIn n _ (if d=true then _ else _)
    split
    ·exact h
    ·exact kin_desc hn f _ _ _ h⟩
theorem kin_tail3 (hn:0<n) {p:Array Nat} {m nrem:Nat} (h:AllIn n p):KIn n (fun o=>AllIn n o.2) (kas_tail3 m nrem p):= by
 have h':AllIn n (kas_rev p 0 m):=h.perm (mirror_perm _ _ _ _) hn
 exact (kin_asc h' _ _).bind fun a _=>h'
theorem kin_descPart (hn:0<n) {p:Array Nat} {m nrem:Nat} (h:AllIn n p):KIn n (fun o=>AllIn n o.2) (kas_descPart m nrem p):=
 (kin_desc hn _ p _ _ h).bind fun a ha=>by
  split
  ·exact kin_tail3 hn (ha.perm (mirror_perm _ _ _ _) hn)
  ·exact kin_tail3 hn ha
theorem kin_count (hn:0<n) {p:Array Nat} {nrem:Nat} (h:AllIn n p):KIn n (fun o=>AllIn n o.2) (kas_count nrem p):=
 (kin_asc h _ _).bind fun a _=>by
  split
  ·exact h
  ·split
   ·refine ⟨h _,h _,fun b=>?_⟩
    show KIn n _ (if b=true then _ else _)
    split
    ·exact h
    ·exact kin_descPart hn (h.perm (mirror_perm _ _ _ _) hn)
   ·exact kin_descPart hn h
theorem kin_place {p:Array Nat} {k:Nat} (h:AllIn n p) : ∀ (f l r:Nat),KIn n (fun _=>True) (kas_place p k f l r)
 | 0,l,r=>trivial
 | f+1,l,r=>by
  show KIn n _ (if l >= r then _ else _)
  split
  ·trivial
  ·refine ⟨h _,h _,fun b=>?_⟩
   show KIn n _ (if b=true then _ else _)
   split
   ·exact kin_place h f _ _
   ·exact kin_place h f _ _
theorem kin_bin (hn:0<n) : ∀ (f:Nat) (p:Array Nat) (k:Nat),AllIn n p->KIn n (fun _=>True) (kas_bin f p k)
 | 0,p,k,h=>trivial
 | f+1,p,k,h=>(kin_place h _ _ _).bind fun l _=>kin_bin hn f _ _ (h.perm (bubble_perm _ _ _) hn)
theorem kin_sort (hn:0<n):KIn n (fun _=>True) (kas_sort n):= by
 have h:AllIn n (List.toArray (List.range n)):=fun k=>by
  rw[gd]
  by_cases hk:k<n
  ·rw[List.getElem?_toArray,List.getElem?_range hk];exact hk
  ·rw[List.getElem?_toArray,List.getElem?_eq_none (by simpa using hk)];exact hn
 exact (kin_count hn h).bind fun a ha=>by
  split
  ·exact kin_bin hn _ _ _ ha
  ·trivial
theorem kWp_runIn {α:Type} {P:α->Prop} {cmp:Nat->Nat->(Bool->Shared->Prop)->Shared->Prop} {lt:Nat->Nat->Bool} {s:Shared} {Q:α->Shared->Prop} (hc : ∀ i j (C:Bool->Shared->Prop),i<n->j<n->C (lt i j) s->cmp i j C s) : ∀ t:KasT α,KIn n P t->Q (kRun lt t) s->t.kasWp cmp Q s
 | .ret a,_,h=>h
 | .ask i j k,hi,h=>hc i j _ hi.1 hi.2.1 (kWp_runIn hc (k (lt i j)) (hi.2.2 _) h)
theorem lexLt_irrefl : ∀ xs:List Int,HT.lexLt xs xs=false
 | []=>rfl
 | x::xs=>by rw[HT.lexLt_cons,if_pos rfl];exact lexLt_irrefl xs
theorem lexLt_trans : ∀ xs ys zs:List Int,HT.lexLt xs ys=true->HT.lexLt ys zs=true->HT.lexLt xs zs=true
 | [],[],zs,h,_=>by rw[HT.lexLt_nil_nil] at h;cases h
 | [],y::ys,[],_,h=>by rw[HT.lexLt_cons_nil] at h;cases h
 | [],y::ys,z::zs,_,_=>HT.lexLt_nil_cons _ _
 | x::xs,[],zs,h,_=>by rw[HT.lexLt_cons_nil] at h;cases h
 | x::xs,y::ys,[],_,h=>by rw[HT.lexLt_cons_nil] at h;cases h
 | x::xs,y::ys,z::zs,h1,h2=>by
  rw[HT.lexLt_cons] at h1 h2 ⊢
  by_cases e1:x=y
  ·subst e1
   rw[if_pos rfl] at h1
   by_cases e2:x=z
   ·rw[if_pos e2] at h2 ⊢;exact lexLt_trans _ _ _ h1 h2
   ·rw[if_neg e2] at h2 ⊢;exact h2
  ·rw[if_neg e1] at h1
   have h1:=of_decide_eq_true h1
   by_cases e2:y=z
   ·subst e2
    rw[if_neg e1];exact decide_eq_true h1
   ·rw[if_neg e2] at h2
    have h2:=of_decide_eq_true h2
    rw[if_neg (by omega)];exact decide_eq_true (by omega)
theorem lexLt_total : ∀ xs ys:List Int,HT.lexLt xs ys=false->HT.lexLt ys xs=false->xs=ys
 | [],[],_,_=>rfl
 | [],y::ys,h,_=>by rw[HT.lexLt_nil_cons] at h;cases h
 | x::xs,[],_,h=>by rw[HT.lexLt_nil_cons] at h;cases h
 | x::xs,y::ys,h1,h2=>by
  rw[HT.lexLt_cons] at h1 h2
  by_cases e:x=y
  ·subst e
   rw[if_pos rfl] at h1 h2
   rw[lexLt_total _ _ h1 h2]
  ·rw[if_neg e] at h1
   rw[if_neg (fun z=>e z.symm)] at h2
   have h1:=of_decide_eq_false h1
   have h2:=of_decide_eq_false h2
   omega
def lexRk (xss:List (List Int)) (i:Nat):Int:=(((List.range xss.length).filter fun k=>HT.lexLt (xss.getD k []) (xss.getD i [])).length:Int)
theorem lexRk_lt {xss:List (List Int)} {i j:Nat} (hi:i<xss.length):decide (lexRk xss i<lexRk xss j)=HT.lexLt (xss.getD i []) (xss.getD j []):= by
 cases h:HT.lexLt (xss.getD i []) (xss.getD j []) with
 | true=>
  refine decide_eq_true ?_
  have:=filt_lt (p:=fun k=>HT.lexLt (xss.getD k []) (xss.getD j [])) (q:=fun k=>HT.lexLt (xss.getD k []) (xss.getD i [])) (List.range xss.length) (fun x _ hx=>lexLt_trans _ _ _ hx h) i (List.mem_range.mpr hi) h (lexLt_irrefl _)
  unfold lexRk
  omega
 | false=>
  refine decide_eq_false (Int.not_lt.mpr ?_)
  unfold lexRk
  refine Int.ofNat_le.mpr ?_
  have le : ∀ (l:List Nat) (p q:Nat->Bool),(∀ x ∈ l,q x=true->p x=true)->(l.filter q).length<=(l.filter p).length:= by
   intro l p q
   induction l with
   | nil=>intro _;simp
   | cons b l ih=>
    intro h
    have:=ih fun x hx=>h x (List.mem_cons_of_mem _ hx)
    rw[List.filter_cons,List.filter_cons]
    by_cases hb:q b=true
    ·rw[if_pos hb,if_pos (h b List.mem_cons_self hb)];simpa using this
    ·rw[if_neg hb];split
     ·rw[List.length_cons];omega
     ·exact this
  refine le _ _ _ fun x _ hx=>?_
  cases h2:HT.lexLt (xss.getD x []) (xss.getD i []) with
  | true=>rfl
  | false=>
   cases h3:HT.lexLt (xss.getD i []) (xss.getD x []) with
   | true=>rw[lexLt_trans _ _ _ h3 hx] at h;cases h
   | false=>
    have e:=lexLt_total _ _ h2 h3
    rw[e] at hx
    rw[hx] at h;cases h
def RowsUp (yss:List (List Int)):Prop:=yss.Pairwise fun a b=>HT.lexLt b a=false
theorem rows_sorted {xss:List (List Int)} (h1:1<=xss.length):let o:=(kRun (ltR (lexRk xss)) (kas_sort xss.length)).toList
  o.Perm (List.range xss.length)/\RowsUp (o.map fun i=>xss.getD i []):= by
 intro o
 obtain ⟨hp,hu⟩:=sort_spec (r:=lexRk xss) h1
 have hp':o.Perm (List.range xss.length):= by
  have:=hp.toList
  simpa using this
 refine ⟨hp',?_⟩
 unfold RowsUp
 rw[List.pairwise_map,List.pairwise_iff_getElem]
 intro i j hi hj hij
 have hlen:o.length=xss.length:=by rw[hp'.length_eq,List.length_range]
 have mem : ∀ k (hk:k<o.length),o[k]<xss.length:=fun k hk=>List.mem_range.mp (hp'.mem_iff.mp (List.getElem_mem hk))
 have ek : ∀ k (hk:k<o.length),ky (lexRk xss) (kRun (ltR (lexRk xss)) (kas_sort xss.length)) k=lexRk xss o[k]:=fun k hk=>by
  unfold ky
  rw[gd,<- Array.getElem?_toList,List.getElem?_eq_getElem hk];rfl
 have:=hu i j (by omega) (by omega)
 rw[ek i hi,ek j hj] at this
 rw[<- lexRk_lt (mem j hj)]
 exact decide_eq_false (Int.not_lt.mpr this)
end L2
namespace L2
open PySem PySem.Spec PyProof.Rows
section
variable {X:Cx} {K:PySem.W.Frag}
theorem Inv.layK {pins:List (Addr × Obj)} {σ:St} {H:Hp} {s:Shared} {h':Heap} {m:Str->Option Value} {D:Addr} {ys:List V} {out:List Value} {c t':Nat} (I:Inv X pins σ H s) (hm:s.heap.Ns X.env.locals m) (F':Fr X.base X.env.locals h' m)
  (N' : News X.base X.env.locals h' ((D,{ cls:=.type "list",data:=.seq out.toArray c }) :: allNews X.base s.heap X.env.locals)) (hD : ∀ q ∈ allNews X.base s.heap X.env.locals,q.1 < D) (hv : Vals ys out) (hz : ys.length <= sizeLine) :
  H D=none/\Inv X pins σ (upd H D (.lst ys)) { s with heap:=h',toks:=t' }:= by
 obtain ⟨eD,nD,bD⟩:=N' _ List.mem_cons_self
 have keep : ∀ b o,b≠X.env.locals->s.heap.get? b=some o->h'.get? b=some o:=fun b o hb e=>by
  cases q:X.base.get? b with
  | some u=>
   have:=I.bk b u q
   rw[e] at this;cases this
   exact F'.keep b _ q
  | none=>exact (N' (b,o) (List.mem_cons_of_mem _ (mem_allNews hb q e))).1
 have newD : ∀ o,s.heap.get? D≠some o:=fun o e=>absurd (hD (D,o) (mem_allNews nD bD e)) (Nat.lt_irrefl _)
 have hDn:H D=none:= by
  cases q:H D with
  | none=>rfl
  | some u=>obtain ⟨ob,e⟩:=(I.hok D u q).get;exact absurd e (newD ob)
 have hL : ∀ b u,H b=some u->b≠X.env.locals:=fun b u e z=>by rw[z,I.free] at e;cases e
 refine ⟨hDn,I.step (g':=s.gens) (d':=s.drawn) (ch:=[]) (fun _ z=>nomatch z) (fun b o hb _ _ e _=>keep b o hb e) (fun b o hb _ _ e _=>⟨o.slots,keep b o hb e⟩) (fun b o _ e n=>?_) (fun b o _ e=>?_) (fun b xs e=>?_) (fun b o u e=>?_) (fun b ps e=>?_) (fun m' hm'=>?_) (fun b u e=>?_) I.bare⟩
 ·rw[upd_ne (fun z=>newD o (by rw[<- z];exact e))];exact n
 ·by_cases hb:b=X.env.locals
  ·obtain ⟨o',_,_,e',_⟩:=F'.ns
   exact ⟨o',hb ▸ e'⟩
  ·exact ⟨o,keep b o hb e⟩
 ·rw[upd_ne (ne_of_none e hDn)];exact e
 ·rw[upd_ne (ne_of_none e hDn)];exact e
 ·exact ⟨#[],by rw[upd_ne (ne_of_none e hDn),Array.append_empty];exact e⟩
 ·have e1:=Heap.Ns.eq_nsMap hm
  have e2:=Heap.Ns.eq_nsMap hm'
  rw[e2,<- e1];exact F'.ns
 ·by_cases hb:b=D
  ·subst hb
   rw[upd_same] at e;cases e
   exact ⟨hz,out,c,hv,eD⟩
  ·rw[upd_ne hb] at e
   refine (I.hok b u e).stay (fun d v hd q=>?_) (fun d q=>by rw[upd_ne (ne_of_none q hDn)];exact q) fun d xs q=>by rw[upd_ne (ne_of_none q hDn)];exact q
   rcases hd with z | z
   ·exact keep d v (z ▸ hL b u e) q
   ·exact keep d v (hL d _ z) q
theorem lex_ask {prog:Program} {w:World} {A:Around} {b fin:Bool} {Q:Bool->Shared->Prop} {s:Shared} : ∀ {xs ys:List Int} {us vs:List Value} (i:Nat),Vals (xs.map V.int) us->Vals (ys.map V.int) vs ->
  (fin=decide (us.length<vs.length))->Q (HT.lexLt xs ys) s->PySem.W.KatLex prog w A b fin Q (us.zip vs) i s
 | [],[],_,_,i,.nil,.nil,hf,h=>by
  rw[HT.lexLt_nil_nil] at h
  show Q fin s
  rw[hf];exact h
 | [],y::ys,_,_,i,.nil,.cons r1 r2,hf,h=>by
  rw[HT.lexLt_nil_cons] at h
  show Q fin s
  rw[hf];simpa using h
 | x::xs,[],_,_,i,.cons r1 r2,.nil,hf,h=>by
  rw[HT.lexLt_cons_nil] at h
  show Q fin s
  rw[hf];simpa using h
 | x::xs,y::ys,_,_,i,.cons (l₂:=us) ⟨t,e1⟩ r1,.cons (l₂:=vs) ⟨t2,e2⟩ r2,hf,h=>by
  subst e1 e2
  rw[HT.lexLt_cons] at h
  refine PySem.W.kat_cons (eqAt_V (y:=.int x) (x:=.int y) ⟨t,rfl⟩ ⟨t2,rfl⟩ rfl rfl prog w _ _ ?_)
  show PySem.W.KatGo prog w A b fin Q _ _ _ i (x==y) s
  by_cases e:x=y
  ·rw[if_pos e] at h
   rw[show (x==y)=true by simpa using e]
   refine PySem.W.kat_yes (lex_ask (i+1) r1 r2 ?_ h)
   rw[hf];simp
  ·rw[if_neg e] at h
   rw[show (x==y)=false by simpa using e]
   refine PySem.W.kat_no ?_
   cases hb:(b&&i==0) with
   | true=>exact oneLt_int h
   | false=>exact PySem.W.kat_one _ _ (lt_int h)
theorem vals_refs {ps:List Addr} : ∀ {its:List Value},Vals (ps.map V.ref) its->its=ps.map Value.ref:= by
 induction ps with
 | nil=>intro its r;cases r;rfl
 | cons a ps ih=>
  intro its r
  cases r with
  | cons r1 r2=>rw[ih r2];cases r1;rfl
theorem refs_vals (ps:List Addr):Vals (ps.map V.ref) (ps.map Value.ref):= by
 induction ps with
 | nil=>exact .nil
 | cons a ps ih=>exact .cons rfl ih
theorem sorted_few {prog:Program} {w:World} {A:Around} {E:Value->Shared->Prop} {s:Shared} {l:Addr} {vs:List Value} {Q:Value->Shared->Prop} (hl:s.heap.IsList l vs.toArray) (h2:vs.length<2)
  (h:Q (.ref (s.heap.objs.size+1)) { s with heap:=sortedAll s.heap vs vs.toArray }) :
  wpAny (model prog w) A (call (.builtin "sorted") [.ref l]) Q E s:= by
 refine Calls.call_function_entry kind_sorted plain_sorted entry_sorted (args_sorted1 _) ?_
 unfold Builtin.«sorted»
 refine wpAny_bind (m:=checkCount "sorted" 1 1 _) (wpAny_pure ?_)
 refine wpAny_bind (collect_list hl ?_ (by rw[sizeLine_eq];omega))
 refine wpAny_bind (wpAny_newList ?_ (by rw[sizeLine_eq];omega))
 have hsz : ((s.heap.push (seqObj "list" #[] 0)).update s.heap.objs.size (Obj.mapSeq (· ++ vs.toArray))).objs.size = s.heap.objs.size + 1:= by
  rw[Heap.size_update,size_push']
 have hoL : (((s.heap.push (seqObj "list" #[] 0)).update s.heap.objs.size (Obj.mapSeq (· ++ vs.toArray))).push (seqObj "list" vs.toArray 0)).get? (s.heap.objs.size + 1) = some (seqObj "list" vs.toArray 0):= by
  rw[<- hsz];exact Heap.get?_push_size _ rfl
 show wpAny _ _ _ _ _ { s with heap:=((s.heap.push (seqObj "list" #[] 0)).update s.heap.objs.size (Obj.mapSeq (· ++ vs.toArray))).push (seqObj "list" vs.toArray 0) }
 rw[hsz]
 have small : ∀ {P : Fin -> Shared -> Prop} {A : Around} {E : Value -> Shared -> Prop} {s : Shared} {a : Addr} {n : Nat},s.heap.get? a = some (seqObj "list" vs.toArray n) -> P (.done (.ret .none)) { s with heap:=sortedHeap s.heap a vs vs.toArray } -> wpAny (model prog w) A (Builtin.«list.sort» ⟨[.ref a],[]⟩) P E s:=fun {P A E s a n} ho hP=>by
  rw[list_sort_plain]
  have ha:a<s.heap.objs.size:=Heap.lt_size ho
  refine wpAny_bind (listItems_at ho rfl ?_)
  refine wpAny_bind (listUpdate_at ho rfl ?_ (by rw[List.size_toArray,sizeLine_eq];omega) (Nat.zero_le _))
  obtain ⟨e1,ho1⟩ : ∃ e1,(s.heap.update a (Obj.mapSeq fun _=>#[])).get? a = some (seqObj "list" #[] e1):=⟨_,get?_update_seq ho (fun _=>#[])⟩
  refine wpAny_bind (seqEpoch_at ho1 rfl ?_)
  refine wpAny_bind (wpAny_newTuple ?_ (by show vs.length<=_;rw[sizeLine_eq];omega))
  refine wpAny_bind (wpAny_newList ?_ (Nat.zero_le _))
  refine wpAny_holding ?_
  have ho6 : (((s.heap.update a (Obj.mapSeq fun _=>#[])).push (seqObj "tuple" vs.toArray 0)).push (seqObj "list" #[] 0)).get? a = some (seqObj "list" #[] e1):= by
   rw[Heap.get?_push_ne _ _ _ (by rw[size_push',Heap.size_update];exact Nat.ne_of_lt (Nat.lt_succ_of_lt ha)),Heap.get?_push_ne _ _ _ (by rw[Heap.size_update];exact Nat.ne_of_lt ha)]
   exact ho1
  show wpAny (model prog w) A _ P E { s with heap:=((s.heap.update a (Obj.mapSeq fun _=>#[])).push (seqObj "tuple" vs.toArray 0)).push (seqObj "list" #[] 0) }
  dsimp only
  have h2':vs.toArray.size<2:=by simpa using h2
  rw[if_pos h2',if_pos h2']
  refine wpAny_bind (wpAny_pure ?_)
  rw[StateT.run_pure]
  refine wpAny_bind (wpAny_pure ?_)
  dsimp only
  have em:(arrOf (SortSt.mk' general' (vs.toArray.zip vs.toArray) #[] 7 none)).map (·.2)=vs.toArray:= by
   show (vs.toArray.zip vs.toArray).map (·.2)=vs.toArray
   apply Array.ext <;> simp
  refine wpAny_bind (seqEpoch_at ho6 rfl ?_)
  refine wpAny_bind (listUpdate_at ho6 rfl ?_ (Nat.zero_le _) (hsz2:=by rw[Array.size_map];show (pairsOf vs).size<=_;rw[pairsOf_size,sizeLine_eq];omega))
  simp only [bne_self_eq_false,Bool.false_eq_true,if_false]
  refine wpAny_pure ?_
  show P (.done (.ret .none)) { s with heap:=(((s.heap.update a (Obj.mapSeq fun _=>#[])).push (seqObj "tuple" vs.toArray 0)).push (seqObj "list" #[] 0)).update a (Obj.mapSeq fun _=>(arrOf (SortSt.mk' general' (vs.toArray.zip vs.toArray) #[] 7 none)).map (·.2)) }
  rw[em]
  exact hP
 refine wpAny_bind (wpAny_holding (wpAny_call_entry slot_list_sort ⟨_,hoL,rfl⟩ entry_list_sort (small hoL ⟨_,rfl,?_⟩) (args_list_sort _)))
 exact wpAny_pure ⟨_,rfl,h⟩
theorem ts_getD {H:Hp} : ∀ {ps:List Addr} {xss:List (List Int)} {i:Nat},TsAt K H ps xss->i<ps.length->SqT K H (ps.getD i 0) ((xss.getD i []).map V.int):= by
 intro ps xss i h hi
 obtain ⟨xs,h1,h2⟩:=ts_get h (List.getElem?_eq_getElem hi)
 rw[List.getD_eq_getElem?_getD,List.getElem?_eq_getElem hi,List.getD_eq_getElem?_getD,h2]
 exact h1
theorem range_getD {α:Type} (l:List α) (d:α):(List.range l.length).map (fun i=>l.getD i d)=l:= by
 refine List.ext_getElem (by simp) fun i h1 h2=>?_
 rw[List.getElem_map,List.getElem_range,getD_lt h2]
end
end L2
namespace PySem
open Sem (wp)
def Heap.DictE (h:Heap) (a:Addr) (kvs:List (Value × Value)) (ep:Nat):Prop:=∃ o es,h.get? a=some o/\o.ExactDict/\o.data = .dict es ep/\es.toList.map (fun e=>(e.key,e.val))=kvs
theorem Heap.DictE.typeIs {s : Shared} {a : Addr} {kvs : List (Value × Value)} {ep : Nat} (x : s.heap.DictE a kvs ep) : s.TypeIs (.ref a) "dict":=let ⟨o,_,ho,hc,_⟩:=x; ⟨o,ho,hc.1⟩
theorem Heap.DictE.extBut {h h':Heap} {a b kvs ep} (x:h.DictE a kvs ep) (hs:Heap.ExtBut b h h') (hab:a≠b):h'.DictE a kvs ep:=let ⟨o,es,ho,r⟩:=x;⟨o,es,hs a o hab ho,r⟩
theorem Heap.DictE.push {h:Heap} {a kvs ep} (x:h.DictE a kvs ep) (o:Obj):(h.push o).DictE a kvs ep:=let ⟨o',es,ho,r⟩:=x;⟨o',es,Heap.get?_push_of_some o ho,r⟩
section
variable {prog:Program} {w:World} {A:Around} {E:Value->Shared->Prop} {s:Shared}
end
end PySem
namespace PySem.W
open PySem PySem.Calls PyProof.Rows PyProof.V PySem.Spec
section
variable {prog:Program} {w:World} {d r:Addr} {kvs:List (Value × Value)} {ep:Nat}
end
end PySem.W
namespace L2
open PySem PySem.Spec PyProof.Rows
section
variable {X:Cx} {K:PySem.W.Frag}
theorem Inv.dictT {pins:List (Addr × Obj)} {σ:St} {H:Hp} {s:Shared} {d:Addr} {kvs:List (List Key × V)} (I:Inv X pins σ H s) (h:H d=some (.dT kvs)) :
  kvs.length<=sizeLine/\(d==sysModules)=false /\ ∃ (ps:List Addr) (vs:List Value) (ep:Nat),Paired (fun (p:List Key × V) a=>H a=some (.tup (p.1.map kV))) kvs ps/\s.heap.DictE d ((ps.map Value.ref).zip vs) ep/\Vals (kvs.map (·.2)) vs:= by
 obtain ⟨z,lo,xs,r,o,es,ep,h1,h2,h3,h4,hnd⟩:=(show ObjOk X.prog X.w H s.heap d (.dT kvs) from I.hok d _ h)
 refine ⟨z,lo,xs.map (·.2.1),xs.map (·.2.2),ep,?_,⟨o,es,h1,h2,h3,?_⟩,?_⟩
 ·clear h h4 z hnd
  induction r with
  | nil=>exact .nil
  | cons q _ ih=>exact .cons q.2.1 ih
 ·rw[h4,List.map_map]
  clear h h4 z r hnd
  induction xs with
  | nil=>rfl
  | cons x xs ih=>rw[List.map_cons,ih];rfl
 ·clear h h4 z hnd
  induction r with
  | nil=>exact .nil
  | cons q _ ih=>exact .cons q.2.2 ih
end
end L2
namespace L2
open PySem PySem.Spec PyProof.Rows
inductive Dd where
 | non | bl (b:Bool) | int (i:Int) | str (x:Str) | lst (l:List Dd) | tup (l:List Dd)
mutual
def DAt (K:PySem.W.Frag) (H:Hp):Dd->V->Prop
 | .non,v=>v = .non
 | .bl b,v=>v = .bl b
 | .int i,v=>v = .int i
 | .str x,v=>v = .str x
 | .lst l,v=>∃ (a:Addr) (vs:List V),v = .ref a/\SqL K H a vs/\DAts K H l vs
 | .tup l,v=>∃ (a:Addr) (vs:List V),v = .ref a/\SqT K H a vs/\DAts K H l vs
def DAts (K:PySem.W.Frag) (H:Hp):List Dd->List V->Prop
 | [],vs=>vs=[]
 | d::l,vs=>∃ (v:V) (r:List V),vs=v::r/\DAt K H d v/\DAts K H l r
end
theorem DAts.length {K:PySem.W.Frag} {H:Hp} : ∀ {l:List Dd} {vs:List V},DAts K H l vs->vs.length=l.length
 | [],vs,h=>by rw[DAts] at h;rw[h];rfl
 | d::l,vs,h=>by
  rw[DAts] at h
  obtain ⟨v,r,rfl,_,h2⟩:=h
  rw[List.length_cons,List.length_cons,DAts.length h2]
section
variable {X:Cx} {K:PySem.W.Frag} {pins:List (Addr × Obj)} {σ:St} {H:Hp} {s:Shared}
end
end L2
namespace L2
open PySem PySem.Spec PyProof.Rows
section
variable {X:Cx} {K:PySem.W.Frag}
theorem vals_strs : ∀ {zs:List Str} {us:List Value},Vals (zs.map V.str) us -> ∃ l:List (Str × Tok),us=strValues l/\l.map (·.1)=zs
 | [],us,h=>by cases h;exact ⟨[],rfl,rfl⟩
 | z::zs,us,h=>by
  cases h with
  | cons r t=>
   obtain ⟨k,rfl⟩:=r
   obtain ⟨l,rfl,rfl⟩:=vals_strs t
   exact ⟨(z,k)::l,rfl,rfl⟩
def rJoin (K:PySem.W.Frag):V->List V->Hp->VK->Prop:=fun x vs H Q=>∃ (u:Str) (p:Addr) (zs:List Str),x = .str u/\vs=[.ref p]/\SqL K H p (zs.map V.str)/\JoinOk u zs=true/\Q (.str (Txt.join u zs)) H
theorem mt_join (h : X.K = K:=by rfl) : MtR X "str.join" (rJoin K):= by
 subst h
 intro pins s σ H x vs v us Q I rx rv h
 obtain ⟨u,p,zs,rfl,rfl,hH,hok,q⟩:=h
 obtain ⟨t,rfl⟩:=rx
 obtain ⟨w,rfl,rw_⟩:=rv.one
 cases rw_
 obtain ⟨its,r,pl,hz⟩:=I.list hH
 obtain ⟨l,rfl,hl⟩:=vals_strs r
 exact SC.join pl.isList hl hok fun t' k=>⟨.str _,H,I.tok _,⟨_,rfl⟩,q⟩
theorem joinOk_small {u:Str} {zs:List Str} {B:Nat} (hB : ∀ y ∈ zs,y.length<=B) (h:zs.length*B+zs.length*u.length<=16777216):JoinOk u zs=true:= by
 unfold JoinOk
 rw[PySem.StrLaws.joinFits hB h];rfl
theorem glue_snoc (l : List Str) (z : Str) : Txt.join (Str.ofString "") (l ++ [z]) = Txt.join (Str.ofString "") l ++ z:= by
 have e0 : (Str.ofString "").cps = #[]:=by decide
 show Builtin.Str.glued _ _=Builtin.Str.glued _ _++z
 unfold Builtin.Str.glued
 cases l with
 | nil=>
  show (⟨z.cps⟩:Str)=⟨(Str.empty).cps++z.cps⟩
  rw[show (Str.empty).cps = #[] from rfl,Array.empty_append]
 | cons a l=>
  show (⟨(l++[z]).foldl _ a.cps⟩:Str)=⟨l.foldl _ a.cps++z.cps⟩
  rw[List.foldl_append]
  show (⟨l.foldl _ a.cps ++ (Str.ofString "").cps ++ z.cps⟩ : Str) = _
  rw[e0,Array.append_empty]
theorem vals_count {z:Int} : ∀ {ns:List Int} {us:List Value},Vals (ns.map V.int) us->us.countP (fun y=>match y with | .int i _=>i==z | _=>false)=ns.count z
 | [],us,h=>by cases h;rfl
 | n::ns,us,h=>by
  cases h with
  | cons r t=>
   obtain ⟨k,rfl⟩:=r
   rw[List.countP_cons,List.count_cons,vals_count t]
def rCountTu (K:PySem.W.Frag):V->List V->Hp->VK->Prop:=fun x vs H Q=>∃ (l:Addr) (ns:List Int) (z:Int),x = .ref l/\vs=[.int z]/\SqT K H l (ns.map V.int)/\Q (.int (ns.count z:Nat)) H
theorem mt_countTu (h : X.K = K:=by rfl) : MtR X "tuple.count" (rCountTu K):= by
 subst h
 intro pins s σ H x vs v us Q I rx rv h
 obtain ⟨l,ns,z,rfl,rfl,hH,q⟩:=h
 cases rx
 obtain ⟨u,rfl,ru⟩:=rv.one
 obtain ⟨its,r,ht,_⟩:=I.tuple hH
 have at_ : ∀ m (hm:m<its.toArray.size),∃ t,its.toArray[m] = .int (ns.getD m 0) t:=fun m hm=>(vals_int_at r (i:=m) (v:=its.toArray[m]) (by simp)).imp fun t e=>e.1
 have hty:=ht.typeIs
 obtain ⟨o,ho,hc,n,hd⟩:=ht
 obtain ⟨c,d,da,sl⟩:=o
 simp only at hc hd
 subst hc hd
 refine call_meets F.slot_tuple_count hty F.entry_tuple_count (F.args_tuple_count_2 _ _) (SeqAt.tuple_countAt l its.toArray n d sl u (fun y=>match y with | .int i _=>i==z | _=>false)) ⟨ho,?_,?_⟩
 ·intro y hy
  obtain ⟨m,hm,rfl⟩:=Array.mem_iff_getElem.mp hy
  obtain ⟨t,q1⟩:=at_ m hm
  rw[q1]
  obtain ⟨t2,rfl⟩:=ru
  exact eqAt_V (y:=.int _) (x:=.int _) ⟨_,rfl⟩ ⟨_,rfl⟩ rfl rfl
 ·have e:its.toArray.toList.countP (fun y=>match y with | .int i _=>i==z | _=>false)=ns.count z:=vals_count r
  rw[e]
  exact ⟨.int _,H,I.tok _,⟨_,rfl⟩,q⟩
end
end L2
namespace L2
open PySem
theorem paired_getM {α β:Type} {F:α->β->Prop} : ∀ {l1:List α} {l2:List β} {j:Nat} {a:α},Paired F l1 l2->l1[j]?=some a -> ∃ b,F a b/\l2[j]?=some b:= by
 intro l1 l2 j a h e
 induction h generalizing j with
 | nil=>simp at e
 | cons r t ih=>
  cases j with
  | zero=>simp at e;subst e;exact ⟨_,r,rfl⟩
  | succ j=>obtain ⟨b,q,e2⟩:=ih (by simpa using e);exact ⟨b,q,by simpa using e2⟩
end L2
namespace L2
open PySem PySem.Spec PyProof.Rows
open PySem.StrLaws (occBody occ_eq subAt_one partsFrom partsBetween_eq strSub_toList)
section
variable {X:Cx} {K:PySem.W.Frag}
end
end L2
namespace L2
open PySem
end L2
namespace L2
open PySem PySem.Spec PyProof.Rows
section
variable {X:Cx} {K:PySem.W.Frag}
theorem kc_isiP (h : X.K = K:=by rfl) : CallR X (.builtin "isinstance") (fun xs H Q=>∃ x n t b,xs = [x,.ty n] /\ (TyOf K H x t \/ ∃ (a : Addr) (ys : List V),x = .ref a /\ PlT H a ys /\ t = .type "tuple") /\ PySem.W.kitOne K t (.type n) = some b /\ Q (.bl b) H):= by
 subst h
 intro pins s σ H xs us Q I r h
 obtain ⟨x,n,t,b,rfl,ty,e,q⟩:=h
 obtain ⟨u,w',rfl,rx,ru⟩:=vals2 r
 cases (show w'=Value.type n from ru)
 rcases ty with ty | ⟨a,ys,rfl,⟨ob,hob,hH⟩,rfl⟩
 ·exact isinst_ok I rx ty e fun tk=>⟨.bl b,H,I.tok tk,rfl,q⟩
 ·cases (show u=Value.ref a from rx)
  obtain ⟨e1,_,its,rv,ob',e1',e2,_⟩:=I.hok a _ hH
  exact PySem.W.kia_one PySem.W.kitx_tuple I.kIn ⟨ob',e1',e2⟩ e (fun z=>nomatch z) fun tk=>⟨.bl b,H,I.tok tk,rfl,q⟩
end
theorem seq_c {v:V} {i:Nat} {B:TS} {D:Ends} {σ:St} {H:Hp} (h:B D (σ.set i (some v)) H):tSeq (tAsg (tC v) (gName i)) B D σ H:=h
end L2
namespace L2
open PySem
def neL (L:List (List Int)):List (List Int):=L.filter fun l=>decide (0<l.length)
section
variable {ws F:List Int} (hw:isWay ws=true) (hH:IsH (arW ws) (crW ws) (fresh 0 ws).toNat F)
include hw hH in
include hw hH in
include hw hH in
include hw hH in
include hw hH in
end
end L2
namespace L2
open PySem PySem.Spec PyProof.Rows
section
variable {prog:Program} {w:World} {A:Around} {E:Value->Shared->Prop} {s:Shared}
end
section
variable {X:Cx} {K:PySem.W.Frag}
end
end L2
namespace L2
open PySem PySem.Spec PyProof.Rows
section
variable {X:Cx}
end
end L2
namespace L2
open PySem PySem.Spec PyProof.Rows
section
variable {X:Cx} {K:PySem.W.Frag}
end
end L2
namespace L2
open PySem PySem.Spec PyProof.Rows
theorem atI_strs {R : List Str} {i : Nat} (h : i < R.length) : atI (R.map V.str) (i : Int) = some (V.str (R.getD i "")):=atI_nat (by rw[List.getElem?_map,List.getElem?_eq_getElem h,List.getD_eq_getElem?_getD,List.getElem?_eq_getElem h]; rfl)
theorem getStr {R:List Str} {j:Nat} {y:V} (h:(R.map V.str)[j]?=some y) : ∃ z,y=V.str z/\R[j]?=some z/\j<R.length:= by
 rw[List.getElem?_map] at h
 cases e:R[j]? with
 | none=>rw[e] at h;cases h
 | some z=>rw[e] at h;cases h;exact ⟨z,rfl,rfl,(List.getElem?_eq_some_iff.mp e).1⟩
theorem if_dec {c:TT} {t u:TS} {D:Ends} {σ:St} {H:Hp} (b:Bool) (hc : ∀ N:Bool->Hp->Prop,N b H->c σ H N) (ht:b=true->t D σ H) (hu:b=false->u D σ H):tIfS c t u D σ H:= by
 refine hc _ ?_
 cases b
 ·exact iteF (hu rfl)
 ·exact iteT (ht rfl)
theorem seq_a {te:TE} {i:Nat} {B:TS} {D:Ends} {σ:St} {H:Hp} (h:te σ H fun x H1=>B D (σ.set i (some x)) H1):tSeq (tAsg te (gName i)) B D σ H:=h
theorem seq_by2 {A B:TS} {D:Ends} {σ:St} {H:Hp} (P:St->Hp->Prop) (hA : ∀ N:St->Hp->Prop,(∀ σ H,P σ H->N σ H)->A { D with nx:=N } σ H) (hB : ∀ σ H,P σ H->B D σ H):tSeq A B D σ H:=hA _ hB
end L2
namespace L2
open PySem PySem.Spec PyProof.Rows
structure CalM (P:Program) (w:World) (K:PySem.W.Frag) (mg:Str->Option Value) (base:Heap) (C:Addr) (k:Nat) (m:Str) (sp:Sp):Prop where
 ex : ∃ f fd ps,FnOk P w K mg base CX0 k f fd ps sp/\Meth K C m f/\Binds K fd ps []
structure CalKE (P:Program) (w:World) (K:PySem.W.Frag) (mg:Str->Option Value) (base:Heap) (C:Addr) (k:Nat) (x:Str) (sp:Sp):Prop where
 ex : ∃ f fd ps,FnOk P w K mg base (CXE P w) k f fd ps sp/\Mk K C f/\mg x=some (.ref C)/\Binds K fd ps []
section
variable {X:Cx} {k:Nat} {C:Addr} {x m:Str} {sp:Sp} {E:XK} {e o:Expr} {es:List Expr} {ta:TE} {t:TA} {p pos apos:Pos}
theorem pe_calM {pl:Sem Bool} (c:CalM X.prog X.w X.K X.mg X.base C k m sp) (cl:Cls X.K C) (hr:Room k X.A) (he:PE X o ta) (ha:PA X (e::es) t)
  (hst:starEach (e::es) X.env=(false,eval e X.env)::starEach es X.env:=by rfl) (hpl:(backTo pos (starEach es X.env)).any (·.1)=false:=by rfl)
  (ht:eval (.Call (.Attribute o m apos) (e::es) [] pos) X.env=(do
   let ov <- eval o X.env
   standAt apos.atName
   let (f,first) <- holding [ov] (getMethod ov m pl)
   callWith pos f first (backTo pos (starEach (e::es) X.env)) (backToKw pos (keywordEach [] X.env))):=by rfl) :
  PE X (.Call (.Attribute o m apos) (e::es) [] pos) (tMeth C m sp [] E0 ta t):= by
 obtain ⟨f,fd,ps,F,hm,hb⟩:=c.ex
 exact pe_meth (pl:=pl) he cl hm F hr hb .nil pass0 ha hst hpl ht
theorem pe_calM0 {pl:Sem Bool} (c:CalM X.prog X.w X.K X.mg X.base C k m sp) (cl:Cls X.K C) (hr:Room k X.A) (he:PE X o ta)
  (ht:eval (.Call (.Attribute o m apos) [] [] pos) X.env=(do
   let ov <- eval o X.env
   standAt apos.atName
   let (f,first) <- holding [ov] (getMethod ov m pl)
   callWith pos f first (backTo pos (starEach [] X.env)) (backToKw pos (keywordEach [] X.env))):=by rfl) :
  PE X (.Call (.Attribute o m apos) [] [] pos) (tMeth C m sp [] E0 ta tNil):= by
 obtain ⟨f,fd,ps,F,hm,hb⟩:=c.ex
 exact pe_meth0 (pl:=pl) he cl hm F hr hb .nil pass0 ht
theorem pe_calKE (c : CalKE X.prog X.w X.K X.mg X.base C k x sp) (hr : Room (k + 1) X.A) (hg : Gl X x) (hx : Passes (CXE X.prog X.w) X E) (ha : PA X (e :: es) t) (hdb : (x == ("__debug__" : Str)) = false:=by decide)
  (he:starEach (e::es) X.env=(false,eval e X.env)::starEach es X.env:=by rfl) (hpl:(backTo pos (starEach es X.env)).any (·.1)=false:=by rfl) :
  PE X (.Call (.Name x p) (e::es) [] pos) (tMake C sp [] E t):= by
 obtain ⟨f,fd,ps,F,M,hm,hb⟩:=c.ex
 exact pe_make M F hr hg hm hb .nil hx ha hdb he hpl
end
end L2
namespace L2
open PySem PySem.Spec PyProof.Rows
def sgZ (z:Str) (i:Nat):Str:=⟨#[z.cps.toList.getD i 0]⟩
def Its (z:Str):It:=⟨fun i _=>i<z.length,fun i H x H'=>H'=H/\x = .str (sgZ z i),fun i _=>z.length<=i⟩
theorem turn_strA {P : Program} {w : World} {K : PySem.W.Frag} {tg : Expr} (it : Addr) (z : Str) (t : Tok) : Turn P w K tg (Its z) [it] it (fun i h=>h.IsStrIter it "str_ascii_iterator" z t i) where
 mem:=by simp
 obj:=fun i h st b hb=>by
  have e:b=it:=by simpa using hb
  subst e
  obtain ⟨o,e,c,d⟩:=st
  exact ⟨o,e,fun v z=>by rw[d] at z;cases z⟩
 keep:=fun i h h' st k=>let ⟨o,ho,r⟩:=st;⟨o,k it (by simp) o ho,r⟩
 item:= by
  intro X hP hw hK hc i pins s σ H E I hf st hg
  subst hP hw hK
  obtain ⟨f0,f1,f2,f3,f4,f5⟩:=hf it (by simp)
  have hi:i<z.cps.size:=hg
  refine wpAny_pyNext_ascii_item st (c:=z.cps[i]) (by simp [hi]) fun h' st' sb=>?_
  have I1:Inv X pins σ H { s with heap:=h',toks:=s.toks+1 }:=I.turned (fun b o hb e=>sb.extBut b o hb e) f0 f1 f3 f4 f5
  obtain ⟨o,e,c,d⟩:=id st'
  refine ⟨_,rfl,go_of (s:={ s with heap:=h',toks:=s.toks+1 }) e c d (by decide) ⟨.str (sgZ z i),H,I1,⟨s.toks,?_⟩,⟨rfl,rfl⟩,st',fun b hb=>(hf b hb).1⟩⟩
  unfold sgZ
  rw[List.getD_eq_getElem?_getD,Array.getElem?_toList,Array.getElem?_eq_getElem hi];rfl
 done:= by
  intro X hP hw hK hc i pins s σ H E I hf st hg
  subst hP hw hK
  obtain ⟨f0,f1,f2,f3,f4,f5⟩:=hf it (by simp)
  have hi:z.cps.size<=i:=hg
  exact wpAny_pyNext_ascii_end (I.ok.hd hc) st (by simp [hi]) fun h' eb=>⟨rfl,I.turned (t':=s.toks) (fun b o hb e=>eb b o hb e) f0 f1 f3 f4 f5⟩
 self:=fun _ _ _ _ _ st h=>wpAny_pyIter_striter_ascii st h
theorem turn_strW {P : Program} {w : World} {K : PySem.W.Frag} {tg : Expr} (it : Addr) (z : Str) (t : Tok) : Turn P w K tg (Its z) [it] it (fun i h=>h.IsStrIter it "str_iterator" z t i) where
 mem:=by simp
 obj:=fun i h st b hb=>by
  have e:b=it:=by simpa using hb
  subst e
  obtain ⟨o,e,c,d⟩:=st
  exact ⟨o,e,fun v z=>by rw[d] at z;cases z⟩
 keep:=fun i h h' st k=>let ⟨o,ho,r⟩:=st;⟨o,k it (by simp) o ho,r⟩
 item:= by
  intro X hP hw hK hc i pins s σ H E I hf st hg
  subst hP hw hK
  obtain ⟨f0,f1,f2,f3,f4,f5⟩:=hf it (by simp)
  have hi:i<z.cps.size:=hg
  refine wpAny_pyNext_wide_item st (c:=z.cps[i]) (by simp [hi]) fun h' st' sb=>?_
  have I1:Inv X pins σ H { s with heap:=h',toks:=s.toks+1 }:=I.turned (fun b o hb e=>sb.extBut b o hb e) f0 f1 f3 f4 f5
  obtain ⟨o,e,c,d⟩:=id st'
  refine ⟨_,rfl,go_of (s:={ s with heap:=h',toks:=s.toks+1 }) e c d (by decide) ⟨.str (sgZ z i),H,I1,⟨s.toks,?_⟩,⟨rfl,rfl⟩,st',fun b hb=>(hf b hb).1⟩⟩
  unfold sgZ
  rw[List.getD_eq_getElem?_getD,Array.getElem?_toList,Array.getElem?_eq_getElem hi];rfl
 done:= by
  intro X hP hw hK hc i pins s σ H E I hf st hg
  subst hP hw hK
  obtain ⟨f0,f1,f2,f3,f4,f5⟩:=hf it (by simp)
  have hi:z.cps.size<=i:=hg
  exact wpAny_pyNext_wide_end (I.ok.hd hc) st (by simp [hi]) fun h' eb=>⟨rfl,I.turned (t':=s.toks) (fun b o hb e=>eb b o hb e) f0 f1 f3 f4 f5⟩
 self:=fun _ _ _ _ _ st h=>wpAny_pyIter_striter_wide st h
def iStr (tl:TE):TI:=fun σ H R=>tl σ H fun x H1=>∃ z:Str,x = .str z/\R (Its z) H1
section
variable {X:Cx} {K:PySem.W.Frag} {tg:Expr}
theorem pi_str {l:Expr} {tl:TE} (hl:PE X l tl):PI X tg l (iStr tl):= by
 intro pins s σ H R I h
 refine thn (hl pins s σ H _ I h) fun v s1 ⟨x,H1,I1,r1,q1⟩=>?_
 obtain ⟨z,e,q⟩:=q1
 subst e
 obtain ⟨t,rfl⟩:=r1
 have fin : ∀ b ∈ [s1.heap.objs.size],FpOk X pins H1 b:=fun b hb=>by
  have e:b=s1.heap.objs.size:=by simpa using hb
  subst e
  exact I1.fpOk (Nat.le_refl _) (I1.hok.fresh (Nat.le_refl _))
 cases ha:z.cps.all (· < 128)
 ·refine wpAny_pyIter_wide ha ?_
  exact ⟨s1.heap.objs.size,[s1.heap.objs.size],_,_,H1,rfl,I1.kept (t':=s1.toks) fun b o e=>Heap.get?_push_of_some _ e,turn_strW _ z t,⟨_,Heap.get?_push_size _ rfl,rfl,rfl⟩,fin,q⟩
 ·refine wpAny_pyIter_ascii ha ?_
  exact ⟨s1.heap.objs.size,[s1.heap.objs.size],_,_,H1,rfl,I1.kept (t':=s1.toks) fun b o e=>Heap.get?_push_of_some _ e,turn_strA _ z t,⟨_,Heap.get?_push_size _ rfl,rfl,rfl⟩,fin,q⟩
theorem lc_str {M:List (Option Nat)} {σ:St} {g:TG} {tc:TT} {te:TE} {F:List V->Hp->Prop} {H:Hp} {z:Str} (Pv:Nat->List V->Hp->Prop) (hz:z.length<=sizeLine) (h0:Pv 0 [] H) (hl : ∀ i ys H,i<=z.length->Pv i ys H->ys.length<=i)
  (hs : ∀ i ys H,i<z.length->Pv i ys H->g (.str (sgZ z i)) (inSt M σ) H fun σ2 H2=>tc σ2 H2 fun b H3=>if b=true then te σ2 H3 fun v H4=>Pv (i+1) (ys++[v]) H4 else Pv (i+1) ys H3)
  (hd : ∀ ys H,Pv z.length ys H->F ys H):LcGoal (Its z) M σ g tc te F H:= by
 refine ⟨fun i m ys H=>m=z.length-i/\i<=z.length/\Pv i ys H,⟨z.length,by simp,Nat.zero_le _,h0⟩,?_⟩
 rintro i m ys H ⟨rfl,hi,p⟩
 have hy:=hl i ys H hi p
 refine ⟨by omega,?_⟩
 by_cases hlt:i<z.length
 ·refine .inr ⟨hlt,by omega,Pv (i+1),fun ys' H' p'=>⟨z.length-(i+1),by omega,rfl,hlt,p'⟩,fun x H' y=>?_⟩
  obtain ⟨e,y⟩:=y
  subst e y
  exact hs i ys _ hlt p
 ·have e:i=z.length:=by omega
  subst e
  exact .inl ⟨Nat.le_refl _,hd ys H p⟩
theorem op_leS:OpR X (compareOp .LtE) (fun x y H Q=>∃ i j,x = .str i/\y = .str j/\Q (.bl (!decide (j.cps.toList<i.cps.toList))) H):= by
 intro pins s σ H x y v u Q I rx ry h
 obtain ⟨i,j,rfl,rfl,q⟩:=h
 obtain ⟨t,rfl⟩:=rx
 obtain ⟨t',rfl⟩:=ry
 exact PySem.P.le_str ⟨.bl _,H,I,rfl,q⟩
end
end L2
namespace L2
open PySem PySem.Spec PyProof.Rows
def stepS (σ:List Str) (v:Str):List Str:=if σ.any (· == v) then σ else σ++[v]
def firstMetS (val:Nat->Str) (i:Nat):List Str:=((List.range i).map val).foldl stepS []
theorem firstMetS_zero (val:Nat->Str):firstMetS val 0=[]:=rfl
theorem firstMetS_succ (val:Nat->Str) (i:Nat):firstMetS val (i+1)=stepS (firstMetS val i) (val i):= by
 unfold firstMetS;rw[List.range_succ,List.map_append,List.foldl_append];rfl
theorem firstMetS_length_le (val:Nat->Str) : ∀ i,(firstMetS val i).length<=i
 | 0=>by rw[firstMetS_zero];exact Nat.le_refl _
 | i+1=>by
  rw[firstMetS_succ];unfold stepS
  have ih:=firstMetS_length_le val i
  split
  ·omega
  ·rw[List.length_append,List.length_singleton];omega
theorem stepS_any (σ:List Str) (v k:Str):(stepS σ v).any (· == k)=(σ.any (· == k)||decide (k=v)):= by
 unfold stepS
 by_cases h:σ.any (· == v)=true
 ·rw[if_pos h]
  by_cases e:k=v
  ·subst e;rw[h];simp
  ·simp [e]
 ·rw[if_neg h,List.any_append]
  by_cases e:k=v
  ·subst e;simp
  ·have hb:(v==k)=false:=by simpa [beq_iff_eq] using (fun h':v=k=>e h'.symm)
   simp [hb,e]
theorem stepS_length (σ:List Str) (v:Str):(stepS σ v).length=if σ.any (· == v) then σ.length else σ.length+1:= by
 unfold stepS;split <;> simp
section
variable {prog:Program} {w:World} {A:Around} {R:Result->Shared->Prop} {I:Addr} {fp wr:List Addr} {G:Array GenState->Array GenState->Prop} {n:Nat} {P:Nat->Value->Prop} {St:Nat->Shared->Prop}
theorem codeAny_set_update_loopZ (W:WalksS prog w A.in1 I fp wr G n P St) (S:Addr) (hSf:S ∉ fp)
  (val:Nat->Str) (hval : ∀ i v,P i v -> ∃ t,v = .str (val i) t) (hb:n+1<scanBound) :
  ∀ (k i:Nat) (s:Shared),n-i=k->i<=n->St i s ->
   s.heap.SetOf (strKind prog w) S (fun k'=>(firstMetS val i).any (· == k')) (firstMetS val i).length ->
   (∀ s',Moved (S::wr) G s s'->s'.heap.SetOf (strKind prog w) S (fun k'=>(firstMetS val n).any (· == k')) (firstMetS val n).length->R (.ok (.ret .none)) s') ->
   codeAny (model prog w) A (.builtin "set.update.loop" ⟨[.ref S,.ref I],[]⟩) R s:= by
 have hSw:S ∉ wr:=fun h=>hSf (W.sub _ h)
 have hsub : ∀ b ∈ wr,b ∈ S::wr:=fun b hb=>List.mem_cons_of_mem _ hb
 intro k
 induction k with
 | zero=>
  intro i s hk hi hst hS hR
  have hin:i=n:=by omega
  subst hin
  refine codeAny_builtin F.entry_set_update_loop ?_
  rw[Around.under_plainId F.plain_set_update_loop _]
  show wpAny _ A.in1 (pyNext (.ref I) >>= _) _ _ s
  refine wpAny_bind (W.done s _ _ hst fun s' hm=>?_)
  show wpAny _ A.in1 (ret Value.none) _ _ s'
  exact wpAny_pure (hR s' (hm.mono hsub) (by
   obtain ⟨o,es,ep,t,ho,rest⟩:=hS
   exact ⟨o,es,ep,t,hm.heap S _ hSw ho,rest⟩))
 | succ k ih=>
  intro i s hk hi hst hS hR
  have hlt:i<n:=by omega
  refine codeAny_builtin F.entry_set_update_loop ?_
  rw[Around.under_plainId F.plain_set_update_loop _]
  show wpAny _ A.in1 (pyNext (.ref I) >>= _) _ _ s
  refine wpAny_bind (W.item i s _ _ hlt hst fun v s' hP hst' hm=>?_)
  obtain ⟨t,rfl⟩:=hval i v hP
  have hS':s'.heap.SetOf (strKind prog w) S (fun k'=>(firstMetS val i).any (· == k')) (firstMetS val i).length:= by
   obtain ⟨o,es,ep,tb,ho,rest⟩:=hS
   exact ⟨o,es,ep,tb,hm.heap S _ hSw ho,rest⟩
  show wpAny _ A.in1 (holding [Value.str (val i) t] (setAdd S (.str (val i) t)) >>= _) _ _ s'
  refine wpAny_bind (wpAny_holding ?_)
  unfold setAdd
  refine wpAny_holding ?_
  refine wpAny_bind ((strKind prog w).pyHash (k:=val i) (strKind_is _ _ _ _) ?_)
  have hroom:(firstMetS val i).length+1<scanBound:=by have:=firstMetS_length_le val i;omega
  refine wpAny_setAddHashed_of (knd:=strKind prog w) (s:={ s' with toks:=s'.toks+1 }) (strKind_is _ _ _ _) rfl hS' hroom fun h' hsb hS2=>?_
  have hSi:h'.SetOf (strKind prog w) S (fun k'=>(firstMetS val (i+1)).any (· == k')) (firstMetS val (i+1)).length:=
   SetOf_congr hS2 (fun k'=>by rw[firstMetS_succ,stepS_any]) (by rw[firstMetS_succ,stepS_length])
  refine wpAny_pure ⟨plainId_quiet F.plain_set_update_loop _,ih (i+1) _ (by omega) hlt (W.frame _ s' _ _ hst' (Nat.le_succ _) fun b hb o e=>?_) hSi fun s'' hm'' hS''=>?_⟩
  ·rw[hsb.2 b (fun h:b=S=>hSf (by rw[<- h];exact hb))];exact e
  ·refine hR s'' (Moved.trans W.gtrans ((hm.mono hsub).then_heap (Nat.le_succ _) fun b o hb e=>?_) hm'') hS''
   rw[hsb.2 b (fun h:b=S=>hb (by rw[h];exact List.mem_cons_self))];exact e
end
section
variable {prog:Program} {w:World} {A:Around} {E:Value->Shared->Prop} {s:Shared}
set_option maxHeartbeats 3200000 in
theorem call_set_listZ {l:Addr} {items:Array Value} {ns:List Str} {Q:Value->Shared->Prop}
  (hh : A.handled = none) (hl : s.heap.IsList l items) (hi : ∀ (i : Nat) (v : Value),items[i]? = some v -> ∃ t,v = .str (ns.getD i "") t) (hb : items.size + 1 < scanBound)
  (h : ∀ (h' : Heap) (tk : Nat),h'.SetOf (strKind prog w) s.heap.objs.size (fun k'=>(firstMetS (fun i=>ns.getD i "") items.size).any (· == k')) (firstMetS (fun i=>ns.getD i "") items.size).length ->
   (∀ b o,b<s.heap.objs.size->s.heap.get? b=some o->h'.get? b=some o)->Q (.ref s.heap.objs.size) { s with heap:=h',toks:=tk }) :
  wpAny (model prog w) A (call (.type "set") [.ref l]) Q E s:= by
 obtain ⟨c,tl,hmro⟩:=F.called_set.mro
 have hmade:=F.called_set.made
 have hsub:=F.called_set.sub
 refine wpAny_call (codeAny_of_tree ?_)
 show wpAny _ _ (callAny (.type "set") _) _ _ _
 refine wpAny_pure ⟨Code.quiet_builtin _ (by decide +kernel),codeAny_builtin F.entry_type_call ?_⟩
 rw[Around.under_plain (weight_type_call_type "set" [.ref l] []) rfl]
 have h1:=F.called_set.notType
 have h2:=F.called_set.canCreate
 have hct:=F.typeCall_set_1 (.ref l)
 repeat (any_goals (first | assumption | wp_step))
 refine codeAny_mono (code_set_new_1 (.ref l) (E:=E) (Q₁:=fun obj s₁=>∃ led : Bool,obj = .ref s.heap.objs.size /\ s₁ = { s with heap:=s.heap.push { cls:=.type "set",dict:=none,data:=.set #[] 0 (.fresh 0 0 led) } }) fun led=>⟨led,rfl,rfl⟩) fun r s₁ hr=>?_
 cases r with
 | error e=>exact hr
 | ok fl=>
  cases fl with
  | ret obj=>
   obtain ⟨led,rfl,rfl⟩:=hr
   have hS : (s.heap.push { cls:=.type "set",dict:=none,data:=.set #[] 0 (.fresh 0 0 led) }).get? s.heap.objs.size = some { cls:=.type "set",dict:=none,data:=.set #[] 0 (.fresh 0 0 led) }:=Heap.get?_push_size _ rfl
   have hT : Shared.TypeIs { s with heap:=s.heap.push { cls:=.type "set",dict:=none,data:=.set #[] 0 (.fresh 0 0 led) } } (.ref s.heap.objs.size) "set":=⟨_,hS,rfl⟩
   have hli:=F.called_set.init.lookup
   have hbi:=F.called_set.init.bind (.ref s.heap.objs.size)
   repeat (any_goals (first | assumption | wp_step))
   refine codeAny_mono (codeAny_call_builtin (R:=wants (fun r s₂=>r = .none /\ ∃ h' tk,s₂={ s with heap:=h',toks:=tk } /\
     h'.SetOf (strKind prog w) s.heap.objs.size (fun k'=>(firstMetS (fun i=>ns.getD i "") items.size).any (· == k')) (firstMetS (fun i=>ns.getD i "") items.size).length /\
     (∀ b o,b<s.heap.objs.size->s.heap.get? b=some o->h'.get? b=some o)) E) F.called_set.init.plain F.entry_set_init (check_set_init_1 hT ?_)) fun r₂ s₂ hr₂=>?_
   ·obtain ⟨ol,hol,hcl,nl,hdl⟩:=hl
    obtain ⟨ocls,odict,odata,oslots⟩:=ol
    simp only at hcl hdl
    subst hcl;subst hdl
    have hol' : (s.heap.push { cls:=.type "set",dict:=none,data:=.set #[] 0 (.fresh 0 0 led) }).get? l = some { cls:=.type "list",dict:=odict,data:=.seq items nl,slots:=oslots }:=Heap.get?_push_of_some _ hol
    have hsls:=F.sub_list_set
    have hslf:=F.sub_list_frozenset
    have hne : (Value.type "list" == Value.type "dict") = false:=by decide
    have hl1 : (s.heap.push { cls:=.type "set",dict:=none,data:=.set #[] 0 (.fresh 0 0 led) }).IsList l items:=⟨_,hol',rfl,nl,rfl⟩
    unfold Builtin.«set.__init__» noKeywords Builtin.Frozenset.updateFrom
    generalize hPI:pyIter=PI
    wp_walk
    subst hPI
    refine wpAny_pyIter_list hl1 ?_
    refine wpAny_bind (wpAny_runValue ?_)
    have hlS:l<s.heap.objs.size:=Heap.lt_size hol
    have hh3:A.in1.in1.in1.handled=none:=by simp [hh]
    have hneI : l ≠ (s.heap.push { cls:=.type "set",dict:=none,data:=.set #[] 0 (.fresh 0 0 led) }).objs.size:= by
     rw[Heap.size_push];exact Nat.ne_of_lt (Nat.lt_succ_of_lt hlS)
    have hSf : s.heap.objs.size ∉ [(s.heap.push { cls:=.type "set",dict:=none,data:=.set #[] 0 (.fresh 0 0 led) }).objs.size,l]:= by
     rw[Heap.size_push];simp only [List.mem_cons,List.mem_singleton,List.not_mem_nil,or_false,not_or]
     exact ⟨Nat.ne_of_lt (Nat.lt_succ_self _),Nat.ne_of_gt hlS⟩
    have hval : ∀ (i : Nat) (v : Value),items[i]? = some v -> ∃ t,v = .str ((fun i=>ns.getD i "") i) t:=hi
    refine codeAny_set_update_loopZ ((Walks.list hh3 _ l hneI items).toS) s.heap.objs.size
     hSf (fun i=>ns.getD i "") hval hb (items.size - 0) 0 _ (by omega) (Nat.zero_le _)
     ⟨⟨_,Heap.get?_push_size _ rfl,rfl,rfl⟩,(hl1.push _)⟩ ?hS0 ?hR
    case hS0=>
     have hget : ((s.heap.push { cls:=.type "set",dict:=none,data:=.set #[] 0 (.fresh 0 0 led) }).push { cls:=.type "list_iterator",data:=.fields #[.ref l,.int 0 0] }).get? s.heap.objs.size
       = some { cls:=.type "set",dict:=none,data:=.set #[] 0 (.fresh 0 0 led) }:=Heap.get?_push_of_some _ hS
     exact PyProof.Rows.SetOf_congr ((PyProof.Rows.setObjOf_fresh (knd:=strKind prog w) led).setOf hget (by unfold scanBound;omega)) (fun _=>rfl) rfl
    case hR=>
     intro s' hm hS'
     obtain ⟨h',g',d',tk',os'⟩:=s'
     have eg:g'=s.gens:=hm.gens
     have ed:d'=s.drawn:=hm.drawn
     have eo:os'=s.os:=hm.os
     subst eg;subst ed;subst eo
     show wpAny _ _ _ _ _ _
     refine wpAny_pure ?_
     show wpAny _ _ (ret Value.none) _ _ _
     refine wpAny_pure ⟨rfl,h',tk',rfl,hS',fun b o hb e=>?_⟩
     have hb1:b≠s.heap.objs.size:=Nat.ne_of_lt hb
     have hb2 : b ≠ (s.heap.push { cls:=.type "set",dict:=none,data:=.set #[] 0 (.fresh 0 0 led) }).objs.size:= by
      rw[Heap.size_push];exact Nat.ne_of_lt (Nat.lt_succ_of_lt hb)
     exact hm.heap b o (by simp only [List.mem_cons,List.mem_singleton,List.not_mem_nil,or_false,not_or];exact ⟨hb1,hb2⟩) (Heap.get?_push_of_some _ (Heap.get?_push_of_some _ e))
   ·cases r₂ with
    | error e=>exact hr₂
    | ok fl₂=>
     cases fl₂ with
     | ret r=>
      obtain ⟨rfl,h',tk,rfl,hS',hk'⟩:=hr₂
      repeat (any_goals (first | assumption | wp_step))
      exact h _ _ hS' hk'
     | _=>exact hr₂.elim
  | _=>exact hr.elim
end
theorem firstMetS_take (ns : List Str) : ∀ n,n <= ns.length -> (firstMetS (fun i=>ns.getD i "") n) = (ns.take n).foldl stepS []
 | 0,_=>rfl
 | n+1,h=>by
  rw[firstMetS_succ,firstMetS_take ns n (by omega),List.take_succ,List.getElem?_eq_getElem (by omega),List.foldl_append,List.getD_eq_getElem?_getD,List.getElem?_eq_getElem (by omega)];rfl
def setS (ns:List Str):List Str:=ns.foldl stepS []
theorem setS_snoc (ns:List Str) (z:Str):setS (ns++[z])=stepS (setS ns) z:=by unfold setS;rw[List.foldl_append];rfl
theorem mem_stepS {σ:List Str} {v x:Str}:x ∈ stepS σ v ↔ x ∈ σ\/x=v:= by
 unfold stepS
 split
 ·rename_i h
  obtain ⟨y,hy,e⟩:=List.any_eq_true.mp h
  have e:y=v:=by simpa using e
  subst e
  exact ⟨.inl,fun h=>h.elim id fun e=>by rw[e];exact hy⟩
 ·simp
theorem mem_setS (ns:List Str) : ∀ x,x ∈ setS ns ↔ x ∈ ns:= by
 refine snoc_ind (P:=fun ns=>∀ x,x ∈ setS ns ↔ x ∈ ns) (fun x=>Iff.rfl) (fun ns z ih x=>?_) ns
 rw[setS_snoc,mem_stepS,ih];simp
theorem setS_len (ns:List Str):(setS ns).length<=ns.length/\((setS ns).length=ns.length ↔ ns.Nodup):= by
 refine snoc_ind (P:=fun ns=>(setS ns).length<=ns.length/\((setS ns).length=ns.length ↔ ns.Nodup)) ⟨Nat.le_refl _,⟨fun _=>List.nodup_nil,fun _=>rfl⟩⟩ (fun ns z ⟨h1,h2⟩=>?_) ns
 rw[setS_snoc]
 unfold stepS
 by_cases h:z ∈ ns
 ·rw[if_pos (List.any_eq_true.mpr ⟨z,(mem_setS ns z).mpr h,by simp⟩)]
  refine ⟨by simp;omega,fun e=>absurd e (by simp;omega),fun e=>?_⟩
  rw[List.nodup_append] at e
  exact absurd rfl (e.2.2 z h z (by simp))
 ·rw[if_neg (fun q=>by obtain ⟨y,hy,e⟩:=List.any_eq_true.mp q;exact h (by rw[<- (show y=z by simpa using e)];exact (mem_setS ns y).mp hy))]
  refine ⟨by simp;omega,fun e=>?_,fun e=>?_⟩
  ·rw[List.nodup_append]
   refine ⟨h2.mp (by simp at e;omega),by simp,fun a ha b hb q=>h (by rw[<- (show b=z by simpa using hb),<- q];exact ha)⟩
  ·rw[List.nodup_append] at e
   have:=h2.mpr e.1
   simp;omega
section
variable {X:Cx} {K:PySem.W.Frag}
def zSet (P:Program) (w:World) (a:Addr) (n:Nat):HO:=.ext fun h=>∃ S:Str->Bool,h.SetOf (strKind P w) a S n
theorem kc_setZ (hc : X.calm = true:=by rfl) (h : X.K = K:=by rfl) : CallR X (.type "set") (fun xs H Q=>∃ (a : Addr) (ns : List Str),xs = [.ref a] /\ SqL K H a (ns.map V.str) /\ ns.length <= 1000 /\
  ∀ (p:Addr),H p=none->Q (.ref p) (upd H p (zSet X.prog X.w p (setS ns).length))):= by
 subst h
 intro pins s σ H xs us Q I r h
 obtain ⟨a,ns,rfl,ha,hl,q⟩:=h
 obtain ⟨u,rfl,ru⟩:=vals1 r
 cases ru
 obtain ⟨its,r1,p1,_⟩:=I.list ha
 have l1:its.toArray.size=ns.length:=by rw[List.size_toArray,<- r1.length,List.length_map]
 refine call_set_listZ (items:=its.toArray) (ns:=ns) (I.ok.hd hc) p1.isList (fun i v hv=>?_) (by rw[l1];unfold scanBound;omega) fun h' tk hS hk=>?_
 ·have hi:i<its.length:= by
   have:=(Array.getElem?_eq_some_iff.mp hv).1
   simpa using this
  have hi2:i<ns.length:=by rw[<- l1];simpa using hi
  obtain ⟨u,hu,ru⟩:=r1.get (i:=i) (x:=V.str ns[i]) (by rw[List.getElem?_map,List.getElem?_eq_getElem hi2];rfl)
  have hv':its[i]?=some v:=by simpa using hv
  rw[hv'] at hu
  cases hu
  obtain ⟨t,rfl⟩:=ru
  exact ⟨t,by rw[List.getD_eq_getElem?_getD,List.getElem?_eq_getElem hi2];rfl⟩
 ·rw[l1,firstMetS_take ns ns.length (Nat.le_refl _),List.take_length] at hS
  refine ⟨.ref s.heap.objs.size,_,I.laid (t':=tk) (o:=zSet X.prog X.w s.heap.objs.size (setS ns).length) (fun b o e=>hk b o (Heap.lt_size e) e) (Nat.le_refl _) ⟨⟨_,hS⟩,?_,fun h1 h2 ⟨S,hS1⟩ k=>?_⟩,rfl,q _ (I.hok.fresh (Nat.le_refl _))⟩
  ·obtain ⟨o,es,ep,t,ho,_⟩:=hS
   exact ⟨o,ho⟩
  ·obtain ⟨o,es,ep,t,ho,rest⟩:=hS1
   exact ⟨S,o,es,ep,t,k o ho,rest⟩
theorem kc_lenZ : CallR X (.builtin "len") (fun xs H Q=>∃ (a : Addr) (n : Nat),xs = [.ref a] /\ H a = some (zSet X.prog X.w a n) /\ Q (.int n) H):= by
 intro pins s σ H xs us Q I r h
 obtain ⟨a,n,rfl,ha,q⟩:=h
 obtain ⟨u,rfl,ru⟩:=vals1 r
 cases ru
 obtain ⟨⟨S,o,es,ep,t,ho,hex,hd,_,_,hb,hf,hn⟩,_⟩:=(show ObjOk X.prog X.w H s.heap a (zSet X.prog X.w a n) from I.hok a _ ha)
 have hb4:es.size<4096:=by unfold scanBound at hb;omega
 refine call_len_set ho hex hd hf (by omega) ?_
 rw[hn]
 exact ⟨.int n,H,I.tok _,⟨_,rfl⟩,q⟩
end
end L2
namespace L2
open PySem PySem.Spec PyProof.Rows
abbrev Wds:=List (Str × Int)
def wT (w:Str × Int):HO:=.tup [.str w.1,.int w.2]
def WAt (H:Hp) (as:List Addr) (W:Wds):Prop:=Paired (fun (a:Addr) (w:Str × Int)=>H a=some (wT w)) as W
theorem WAt.same {H H':Hp} {as:List Addr} {W:Wds} (h:WAt H as W) (s:Same H H'):WAt H' as W:=L2.Paired.mapP h fun a w e=>s a _ e
def letN (c:Nat):Bool:=decide (97<=c)&&decide (c<=122)
def isNm (z:Str):Bool:=(decide (1<=(z.length:Int))&&decide ((z.length:Int)<=12))&&z.cps.toList.all letN
def woodsOk (W:Wds):Bool:=((decide (1<=(W.length:Int))&&decide ((W.length:Int)<=6))&&decide ((W.map (·.1)).Nodup))&&W.all fun w=>isNm w.1&&(decide (0<=w.2)&&decide (w.2<=99))
def countW (W:Wds) (z:Str):Option Int:=(W.find? fun w=>decide (w.1=z)).map (·.2)
theorem woodsOk_iff {W:Wds}:woodsOk W=true ↔ (1<=W.length/\W.length<=6)/\(W.map (·.1)).Nodup /\ ∀ w ∈ W,isNm w.1=true/\0<=w.2/\w.2<=99:= by
 unfold woodsOk
 rw[Bool.and_eq_true,Bool.and_eq_true,Bool.and_eq_true,List.all_eq_true,decide_eq_true_iff,decide_eq_true_iff,decide_eq_true_iff]
 constructor
 ·rintro ⟨⟨⟨a,b⟩,c⟩,d⟩
  refine ⟨⟨by omega,by omega⟩,c,fun w hw=>?_⟩
  have:=d w hw
  rw[Bool.and_eq_true,Bool.and_eq_true,decide_eq_true_iff,decide_eq_true_iff] at this
  exact ⟨this.1,this.2.1,this.2.2⟩
 ·rintro ⟨⟨a,b⟩,c,d⟩
  refine ⟨⟨⟨by omega,by omega⟩,c⟩,fun w hw=>?_⟩
  obtain ⟨x,y,z⟩:=d w hw
  rw[Bool.and_eq_true,Bool.and_eq_true,decide_eq_true_iff,decide_eq_true_iff]
  exact ⟨x,y,z⟩
theorem countW_cons (w:Str × Int) (W:Wds) (z:Str):countW (w::W) z=if w.1=z then some w.2 else countW W z:= by
 unfold countW
 rw[List.find?_cons]
 by_cases e:w.1=z
 ·rw[decide_eq_true e,if_pos e];rfl
 ·rw[decide_eq_false e,if_neg e]
theorem countW_mem : ∀ {W:Wds} {w:Str × Int},(W.map (·.1)).Nodup->w ∈ W->countW W w.1=some w.2
 | v::W,w,hn,hm=>by
  rw[List.map_cons,List.nodup_cons] at hn
  rw[countW_cons]
  rcases List.mem_cons.mp hm with e | h
  ·rw[e,if_pos rfl]
  ·rw[if_neg (fun e=>hn.1 (by rw[e];exact List.mem_map_of_mem h)),countW_mem hn.2 h]
theorem countW_none : ∀ {W:Wds} {z:Str},countW W z=none ↔ z ∉ W.map (·.1)
 | [],z=>by simp [countW]
 | v::W,z=>by
  rw[countW_cons,List.map_cons,List.mem_cons]
  by_cases e:v.1=z
  ·rw[if_pos e];simp [e]
  ·rw[if_neg e,countW_none]
   exact ⟨fun h q=>q.elim (fun q=>e q.symm) h,fun h q=>h (.inr q)⟩
theorem countW_in {W:Wds} {z:Str} {n:Int} (h:countW W z=some n):(z,n) ∈ W:= by
 unfold countW at h
 cases e:W.find? fun w=>decide (w.1=z) with
 | none=>rw[e] at h;cases h
 | some w=>
  rw[e] at h
  have h1:=List.find?_some e
  have h2:=List.mem_of_find?_eq_some e
  have h1:w.1=z:=by simpa using h1
  have h3:w.2=n:=Option.some.inj h
  rw[<- h1,<- h3];exact h2
theorem lt1 (c d:Nat):(([c]:List Nat)<[d]) ↔ c<d:= by
 constructor
 ·intro h
  rcases List.cons_lt_cons_iff.mp h with h | ⟨_,h⟩
  ·exact h
  ·exact absurd h (by simp)
 ·intro h
  exact List.cons_lt_cons_iff.mpr (.inl h)
theorem a_cps : ("a" : Str).cps.toList = [97]:=by decide +kernel
theorem z_cps : ("z" : Str).cps.toList = [122]:=by decide +kernel
theorem le_a (z : Str) (i : Nat) : (!decide ((sgZ z i).cps.toList < ("a" : Str).cps.toList)) = decide (97 <= z.cps.toList.getD i 0):= by
 rw[a_cps]
 show (!decide (([z.cps.toList.getD i 0]:List Nat)<[97]))=_
 rw[decide_eq_decide.mpr (lt1 _ _),<- decide_not]
 exact decide_eq_decide.mpr (by omega)
theorem le_z (z : Str) (i : Nat) : (!decide (("z" : Str).cps.toList < (sgZ z i).cps.toList)) = decide (z.cps.toList.getD i 0 <= 122):= by
 rw[z_cps]
 show (!decide (([122]:List Nat)<[z.cps.toList.getD i 0]))=_
 rw[decide_eq_decide.mpr (lt1 _ _),<- decide_not]
 exact decide_eq_decide.mpr (by omega)
theorem all_letN (z:Str):((List.range z.length).map fun i=>letN (z.cps.toList.getD i 0)).all id=z.cps.toList.all letN:= by
 have e:(List.range z.length).map (fun i=>z.cps.toList.getD i 0)=z.cps.toList:= by
  refine List.ext_getElem (by simp [Str.length]) fun i h1 h2=>?_
  simp at h1 h2 ⊢
  rw[Array.getElem?_eq_getElem h2];rfl
 rw[List.all_map]
 conv=>rhs;rw[<- e,List.all_map]
 rfl
def abcT : Str:="abcdefghijklmnopqrstuvwxyz"
theorem abc_at (s:Int):atI abcT.cps.toList (s % 26)=some (97+(s % 26).toNat):= by
 have h0:0<=s % 26:=Int.emod_nonneg _ (by decide)
 have h1:s % 26<26:=Int.emod_lt_of_pos _ (by decide)
 generalize s % 26=t at h0 h1
 have e:abcT.cps.toList=(List.range 26).map (97 + ·):=by decide +kernel
 rw[e]
 obtain ⟨n,rfl⟩ : ∃ n:Nat,t=n:=⟨t.toNat,by omega⟩
 refine atI_nat ?_
 rw[List.getElem?_map,List.getElem?_eq_getElem (by rw[List.length_range];omega),List.getElem_range]
 rfl
def sgN (s:Int):Str:=⟨#[97+(s % 26).toNat]⟩
theorem glue_cps (S : List Int) : (Txt.join (Str.ofString "") (S.map sgN)).cps.toList = S.map fun s=>97 + (s % 26).toNat:= by
 refine snoc_ind (P:=fun S=>(Txt.join (Str.ofString "") (S.map sgN)).cps.toList = S.map fun s=>97 + (s % 26).toNat) rfl (fun S z ih=>?_) S
 rw[List.map_append,List.map_singleton,glue_snoc,List.map_append,List.map_singleton,<- ih]
 exact Array.toList_append
def nmS (S : List Int) : Str:=Txt.join (Str.ofString "") (S.map sgN)
theorem nmS_ok {S:List Int} (h1:1<=S.length) (h2:S.length<=12):isNm (nmS S)=true:= by
 have e:=glue_cps S
 have hl:(nmS S).length=S.length:= by
  show (nmS S).cps.size=_
  rw[<- Array.length_toList,show (nmS S).cps.toList=_ from e,List.length_map]
 unfold isNm
 rw[hl,show (nmS S).cps.toList=_ from e,decide_eq_true (by omega),decide_eq_true (by omega),List.all_map,Bool.true_and,Bool.true_and]
 refine List.all_eq_true.mpr fun s _=>?_
 have h0:0<=s % 26:=Int.emod_nonneg _ (by decide)
 have h1:s % 26<26:=Int.emod_lt_of_pos _ (by decide)
 show letN (97+(s % 26).toNat)=true
 unfold letN
 rw[decide_eq_true (by omega),decide_eq_true (by omega)];rfl
theorem nmS_at (S:List Int) (k:Nat) (h:k<S.length):(nmS S).cps.toList.getD k 0=97+(S.getD k 0 % 26).toNat:= by
 rw[show (nmS S).cps.toList=_ from glue_cps S,List.getD_eq_getElem?_getD,List.getElem?_map,List.getElem?_eq_getElem h,List.getD_eq_getElem?_getD,List.getElem?_eq_getElem h];rfl
def NmL (k : Nat) (c : Int) (S : List Str) : Prop:=∀ j,j < S.length -> isNm (S.getD j "") = true /\ (S.getD j "").cps.toList.getD k 0 = 97 + ((c + 5 * j) % 26).toNat
theorem NmL.snoc {k:Nat} {c:Int} {S:List Str} {z:Str} (h:NmL k c S) (h1:isNm z=true) (h2:z.cps.toList.getD k 0=97+((c+5*S.length) % 26).toNat):NmL k c (S++[z]):= by
 intro j hj
 rw[List.length_append,List.length_singleton] at hj
 rw[List.getD_eq_getElem?_getD,List.getElem?_append]
 by_cases e:j<S.length
 ·rw[if_pos e,<- List.getD_eq_getElem?_getD]
  exact h j e
 ·rw[if_neg e,show j-S.length=0 by omega,show j=S.length by omega]
  exact ⟨h1,h2⟩
theorem NmL.ok {k:Nat} {c:Int} {S:List Str} (h:NmL k c S) (hl:S.length<=9):S.Nodup /\ ∀ z ∈ S,isNm z=true:= by
 constructor
 ·rw[List.nodup_iff_pairwise_ne,List.pairwise_iff_getElem]
  intro i j hi hj hij e
  have a:=(h i hi).2
  have b:=(h j hj).2
  have q : ∀ m (hm : m < S.length),S.getD m "" = S[m]:=fun m hm=>by rw[List.getD_eq_getElem?_getD,List.getElem?_eq_getElem hm]; rfl
  rw[q i hi] at a
  rw[q j hj,<- show S[i]=S[j] from e] at b
  rw[a] at b
  omega
 ·intro z hz
  obtain ⟨i,hi,rfl⟩:=List.getElem_of_mem hz
  have:=(h i hi).1
  rw[List.getD_eq_getElem?_getD,List.getElem?_eq_getElem hi] at this
  exact this
def stkF (l : Addr) : List (Str × V):=putF "stock" (.ref l) []
theorem stkF_at (l : Addr) : (stkF l).lookup ("stock" : Str) = some (.ref l):=by unfold stkF; rw[lookup_putF,if_pos rfl]
theorem stkF_no (l : Addr) {m : Str} (h : ¬ m = "stock") : (stkF l).lookup m = none:=by unfold stkF; rw[lookup_putF,if_neg h]; rfl
def TrayAt (C:Addr) (H:Hp) (p:Addr) (W:Wds):Prop:=∃ (dx l:Addr) (as:List Addr),H p=some (.ins C dx (stkF l))/\H l=some (.lst (as.map V.ref))/\WAt H as W
theorem TrayAt.same {C:Addr} {H H':Hp} {p:Addr} {W:Wds} (h:TrayAt C H p W) (s:Same H H'):TrayAt C H' p W:= by
 obtain ⟨dx,l,as,h1,h2,h3⟩:=h
 exact ⟨dx,l,as,s _ _ h1,s _ _ h2,h3.same s⟩
end L2
namespace L2
open PySem PySem.Spec PyProof.Rows
section
variable {c:TT} {t u B:TS} {D:Ends} {σ:St} {H H':Hp}
theorem if_P (b:Bool) (P:Hp->Prop) (hc : ∀ N:Bool->Hp->Prop,(∀ H',P H'->N b H')->c σ H N) (ht:b=true -> ∀ H',P H'->t D σ H') (hu:b=false -> ∀ H',P H'->u D σ H'):tIfS c t u D σ H:= by
 refine hc _ fun H' p=>?_
 cases b
 ·exact iteF (hu rfl H' p)
 ·exact iteT (ht rfl H' p)
theorem if_N (b:Bool) (P:Hp->Prop) (hc : ∀ N:Bool->Hp->Prop,(∀ H',P H'->N b H')->c σ H N) (ht:b=true -> ∀ H',P H'->t D σ H') (hu:b=false -> ∀ H',P H'->D.nx σ H'):tIfS c t tNext D σ H:=if_P b P hc ht hu
theorem seq_ifN (b:Bool) (P:Hp->Prop) (hc : ∀ N:Bool->Hp->Prop,(∀ H',P H'->N b H')->c σ H N) (ht:b=true -> ∀ H',P H'->t { D with nx:=B D } σ H') (hu:b=false -> ∀ H',P H'->B D σ H'):tSeq (tIfS c t tNext) B D σ H:=if_P b P hc ht hu
theorem chainV {te:TE} {lo hi x:Int} {Q:VK} (he : ∀ Q:VK,Q (.int x) H'->te σ H Q) (h:Q (.bl (decide (lo<=x)&&decide (x<=hi))) H') :
  tChain (rI0 fun i j=>V.bl (decide (i<=j))) (rI0 fun i j=>V.bl (decide (i<=j))) (tC (V.int lo)) te (tC (V.int hi)) σ H Q:= by
 refine he _ ⟨lo,x,rfl,rfl,_,rfl,?_⟩
 by_cases g:lo<=x
 ·rw[decide_eq_true g] at h ⊢
  exact iteT ⟨x,hi,rfl,rfl,h⟩
 ·rw[decide_eq_false g] at h ⊢
  exact iteF h
theorem chainI {te:TE} {lo hi x:Int} {N:Bool->Hp->Prop} (he : ∀ Q:VK,Q (.int x) H'->te σ H Q) (h:N (decide (lo<=x)&&decide (x<=hi)) H') :
  tTest (tChain (rI0 fun i j=>V.bl (decide (i<=j))) (rI0 fun i j=>V.bl (decide (i<=j))) (tC (V.int lo)) te (tC (V.int hi))) σ H N:=chainV he ⟨_,rfl,h⟩
end
theorem bl_snoc (f:Nat->Bool) (i:Nat):((List.range i).map f).map V.bl++[V.bl (f i)]=((List.range (i+1)).map f).map V.bl:=by rw[List.range_succ,List.map_append,List.map_append];rfl
theorem str_snoc {l:List Str} {z:Str}:l.map V.str++[V.str z]=(l++[z]).map V.str:=by rw[List.map_append];rfl
theorem ref_snoc {l:List Addr} {z:Addr}:l.map V.ref++[V.ref z]=(l++[z]).map V.ref:=by rw[List.map_append];rfl
theorem map_take_snoc {α β:Type} {l:List α} {i:Nat} {x:α} (h:l[i]?=some x) (f:α->β):(l.take (i+1)).map f=(l.take i).map f++[f x]:=by rw[take_snoc h,List.map_append];rfl
theorem drop_at {α:Type} {l:List α} {i:Nat} {x:α} (h:l[i]?=some x):l.drop i=x::l.drop (i+1):= by
 obtain ⟨h1,h2⟩:=List.getElem?_eq_some_iff.mp h
 rw[List.drop_eq_getElem_cons h1,h2]
theorem paired_getR {α β:Type} {F:α->β->Prop} : ∀ {l1:List α} {l2:List β} {j:Nat} {b:β},Paired F l1 l2->l2[j]?=some b -> ∃ a,F a b/\l1[j]?=some a
 | _,_,j,b,.nil,e=>by simp at e
 | a::_,_::_,0,b,.cons r t,e=>by simp at e;subst e;exact ⟨a,r,rfl⟩
 | _::_,_::_,j+1,b,.cons r t,e=>by
  obtain ⟨a,h1,h2⟩:=paired_getR t (show _=some b by simpa using e)
  exact ⟨a,h1,by simpa using h2⟩
theorem made_same {C:Addr} {H1 H':Hp} {x dx:Addr} (hx:H1 x=none) (hdx:H1 dx=none) (kp : ∀ b o,upd (upd H1 dx (.own x)) x (.ins C dx []) b=some o->b≠x->H' b=some o):Same H1 H':=fun b o e=>
 kp b o (by rw[upd_ne (ne_of_none e hx),upd_ne (ne_of_none e hdx)];exact e) (ne_of_none e hx)
theorem made_start {C:Addr} {H1:Hp} {x dx:Addr} (hx:H1 x=none) (hdx:H1 dx=none):Same H1 (upd (upd H1 dx (.own x)) x (.ins C dx [])):=fun b o e=>by rw[upd_ne (ne_of_none e hx),upd_ne (ne_of_none e hdx)];exact e
theorem atI_nt {rs:List Int} {j:Nat} {r:Int} (h:rs[j]?=some r):atI (rs.map V.int) (j:Int)=some (V.int r):=atI_nat (by rw[List.getElem?_map,h];rfl)
theorem atI_intZ {rs:List Int} {i:Int} {j:Nat} {r:Int} (e:i=(j:Int)) (h:rs[j]?=some r):atI (rs.map V.int) i=some (V.int r):=by rw[e];exact atI_nt h
theorem atI_strZ {R : List Str} {i : Int} {j : Nat} (e : i = (j : Int)) (h : j < R.length) : atI (R.map V.str) i = some (V.str (R.getD j "")):=by rw[e]; exact atI_strs h
theorem lim_ok {ls:List Int} (h:ls.all (fun l=>decide (0<l)&&decide (l.natAbs.log2<9000))=true) : ∀ l ∈ ls,LimOk l:=fun l hl=>by
 have:=List.all_eq_true.mp h l hl
 rw[Bool.and_eq_true,decide_eq_true_iff,decide_eq_true_iff] at this
 exact this
theorem seq_l {wi:TI} {M:List (Option Nat)} {g:TG} {tc:TT} {te:TE} {i:Nat} {B:TS} {D:Ends} {σ:St} {H:Hp} (h:tLc wi M g tc te σ H fun ys H'=>∀ p,H' p=none->B D (σ.set i (some (V.ref p))) (upd H' p (.lst ys))) :
  tSeq (fun D σ H=>tLc wi M g tc te σ H fun ys H'=>∀ p,H' p=none->D.nx (σ.set i (some (V.ref p))) (upd H' p (.lst ys))) B D σ H:=h
theorem gN {i:Nat} {v:V} {σ:St} {H:Hp} {Q:St->Hp->Prop} (h:Q (σ.set i (some v)) H):gName i v σ H Q:=h
theorem dInt (x y:Int):decide (V.int x=V.int y)=decide (x=y):=decide_eq_decide.mpr ⟨fun e=>V.int.inj e,fun e=>congrArg V.int e⟩
theorem bF {b:Bool} (h : ¬ b=true):b=false:= by
 cases b
 ·rfl
 ·exact absurd rfl h
theorem nT {b:Bool} (h:(!b)=true):b=false:= by
 cases b
 ·rfl
 ·exact absurd h (by decide)
theorem nF {b:Bool} (h:(!b)=false):b=true:= by
 cases b
 ·exact absurd h (by decide)
 ·rfl
end L2
namespace L2
open PySem PySem.Spec PyProof.Rows
section
variable {X:Cx} {K:PySem.W.Frag}
end
end L2
namespace L2
open PySem PySem.Spec PyProof.Rows
theorem nrm {B:TS} {D:Ends} {σ σ':St} {H:Hp} (e:σ=σ') (h:B D σ' H):B D σ H:=e ▸ h
theorem flat_strs (s:List Str):(s.map V.str).all flatV=true:=by rw[List.all_map];exact List.all_eq_true.mpr fun _ _=>rfl
end L2
namespace L2
open PySem PySem.Spec PyProof.Rows
abbrev Hol:=List (Option Nat)
def hV:Option Nat->V
 | none=>.non
 | some r=>.int (r:Int)
def tE (T:List (List Int)) (r c:Nat):Int:=(T.getD r []).getD c 0
def tgt (T:List (List Int)) (R C:List Int) (r c:Nat):Prop:=R.getD r 0+C.getD c 0=tE T r c
instance {T R C r c}:Decidable (tgt T R C r c):=by unfold tgt;infer_instance
section
variable {T:List (List Int)} {R C:List Int} {Hd Hd1:Hol} {S Si:List Nat} {row i h k m:Nat}
structure HInv (T:List (List Int)) (m k:Nat) (R C:List Int) (Hd:Hol):Prop where
 lT:T.length=m
 lr : ∀ r,r<m->(T.getD r []).length=k
 lR:R.length=m
 lC:C.length=k
 lH:Hd.length=k
 t0 : ∀ r c,0<=tE T r c
 fe : ∀ r c,r<m->c<k->tE T r c<=R.getD r 0+C.getD c 0
 ti : ∀ c h,Hd[c]?=some (some h)->h<m/\tgt T R C h c
 on : ∀ h,Hd.count (some h)<=1
 c0 : ∀ c,0<=C.getD c 0
 cf : ∀ c:Nat,Hd[c]?=some none->C.getD c 0=0
 r0 : ∀ r,0<=R.getD r 0
def valC (T:List (List Int)) (Hd:Hol) (c:Nat):Int:=match Hd.getD c none with
 | none=>0
 | some r=>tE T r c
def rOf (R:List Int):Option Nat->Int
 | none=>0
 | some r=>R.getD r 0
theorem sum_cnt (f:Nat->Int) : ∀ (Hd:Hol) (m:Nat),(∀ h,some h ∈ Hd->h<m)->(Hd.map fun o:Option Nat=>match o with | none=>0 | some r=>f r).sum=((List.range m).map fun r=>f r*(Hd.count (some r):Int)).sum
 | [],m,_=>by
  have : ∀ l:List Nat,(l.map fun r=>f r*(([]:Hol).count (some r):Int)).sum=0:=fun l=>by
   induction l with
   | nil=>rfl
   | cons a l ih=>rw[List.map_cons,List.sum_cons,ih];simp
  rw[this];rfl
 | o::Hd,m,h=>by
  have ih:=sum_cnt f Hd m (fun x hx=>h x (List.mem_cons_of_mem _ hx))
  rw[List.map_cons,List.sum_cons,ih]
  cases o with
  | none=>
   have : ∀ r,(none::Hd).count (some r)=Hd.count (some r):=fun r=>by rw[List.count_cons_of_ne (by simp)]
   simp only [this]
   omega
  | some x=>
   have hx:x<m:=h x List.mem_cons_self
   have key : ∀ n,((List.range n).map fun r=>f r*((some x::Hd).count (some r):Int)).sum=(if x<n then f x else 0)+((List.range n).map fun r=>f r*(Hd.count (some r):Int)).sum:=fun n=>by
    induction n with
    | zero=>rfl
    | succ n ihn=>
     rw[List.range_succ,List.map_append,List.map_append,List.sum_append,List.sum_append,ihn]
     simp only [List.map_cons,List.map_nil,List.sum_cons,List.sum_nil]
     by_cases e:x=n
     ·rw[e,List.count_cons_self,if_neg (Nat.lt_irrefl _),if_pos (Nat.lt_succ_self _)]
      rw[show ((Hd.count (some n)+1:Nat):Int)=(Hd.count (some n):Int)+1 by omega,Int.mul_add];omega
     ·rw[List.count_cons_of_ne (by simpa using e)]
      by_cases e2:x<n
      ·rw[if_pos e2,if_pos (by omega)];omega
      ·rw[if_neg e2,if_neg (by omega)];omega
   rw[key m,if_pos hx]
theorem sum_range_getD (R:List Int):((List.range R.length).map fun r=>R.getD r 0).sum=R.sum:= by
 have:(List.range R.length).map (fun r=>R.getD r 0)=R:= by
  refine List.ext_getElem (by simp) fun i h1 h2=>?_
  simp at h1 ⊢
  rw[List.getElem?_eq_getElem h1];rfl
 rw[this]
theorem sum_map_add (f g:Nat->Int) : ∀ l:List Nat,(l.map fun c=>f c+g c).sum=(l.map f).sum+(l.map g).sum
 | []=>rfl
 | a::l=>by rw[List.map_cons,List.sum_cons,sum_map_add f g l,List.map_cons,List.map_cons,List.sum_cons,List.sum_cons];omega
theorem sum_congr {f g:Nat->Int} : ∀ {l:List Nat},(∀ c ∈ l,f c=g c)->(l.map f).sum=(l.map g).sum
 | [],_=>rfl
 | a::l,h=>by rw[List.map_cons,List.sum_cons,List.map_cons,List.sum_cons,h a List.mem_cons_self,sum_congr fun c hc=>h c (List.mem_cons_of_mem _ hc)]
theorem HInv.sum (I:HInv T m k R C Hd) (all : ∀ h,h<m->Hd.count (some h)=1):((List.range k).map (valC T Hd)).sum=R.sum+C.sum:= by
 have e1:((List.range k).map (valC T Hd)).sum=((List.range k).map fun c=>rOf R (Hd.getD c none)+C.getD c 0).sum:=sum_congr fun c hc=>by
  have hl:c<Hd.length:=by rw[I.lH];exact List.mem_range.mp hc
  unfold valC
  cases e:Hd.getD c none with
  | none=>rw[I.cf c (by rw[List.getElem?_eq_getElem hl];rw[List.getD_eq_getElem?_getD,List.getElem?_eq_getElem hl] at e;exact congrArg some e)];rfl
  | some r=>
   have:=(I.ti c r (by rw[List.getElem?_eq_getElem hl];rw[List.getD_eq_getElem?_getD,List.getElem?_eq_getElem hl] at e;exact congrArg some e)).2
   exact this.symm
 rw[e1,sum_map_add,<- I.lC,sum_range_getD]
 have e2:((List.range C.length).map fun c=>rOf R (Hd.getD c none)).sum=(Hd.map (rOf R)).sum:= by
  rw[I.lC,<- I.lH]
  have:(List.range Hd.length).map (fun c=>rOf R (Hd.getD c none))=Hd.map (rOf R):= by
   refine List.ext_getElem (by simp) fun i h1 h2=>?_
   simp at h1 ⊢
   rw[List.getElem?_eq_getElem h1];rfl
  rw[this]
 rw[e2]
 have e3:=sum_cnt (fun r=>R.getD r 0) Hd m (fun x hx=>by
  obtain ⟨j,hj,ej⟩:=List.getElem_of_mem hx
  exact (I.ti j x (by rw[List.getElem?_eq_getElem hj,ej])).1)
 have e4:(Hd.map (rOf R))=Hd.map fun o:Option Nat=>match o with | none=>0 | some r=>R.getD r 0:=List.map_congr_left fun o _=>by cases o <;> rfl
 rw[e4,e3]
 have e5:((List.range m).map fun r=>R.getD r 0*(Hd.count (some r):Int)).sum=((List.range m).map fun r=>R.getD r 0).sum:=sum_congr fun r hr=>by
  rw[all r (List.mem_range.mp hr)];simp
 rw[e5,<- I.lR,sum_range_getD]
end
end L2
namespace L2
open PySem PySem.Spec PyProof.Rows
theorem for_enumL {K:PySem.W.Frag} {a:Addr} {xs:List V} {g:TG} {tb:TS} {D:Ends} {σ:St} {H:Hp} (Pv:Nat->St->Hp->Prop) (h0:Pv 0 σ H) (hl : ∀ i σ H,i<=xs.length->Pv i σ H->SqL K H a xs)
  (hs : ∀ i x σ H t,xs[i]?=some x->Pv i σ H->H t=none->g (.ref t) σ (upd H t (.tup [.int (i:Int),x])) fun σ2 H2=>tb { D with nx:=Pv (i+1),ct:=Pv (i+1),bk:=D.nx } σ2 H2) (hd : ∀ σ H,Pv xs.length σ H->D.nx σ H) :
  ∃ W:Nat->Nat->St->Hp->Prop,(∃ m,W 0 m σ H) /\ ∀ i m σ H,W i m σ H ->
   ((IteL K a).stop i H/\D.nx σ H)\/((IteL K a).go i H /\ ∃ N:St->Hp->Prop,(∀ σ' H',N σ' H' -> ∃ m',m'<m/\W (i+1) m' σ' H') /\ ∀ x H',(IteL K a).yld i H x H'->g x σ H' fun σ2 H2=>tb { D with nx:=N,ct:=N,bk:=D.nx } σ2 H2):= by
 refine ⟨fun i m σ H=>m=xs.length-i/\i<=xs.length/\Pv i σ H,⟨xs.length,by simp,Nat.zero_le _,h0⟩,?_⟩
 rintro i m σ H ⟨rfl,hi,p⟩
 have q:=hl i σ H hi p
 by_cases hlt:i<xs.length
 ·refine .inr ⟨⟨xs,xs[i],q,by simp [hlt]⟩,Pv (i+1),fun σ' H' p'=>⟨xs.length-(i+1),by omega,rfl,hlt,p'⟩,fun x H' y=>?_⟩
  obtain ⟨t,y,ht,rfl,rfl,hy⟩:=y
  exact hs i y σ _ t (hy xs q) p ht
 ·have e:i=xs.length:=by omega
  subst e
  exact .inl ⟨⟨xs,q,Nat.le_refl _⟩,hd σ H p⟩
section
variable {X:Cx} {K:PySem.W.Frag}
end
theorem LhAt.sameH {H H':Hp} {ts:List Addr} {T:List (List Int)} (h:LhAt H ts T) (s:Same H H'):LhAt H' ts T:=L2.Paired.mapP h fun a r e=>s a _ e
section
variable {C:Addr} {H H':Hp} {p dx t rp cp hd g:Addr} {ts:List Addr} {T:List (List Int)} {R Cc R':List Int} {Hd Hd':Hol}
end
end L2
namespace L2
open PySem PySem.Spec PyProof.Rows
section
variable {C:Addr} {H H':Hp} {p dx t rp cp hd rc:Addr} {ts:List Addr} {T:List (List Int)} {R Cc:List Int} {Hd Hd':Hol}
end
end L2
namespace L2
open PySem PySem.Spec PyProof.Rows
def pI (q:Nat × Nat):List Int:=[(q.1:Int),(q.2:Int)]
end L2
namespace L2
open PySem PySem.Spec PyProof.Rows
section
variable {tab:List (List Int)} {m cols:Nat} {tot tot':Int} {yss yss':List (List Int)} {R C R' C':List Int}
end
end L2
namespace L2
open PySem PySem.Spec PyProof.Rows
end L2
namespace L2
open PySem PySem.Spec PyProof.Rows
def Pat (ws us:List Int) (J:List Nat):Prop:=∀ i ∈ J,∀ j ∈ J,ws.getD i 0=ws.getD j 0 ↔ us.getD i 0=us.getD j 0
section
variable {ws us vs:List Int} {tot tot' tot2:Int} {yss yss' yss2:List (List Int)} {R C R' C' R2 C2:List Int}
theorem Pat.symm {J:List Nat} (h:Pat ws us J):Pat us ws J:=fun i hi j hj=>(h i hi j hj).symm
end
section
variable {X:Cx}
end
end L2
namespace L2
open PySem PySem.Spec PyProof.Rows
section
variable {ws us vs:List Int} {tot tot' tot2:Int} {yss yss' yss2:List (List Int)} {R C R' C' R2 C2:List Int}
end
end L2
namespace PySem
open Sem (wp)
section
variable {prog:Program} {w:World} {A:Around} {R:Result->Shared->Prop} {I:Addr} {fp wr:List Addr} {n:Nat} {P:Nat->Value->Prop} {St:Nat->Heap->Prop} {d:Value}
end
section
variable {prog:Program} {w:World} {A:Around} {R:Result->Shared->Prop} {I:Addr} {fp wr:List Addr} {P:Nat->Value->Prop} {St:Nat->Heap->Prop} {d:Value}
end
section
variable {prog:Program} {w:World} {A:Around} {E:Value->Shared->Prop} {s:Shared} {d:Value}
end
end PySem
namespace L2
open PySem PySem.Spec PyProof.Rows
section
variable {X:Cx} {K:PySem.W.Frag}
end
end L2
namespace PySem
open Sem (wp)
open AutoSeq1 (wpAny_loadPart')
section
variable {prog:Program} {w:World} {A:Around} {E:Value->Shared->Prop} {s:Shared}
end
section
variable {prog:Program} {w:World} {A:Around} {E:Value->Shared->Prop} {s:Shared}
end
end PySem
namespace L2
open PySem PySem.Spec PyProof.Rows
end L2
namespace L2
open PySem PySem.Spec PyProof.Rows
section
variable {K:PySem.W.Frag} {a:Addr} {xs:List V} {σ0:St} {g:TG} {tc:TT} {tm:TM} {F:List V->Hp->Prop} {H:Hp} {ys0:List V}
theorem lcw_range {lo:Int} {n:Nat} (Pv:Nat->List V->Hp->Prop) (h0:Pv 0 ys0 H) (hl : ∀ i ys H,i<=n->Pv i ys H->ys.length<=sizeLine)
  (hs : ∀ i ys H,i<n->Pv i ys H->g (.int (lo+i)) σ0 H fun σ2 H2=>tc σ2 H2 fun b H3=>if b=true then tm σ2 H3 ys (Pv (i+1)) else Pv (i+1) ys H3)
  (hd : ∀ ys H,Pv n ys H->F ys H):LcW (Itr lo n) g tc tm σ0 ys0 H F:= by
 refine ⟨fun i m ys H=>m=n-i/\i<=n/\Pv i ys H,⟨n,by simp,Nat.zero_le _,h0⟩,?_⟩
 rintro i m ys H ⟨rfl,hi,p⟩
 have hy:=hl i ys H hi p
 refine ⟨hy,?_⟩
 by_cases hlt:i<n
 ·refine .inr ⟨hlt,Pv (i+1),fun ys' H' p'=>⟨n-(i+1),by omega,rfl,hlt,p'⟩,fun x H' y=>?_⟩
  obtain ⟨e,y⟩:=y
  subst e y
  exact hs i ys _ hlt p
 ·have e:i=n:=by omega
  subst e
  exact .inl ⟨Nat.le_refl _,hd ys H p⟩
theorem lcM {i:Nat} {x:V} {σ:St} {ys:List V} {N:List V->Hp->Prop} (h:tm (σ.set i (some x)) H ys N):gName i x σ H fun σ2 H2=>tYes σ2 H2 fun b H3=>if b=true then tm σ2 H3 ys N else N ys H3:= by
 show if true=true then tm (σ.set i (some x)) H ys N else N ys H
 rw[if_pos rfl];exact h
end
theorem rowsUp_uniq {l m:List (List Int)} (h1:RowsUp l) (h2:RowsUp m) (hp:l.Perm m):l=m:=
 List.Perm.eq_of_pairwise (le:=fun a b=>HT.lexLt b a=false) (fun a b _ _ x y=>(lexLt_total b a x y).symm) h1 h2 hp
end L2
namespace L2
open PySem
end L2
namespace L2
open PySem PySem.Spec PyProof.Rows
end L2
namespace L2
open PySem
end L2
namespace L2
open PySem PySem.Spec PyProof.Rows
section
variable {X:Cx} {N':List Str} {M:List (Option Nat)} {scope:Scope} {tg elt iter tg2 iter2:Expr} {ifs ifs2:List Expr} {ks ks2:List Nat} {pos:Pos} {g g2:TG} {tc tc2:TT} {te:TE} {wi wi2:TI}
end
abbrev Best:=Option (Int × List Int)
end L2
namespace L2
open PySem PySem.Spec PyProof.Rows
def gV:Best->V
 | none=>.non
 | some (g,_)=>.int g
section
variable {K:PySem.W.Frag} {C:Addr} {H H':Hp} {p dx t o:Addr} {lv:V} {ts:List Addr} {T:List (List Int)} {b:Best}
end
end L2
namespace L2
open PySem PySem.Spec PyProof.Rows
section
variable {X:Cx} {K:PySem.W.Frag}
end
theorem lh_outQ {H:Hp} {q:Addr} {o:HO} : ∀ {l1:List Addr} {l2:List (List Int)},LhAt H l1 l2->q ∉ l1->LhAt (upd H q o) l1 l2
 | _,_,.nil,_=>.nil
 | _,_,.cons r t,hm=>by
  rw[List.mem_cons,not_or] at hm
  exact .cons (by rw[upd_ne (fun z=>hm.1 z.symm)];exact r) (lh_outQ t hm.2)
section
variable {H0 H H':Hp} {p:Addr} {n B B':Nat} {ps:List Addr} {R:List (List Int)}
end
end L2
namespace PySem
open Sem (wp)
theorem lk_list_keys : typeLookup (.type "list") "keys" = pure none:=by rw[typeLookup_type,builtinLookup_eq_fast]; kernel_rfl
theorem lk_list_hook : typeLookup (.type "list") "__getattr__" = pure none:=by rw[typeLookup_type,builtinLookup_eq_fast]; kernel_rfl
section
variable {prog:Program} {w:World} {A:Around} {E:Value->Shared->Prop} {h:Heap} {g:Array GenState} {d:Drawn} {t:Nat} {os:OsState} {a:Addr} {its:Array Value} {n:Nat}
theorem keys_entry_list {tk : Tok} {Q : Fin -> Shared -> Prop} (hh : A.handled = none) (hx : h.get? a = some { cls:=.type "list",data:=.seq its n })
  (hq : ∀ h' tk' e,Heap.NewAttrErr h h' e (.ref a) "keys" -> E (.ref e) ⟨h',g,d,tk',os⟩) :
  wpAny (model prog w) A (Builtin.«object.__getattribute__» ⟨[.ref a,.str "keys" tk],[]⟩) Q E ⟨h,g,d,t,os⟩:= by
 have hT : (⟨h,g,d,t,os⟩ : Shared).TypeIs (.ref a) "list":=⟨_,hx,rfl⟩
 have f4:=lk_list_keys
 have f5:=lk_list_hook
 repeat (any_goals (first | assumption | wp_step))
 exact wpAny_raiseAttrError hh hq (attrMsg_fits (by decide +kernel) (by size_fits))
theorem keys_call_list {tk : Tok} {R : Result -> Shared -> Prop} (hh : A.handled = none) (hx : h.get? a = some { cls:=.type "list",data:=.seq its n })
  (hq : ∀ h' tk' e,Heap.NewAttrErr h h' e (.ref a) "keys" -> R (.error (.ref e)) ⟨h',g,d,tk',os⟩) :
  codeAny (model prog w) A (.call (.builtin "list.__getattribute__") ⟨[.ref a,.str "keys" tk],[]⟩) R ⟨h,g,d,t,os⟩:=
 codeAny_call_builtin F.slot_list_getattribute.plain F.entry_list_ga (F.slot_list_getattribute.check _ _ _ _ _ _ _ _ (show (⟨h,g,d,t,os⟩ : Shared).TypeIs (.ref a) "list" from ⟨_,hx,rfl⟩) (F.args_list_getattribute_2 _ _) (keys_entry_list hh hx hq))
theorem keys_by_list {tk : Tok} {Q : Value -> Shared -> Prop} (hh : A.handled = none) (hx : h.get? a = some { cls:=.type "list",data:=.seq its n })
  (hq : ∀ h' tk' e,Heap.NewAttrErr h h' e (.ref a) "keys" -> E (.ref e) ⟨h',g,d,tk',os⟩) : wpAny (model prog w) A (getAttrBy (.ref a) (.str "keys" tk) false) Q E ⟨h,g,d,t,os⟩:= by
 have hT : (⟨h,g,d,t,os⟩ : Shared).TypeIs (.ref a) "list":=⟨_,hx,rfl⟩
 have f1:=sub_AttributeError
 have f2:=F.slot_list_getattribute.lookup
 have f3:=F.slot_list_getattribute.bind (.ref a)
 have f5:=lk_list_hook
 unfold getAttrBy
 repeat (any_goals (first | assumption | wp_step))
 refine keys_call_list hh hx fun h' tk' e hx'=>?_
 obtain ⟨t',u',he⟩:=hx'.there
 show wpAny _ _ (getattributeRaised _ _ _ _ _ _ _) _ _ _
 unfold getattributeRaised
 repeat (any_goals (first | assumption | wp_step))
 exact hq _ _ _ hx'
theorem keys_attr_list {Q : Option Value -> Shared -> Prop} (hh : A.handled = none) (hx : h.get? a = some { cls:=.type "list",data:=.seq its n })
  (hq : ∀ h' tk' e,Heap.NewAttrErr h h' e (.ref a) "keys" -> Q none ⟨h',g,d,tk',os⟩) : wpAny (model prog w) A (getAttr? (.ref a) "keys") Q E ⟨h,g,d,t,os⟩:= by
 have f1:=sub_AttributeError
 unfold getAttr? getAttrBy?
 repeat (any_goals (first | assumption | with_reducible refine keys_by_list hh hx ?_ | wp_step))
 intro h' tk' e hx'
 obtain ⟨t',u',he⟩:=hx'.there
 show wpAny _ _ (isInstance _ _ >>= _) _ _ _
 repeat (any_goals (first | assumption | wp_step))
 exact hq _ _ _ hx'
end
end PySem
namespace PySem
open Sem (wp)
theorem entry_dul : entryFor table "dict.update.loop" = some Builtin.«dict.update.loop»:=entryFor_of_tree (by kernel_rfl)
theorem plain_dul : plainId "dict.update.loop" = true:=by decide +kernel
section
variable {prog:Program} {w:World} {K:Type} [DecidableEq K] {knd:KeyKind prog w K} {A:Around} {R:Result->Shared->Prop} {I:Addr} {fp wr:List Addr} {n:Nat} {P:Nat->Value->Prop} {St:Nat->Heap->Prop} {d:Addr} {key:Nat->K} {val:Nat->Value}
def PrsAt (knd:KeyKind prog w K) (wr:List Addr) (n:Nat) (P:Nat->Value->Prop) (d:Addr) (key:Nat->K) (val:Nat->Value) (h:Heap):Prop:=
 ∀ i,i<n -> ∃ p kv,(∀ v,P i v->v = .ref p)/\p ∉ wr/\p≠d/\knd.is (key i) kv=true/\h.IsTuple p #[kv,val i]
def stK (key:Nat->K) (val:Nat->Value) (kvs:List (K × Value)) (j:Nat):Nat->List (K × Value)
 | 0=>kvs
 | k+1=>stK key val (stored kvs (key j) (val j)) (j+1) k
theorem codeAny_dul (W:Walks prog w A.in1 I fp wr n P St) (hdf:d ∉ fp) :
  ∀ (k j:Nat) (s:Shared) (kvs:List (K × Value)),n-j=k->j<=n->St j s.heap->PrsAt knd wr n P d key val s.heap->s.heap.DictOf knd d kvs->kvs.length+k<=sizeLine ->
  (∀ h' tk,h'.DictOf knd d (stK key val kvs j k)->(∀ b o,b ∉ wr->b≠d->s.heap.get? b=some o->h'.get? b=some o)->R (.ok (.ret .none)) { s with heap:=h',toks:=tk }) ->
  codeAny (model prog w) A (.builtin "dict.update.loop" ⟨[.ref d,.ref I,rawInt j,.none],[]⟩) R s:= by
 have hdw:d ∉ wr:=fun h=>hdf (W.sub _ h)
 intro k
 induction k with
 | zero=>
  intro j s kvs hk hj hst hP hd hsz hR
  have hin:j=n:=by omega
  refine codeAny_builtin entry_dul ?_
  rw[Around.under_plainId plain_dul _]
  show wpAny _ A.in1 (pyNext (.ref I) >>= _) _ _ s
  refine wpAny_bind (W.done s _ _ (hin ▸ hst) fun h' tk hk'=>?_)
  show wpAny _ A.in1 (Builtin.Dict.addKeywords d [] >>= _) _ _ _
  refine wpAny_bind (wpAny_pure (wpAny_pure ?_))
  obtain ⟨o,es,ep,ho,r⟩:=hd
  exact hR h' tk ⟨o,es,ep,hk' d o hdw ho,r⟩ fun b o hb _ e=>hk' b o hb e
 | succ k ih=>
  intro j s kvs hk hj hst hP hd hsz hR
  have hlt:j<n:=by omega
  refine codeAny_builtin entry_dul ?_
  rw[Around.under_plainId plain_dul _]
  show wpAny _ A.in1 (pyNext (.ref I) >>= _) _ _ s
  refine wpAny_bind (W.item j s _ _ hlt hst fun v h' tk hPv hst' hk'=>?_)
  obtain ⟨p,kv,hv,hpw,hpd,hkey,o,ho,hc,m,hdat⟩:=hP j hlt
  obtain rfl:=hv v hPv
  have ho':=hk' p o hpw ho
  have hT : (⟨h',s.gens,s.drawn,tk,s.os⟩ : Shared).TypeIs (.ref p) "tuple":=⟨o,ho',hc⟩
  have hd':h'.DictOf knd d kvs:= by
   obtain ⟨o,es,ep,ho,r⟩:=hd
   exact ⟨o,es,ep,hk' d o hdw ho,r⟩
  show wpAny _ A.in1 (holding [Value.ref p] _ >>= _) _ _ _
  refine wpAny_bind (wpAny_holding (wpAny_bind (wpAny_tryCatch ?_)))
  unfold Builtin.Dict.pairItems
  refine wpAny_bind (wpAny_typeOf hT ?_)
  rw[if_pos (by decide)]
  refine wpAny_bind (wpAny_seqItems ho' hdat (wpAny_pure ?_))
  show wpAny _ A.in1 (holding [kv,val j] (dictSet d kv (val j))) _ _ _
  refine wpAny_holding (wpAny_dictSet_pairs hkey hd' (fun h'' hd'' hs''=>?_) (by omega))
  refine wpAny_pure ⟨plainId_quiet plain_dul _,?_⟩
  have kp : ∀ b o,b ∉ wr->b≠d->s.heap.get? b=some o->h''.get? b=some o:=fun b o hb hbd e=>(hs''.2 b hbd).trans (hk' b o hb e)
  have hlen:(stored kvs (key j) (val j)).length+k<=sizeLine:= by
   have:=stored_length_le kvs (key j) (val j)
   omega
  rw[show ((j:Nat):Int)+1=((j+1:Nat):Int) by omega]
  refine ih (j+1) _ (stored kvs (key j) (val j)) (by omega) (by omega) (W.frame _ _ _ hst' fun b hb o e=>(hs''.2 b (fun z=>hdf (z ▸ hb))).trans e) ?_ hd'' hlen fun h3 tk3 hd3 kp3=>?_
  ·intro i hi
   obtain ⟨p',kv',q1,q2,q3,q4,o',q5,q6⟩:=hP i hi
   exact ⟨p',kv',q1,q2,q3,q4,o',kp p' o' q2 q3 q5,q6⟩
  ·exact hR h3 tk3 hd3 fun b o hb hbd e=>kp3 b o hb hbd (kp b o hb hbd e)
end
end PySem
namespace PySem
section
variable {prog:Program} {w:World} {K:Type} [DecidableEq K] {knd:KeyKind prog w K} {A:Around} {E:Value->Shared->Prop} {s:Shared} {key:Nat->K} {val:Nat->Value} {l:Addr} {its:Array Value} {n0:Nat}
theorem call_dict_pairs {Q : Value -> Shared -> Prop} (hh : A.handled = none) (hx : s.heap.get? l = some { cls:=.type "list",data:=.seq its n0 }) (hz : its.size <= sizeLine)
  (hp : ∀ i,i<its.size -> ∃ p kv,its[i]?=some (.ref p)/\knd.is (key i) kv=true/\s.heap.IsTuple p #[kv,val i])
  (h : ∀ h' tk,h'.DictOf knd s.heap.objs.size (stK key val [] 0 its.size)->(∀ b o,s.heap.get? b=some o->h'.get? b=some o)->Q (.ref s.heap.objs.size) { s with heap:=h',toks:=tk }) :
  wpAny (model prog w) A (call (.type "dict") [.ref l]) Q E s:= by
 refine callType_codes (Q₁:=fun obj s₁=>obj = .ref s.heap.objs.size /\ s₁ = { s with heap:=s.heap.push { cls:=.type "dict",data:=.dict #[] } }) F.kt_called_dict (F.kt_typeCall_dict_1 _) F.entry_dict_init (kt_code_dict_new _ ⟨rfl,rfl⟩) ?_
 rintro obj s₁ ⟨rfl,rfl⟩
 have hnew : (s.heap.push { cls:=.type "dict",data:=.dict #[] }).DictOf knd s.heap.objs.size []:=Heap.DictOf.new s.heap
 have hx1 : (s.heap.push { cls:=.type "dict",data:=.dict #[] }).get? l = some { cls:=.type "list",data:=.seq its n0 }:=Heap.get?_push_of_some _ hx
 refine ⟨hnew.typeIs,F.args_dict_init_2 _ _,?_⟩
 unfold Builtin.«dict.__init__»
 refine wpAny_bind ?_
 unfold Builtin.Dict.selfAndRest
 refine wpAny_bind (wpAny_notOrdered_dict hnew.typeIs ?_)
 show wpAny _ _ (pure (s.heap.objs.size,[Value.ref l])) _ _ _
 refine wpAny_pure ?_
 show wpAny _ _ (Builtin.Dict.updateFrom "dict.__init__" s.heap.objs.size (.ref l) [] .none) _ _ _
 unfold Builtin.Dict.updateFrom
 refine wpAny_bind (wpAny_typeOf (show ({ s with heap:=s.heap.push { cls:=.type "dict",data:=.dict #[] } } : Shared).TypeIs (.ref l) "list" from ⟨_,hx1,rfl⟩) ?_)
 rw[if_pos (by decide)]
 refine wpAny_bind (keys_attr_list (show A.in1.in1.handled=none from hh) hx1 fun h2 tk2 e2 hne=>?_)
 show wpAny _ _ (rule _ >>= _) _ _ _
 refine wpAny_bind (wpAny_rule ?_)
 have hx2:=hne.keeps _ _ hx1
 have hd2:h2.DictOf knd s.heap.objs.size []:= by
  obtain ⟨o,es,ep,ho,r⟩:=hnew
  exact ⟨o,es,ep,hne.keeps _ _ ho,r⟩
 have hL2:h2.IsList l its:=⟨_,hx2,rfl,_,rfl⟩
 refine wpAny_bind (wpAny_pyIter_list hL2 ?_)
 have hl2:l<h2.objs.size:=Heap.lt_size hx2
 have hdl:s.heap.objs.size<h2.objs.size:= by
  obtain ⟨o,es,ep,ho,r⟩:=hd2
  exact Heap.lt_size ho
 have hll:l<s.heap.objs.size:=Heap.lt_size hx
 have W:=Walks.list (prog:=prog) (w:=w) (A:=A.in1.in1) hh h2.objs.size l (Nat.ne_of_lt hl2) its
 refine wpAny_pure ⟨plainId_quiet plain_dul _,?_⟩
 refine codeAny_dul (A:=A.in1) (knd:=knd) (key:=key) (val:=val) W (d:=s.heap.objs.size) ?_ its.size 0 _ [] (by omega) (Nat.zero_le _) ⟨?_,?_⟩ ?_ (hd2.push _) (by simpa using hz) fun h3 tk3 hd3 kp3=>?_
 ·intro hm
  simp only [List.mem_cons,List.not_mem_nil,or_false] at hm
  rcases hm with z | z
  ·exact absurd hdl (by rw[z];exact Nat.lt_irrefl _)
  ·exact absurd hll (by rw[<- z];exact Nat.lt_irrefl _)
 ·first
   | exact ⟨_,Heap.get?_push_size _ rfl,rfl,rfl⟩
   | exact ⟨_,Heap.get?_push_size _ rfl,rfl,_,rfl⟩
   | exact ⟨_,_,Heap.get?_push_size _ rfl,rfl,rfl⟩
 ·obtain ⟨o,q1,q2⟩:=hL2
  exact ⟨o,Heap.get?_push_of_some _ q1,q2⟩
 ·intro i hi
  obtain ⟨p,kv,q1,q2,o,q3,q4⟩:=hp i hi
  have hpl:p<s.heap.objs.size:=Heap.lt_size q3
  refine ⟨p,kv,fun v e=>?_,?_,Nat.ne_of_lt hpl,q2,o,Heap.get?_push_of_some _ (hne.keeps _ _ (Heap.get?_push_of_some _ q3)),q4⟩
  ·have e:its[i]?=some v:=e
   rw[q1] at e;exact (Option.some.inj e).symm
  ·intro hm
   have:=List.mem_singleton.mp hm
   exact absurd (Nat.lt_trans hpl hdl) (by rw[this];exact Nat.lt_irrefl _)
 ·refine ⟨rfl,h h3 tk3 hd3 fun b o e=>?_⟩
  have hbl:b<s.heap.objs.size:=Heap.lt_size e
  refine kp3 b o (fun hm=>?_) (Nat.ne_of_lt hbl) (Heap.get?_push_of_some _ (hne.keeps _ _ (Heap.get?_push_of_some _ e)))
  have:=List.mem_singleton.mp hm
  exact absurd (Nat.lt_trans hbl hdl) (by rw[this];exact Nat.lt_irrefl _)
end
end PySem
namespace L2
open PySem PySem.Spec PyProof.Rows
def putAll (kvs:List (Key × V)):List (Key × V):=kvs.foldl (fun d kv=>putK d kv.1 kv.2) []
theorem stK_rel : ∀ (more:List (Key × V)) (kvs:List (Key × V)) (vs:List (Key × Value)) (val:Nat->Value) (key:Nat->Key) (j:Nat),KV kvs vs->(∀ i kv,more[i]?=some kv->key (j+i)=kv.1/\RelV kv.2 (val (j+i))) ->
  KV (more.foldl (fun d kv=>putK d kv.1 kv.2) kvs) (stK key val vs j more.length)
 | [],kvs,vs,val,key,j,h,_=>h
 | kv::more,kvs,vs,val,key,j,h,hk=>by
  obtain ⟨e,r⟩:=hk 0 kv rfl
  rw[Nat.add_zero] at e r
  rw[List.foldl_cons,List.length_cons]
  show KV _ (stK key val (stored vs (key j) (val j)) (j+1) more.length)
  rw[e]
  refine stK_rel more _ _ val key (j+1) (h.put kv.1 r) fun i kv' hi=>?_
  have:=hk (i+1) kv' (by simpa using hi)
  rw[show j+1+i=j+(i+1) by omega];exact this
theorem call_dictL {X : Cx} {K : PySem.W.Frag} (hc : X.calm = true:=by rfl) (h : X.K = K:=by rfl) : CallR X (.type "dict") (fun xs H Q=>∃ (l : Addr) (ps : List Addr) (kvs : List (Key × V)),xs = [.ref l] /\ H l = some (.lst (ps.map V.ref)) /\ Paired (fun p (kv : Key × V)=>SqT K H p [kV kv.1,kv.2]) ps kvs /\ ∀ p,H p = none -> Q (.ref p) (upd H p (.dK (putAll kvs)))):= by
 subst h
 intro pins s σ H xs us Q I r h
 obtain ⟨l,ps,kvs,rfl,hl,hP,q⟩:=h
 obtain ⟨u,rfl,ru⟩:=vals1 r
 cases (show u=Value.ref l from ru)
 obtain ⟨hsz,its,k,rv,hD⟩:=I.hok l _ hl
 have hlen:ps.length=kvs.length:=hP.length
 have hil:its.length=kvs.length:=by rw[<- rv.length,List.length_map,hlen]
 have ex : ∀ i:Nat,∃ b:Value,i<kvs.length -> ∃ (p:Addr) (a:Value),its[i]?=some (.ref p)/\RelV (kV (kvs.getD i (Sum.inl 0,.non)).1) a/\RelV (kvs.getD i (Sum.inl 0,.non)).2 b/\s.heap.IsTuple p #[a,b]:=fun i=>by
  by_cases hi:i<kvs.length
  ·have hk:kvs[i]?=some (kvs.getD i (Sum.inl 0,.non)):=by rw[List.getD_eq_getElem?_getD,List.getElem?_eq_getElem hi];rfl
   obtain ⟨p,hp,hpi⟩:=paired_getR hP hk
   obtain ⟨u,hu,ru'⟩:=rv.get (show (ps.map V.ref)[i]?=some (.ref p) by rw[List.getElem?_map,hpi];rfl)
   cases (show u=Value.ref p from ru')
   obtain ⟨its2,rv2,p2,_⟩:=I.tuple hp
   obtain ⟨x,y,rfl,rx,ry⟩:=rv2.two
   exact ⟨y,fun _=>⟨p,x,hu,rx,ry,p2⟩⟩
  ·exact ⟨.none,fun h=>absurd h hi⟩
 obtain ⟨val,hval⟩:=Classical.axiomOfChoice ex
 have hkv : ∀ i kv,kvs[i]?=some kv->(kvs.getD i (Sum.inl 0,.non))=kv:=fun i kv e=>by rw[List.getD_eq_getElem?_getD,e];rfl
 refine call_dict_pairs (knd:=mixKind X.prog X.w) (key:=fun i=>(kvs.getD i (Sum.inl 0,.non)).1) (val:=val) (I.ok.hd hc) hD (by rw[List.size_toArray,hil,<- hlen];rw[List.length_map] at hsz;exact hsz) (fun i hi=>?_) fun h' tk hd kp=>?_
 ·rw[List.size_toArray,hil] at hi
  obtain ⟨p,a,q1,q2,q3,q4⟩:=hval i hi
  exact ⟨p,a,by simpa using q1,kV_is q2,q4⟩
 ·have hsz2:its.toArray.size=kvs.length:=by rw[List.size_toArray,hil]
  rw[hsz2] at hd
  have hrel:KV (putAll kvs) (stK (fun i=>(kvs.getD i (Sum.inl 0,.non)).1) val [] 0 kvs.length):=stK_rel kvs [] [] val _ 0 .nil fun i kv e=>by
   rw[Nat.zero_add]
   have hi:=(List.getElem?_eq_some_iff.mp e).1
   obtain ⟨p,a,q1,q2,q3,q4⟩:=hval i hi
   rw[hkv i kv e] at q3 ⊢
   exact ⟨rfl,q3⟩
  have hpl : ∀ (more:List (Key × V)) (d:List (Key × V)),(more.foldl (fun d kv=>putK d kv.1 kv.2) d).length<=d.length+more.length:=fun more=>by
   induction more with
   | nil=>intro d;exact Nat.le_refl _
   | cons kv more ih=>
    intro d
    rw[List.foldl_cons,List.length_cons]
    have h1:=ih (putK d kv.1 kv.2)
    have h2:=length_putK d kv.1 kv.2
    omega
  have hl2:(putAll kvs).length<=sizeLine:= by
   have:=hpl kvs []
   unfold putAll
   rw[List.length_map,hlen] at hsz
   simp at this;omega
  exact ⟨.ref s.heap.objs.size,_,I.laid (a:=s.heap.objs.size) (o:=.dK (putAll kvs)) (t':=tk) kp (Nat.le_refl _) (dk_new hl2 (beq_eq_false_iff_ne.mpr (Ne.symm (Nat.ne_of_lt I.big))) hrel hd),rfl,q _ (I.hok.fresh (Nat.le_refl _))⟩
end L2
namespace L2
open PySem PySem.Spec PyProof.Rows
section
variable {X:Cx} {K:PySem.W.Frag}
end
end L2
namespace L2
open PySem PySem.Spec PyProof.Rows
section
variable {X:Cx} {K:PySem.W.Frag}
def ipM:V->V->Hp->VK->Prop:=fun x y H Q=>∃ i j:Int,x = .int i/\y = .int j/\IntMulOk i j/\Q (.int (i*j)) H
theorem ip_mul:PIp X .Mult ipM:= by
 intro pins s σ H x y v u Q I r1 r2 h
 obtain ⟨i,j,e1,e2,hm,q⟩:=h
 subst e1;subst e2
 obtain ⟨t,rfl⟩:=r1
 obtain ⟨t',rfl⟩:=r2
 exact imul_int ⟨.int _,H,I.tok _,⟨_,rfl⟩,q⟩ hm
end
end L2
namespace L2
open PySem PySem.Spec PyProof.Rows
section
variable {prog:Program} {w:World} {A:Around} {R:Result->Shared->Prop} {s:Shared}
end
end L2
namespace L2
open PySem PySem.Spec PyProof.Rows
end L2
namespace PySem
open Sem (wp)
section
variable {M:Model} {A:Around} {E:Value->Shared->Prop} {s:Shared} {env:Env}
end
end PySem
namespace L2
open PySem PySem.Spec PyProof.Rows
section
variable {M:Model} {A:Around} {E:Value->Shared->Prop} {s:Shared}
end
section
variable {X:Cx} {N':List Str} {M:List (Option Nat)} {scope:Scope} {tg elt iter:Expr} {ifs:List Expr} {pos:Pos} {g:TG} {tc:TT} {te:TE} {wi:TI} {E:XK}
end
end L2
namespace L2
open PySem PySem.Spec PyProof.Rows
def gI (p q:Int):Int:=((Nat.gcd q.toNat p.toNat:Nat):Int)
def cz (W:Wds) (z:Str):Int:=(countW W z).getD 0
def ordP (W:Wds) (S:List Str):Nat->Int
 | 0=>1
 | i + 1=>ordP W S i * (cz W (S.getD i "") - ((S.take i).count (S.getD i "") : Nat))
theorem cz_ok {W:Wds} (hW:woodsOk W=true) (z:Str):0<=cz W z/\cz W z<=99:= by
 unfold cz
 cases h:countW W z with
 | none=>exact ⟨by decide,by decide⟩
 | some n=>exact ((woodsOk_iff.mp hW).2.2 _ (countW_in h)).2
def dn (t:Int):Nat->Int
 | 0=>1
 | n+1=>dn t n*(t-n)
def dnL (t:Int):Nat->Int
 | 0=>1
 | n+1=>dnL t n*max 0 (t-n)
def totW (W:Wds):Int:=(W.map (·.2)).sum
theorem tot_go : ∀ W:Wds,(∀ w ∈ W,0<=w.2/\w.2<=99)->0<=totW W/\totW W<=99*W.length
 | [],_=>⟨by decide,by decide⟩
 | w::W,h=>by
  have ih:=tot_go W fun x hx=>h x (List.mem_cons_of_mem _ hx)
  have:=h w List.mem_cons_self
  unfold totW at *
  rw[List.map_cons,List.sum_cons,List.length_cons]
  omega
theorem tot_ok {W:Wds} (hW:woodsOk W=true):0<=totW W/\totW W<=594:= by
 obtain ⟨w1,w2,w3⟩:=woodsOk_iff.mp hW
 have:=tot_go W fun w hw=>(w3 w hw).2
 omega
end L2
namespace L2
open PySem PySem.Spec PyProof.Rows
theorem inV_strs (z:Str) (S:List Str):inV (.str z) (S.map V.str)=decide (z ∈ S):= by
 unfold inV
 rw[List.any_map]
 by_cases h:z ∈ S
 ·rw[decide_eq_true h,List.any_eq_true]
  exact ⟨z,h,by show eqV (.str z) (.str z)=true;unfold eqV;simp⟩
 ·rw[decide_eq_false h]
  cases e:S.any ((fun y=>eqV y (.str z))∘V.str) with
  | false=>rfl
  | true=>
   obtain ⟨x,hx,e⟩:=List.any_eq_true.mp e
   have e:eqV (.str x) (.str z)=true:=e
   unfold eqV at e
   simp at e
   exact absurd (e ▸ hx) h
end L2
namespace L2
open PySem PySem.Spec PyProof.Rows
end L2
namespace L2
open PySem PySem.Spec PyProof.Rows
def kvW (W:Wds):List (Key × V):=W.map fun w=>((Sum.inr w.1:Key),V.int w.2)
theorem val_fold : ∀ (W:Wds) (d:List (Key × V)) (z:Str),(W.map (·.1)).Nodup->valV ((kvW W).foldl (fun d kv=>putK d kv.1 kv.2) d) (Sum.inr z)=(match countW W z with | some n=>some (V.int n) | none=>valV d (Sum.inr z))
 | [],d,z,_=>rfl
 | w::W,d,z,hn=>by
  rw[List.map_cons,List.nodup_cons] at hn
  show valV ((kvW W).foldl (fun d kv=>putK d kv.1 kv.2) (putK d (Sum.inr w.1) (.int w.2))) (Sum.inr z)=_
  rw[val_fold W _ z hn.2,countW_cons,valV_put]
  by_cases e:w.1=z
  ·subst e
   rw[if_pos rfl,if_pos rfl,countW_none.mpr hn.1]
  ·rw[if_neg e,if_neg (fun q:(Sum.inr z:Key)=Sum.inr w.1=>e (Sum.inr.inj q).symm)]
theorem val_all {W:Wds} {z:Str} (hn:(W.map (·.1)).Nodup) (h:countW W z≠none):valV (putAll (kvW W)) (Sum.inr z)=some (V.int (cz W z)):= by
 unfold putAll
 rw[val_fold W [] z hn]
 unfold cz
 cases e:countW W z with
 | none=>exact absurd e h
 | some n=>rfl
theorem kvW_at {K:PySem.W.Frag} {H:Hp} : ∀ {as:List Addr} {W:Wds},WAt H as W->Paired (fun p (kv:Key × V)=>SqT K H p [kV kv.1,kv.2]) as (kvW W)
 | _,_,.nil=>.nil
 | _,_,.cons e t=>.cons (SqT.of e) (kvW_at t)
end L2
namespace L2
open PySem PySem.Spec PyProof.Rows
theorem eqVs_strs : ∀ S:List Str,eqVs (S.map V.str) (S.map V.str)=true
 | []=>rfl
 | z::S=>by
  show (eqV (.str z) (.str z)&&eqVs (S.map V.str) (S.map V.str))=true
  rw[eqVs_strs S]
  show ((z==z)&&true)=true
  simp
end L2
namespace PySem
open Sem (wp)
section
variable {prog:Program} {w:World} {A:Around} {E:Value->Shared->Prop} {s:Shared}
theorem meets_dict_itemsE (d:Addr) (hd:(d==sysModules)=false) :
  MeetsIn prog w (Builtin.«dict.items» ⟨[.ref d],[]⟩) (fun _ R s=>(∃ kvs ep,s.heap.DictE d kvs ep) /\
   R (.ok (.ret (.ref s.heap.objs.size))) { s with heap:=s.heap.push { cls:=.type "dict_items",data:=.fields #[.ref d] } }):=
 .of_wp fun A R s ⟨⟨kvs,ep,hm⟩,h⟩=>by
  unfold Builtin.«dict.items»
  refine wpAny_bind ?_
  unfold Builtin.Dict.noArgs
  refine wpAny_bind (wpAny_notOrdered_dict hm.typeIs ?_)
  show wpAny _ _ (pure d) _ _ s
  refine wpAny_pure ?_
  show wpAny _ _ (Builtin.Dict.showsAll d >>= _) _ _ s
  unfold Builtin.Dict.showsAll
  rw[if_neg (by rw[hd];exact Bool.false_ne_true)]
  refine wpAny_bind (wpAny_pure ?_)
  exact wpAny_bind (wpAny_newObj_type (wpAny_pure ⟨_,rfl,h⟩))
theorem wpAny_pyIter_itemsE {v d:Addr} {kvs:List (Value × Value)} {ep:Nat} {Q:Value->Shared->Prop} (hv:s.heap.IsItemsView v d) (hm:s.heap.DictE d kvs ep)
  (hQ : Q (.ref s.heap.objs.size) { s with heap:=s.heap.push { cls:=.type "dict_itemiterator",data:=.fields #[.none,.bool false,.ref d,.int 0 0,.int kvs.length 0,.int ep 0,.none,.none] } }) :
  wpAny (model prog w) A (pyIter (.ref v)) Q E s:= by
 obtain ⟨ov,hov,hcv,hdv⟩:=id hv
 obtain ⟨o,es,ho,hc,hdat,hp⟩:=id hm
 refine wpAny_pyIter_slot hv.typeIs F.slot_dict_items_iter (wpAny_call_entry F.slot_dict_items_iter hv.typeIs F.entry_dict_items_iter ?_ (F.args_dict_items_iter_1 _))
 unfold Builtin.«dict_items.__iter__»
 refine wpAny_bind (wpAny_pure ?_)
 refine wpAny_bind ?_
 unfold Builtin.Dict_items.dictOf
 refine wpAny_bind (wpAny_field hov hdv (x:=.ref d) rfl (wpAny_pure ?_))
 refine wpAny_bind ?_
 unfold Builtin.Dict_items.newIterator
 refine wpAny_bind (wpAny_dictEntries ho hdat ?_)
 refine wpAny_bind (wpAny_dictEpoch ho hdat ?_)
 have hsz:es.size=kvs.length:=by rw[<- hp];simp
 have hown : Builtin.Dict_items.ownsTuple "dict_itemiterator" = true:=by decide
 simp only [hown,if_true]
 refine wpAny_newObj_type (wpAny_pure ⟨_,rfl,"dict_itemiterator",_,⟨_,Heap.get?_push_size _ rfl,rfl⟩,F.slot_dict_itemiterator_next.lookup,?_⟩)
  (by simp only [sizeOk,Builtin.Dict_items.ownedTupleFields,List.size_toArray,List.length_append,List.length_cons,List.length_nil,sizeLine_eq];omega)
 simpa [rawInt,hsz,Builtin.Dict_items.ownedTupleFields] using hQ
theorem wpAny_pyNext_itemsE_item {it d:Addr} {i ep:Nat} {kvs:List (Value × Value)} {k:Value} {v ok ov:Value} {Q:Option Value->Shared->Prop} (hit:IsItemIter s.heap it d i kvs.length ep ok ov)
  (hm:s.heap.DictE d kvs ep) (hx:kvs[i]?=some (k,v))
  (hQ : ∀ key h',key=k->IsItemIterOut h' it d (i+1) kvs.length ep key v s.heap.objs.size ->
   h'.get? s.heap.objs.size = some { cls:=.type "tuple",data:=.seq #[key,v] } -> h'.objs.size = s.heap.objs.size + 1 ->
   (∀ b o,b≠it->s.heap.get? b=some o->h'.get? b=some o)->Q (some (.ref s.heap.objs.size)) { s with heap:=h' }) :
  wpAny (model prog w) A (pyNext (.ref it)) Q E s:= by
 obtain ⟨hp,g,dr,tk,os⟩:=s
 obtain ⟨od,es,hod,hcd,hdd,hpr⟩:=id hm
 have hT : Shared.TypeIs ⟨hp,g,dr,tk,os⟩ (.ref it) "dict_itemiterator":=⟨_,hit,rfl⟩
 unfold pyNext
 refine wpAny_bind (wpAny_attempt (wpAny_callSpecial?_slot (name:=Str.ofString "__next__") hT F.slot_dict_itemiterator_next
  (wpAny_call_entry F.slot_dict_itemiterator_next hT F.entry_dict_itemiterator_next ?_ (F.args_dict_itemiterator_next_1 _))))
 refine wpAny_bind (wpAny_pure ?_)
 refine wpAny_bind ?_
 refine wpAny_bind ?_
 first | refine wpAny_bind (wpAny_typeNameOfWhole_itemiter hT (wpAny_pure ?_)) | refine wpAny_bind (wpAny_typeNameOf_itemiter hT (wpAny_pure ?_))
 refine wpAny_bind (wpAny_fieldsOf hit rfl ?_)
 have hown : Builtin.Dict_items.ownsTuple "dict_itemiterator" = true:=by decide
 simp only [hown,if_true]
 show wpAny _ _ (if (Value.ref d==Value.none)=true then _ else _) _ _ _
 rw[if_neg (show ¬ ((Value.ref d==Value.none)=true) from Bool.false_ne_true)]
 refine wpAny_bind (wpAny_pure ?_)
 refine wpAny_bind (wpAny_dictEntries hod hdd ?_)
 have hsz:es.size=kvs.length:=by rw[<- hpr];simp
 rw[if_neg (by rw[hsz];simp)]
 refine wpAny_bind (wpAny_pure ?_)
 refine wpAny_bind (wpAny_dictEpoch hod hdd ?_)
 rw[if_neg (by simp)]
 refine wpAny_pure ?_
 have hlt:i<kvs.length:= by
  rcases Nat.lt_or_ge i kvs.length with h | h
  ·exact h
  ·simp [List.getElem?_eq_none h] at hx
 have hlt':i<es.size:=by rw[hsz];exact hlt
 have e1:(es.toList.map fun e=>(e.key,e.val))[i]?=some (es[i].key,es[i].val):=by rw[List.getElem?_map,Array.getElem?_toList,Array.getElem?_eq_getElem hlt'];rfl
 rw[hpr,hx] at e1
 have hkey:es[i].key=k:=(congrArg Prod.fst (Option.some.inj e1)).symm
 have hval:es[i].val=v:=(congrArg Prod.snd (Option.some.inj e1)).symm
 simp only [show ¬ ((i:Int)<0) from by omega,if_false,Int.toNat_natCast,Array.getElem?_eq_getElem hlt']
 refine wpAny_bind ?_
 first | refine wpAny_bind (wpAny_typeNameOfWhole_itemiter hT (wpAny_pure ?_)) | refine wpAny_bind (wpAny_typeNameOf_itemiter hT (wpAny_pure ?_))
 refine wpAny_bind (wpAny_isOneOf_itemiter hT ?_)
 show wpAny _ _ (setField (.ref it) 3 (rawInt ((i:Int)+1)) >>= _) _ _ ⟨hp,g,dr,tk,os⟩
 refine wpAny_bind (wpAny_setField_rec hit (by simp) fun h₁ he₁ hs₁=>?_)
 replace hs₁:Heap.SameBut it hp h₁:=hs₁
 replace he₁:IsItemIter h₁ it d (i+1) kvs.length ep ok ov:= by
  have e:((i+1:Nat):Int)=(i:Int)+1:=by omega
  unfold IsItemIter;rw[e];simpa [rawInt] using he₁
 have hT₁ : Shared.TypeIs ⟨h₁,g,dr,tk,os⟩ (.ref it) "dict_itemiterator":=⟨_,he₁,rfl⟩
 refine wpAny_bind (wpAny_holding ?_)
 refine wpAny_bind (wpAny_isOneOf_itemiter hT₁ ?_)
 refine wpAny_bind (wpAny_isOneOf_itemiter hT₁ ?_)
 show wpAny _ _ (Builtin.Dict_items.pairFromOwner (.ref it) 6 es[i].key es[i].val) _ _ ⟨h₁,g,dr,tk,os⟩
 unfold Builtin.Dict_items.pairFromOwner
 refine wpAny_bind (wpAny_newTuple ?_)
 have he₂ : IsItemIter (h₁.push { cls:=.type "tuple",data:=.seq #[es[i].key,es[i].val] }) it d (i + 1) kvs.length ep ok ov:=Heap.get?_push_of_some _ he₁
 generalize hh₂ : h₁.push { cls:=.type "tuple",data:=.seq #[es[i].key,es[i].val] } = h₂ at he₂
 have hz₁:h₁.objs.size=hp.objs.size:=hs₁.1
 have hil:it<hp.objs.size:=Heap.lt_size hit
 have ht₂ : h₂.get? hp.objs.size = some { cls:=.type "tuple",data:=.seq #[es[i].key,es[i].val] }:=by rw[<- hh₂,<- hz₁]; exact Heap.get?_push_size _ rfl
 have hz₂:h₂.objs.size=hp.objs.size+1:=by rw[<- hh₂,Heap.size_push,hz₁]
 have hk₂ : ∀ b o,b≠it->hp.get? b=some o->h₂.get? b=some o:=fun b o hb e=>by rw[<- hh₂];exact Heap.get?_push_of_some _ (hs₁.extBut b o hb e)
 show wpAny _ _ (Builtin.Dict_items.ownedTupleIsFree (.ref it) >>= _) _ _ ⟨h₂,g,dr,tk,os⟩
 rw[hz₁]
 clear hh₂ he₁ hs₁ hT₁ hz₁ h₁
 refine wpAny_bind ?_
 unfold Builtin.Dict_items.ownedTupleIsFree
 refine wpAny_bind (wpAny_field he₂ rfl (x:=.none) rfl (wpAny_pure ?_))
 simp only [if_true]
 refine wpAny_bind (wpAny_field he₂ rfl (x:=ok) rfl ?_)
 refine wpAny_bind (wpAny_field he₂ rfl (x:=ov) rfl ?_)
 refine wpAny_bind (wpAny_setField_rec he₂ (by simp) fun h₃ he₃ hs₃=>?_)
 replace hs₃:Heap.SameBut it h₂ h₃:=hs₃
 replace he₃:IsItemIter h₃ it d (i+1) kvs.length ep es[i].key ov:=he₃
 refine wpAny_bind (wpAny_setField_rec he₃ (by simp) fun h₄ he₄ hs₄=>?_)
 replace hs₄:Heap.SameBut it h₃ h₄:=hs₄
 replace he₄:IsItemIter h₄ it d (i+1) kvs.length ep es[i].key es[i].val:=he₄
 refine wpAny_bind (wpAny_setField_rec he₄ (by simp) fun h₅ he₅ hs₅=>?_)
 replace hs₅:Heap.SameBut it h₄ h₅:=hs₅
 replace he₅:IsItemIterOut h₅ it d (i+1) kvs.length ep es[i].key es[i].val hp.objs.size:=he₅
 refine wpAny_bind (wpAny_setField_rec he₅ (by simp) fun h₆ he₆ hs₆=>?_)
 replace hs₆:Heap.SameBut it h₅ h₆:=hs₆
 replace he₆:IsItemIterOut h₆ it d (i+1) kvs.length ep es[i].key es[i].val hp.objs.size:=he₆
 refine wpAny_bind (wpAny_letGo (wpAny_pure (wpAny_pure ⟨_,rfl,wpAny_pure (hQ es[i].key h₆ hkey (hval ▸ he₆) ?_ ?_ ?_)⟩)))
 ·rw[<- hval];exact hs₆.extBut _ _ (Nat.ne_of_gt hil) (hs₅.extBut _ _ (Nat.ne_of_gt hil) (hs₄.extBut _ _ (Nat.ne_of_gt hil) (hs₃.extBut _ _ (Nat.ne_of_gt hil) ht₂)))
 ·show h₆.objs.size=hp.objs.size+1
  rw[hs₆.1,hs₅.1,hs₄.1,hs₃.1,hz₂]
 ·exact fun b o hb e=>hs₆.extBut b o hb (hs₅.extBut b o hb (hs₄.extBut b o hb (hs₃.extBut b o hb (hk₂ b o hb e))))
theorem wpAny_pyNext_itemsE_end {it d:Addr} {i ep:Nat} {kvs:List (Value × Value)} {ok ov:Value} {Q:Option Value->Shared->Prop} (hh:A.handled=none) (hit:IsItemIter s.heap it d i kvs.length ep ok ov)
  (hm:s.heap.DictE d kvs ep) (hx:kvs[i]?=none)
  (hQ : ∀ h',Heap.ExtBut it s.heap h'->Q none { s with heap:=h' }):wpAny (model prog w) A (pyNext (.ref it)) Q E s:= by
 obtain ⟨od,es,hod,hcd,hdd,hpr⟩:=id hm
 have hT : s.TypeIs (.ref it) "dict_itemiterator":=⟨_,hit,rfl⟩
 unfold pyNext
 refine wpAny_bind (wpAny_attempt (wpAny_callSpecial?_slot (name:=Str.ofString "__next__") hT F.slot_dict_itemiterator_next
  (wpAny_call_entry F.slot_dict_itemiterator_next hT F.entry_dict_itemiterator_next ?_ (F.args_dict_itemiterator_next_1 _))))
 refine wpAny_bind (wpAny_pure ?_)
 refine wpAny_bind ?_
 refine wpAny_bind ?_
 first | refine wpAny_bind (wpAny_typeNameOfWhole_itemiter hT (wpAny_pure ?_)) | refine wpAny_bind (wpAny_typeNameOf_itemiter hT (wpAny_pure ?_))
 refine wpAny_bind (wpAny_fieldsOf hit rfl ?_)
 have hown : Builtin.Dict_items.ownsTuple "dict_itemiterator" = true:=by decide
 simp only [hown,if_true]
 show wpAny _ _ (if (Value.ref d==Value.none)=true then _ else _) _ _ s
 rw[if_neg (show ¬ ((Value.ref d==Value.none)=true) from Bool.false_ne_true)]
 refine wpAny_bind (wpAny_pure ?_)
 refine wpAny_bind (wpAny_dictEntries hod hdd ?_)
 have hsz:es.size=kvs.length:=by rw[<- hpr];simp
 rw[if_neg (by rw[hsz];simp)]
 refine wpAny_bind (wpAny_pure ?_)
 refine wpAny_bind (wpAny_dictEpoch hod hdd ?_)
 rw[if_neg (by simp)]
 refine wpAny_pure ?_
 have hge:es.size<=i:=by rw[hsz];simpa using hx
 simp only [show ¬ ((i:Int)<0) from by omega,if_false,Int.toNat_natCast,Array.getElem?_eq_none hge]
 refine wpAny_bind ?_
 first | refine wpAny_bind (wpAny_typeNameOfWhole_itemiter hT (wpAny_pure ?_)) | refine wpAny_bind (wpAny_typeNameOf_itemiter hT (wpAny_pure ?_))
 show wpAny _ _ (setField (.ref it) 2 .none >>= _) _ _ s
 refine wpAny_bind (wpAny_setField hit rfl (by simp) ?_)
 show wpAny _ _ (newExc (.type "StopIteration") [] >>= _) _ _ _
 refine wpAny_bind ?_
 simp only [newExc,newTuple]
 refine wpAny_bind (wpAny_newObj_type ?_ (by size_fits))
 refine wpAny_bind (m:=firstArgMember _ _) (wpAny_of_eq (a:=Value.none) (by first | rfl | (simp only [firstArgMember];rfl)) ?_)
 refine wpAny_newObj_type ?_ (by size_fits)
 simp only [raiseNew]
 refine wpAny_bind (wpAny_handled ?_)
 rw[show A.in1.handled=none from hh]
 refine wpAny_bind (wpAny_pure (wpAny_throw ?_))
 refine wpAny_bind (wpAny_isInstance (T:="StopIteration") (b:=true) ⟨_,Heap.get?_push_size _ rfl,rfl⟩ isSubtype_stop ?_)
 exact wpAny_pure (hQ _ (((Heap.SameBut.update ..).extBut.push _).push _))
end
end PySem
namespace L2
open PySem PySem.Spec PyProof.Rows
section
variable {X:Cx} {K:PySem.W.Frag}
theorem Inv.freeze {pins:List (Addr × Obj)} {σ:St} {H:Hp} {s:Shared} {d:Addr} {kvs:List (List Key × V)} {o:Obj} (I:Inv X pins σ H s) (h:H d=some (.dT kvs)) (ho:s.heap.get? d=some o):Inv X pins σ (upd H d (.frz o (.dT kvs))) s:= by
 have nt : ∀ {b:Addr} {u:HO},H b=some u->(∀ kvs,u ≠ .dT kvs)->b≠d:=fun {b u} e n z=>by rw[z,h] at e;cases e;exact n _ rfl
 refine I.step (h':=s.heap) (g':=s.gens) (t':=s.toks) (d':=s.drawn) (ch:=[]) (fun b hb=>absurd hb (by simp)) (fun b o _ _ _ e _=>e) (fun b o _ _ _ e _=>⟨o.slots,e⟩) (fun b o _ e n=>?_) (fun b o _ e=>⟨o,e⟩)
  (fun b xs e=>by rw[upd_ne (nt e fun _ z=>by cases z)];exact e) (fun b o u e=>by rw[upd_ne (nt e fun _ z=>by cases z)];exact e) (fun b ps e=>⟨#[],by rw[upd_ne (nt e fun _ z=>by cases z),e];simp⟩) (fun m hm=>hm) ?_ I.bare
 ·have:b≠d:=fun z=>by rw[z,h] at n;cases n
  rw[upd_ne this];exact n
 ·intro b u e
  by_cases hb:b=d
  ·subst hb
   rw[upd_same] at e;cases e
   refine ⟨ho,(I.hok b _ h).stay (fun c v _ q=>q) (fun c q=>?_) fun c xs q=>?_⟩
   ·rw[upd_ne (nt q fun _ z=>by cases z)];exact q
   ·rw[upd_ne (nt q fun _ z=>by cases z)];exact q
  ·rw[upd_ne hb] at e
   refine (I.hok b u e).stay (fun c v _ q=>q) (fun c q=>?_) fun c xs q=>?_
   ·rw[upd_ne (nt q fun _ z=>by cases z)];exact q
   ·rw[upd_ne (nt q fun _ z=>by cases z)];exact q
theorem Inv.dictF {pins:List (Addr × Obj)} {σ:St} {H:Hp} {s:Shared} {d:Addr} {kvs:List (List Key × V)} {o:Obj} (I:Inv X pins σ H s) (h:H d=some (.frz o (.dT kvs))) :
  s.heap.get? d=some o/\kvs.length<=sizeLine/\(d==sysModules)=false /\ ∃ (ps:List Addr) (vs:List Value) (es:Array DictEntry) (ep:Nat),o.data = .dict es ep/\Paired (fun (p:List Key × V) a=>H a=some (.tup (p.1.map kV))) kvs ps/\s.heap.DictE d ((ps.map Value.ref).zip vs) ep/\Vals (kvs.map (·.2)) vs:= by
 obtain ⟨ho,z,lo,xs,r,o1,es,ep,h1,h2,h3,h4,hnd⟩:=(show s.heap.get? d=some o/\ObjOk X.prog X.w H s.heap d (.dT kvs) from I.hok d _ h)
 have eo:o1=o:=by rw[ho] at h1;cases h1;rfl
 subst eo
 refine ⟨ho,z,lo,xs.map (·.2.1),xs.map (·.2.2),es,ep,h3,?_,⟨o1,es,h1,h2,h3,?_⟩,?_⟩
 ·clear h h4 z hnd
  induction r with
  | nil=>exact .nil
  | cons q _ ih=>exact .cons q.2.1 ih
 ·rw[h4,List.map_map]
  clear h h4 z r hnd
  induction xs with
  | nil=>rfl
  | cons x xs ih=>rw[List.map_cons,ih];rfl
 ·clear h h4 z hnd
  induction r with
  | nil=>exact .nil
  | cons q _ ih=>exact .cons q.2.2 ih
theorem entry_dict_itemiterator_iter : entryFor table "dict_itemiterator.__iter__" = some Builtin.«dict_keyiterator.__iter__»:=
 entryFor_alias (id':="dict_keyiterator.__iter__") (by kernel_rfl) rfl (by decide +kernel) (by kernel_rfl)
theorem wpAny_pyIter_itemiter {prog:Program} {w:World} {A:Around} {E:Value->Shared->Prop} {s:Shared} {it d:Addr} {i n ep:Nat} {ok ov:Value} {Q:Value->Shared->Prop} (hit:IsItemIter s.heap it d i n ep ok ov) (h:Q (.ref it) s):wpAny (model prog w) A (pyIter (.ref it)) Q E s:= by
 have hT : s.TypeIs (.ref it) "dict_itemiterator":=⟨_,hit,rfl⟩
 refine wpAny_pyIter_slot hT F.slot_dict_itemiterator_iter (wpAny_call_entry F.slot_dict_itemiterator_iter hT entry_dict_itemiterator_iter ?_ (F.args_dict_itemiterator_iter_1 _))
 show wpAny _ _ (ret (.ref it)) _ _ s
 exact wpAny_pure ⟨_,rfl,"dict_itemiterator",_,hT,F.slot_dict_itemiterator_next.lookup,h⟩
def IiT (o:Obj) (d:Addr):It:=
  ⟨fun i H=>∃ kvs kv,H d=some (.frz o (.dT kvs))/\kvs[i]?=some kv,
   fun i H x H'=>∃ T b k v,H T=none/\x = .ref T/\H'=upd H T (.tup [.ref b,v])/\H b=some (.tup (k.map kV)) /\ ∀ kvs,H d=some (.frz o (.dT kvs))->kvs[i]?=some (k,v),
   fun i H=>∃ kvs,H d=some (.frz o (.dT kvs))/\kvs.length<=i⟩
theorem turn_itemsT {P:Program} {w:World} {elts:List Expr} {kk:Nat} {ps:Pos} {es:Array DictEntry} (o:Obj) (d it:Addr) (n ep:Nat) (hod:o.data = .dict es ep) (hn:es.size=n):Turn P w K (.Tuple elts kk ps) (IiT o d) [it] it (fun i h=>∃ ok ov,IsItemIter h it d i n ep ok ov) where
 mem:=by simp
 obj:=fun i h ⟨ok,ov,st⟩ b hb=>by
  have:b=it:=by simpa using hb
  subst this
  exact ⟨_,st,fun v z=>by cases z⟩
 keep:=fun i h h' ⟨ok,ov,st⟩ k=>⟨ok,ov,k it (by simp) _ st⟩
 item:= by
  intro X hP hw hK hc i pins s σ H E I hf ⟨ok,ov,st⟩ hg
  subst hP hw
  obtain ⟨kvs,⟨k,v⟩,hd,hx⟩:=hg
  obtain ⟨ho,hz,lo,qs,vs,es',ep',hod',hq,hm,hv⟩:=I.dictF hd
  rw[hod] at hod'
  injection hod' with e1 e2
  subst e1 e2
  obtain ⟨b,hb,hbi⟩:=paired_getM hq hx
  obtain ⟨u,hu,ru⟩:=hv.get (show (kvs.map (·.2))[i]?=some v by rw[List.getElem?_map,hx];rfl)
  have hz':((qs.map Value.ref).zip vs)[i]?=some (Value.ref b,u):=by rw[List.getElem?_zip_eq_some];exact ⟨by rw[List.getElem?_map,hbi];rfl,hu⟩
  have hlen:((qs.map Value.ref).zip vs).length=n:= by
   obtain ⟨o1,es1,h1,_,h3,h4⟩:=hm
   rw[ho] at h1;cases h1
   rw[hod] at h3;injection h3 with e3 _
   subst e3
   rw[<- h4,List.length_map,Array.length_toList,hn]
  rw[<- hlen] at st
  refine wpAny_pyNext_itemsE_item st hm hz' fun key h' ek out ht hs kp=>?_
  subst ek
  have hTn:H s.heap.objs.size=none:=I.hok.fresh (Nat.le_refl _)
  have hit:it<s.heap.objs.size:=Heap.lt_size st
  have I1:Inv X pins σ (upd H s.heap.objs.size (.tup [.ref b,v])) { s with heap:=h',toks:=s.toks }:=
   I.turnNew (its:=[.ref b,u]) (wr:=[it]) (fun c oc hc e=>kp c oc (by simpa using hc) e) hf (Nat.le_refl _) (by simp [le_line]) (.cons rfl (.cons ru .nil)) ⟨_,ht,rfl,0,rfl⟩
  refine ⟨_,rfl,wpAny_letOwnedTupleGo_items (d:=d) out fun h'' it'' sb=>?_⟩
  have hne : ∀ c ∈ [it],upd H s.heap.objs.size (.tup [.ref b,v]) c=none:=fun c hc=>by
   have hcT:c=it:=by simpa using hc
   rw[upd_ne (by rw[hcT];exact Nat.ne_of_lt hit)];exact (hf c hc).1
  rw[hlen] at it''
  refine ⟨.ref s.heap.objs.size,_,I1.turnL (t':=s.toks) (wr:=[it]) (fun c oc hc e=>(sb.2 c (by simpa using hc)).trans e) (fun c hc=>⟨hne c hc,(hf c hc).2⟩),rfl,⟨s.heap.objs.size,b,k,v,hTn,rfl,rfl,hb,fun kvs' h'=>?_⟩,⟨_,_,it''⟩,hne⟩
  rw[hd] at h';cases h';exact hx
 done:= by
  intro X hP hw hK hc i pins s σ H E I hf ⟨ok,ov,st⟩ hg
  subst hP hw
  obtain ⟨kvs,hd,hx⟩:=hg
  obtain ⟨ho,hz,lo,qs,vs,es',ep',hod',hq,hm,hv⟩:=I.dictF hd
  rw[hod] at hod'
  injection hod' with e1 e2
  subst e1 e2
  have hlen:((qs.map Value.ref).zip vs).length=n:= by
   obtain ⟨o1,es1,h1,_,h3,h4⟩:=hm
   rw[ho] at h1;cases h1
   rw[hod] at h3;injection h3 with e3 _
   subst e3
   rw[<- h4,List.length_map,Array.length_toList,hn]
  have hle:((qs.map Value.ref).zip vs).length<=i:= by
   rw[List.length_zip,List.length_map,<- hq.length]
   omega
  rw[<- hlen] at st
  refine wpAny_pyNext_itemsE_end (I.ok.hd hc) st hm (List.getElem?_eq_none hle) fun h' he=>⟨rfl,?_⟩
  exact I.turnL (t':=s.toks) (wr:=[it]) (fun c oc hc q=>he c oc (by simpa using hc) q) hf
 self:=fun _ _ _ _ _ ⟨_,_,st⟩ h=>wpAny_pyIter_itemiter st h
def iItemsT (te:TE):TI:=fun σ H R=>te σ H fun x H1=>∃ d kvs,x = .ref d/\H1 d=some (.dT kvs) /\ ∀ o,R (IiT o d) (upd H1 d (.frz o (.dT kvs)))
theorem pi_itemsT {elts : List Expr} {kk : Nat} {ps apos pos : Pos} {e : Expr} {te : TE} (he : PE X e te) (hbase : attributeBase e "items" X.env (eval e X.env) = eval e X.env:=by rfl) (hline : (apos.endLine == pos.line) = true:=by rfl) :
  PI X (.Tuple elts kk ps) (.Call (.Attribute e "items" apos) [] [] pos) (iItemsT te):= by
 intro pins s σ H R I h
 refine wpAny_Call_method (T:="dict") (id:="dict.items") hbase rfl hline F.plainAttrs_dict F.slot_dict_items F.type_dict_items (thn (he pins s σ H _ I h) fun v s1 ⟨x1,H1,I1,r1,q1⟩=>?_)
 obtain ⟨d,kvs,rfl,hd,hR⟩:=q1
 cases r1
 obtain ⟨hz,lo,qs,vs,ep,hq,hm,hv⟩:=I1.dictT hd
 obtain ⟨o,es,h1,h2,h3,h4⟩:=id hm
 refine ⟨hm.typeIs,?_,?_⟩
 ·intro b e
  cases e
  exact ⟨o,h1,h2.2.1⟩
 show wpAny _ _ (callWith pos (.builtin "dict.items") [.ref d] [] []) _ _ s1
 refine method_meetsIn F.slot_dict_items F.entry_dict_items rfl (PySem.evalArgs_none ⟨rfl,hm.typeIs,F.args_dict_items_1 _,_,meets_dict_itemsE d lo,⟨_,ep,hm⟩,?_⟩)
 show wpAny _ _ (pyIter (.ref s1.heap.objs.size)) _ _ _
 have hn:es.size=((qs.map Value.ref).zip vs).length:=by rw[<- h4,List.length_map,Array.length_toList]
 refine wpAny_pyIter_itemsE (d:=d) ⟨_,Heap.get?_push_size _ rfl,rfl,rfl⟩ (hm.push _) ?_
 have I2:=I1.freeze hd h1
 have I3 : Inv X pins σ (upd H1 d (.frz o (.dT kvs))) { s1 with heap:=(s1.heap.push { cls:=.type "dict_items",data:=.fields #[.ref d] }).push { cls:=.type "dict_itemiterator",data:=.fields #[.none,.bool false,.ref d,.int 0 0,.int ((qs.map Value.ref).zip vs).length 0,.int ep 0,.none,.none] },toks:=s1.toks }:=
  I2.kept fun b ob e=>Heap.get?_push_of_some _ (Heap.get?_push_of_some _ e)
 have hsz : (s1.heap.push { cls:=.type "dict_items",data:=.fields #[.ref d] }).objs.size = s1.heap.objs.size + 1:=Heap.size_push ..
 refine ⟨_,[_],_,_,_,rfl,I3,turn_itemsT o d _ ((qs.map Value.ref).zip vs).length ep h3 hn,⟨.none,.none,Heap.get?_push_size _ rfl⟩,fun b hb=>?_,hR o⟩
 have hge:s1.heap.objs.size<=b:= by
  rw[List.mem_singleton.mp hb]
  show _<=(s1.heap.push _).objs.size
  rw[hsz];exact Nat.le_succ _
 exact I2.fpOk hge (I2.hok.fresh hge)
end
end L2
namespace PySem
open Sem (wp)
theorem filter_one {α β:Type} [BEq β] [LawfulBEq β] (f:α->β) : ∀ (l:List α) (b:β),(l.map f).Nodup->(l.filter fun x=>f x==b).length<=1
 | [],_,_=>by simp
 | a::l,b,h=>by
  rw[List.map_cons,List.nodup_cons] at h
  rw[List.filter_cons]
  split
  ·rename_i e
   have e:f a=b:=eq_of_beq e
   have:(l.filter fun x=>f x==b)=[]:= by
    rw[List.filter_eq_nil_iff]
    intro x hx q
    have q:=eq_of_beq q
    exact h.1 (by rw[e,<- q];exact List.mem_map.mpr ⟨x,hx,rfl⟩)
   rw[this];simp
  ·exact filter_one f l b h.2
section
variable {prog:Program} {w:World} {A:Around} {E:Value->Shared->Prop} {s:Shared}
theorem wpAny_quietEq_tup {b : Addr} {Q : Bool -> Shared -> Prop} (hT : s.TypeIs (.ref b) "tuple") (h : Q false s) : wpAny (model prog w) A (Builtin.Dict.quietEq (.ref b)) Q E s:= by
 unfold Builtin.Dict.quietEq
 refine wpAny_bind (wpAny_specialOf hT F.slot_tuple_eq.lookup (wpAny_pure ?_))
 exact h
theorem wpAny_entriesForEmptyT {id:String} {d:Addr} {o:Obj} {es ep} {Q:Array DictEntry->Shared->Prop} (ho:s.heap.get? d=some o) (hd:o.data = .dict es ep)
  (hk : ∀ e ∈ es.toList,∃ b,e.key = .ref b /\ s.TypeIs (.ref b) "tuple") (hn : (es.toList.map (·.hash)).Nodup) (h : Q es s) : wpAny (model prog w) A (Builtin.Dict.entriesForEmpty id d) Q E s:= by
 unfold Builtin.Dict.entriesForEmpty
 refine wpAny_bind (wpAny_dictEntries ho hd ?_)
 refine wpAny_bind ?_
 rw[<- Array.forIn_toList]
 refine wpAny_forIn_list _ (fun rest _ s'=>s'=s /\ ∀ e ∈ rest,e ∈ es.toList) _ ?_ ?_ _ _ ⟨rfl,fun e he=>he⟩
 ·rintro x rest b s' ⟨rfl,hin⟩
  obtain ⟨a,ek,hT⟩:=hk x (hin x List.mem_cons_self)
  have ex : ∀ {P:Shared->Prop},P s'->P s':=fun h=>h
  rw[ek]
  refine wpAny_bind (wpAny_quietEq_tup hT ?_)
  rw[if_pos (by rfl)]
  have hf : ¬ ((es.filter (fun y=>y.hash==x.hash)).size > 1):= by
   have:=filter_one (fun e:DictEntry=>e.hash) es.toList x.hash hn
   rw[<- Array.length_toList,Array.toList_filter]
   omega
  rw[if_neg hf]
  exact wpAny_pure ⟨rfl,fun e he=>hin e (List.mem_cons_of_mem _ he)⟩
 ·rintro b s' ⟨rfl,_⟩
  exact wpAny_pure h
theorem wpAny_mergeDictT {nm:String} {d o:Addr} {od oo:Obj} {eso:Array DictEntry} {epd epo:Nat} {Q:Unit->Shared->Prop} (hdo:d≠o) (hoS:(o==sysModules)=false)
  (hod:s.heap.get? d=some od) (hdd:od.data = .dict #[] epd) (hoo:s.heap.get? o=some oo) (hdo':oo.data = .dict eso epo) (hne:eso ≠ #[])
  (hk : ∀ e ∈ eso.toList,∃ b,e.key = .ref b /\ s.TypeIs (.ref b) "tuple") (hn : (eso.toList.map (·.hash)).Nodup) (hz : eso.size <= sizeLine)
  (hQ : ∀ h',h'.get? d=some (od.mapDictKeys fun _=>eso)->Heap.SameBut d s.heap h'->Q () { s with heap:=h' }) :
  wpAny (model prog w) A (Builtin.Dict.mergeDict nm d o) Q E s:= by
 unfold Builtin.Dict.mergeDict
 rw[if_neg (by simpa using hdo)]
 unfold Builtin.Dict.showsAll
 rw[if_neg (by rw[hoS];exact Bool.false_ne_true)]
 refine wpAny_bind (wpAny_pure ?_)
 refine wpAny_bind (wpAny_dictEntries hoo hdo' ?_)
 have hfew:(decide (eso.size<=8)&&eso.all fun e=>(keyPart e.key).isSome)=false:= by
  have:(eso.all fun e=>(keyPart e.key).isSome)=false:= by
   rw[<- Array.all_toList]
   cases e:eso.toList with
   | nil=>exact absurd (by rw[<- Array.toList_inj,e]) hne
   | cons x t=>
    obtain ⟨b,ek,_⟩:=hk x (by rw[e];exact List.mem_cons_self)
    rw[List.all_cons,ek];rfl
  rw[this,Bool.and_false]
 dsimp only
 rw[hfew,if_pos (by rfl)]
 refine wpAny_bind (wpAny_dictEntries hod hdd ?_)
 rw[if_pos (by rfl)]
 refine wpAny_bind (wpAny_entriesForEmptyT hoo hdo' hk hn ?_)
 have hemp:(!eso.isEmpty)=true:= by
  cases e:eso.isEmpty with
  | false=>rfl
  | true=>exact absurd (Array.isEmpty_iff.mp e) hne
 rw[if_pos hemp]
 exact wpAny_bind (wpAny_updateDictKeysTo hod hdd (wpAny_pure (hQ _ (Heap.get?_update_self _ hod (Obj.isFreed_of_dict (Obj.data_mapDictKeys hdd _))) (Heap.SameBut.update ..))) (by omega))
theorem call_dictE {o:Addr} {oo:Obj} {eso:Array DictEntry} {epo:Nat} {Q:Value->Shared->Prop} (hoS:(o==sysModules)=false) (hoo:s.heap.get? o=some oo) (hoc:oo.ExactDict) (hdo':oo.data = .dict eso epo) (hne:eso ≠ #[])
  (hk : ∀ e ∈ eso.toList,∃ b,e.key = .ref b /\ s.TypeIs (.ref b) "tuple") (hn : (eso.toList.map (·.hash)).Nodup) (hz : eso.size <= sizeLine)
  (h : ∀ h' od,h'.get? s.heap.objs.size = some od -> od.ExactDict -> (∃ ep,od.data = .dict eso ep) -> Heap.SameBut s.heap.objs.size (s.heap.push { cls:=.type "dict",data:=.dict #[] }) h' -> Q (.ref s.heap.objs.size) { s with heap:=h' }) :
  wpAny (model prog w) A (call (.type "dict") [.ref o]) Q E s:= by
 refine callType_codes (Q₁:=fun obj s₁=>obj = .ref s.heap.objs.size /\ s₁ = { s with heap:=s.heap.push { cls:=.type "dict",data:=.dict #[] } }) F.kt_called_dict (F.kt_typeCall_dict_1 _) F.entry_dict_init (kt_code_dict_new _ ⟨rfl,rfl⟩) ?_
 rintro obj s₁ ⟨rfl,rfl⟩
 have hnew : (s.heap.push { cls:=.type "dict",data:=.dict #[] }).get? s.heap.objs.size = some { cls:=.type "dict",data:=.dict #[] }:=Heap.get?_push_size _ rfl
 have hT1 : (⟨s.heap.push { cls:=.type "dict",data:=.dict #[] },s.gens,s.drawn,s.toks,s.os⟩ : Shared).TypeIs (.ref s.heap.objs.size) "dict":=⟨_,hnew,rfl⟩
 have hoo':=Heap.get?_push_of_some { cls:=.type "dict",data:=.dict #[] } hoo
 have hT2 : (⟨s.heap.push { cls:=.type "dict",data:=.dict #[] },s.gens,s.drawn,s.toks,s.os⟩ : Shared).TypeIs (.ref o) "dict":=⟨_,hoo',hoc.1⟩
 have hdo:s.heap.objs.size≠o:=fun e=>absurd (Heap.lt_size hoo) (by rw[e];exact Nat.lt_irrefl _)
 refine ⟨hT1,F.args_dict_init_2 _ _,?_⟩
 unfold Builtin.«dict.__init__»
 refine wpAny_bind ?_
 unfold Builtin.Dict.selfAndRest
 refine wpAny_bind (wpAny_notOrdered_dict hT1 ?_)
 show wpAny _ _ (pure (s.heap.objs.size,[Value.ref o])) _ _ _
 refine wpAny_pure ?_
 show wpAny _ _ (Builtin.Dict.updateFrom "dict.__init__" s.heap.objs.size (.ref o) [] .none) _ _ _
 unfold Builtin.Dict.updateFrom
 refine wpAny_bind (wpAny_typeOf hT2 ?_)
 rw[if_neg (by decide)]
 refine wpAny_bind ?_
 unfold Builtin.Dict.merge
 refine wpAny_bind ?_
 unfold Builtin.Dict.readDirectly
 refine wpAny_bind (wpAny_isInstance hT2 isSubtype_dict_dict ?_)
 simp only [Bool.not_true,Bool.false_eq_true,if_false]
 refine wpAny_bind (wpAny_specialOf hT2 F.slot_dict_iter.lookup (wpAny_pure ?_))
 simp only [beq_self_eq_true,if_true]
 refine wpAny_bind (wpAny_pure ?_)
 refine wpAny_mergeDictT hdo hoS hnew rfl hoo' hdo' hne (fun e he=>?_) hn hz fun h' hd' hs'=>?_
 ·obtain ⟨b,ek,ob,hb,hc⟩:=hk e he
  exact ⟨b,ek,ob,Heap.get?_push_of_some _ hb,hc⟩
 show wpAny _ _ (Builtin.Dict.addKeywords s.heap.objs.size [] >>= _) _ _ _
 refine wpAny_bind (wpAny_pure (wpAny_pure ⟨rfl,h h' _ hd' ⟨rfl,rfl,rfl⟩ ⟨_,Obj.data_mapDictKeys rfl _⟩ hs'⟩))
end
end PySem
namespace L2
open PySem PySem.Spec PyProof.Rows
section
variable {X:Cx} {K:PySem.W.Frag}
abbrev hT (P:Program) (w:World) (k:List Key):Int:=(tupleKind (mixKind P w)).hash k
theorem call_dictT : CallR X (.type "dict") (fun xs H Q=>∃ (d : Addr) (kvs : List (List Key × V)),xs = [.ref d] /\ H d = some (.dT kvs) /\ kvs ≠ [] /\ (kvs.map fun kv=>hT X.prog X.w kv.1).Nodup /\ ∀ p,H p = none -> Q (.ref p) (upd H p (.dT kvs))):= by
 intro pins s σ H xs us Q I r h
 obtain ⟨d,kvs,rfl,hd,hne,hnd,q⟩:=h
 obtain ⟨u,rfl,ru⟩:=vals1 r
 cases (show u=Value.ref d from ru)
 obtain ⟨z,lo,xs,rel,o,es,ep,h1,h2,h3,h4,h5⟩:=(show ObjOk X.prog X.w H s.heap d (.dT kvs) from I.hok d _ hd)
 have hl:kvs.length=xs.length:=Paired.length rel
 have hes:es.size=xs.length:=by rw[<- Array.length_toList,h4,List.length_map]
 have hk:xs.map (·.1)=kvs.map (·.1):= by
  clear hd hne hnd z h4 h5 hl hes q
  induction rel with
  | nil=>rfl
  | cons a _ ih=>rw[List.map_cons,List.map_cons,ih,a.1]
 refine call_dictE lo h1 h2 h3 (fun e=>hne ?_) (fun e he=>?_) ?_ (by omega) fun h' od hod hc hdat hs=>?_
 ·rw[e] at hes
  exact List.length_eq_zero_iff.mp (by rw[hl,<- hes];rfl)
 ·rw[h4] at he
  obtain ⟨x,hx,rfl⟩:=List.mem_map.mp he
  have all : ∀ {l:List (List Key × V)} {m:List (List Key × Addr × Value)},KT H l m -> ∀ x ∈ m,∃ ys,H x.2.1=some (.tup ys):= by
   intro l m q
   induction q with
   | nil=>intro x hx;exact nomatch hx
   | @cons p q ps qs hq t ih=>
    intro x hx
    rcases List.mem_cons.mp hx with e | hx
    ·subst e;exact ⟨_,hq.2.1⟩
    ·exact ih x hx
  obtain ⟨ys,hy⟩:=all rel x hx
  obtain ⟨_,its,rv,ob,e1,e2,_⟩:=(show ObjOk X.prog X.w H s.heap x.2.1 (.tup ys) from I.hok _ _ hy)
  exact ⟨x.2.1,rfl,ob,e1,e2⟩
 ·rw[h4,List.map_map]
  have:xs.map ((fun e:DictEntry=>e.hash)∘entryOfKey (tupleKind (mixKind X.prog X.w)))=kvs.map fun kv=>hT X.prog X.w kv.1:= by
   have e1:xs.map ((fun e:DictEntry=>e.hash)∘entryOfKey (tupleKind (mixKind X.prog X.w)))=(xs.map (·.1)).map (hT X.prog X.w):=by rw[List.map_map];rfl
   rw[e1,hk,List.map_map];rfl
  rw[this];exact hnd
 ·obtain ⟨ep',hdat⟩:=hdat
  have hn:=I.hok.fresh (Nat.le_refl s.heap.objs.size)
  refine ⟨.ref s.heap.objs.size,_,I.laid (a:=s.heap.objs.size) (o:=.dT kvs) (t':=s.toks) (fun b q hq=>(hs.2 b (Nat.ne_of_lt (Heap.lt_size hq))).trans (Heap.get?_push_of_some _ hq)) (Nat.le_refl _) ?_,rfl,q _ hn⟩
  exact ⟨z,beq_eq_false_iff_ne.mpr (Ne.symm (Nat.ne_of_lt I.big)),xs,KT.keeps rel (fun b ys e=>by rw[upd_ne (ne_of_none e hn)];exact e),od,es,ep',hod,hc,hdat,h4,h5⟩
def tDisp1 (tk tv:TE):TE:=fun σ H Q=>∀ p,H p=none->tk σ (upd H p (.dT [])) fun x H1=>tv σ H1 fun y H2=>H2 p=some (.dT []) /\ ∃ b ks,x = .ref b/\H2 b=some (.tup (ks.map kV))/\Q (.ref p) (upd H2 p (.dT [(ks,y)]))
theorem pe_disp1 {k v:Expr} {tk tv:TE} {pos:Pos} (hu:X.A.units+1<cLine) (hk:PE X k tk) (hv:PE X v tv):PE X (.Dict [some k] [v] pos) (tDisp1 tk tv):= by
 intro pins s σ H Q I q
 have hn:=I.hok.fresh (Nat.le_refl s.heap.objs.size)
 have I1:=I.laid (a:=s.heap.objs.size) (o:=.dT []) (h':=s.heap.push { cls:=.type "dict",data:=.dict #[] }) (t':=s.toks) (fun _ _ q=>Heap.get?_push_of_some _ q) (Nat.le_refl _) (dt_empty s.heap I.big)
 have hP:PPs X pos [some k] [v] [(tk,tv)]:=pps_cons hk hv pps_nil
 have q1:=q _ hn
 rw[arm_eval_Dict,zip_pairTrees [some k] [v] X.env pos rfl rfl,dictDisplay_pairs _ (by intro e;have:=congrArg List.length e;rw[pairTrees_length [some k] [v] X.env pos rfl rfl] at this;cases this) (by rw[pairTrees_length [some k] [v] X.env pos rfl rfl];show 1<17;decide)]
 refine wpAny_bind (wpAny_standAt (wpAny_bind ?_))
 unfold subDict
 refine wpAny_bind (wpAny_alloc ?_)
 refine wpAny_bind (wpAny_holding ?_)
 rw[if_pos (by rw[pairTrees_length [some k] [v] X.env pos rfl rfl];show 1<=15;decide)]
 refine wpAny_bind (thn (hP pins _ σ _ (fun ps H3=>match ps with | [(x,y)]=>H3 s.heap.objs.size=some (.dT []) /\ ∃ b ks,x = .ref b/\H3 b=some (.tup (ks.map kV))/\Q (.ref s.heap.objs.size) (upd H3 s.heap.objs.size (.dT [(ks,y)])) | _=>False) I1 q1) fun ws s2 ⟨ps,H2,I2,rel,qq⟩=>?_)
 match ps,qq with
 | [],z=>exact z.elim
 | _::_::_,z=>exact z.elim
 | [(x,y)],⟨e2,b,ks,e3,e4,q2⟩=>
  subst e3
  obtain ⟨kw,vw,rfl,rk,rv⟩ : ∃ kw vw,ws=[(kw,vw)]/\RelV (V.ref b) kw/\RelV y vw:= by
   cases rel with
   | cons a t=>cases t;exact ⟨_,_,rfl,a.1,a.2⟩
  cases (show kw=Value.ref b from rk)
  refine wpAny_holding ?_
  obtain ⟨z,hd,xs,rl,dd⟩:=dt_of I2.hok e2
  cases rl
  rw[List.forIn_cons]
  refine wpAny_bind ?_
  refine wpAny_bind (wpAny_bind (wpAny_dictSet_heap (hsz:=Nat.zero_le _) (by show X.A.units<cLine;omega) (key_of I2.hok e4) dd fun h' dd' hs=>?_))
  refine wpAny_pure ?_
  refine wpAny_pure (wpAny_pure (wpAny_pure (wpAny_pure ⟨.ref s.heap.objs.size,_,?_,rfl,q2⟩)))
  obtain ⟨qo,es,ep,hq,h2,h3,h4,_,h5⟩:=dd'
  have r1:KT H2 [(ks,y)] (storedH [] ks b vw):=KT.put (kvs:=[]) .nil ks e4 rv
  refine d_write I2 (by rw[e2];exact True.intro) hs ⟨qo,hq⟩ ⟨by show 1<=sizeLine;decide,hd,_,r1.keeps fun c ys ec=>?_,qo,es,ep,hq,h2,h3,h4,h5⟩
  rw[upd_ne (ne_of ec e2 (fun z=>nomatch z))]
  exact ec
end
end L2
namespace L2
open PySem PySem.Spec PyProof.Rows
def hI (L:List Int):Int:=reduceHash (Builtin.Tuple.tupleHashOf (L.map hashInt))
theorem hT_int (P:Program) (w:World) (L:List Int):hT P w (L.map Sum.inl)=hI L:= by
 show reduceHash (Builtin.Tuple.tupleHashOf ((L.map (Sum.inl:Int->Key)).map (keyH w)))=_
 rw[List.map_map];rfl
def pl:Nat->Nat->Nat->List (List Int)
 | 0,_,_=>[[]]
 | f+1,m,s=>[]::(List.range (s+1-m)).flatMap fun i=>(pl f (m+i) (s-(m+i))).map (((m+i:Nat):Int) :: ·)
theorem pl_hash:((pl 9 1 9).map hI).Nodup:=by decide +kernel
inductive Rise:Int->List Int->Prop
 | nil (m:Int):Rise m []
 | cons {m a:Int} {L:List Int}:m<=a->Rise a L->Rise m (a::L)
theorem Rise.mono {m m':Int} {L:List Int} (h:Rise m L) (hm:m'<=m):Rise m' L:= by
 cases h with
 | nil=>exact .nil _
 | cons a b=>exact .cons (Int.le_trans hm a) b
theorem mem_pl : ∀ (f:Nat) (m s:Nat) (L:List Int),1<=m->Rise (m:Int) L->L.sum<=(s:Int)->L.length<=f->L ∈ pl f m s
 | 0,_,_,L,_,_,_,hl=>by
  have:L=[]:=List.length_eq_zero_iff.mp (by omega)
  rw[this];exact List.mem_singleton.mpr rfl
 | f+1,m,s,[],_,_,_,_=>List.mem_cons_self
 | f+1,m,s,a::L,hm,hr,hs,hl=>by
  cases hr with
  | cons h1 h2=>
   have pos : ∀ {x:Int} {L:List Int},0<=x->Rise x L->0<=L.sum:= by
    intro x L hx h
    induction h with
    | nil=>simp
    | cons a _ ih=>rw[List.sum_cons];have:=ih (by omega);omega
   have p0:=pos (by omega) h2
   rw[List.sum_cons] at hs
   rw[List.length_cons] at hl
   obtain ⟨n,rfl⟩:=Int.eq_ofNat_of_zero_le (show 0<=a by omega)
   refine List.mem_cons_of_mem _ (List.mem_flatMap.mpr ⟨n-m,List.mem_range.mpr (by omega),List.mem_map.mpr ⟨L,?_,?_⟩⟩)
   ·rw[show m+(n-m)=n by omega]
    exact mem_pl f n (s-n) L (by omega) h2 (by omega) (by omega)
   ·rw[show m+(n-m)=n by omega]
def GoodK (L:List Int):Prop:=Rise 1 L/\L.sum<=9
theorem Rise.len {m:Int} {L:List Int} (h:Rise m L) (hm:1<=m):(L.length:Int)<=L.sum:= by
 induction h with
 | nil=>simp
 | cons a _ ih=>
  have:=ih (by omega)
  rw[List.length_cons,List.sum_cons];omega
theorem GoodK.mem {L:List Int} (h:GoodK L):L ∈ pl 9 1 9:= by
 have:=h.1.len (Int.le_refl _)
 have h2:=h.2
 exact mem_pl 9 1 9 L (Nat.le_refl _) h.1 h.2 (by omega)
theorem nodup_on {α β:Type} (f:α->β) : ∀ {l:List α},(l.map f).Nodup -> ∀ {x y:α},x ∈ l->y ∈ l->f x=f y->x=y
 | [],_,_,_,hx,_,_=>by simp at hx
 | a::l,h,x,y,hx,hy,e=>by
  rw[List.map_cons,List.nodup_cons] at h
  rcases List.mem_cons.mp hx with e1 | h1
  ·rcases List.mem_cons.mp hy with e2 | h2
   ·rw[e1,e2]
   ·exact absurd (List.mem_map.mpr ⟨y,h2,by rw[<- e,e1]⟩) h.1
  ·rcases List.mem_cons.mp hy with e2 | h2
   ·exact absurd (List.mem_map.mpr ⟨x,h1,by rw[e,e2]⟩) h.1
   ·exact nodup_on f h.2 h1 h2 e
theorem good_hash : ∀ {l:List (List Int)},l.Nodup->(∀ k ∈ l,GoodK k)->(l.map hI).Nodup
 | [],_,_=>List.nodup_nil
 | a::l,h,hg=>by
  rw[List.nodup_cons] at h
  rw[List.map_cons,List.nodup_cons]
  refine ⟨fun hm=>?_,good_hash h.2 fun k hk=>hg k (List.mem_cons_of_mem _ hk)⟩
  obtain ⟨b,hb,e⟩:=List.mem_map.mp hm
  have:=nodup_on hI pl_hash (hg b (List.mem_cons_of_mem _ hb)).mem (hg a List.mem_cons_self).mem e
  exact h.1 (this ▸ hb)
def dropAt (L:List Int) (i:Nat):List Int:=L.take i++L.drop (i+1)
def pls:List Int->List (Int × List Int)
 | []=>[]
 | a::L=>(a,L)::(pls L).map fun q=>(q.1,a::q.2)
theorem pls_length : ∀ L:List Int,(pls L).length=L.length
 | []=>rfl
 | a::L=>by show ((pls L).map _).length+1=_;rw[List.length_map,pls_length L];rfl
theorem pls_at : ∀ (L:List Int) (i:Nat),i<L.length->(pls L)[i]?=some (L.getD i 0,dropAt L i)
 | [],i,h=>by simp at h
 | a::L,0,_=>rfl
 | a::L,i+1,h=>by
  show ((pls L).map fun q=>(q.1,a::q.2))[i]?=_
  rw[List.getElem?_map,pls_at L i (by simpa using h)];rfl
theorem rise_drop : ∀ {m:Int} {L:List Int} (i:Nat),Rise m L->Rise m (dropAt L i)
 | _,_,_,.nil m=>by unfold dropAt;simp;exact .nil m
 | m,a::L,0,.cons h1 h2=>by show Rise m L;exact h2.mono h1
 | m,a::L,i+1,.cons h1 h2=>.cons h1 (rise_drop i h2)
theorem sum_drop : ∀ {L:List Int} (i:Nat),(∀ x ∈ L,0<=x)->(dropAt L i).sum<=L.sum
 | [],i,_=>by unfold dropAt;simp
 | a::L,0,h=>by
  show L.sum<=(a::L).sum
  rw[List.sum_cons];have:=h a List.mem_cons_self;omega
 | a::L,i+1,h=>by
  show (a::dropAt L i).sum<=(a::L).sum
  rw[List.sum_cons,List.sum_cons];have:=sum_drop i fun x hx=>h x (List.mem_cons_of_mem _ hx);omega
theorem Rise.all {m:Int} {L:List Int} (h:Rise m L) : ∀ x ∈ L,m<=x:= by
 induction h with
 | nil=>intro x hx;simp at hx
 | cons a _ ih=>
  intro x hx
  rcases List.mem_cons.mp hx with rfl | hx
  ·exact a
  ·exact Int.le_trans a (ih x hx)
theorem GoodK.drop {L:List Int} (h:GoodK L) (i:Nat):GoodK (dropAt L i):=
 ⟨rise_drop i h.1,Int.le_trans (sum_drop i fun x hx=>by have:=h.1.all x hx;omega) h.2⟩
def phi:List Int->List Int->Int
 | [],L=>if L=[] then 1 else 0
 | p::ps,L=>phi ps L+((pls L).map fun q=>dn p q.1.toNat*phi ps q.2).sum
theorem pls_perm {F:Int->List Int->Int} (hF : ∀ a r r',r.Perm r'->F a r=F a r') : ∀ {L L':List Int},L.Perm L'->((pls L).map fun q=>F q.1 q.2).sum=((pls L').map fun q=>F q.1 q.2).sum:= by
 intro L L' h
 induction h generalizing F with
 | nil=>rfl
 | cons x h ih=>
  show F x _+(((pls _).map _).map _).sum=F x _+(((pls _).map _).map _).sum
  rw[List.map_map,List.map_map,hF x _ _ h]
  exact congrArg _ (ih (F:=fun a r=>F a (x::r)) fun a r r' h=>hF a _ _ (h.cons x))
 | swap x y L=>
  show F y _+(F x _+((((pls L).map _).map _).map _).sum)=F x _+(F y _+((((pls L).map _).map _).map _).sum)
  rw[List.map_map,List.map_map,List.map_map,List.map_map]
  have:((pls L).map (((fun q:Int × List Int=>F q.1 q.2)∘fun q:Int × List Int=>(q.1,y::q.2))∘fun q:Int × List Int=>(q.1,x::q.2))).sum=((pls L).map (((fun q:Int × List Int=>F q.1 q.2)∘fun q:Int × List Int=>(q.1,x::q.2))∘fun q:Int × List Int=>(q.1,y::q.2))).sum:= by
   refine congrArg List.sum (List.map_congr_left fun q _=>hF q.1 _ _ (List.Perm.swap ..))
  rw[this];dsimp only;omega
 | trans _ _ ih1 ih2=>exact (ih1 hF).trans (ih2 hF)
theorem phi_perm : ∀ (S:List Int) {L L':List Int},L.Perm L'->phi S L=phi S L'
 | [],L,L',h=>by
  unfold phi
  by_cases e:L=[]
  ·subst e;rw[List.nil_perm.mp h]
  ·rw[if_neg e,if_neg fun e'=>e (by rw[e'] at h;exact List.perm_nil.mp h)]
 | p::ps,L,L',h=>by
  unfold phi
  rw[phi_perm ps h,pls_perm (F:=fun a r=>dn p a.toNat*phi ps r) (fun a r r' h=>by rw[phi_perm ps h]) h]
abbrev Tab:=List (List Int × Int)
def addI:Tab->List Int->Int->Tab
 | [],k,x=>[(k,x)]
 | (k',v)::D,k,x=>if k'=k then (k',v+x)::D else (k',v)::addI D k x
def lin (D:Tab) (f:List Int->Int):Int:=(D.map fun kv=>kv.2*f kv.1).sum
theorem lin_add (f:List Int->Int) (k:List Int) (x:Int) : ∀ D:Tab,lin (addI D k x) f=lin D f+x*f k
 | []=>by unfold addI lin;simp
 | (k',v)::D=>by
  have ih:=lin_add f k x D
  unfold lin at ih
  unfold addI
  by_cases e:k'=k
  ·subst e
   rw[if_pos rfl]
   unfold lin
   rw[List.map_cons,List.map_cons,List.sum_cons,List.sum_cons];dsimp only;rw[Int.add_mul];omega
  ·rw[if_neg e]
   unfold lin
   rw[List.map_cons,List.map_cons,List.sum_cons,List.sum_cons,ih];omega
theorem keys_add (k:List Int) (x:Int) : ∀ D:Tab,∀ j,j ∈ (addI D k x).map (·.1) ↔ j ∈ D.map (·.1)\/j=k
 | [],j=>by unfold addI;simp
 | (k',v)::D,j=>by
  unfold addI
  by_cases e:k'=k
  ·subst e;rw[if_pos rfl];simp
   intro h;exact .inl h
  ·rw[if_neg e,List.map_cons,List.map_cons,List.mem_cons,List.mem_cons,keys_add k x D j];exact or_assoc.symm
theorem nd_add (k:List Int) (x:Int) : ∀ D:Tab,(D.map (·.1)).Nodup->((addI D k x).map (·.1)).Nodup
 | [],_=>by unfold addI;simp
 | (k',v)::D,h=>by
  rw[List.map_cons,List.nodup_cons] at h
  unfold addI
  by_cases e:k'=k
  ·rw[if_pos e,List.map_cons,List.nodup_cons];exact h
  ·rw[if_neg e,List.map_cons,List.nodup_cons]
   refine ⟨fun hm=>?_,nd_add k x D h.2⟩
   rcases (keys_add k x D k').mp hm with z | z
   ·exact h.1 z
   ·exact e z
theorem len_add (k:List Int) (x:Int) : ∀ D:Tab,(addI D k x).length<=D.length+1/\1<=(addI D k x).length
 | []=>by unfold addI;simp
 | (k',v)::D=>by
  unfold addI
  split
  ·simp
  ·have:=len_add k x D
   rw[List.length_cons,List.length_cons];omega
def encT (D:Tab):List (List Key × V):=D.map fun kv=>(kv.1.map (Sum.inl:Int->Key),V.int kv.2)
theorem inl_inj : ∀ {k k':List Int},k.map (Sum.inl:Int->Key)=k'.map Sum.inl->k=k'
 | [],[],_=>rfl
 | [],_::_,h=>by cases h
 | _::_,[],h=>by cases h
 | a::k,b::k',h=>by
  rw[List.map_cons,List.map_cons] at h
  injection h with h1 h2
  rw[Sum.inl.inj h1,inl_inj h2]
def getT (D:Tab) (k:List Int):Option Int:=(D.find? fun kv=>decide (kv.1=k)).map (·.2)
theorem val_enc (k:List Int) : ∀ D:Tab,valV (encT D) (k.map Sum.inl)=(getT D k).map V.int
 | []=>rfl
 | (k',v)::D=>by
  have ih:=val_enc k D
  by_cases e:k'=k
  ·subst e
   show valV ((k'.map Sum.inl,V.int v)::encT D) _=_
   rw[valV_pos rfl]
   unfold getT;rw[List.find?_cons,decide_eq_true rfl];rfl
  ·show valV ((k'.map Sum.inl,V.int v)::encT D) _=_
   rw[valV_neg (fun z=>e (inl_inj z)),ih]
   unfold getT;rw[List.find?_cons,decide_eq_false e]
theorem any_enc (k:List Int) : ∀ D:Tab,((encT D).any fun kv=>decide (kv.1=k.map Sum.inl))=decide (k ∈ D.map (·.1))
 | []=>by simp [encT]
 | (k',v)::D=>by
  show (decide (k'.map (Sum.inl:Int->Key)=k.map Sum.inl)||(encT D).any _)=_
  rw[any_enc k D,List.map_cons]
  by_cases e:k'=k
  ·subst e;simp
  ·have : ¬ k'.map (Sum.inl:Int->Key)=k.map Sum.inl:=fun z=>e (inl_inj z)
   rw[decide_eq_false this,Bool.false_or]
   refine decide_eq_decide.mpr ⟨fun h=>List.mem_cons_of_mem _ h,fun h=>?_⟩
   rcases List.mem_cons.mp h with z | z
   ·exact absurd z.symm e
   ·exact z
theorem add_new (k:List Int) (x:Int) : ∀ D:Tab,k ∉ D.map (·.1)->addI D k x=D++[(k,x)]/\getT D k=none
 | [],_=>⟨rfl,rfl⟩
 | (k',v)::D,h=>by
  rw[List.map_cons,List.mem_cons,not_or] at h
  have e : ¬ k'=k:=fun z=>h.1 z.symm
  obtain ⟨h1,h2⟩:=add_new k x D h.2
  refine ⟨by unfold addI;rw[if_neg e,h1];rfl,?_⟩
  unfold getT at h2 ⊢
  rw[List.find?_cons,decide_eq_false e];exact h2
theorem add_old (k:List Int) (x:Int) : ∀ D:Tab,(D.map (·.1)).Nodup->k ∈ D.map (·.1)->encT (addI D k x)=(encT D).map fun kv=>if kv.1=k.map Sum.inl then (kv.1,V.int ((getT D k).getD 0+x)) else kv
 | [],_,h=>by simp at h
 | (k',v)::D,hn,h=>by
  rw[List.map_cons,List.nodup_cons] at hn
  by_cases e:k'=k
  ·subst e
   unfold addI
   rw[if_pos rfl]
   have hg:getT ((k',v)::D) k'=some v:=by unfold getT;rw[List.find?_cons,decide_eq_true rfl];rfl
   rw[hg]
   show (k'.map (Sum.inl:Int->Key),V.int (v+x))::encT D=(if k'.map (Sum.inl:Int->Key)=k'.map Sum.inl then _ else _)::_
   rw[if_pos rfl]
   refine congrArg _ ?_
   refine (List.map_id' _).symm.trans (List.map_congr_left fun kv hkv=>?_)
   obtain ⟨p,hp,rfl⟩:=List.mem_map.mp hkv
   have : ¬ p.1.map (Sum.inl:Int->Key)=k'.map Sum.inl:=fun z=>hn.1 (by rw[<- inl_inj z];exact List.mem_map.mpr ⟨p,hp,rfl⟩)
   rw[if_neg this]
  ·have hk:k ∈ D.map (·.1):= by
    rcases List.mem_cons.mp h with z | z
    ·exact absurd z.symm e
    ·exact z
   unfold addI
   rw[if_neg e]
   have hg:getT ((k',v)::D) k=getT D k:=by unfold getT;rw[List.find?_cons,decide_eq_false e]
   rw[hg]
   show (k'.map (Sum.inl:Int->Key),V.int v)::encT (addI D k x)=(if k'.map (Sum.inl:Int->Key)=k.map Sum.inl then _ else _)::_
   rw[if_neg (fun z=>e (inl_inj z)),add_old k x D hn.2 hk];rfl
theorem put_enc (k:List Int) (x:Int) (D:Tab) (h:(D.map (·.1)).Nodup):putK (encT D) (k.map Sum.inl) (.int ((getT D k).getD 0+x))=encT (addI D k x):= by
 unfold putK
 rw[any_enc]
 by_cases hk:k ∈ D.map (·.1)
 ·rw[decide_eq_true hk,if_pos rfl,add_old k x D h hk]
 ·rw[decide_eq_false hk,if_neg (by decide)]
  obtain ⟨h1,h2⟩:=add_new k x D hk
  rw[h1,h2]
  show encT D++[(k.map Sum.inl,V.int (0+x))]=encT (D++[(k,x)])
  unfold encT
  rw[List.map_append,Int.zero_add];rfl
def inn (p:Int) (k:List Int) (v:Int) (F:Tab):Nat->Tab
 | 0=>F
 | n+1=>addI (inn p k v F n) (dropAt k n) (v*dn p (k.getD n 0).toNat)
def outT (p:Int) (D:Tab) (F:Tab):Nat->Tab
 | 0=>F
 | i+1=>inn p (D.getD i ([],0)).1 (D.getD i ([],0)).2 (outT p D F i) (D.getD i ([],0)).1.length
theorem lin_inn (p:Int) (k:List Int) (v:Int) (F:Tab) (f:List Int->Int) : ∀ n,n<=k.length->lin (inn p k v F n) f=lin F f+v*(((pls k).take n).map fun q=>dn p q.1.toNat*f q.2).sum
 | 0,_=>by simp [inn]
 | n+1,h=>by
  unfold inn
  rw[lin_add,lin_inn p k v F f n (by omega),take_snoc (pls_at k n (by omega)),List.map_append,List.sum_append]
  show _=_+v*(_+[dn p (k.getD n 0).toNat*f (dropAt k n)].sum)
  rw[List.sum_cons,List.sum_nil,Int.add_zero,Int.mul_add,Int.mul_assoc];omega
theorem lin_out (p:Int) (D F:Tab) (f:List Int->Int) : ∀ i,i<=D.length->lin (outT p D F i) f=lin F f+lin (D.take i) fun k=>((pls k).map fun q=>dn p q.1.toNat*f q.2).sum
 | 0,_=>by simp [outT,lin]
 | i+1,h=>by
  have hd:D[i]?=some (D.getD i ([],0)):=by rw[List.getD_eq_getElem?_getD,List.getElem?_eq_getElem (by omega)];rfl
  unfold outT
  rw[lin_inn _ _ _ _ _ _ (Nat.le_refl _),lin_out p D F f i (by omega),take_snoc hd]
  rw[<- pls_length,List.take_length]
  unfold lin
  rw[List.map_append,List.sum_append,List.map_cons,List.map_nil,List.sum_cons,List.sum_nil];dsimp only;omega
theorem lin_plus (D:Tab) (f g:List Int->Int):lin D f+lin D g=lin D fun k=>f k+g k:= by
 unfold lin
 induction D with
 | nil=>rfl
 | cons kv D ih=>rw[List.map_cons,List.map_cons,List.map_cons,List.sum_cons,List.sum_cons,List.sum_cons,<- ih,Int.mul_add];omega
theorem lin_nil : ∀ D:Tab,(D.map (·.1)).Nodup->lin D (phi [])=(getT D []).getD 0
 | [],_=>rfl
 | (k,v)::D,h=>by
  rw[List.map_cons,List.nodup_cons] at h
  have ih:=lin_nil D h.2
  show v*phi [] k+lin D (phi [])=_
  by_cases e:k=[]
  ·subst e
   have hz:lin D (phi [])=0:= by
    rw[ih,(add_new [] 0 D h.1).2];rfl
   have hg:getT (([],v)::D) []=some v:=by unfold getT;rw[List.find?_cons,decide_eq_true rfl];rfl
   rw[hz,hg]
   show v*(if ([]:List Int)=[] then 1 else 0)+0=v
   rw[if_pos rfl];omega
  ·have hg:getT ((k,v)::D) []=getT D []:=by unfold getT;rw[List.find?_cons,decide_eq_false e]
   rw[hg,<- ih]
   show v*(if k=[] then 1 else 0)+_=_
   rw[if_neg e];omega
structure GoodT (D:Tab):Prop where
 nd:(D.map (·.1)).Nodup
 good : ∀ k ∈ D.map (·.1),GoodK k
theorem GoodT.add {D:Tab} (h:GoodT D) {k:List Int} (hk:GoodK k) (x:Int):GoodT (addI D k x):=
 ⟨nd_add k x D h.nd,fun j hj=>by
  rcases (keys_add k x D j).mp hj with z | z
  ·exact h.good j z
  ·exact z ▸ hk⟩
theorem GoodT.inn {F:Tab} (h:GoodT F) {k:List Int} (hk:GoodK k) (p v:Int) : ∀ n,GoodT (L2.inn p k v F n)
 | 0=>h
 | n+1=>(h.inn hk p v n).add (hk.drop n) _
theorem GoodT.out {D F:Tab} (hD:GoodT D) (h:GoodT F) (p:Int) : ∀ i,i<=D.length->GoodT (outT p D F i)
 | 0,_=>h
 | i+1,hi=>by
  have hm:D.getD i ([],0) ∈ D:=by rw[List.getD_eq_getElem?_getD,List.getElem?_eq_getElem (by omega)];exact List.getElem_mem _
  exact (hD.out h p i (by omega)).inn (hD.good _ (List.mem_map.mpr ⟨_,hm,rfl⟩)) _ _ _
theorem sub_lenK {α:Type} [DecidableEq α] : ∀ {l m:List α},l.Nodup->(∀ x ∈ l,x ∈ m)->l.length<=m.length
 | [],_,_,_=>Nat.zero_le _
 | a::l,m,hn,hs=>by
  rw[List.nodup_cons] at hn
  have ha:=hs a List.mem_cons_self
  have:=sub_lenK (m:=m.erase a) hn.2 fun x hx=>(List.mem_erase_of_ne (show x≠a from fun e=>hn.1 (by rw[<- e];exact hx))).mpr (hs x (List.mem_cons_of_mem _ hx))
  rw[List.length_erase_of_mem ha] at this
  have h0:0<m.length:=List.length_pos_of_mem ha
  rw[List.length_cons];omega
theorem GoodT.len {D:Tab} (h:GoodT D):D.length<=97:= by
 have h1:(D.map (·.1)).length<=(pl 9 1 9).length:= by
  exact sub_lenK h.nd fun k hk=>(h.good k hk).mem
 rw[List.length_map] at h1
 exact Nat.le_trans h1 (by decide +kernel)
theorem GoodT.hash {P:Program} {w:World} {D:Tab} (h:GoodT D):((encT D).map fun kv=>hT P w kv.1).Nodup:= by
 have:(encT D).map (fun kv=>hT P w kv.1)=(D.map (·.1)).map hI:= by
  unfold encT
  rw[List.map_map,List.map_map]
  exact List.map_congr_left fun kv _=>hT_int P w kv.1
 rw[this]
 exact good_hash h.nd h.good
end L2
namespace L2
open PySem PySem.Spec PyProof.Rows
def psi (g:Str->Int->Int):List Int->List Str->Int
 | [],_=>1
 | s::L,N=>(N.map fun z=>g z s*psi g L (N.filter fun x=>decide (x≠z))).sum
theorem filter_no {N:List Str} {z:Str} (h:z ∉ N):N.filter (fun x=>decide (x≠z))=N:= by
 rw[List.filter_eq_self]
 intro x hx
 exact decide_eq_true fun e=>h (e ▸ hx)
theorem sum_mapA {α:Type} (l:List α) (f g:α->Int):(l.map fun x=>f x+g x).sum=(l.map f).sum+(l.map g).sum:= by
 induction l with
 | nil=>rfl
 | cons a l ih=>rw[List.map_cons,List.map_cons,List.map_cons,List.sum_cons,List.sum_cons,List.sum_cons,ih];omega
theorem sum_mapM {α:Type} (c:Int) (l:List α) (f:α->Int):(l.map fun x=>c*f x).sum=c*(l.map f).sum:= by
 induction l with
 | nil=>simp
 | cons a l ih=>rw[List.map_cons,List.map_cons,List.sum_cons,List.sum_cons,ih,Int.mul_add]
theorem sum_swapA {α β:Type} (l:List α) (m:List β) (f:α->β->Int):(l.map fun x=>(m.map fun y=>f x y).sum).sum=(m.map fun y=>(l.map fun x=>f x y).sum).sum:= by
 induction l with
 | nil=>induction m with
  | nil=>rfl
  | cons b m ih=>rw[List.map_cons,List.sum_cons,<- ih];simp
 | cons a l ih=>
  rw[List.map_cons,List.sum_cons,ih]
  rw[show (m.map fun y=>((a::l).map fun x=>f x y).sum)=m.map fun y=>f a y+(l.map fun x=>f x y).sum from List.map_congr_left fun y _=>by rw[List.map_cons,List.sum_cons]]
  rw[sum_mapA]
theorem psi_cons (g:Str->Int->Int) (z0:Str) : ∀ (L:List Int) (N:List Str),z0 ∉ N->N.Nodup->psi g L (z0::N)=psi g L N+((pls L).map fun q=>g z0 q.1*psi g q.2 N).sum
 | [],N,_,_=>by simp [psi,pls]
 | s::L,N,hz,hn=>by
  have e1:psi g (s::L) (z0::N)=g z0 s*psi g L N+(N.map fun z=>g z s*psi g L (z0::N.filter fun x=>decide (x≠z))).sum:= by
   show ((z0::N).map _).sum=_
   rw[List.map_cons,List.sum_cons]
   have h1:(z0::N).filter (fun x=>decide (x≠z0))=N:= by
    rw[List.filter_cons,if_neg (by simp),filter_no hz]
   rw[h1]
   refine congrArg _ (congrArg List.sum (List.map_congr_left fun z hzN=>?_))
   have:z0≠z:=fun e=>hz (e ▸ hzN)
   rw[List.filter_cons,if_pos (decide_eq_true this)]
  have e2:(N.map fun z=>g z s*psi g L (z0::N.filter fun x=>decide (x≠z))).sum=(N.map fun z=>g z s*psi g L (N.filter fun x=>decide (x≠z))).sum+(N.map fun z=>((pls L).map fun q=>g z s*(g z0 q.1*psi g q.2 (N.filter fun x=>decide (x≠z)))).sum).sum:= by
   rw[<- sum_mapA]
   refine congrArg List.sum (List.map_congr_left fun z hzN=>?_)
   rw[psi_cons g z0 L _ (fun h=>hz (List.mem_filter.mp h).1) (hn.filter _),Int.mul_add,sum_mapM]
  rw[e1,e2,sum_swapA]
  show _=psi g (s::L) N+(((s,L)::(pls L).map fun q=>(q.1,s::q.2)).map _).sum
  rw[List.map_cons,List.sum_cons,List.map_map]
  have e3:((pls L).map fun q=>(N.map fun z=>g z s*(g z0 q.1*psi g q.2 (N.filter fun x=>decide (x≠z)))).sum)=(pls L).map ((fun q=>g z0 q.1*psi g q.2 N)∘fun q=>(q.1,s::q.2)):= by
   refine List.map_congr_left fun q _=>?_
   show _=g z0 q.1*(N.map fun z=>g z s*psi g q.2 (N.filter fun x=>decide (x≠z))).sum
   rw[<- sum_mapM]
   exact congrArg List.sum (List.map_congr_left fun z _=>Int.mul_left_comm _ _ _)
  rw[e3]
  show _=(N.map fun z=>g z s*psi g L (N.filter fun x=>decide (x≠z))).sum+_
  dsimp only
  omega
theorem psi_phi (W:Wds) : ∀ (N:List Str) (L:List Int),N.Nodup->psi (fun z s=>dn (cz W z) s.toNat) L N=phi (N.map (cz W)) L
 | [],[],_=>rfl
 | [],a::L,_=>by simp [psi,phi]
 | z::N,L,h=>by
  rw[List.nodup_cons] at h
  rw[psi_cons _ z L N h.1 h.2,psi_phi W N L h.2]
  show _=phi (N.map (cz W)) L+((pls L).map fun q=>dn (cz W z) q.1.toNat*phi (N.map (cz W)) q.2).sum
  refine congrArg _ (congrArg List.sum (List.map_congr_left fun q _=>?_))
  rw[psi_phi W N q.2 h.2]
def without (N R:List Str):List Str:=N.filter fun z=>decide (z ∉ R)
def rowsL (N:List Str) (ok:Nat->Str->Bool):Nat->List (List Str)
 | 0=>[[]]
 | m+1=>(rowsL N ok m).flatMap fun r=>((without N r).filter (ok m)).map fun z=>r++[z]
def wt (g : Str -> Int -> Int) (L : List Int) (r : List Str) : Int:=((List.range r.length).map fun i=>g (r.getD i "") (L.getD i 0)).foldl (· * ·) 1
theorem rows_len (N:List Str) (ok:Nat->Str->Bool) : ∀ m,∀ r ∈ rowsL N ok m,r.length=m
 | 0,r,h=>by rw[List.mem_singleton.mp h];rfl
 | m+1,r,h=>by
  obtain ⟨r',h',hr⟩:=List.mem_flatMap.mp h
  obtain ⟨z,_,rfl⟩:=List.mem_map.mp hr
  rw[List.length_append,rows_len N ok m r' h'];rfl
theorem wt_snoc (g:Str->Int->Int) (L:List Int) (r:List Str) (z:Str):wt g L (r++[z])=wt g L r*g z (L.getD r.length 0):= by
 unfold wt
 rw[List.length_append,List.length_singleton,List.range_succ,List.map_append,List.foldl_append]
 have : (List.range r.length).map (fun i=>g ((r ++ [z]).getD i "") (L.getD i 0)) = (List.range r.length).map fun i=>g (r.getD i "") (L.getD i 0):= by
  refine List.map_congr_left fun i hi=>?_
  rw[List.getD_eq_getElem?_getD,List.getElem?_append_left (List.mem_range.mp hi),<- List.getD_eq_getElem?_getD]
 rw[this]
 show _ * g ((r ++ [z]).getD r.length "") _ = _
 rw[List.getD_eq_getElem?_getD,List.getElem?_append_right (Nat.le_refl _),Nat.sub_self];rfl
theorem without_snoc (N r:List Str) (z:Str):without N (r++[z])=(without N r).filter fun x=>decide (x≠z):= by
 unfold without
 rw[List.filter_filter]
 refine List.filter_congr fun x _=>?_
 simp only [List.mem_append,List.mem_singleton,not_or]
 by_cases h1:x ∈ r <;> by_cases h2:x=z <;> simp [h1,h2]
theorem sum_flatMap {α β:Type} (l:List α) (f:α->List β) (h:β->Int):((l.flatMap f).map h).sum=(l.map fun x=>((f x).map h).sum).sum:= by
 induction l with
 | nil=>rfl
 | cons a l ih=>rw[List.flatMap_cons,List.map_append,List.sum_append,List.map_cons,List.sum_cons,ih]
theorem filter_true {α:Type} (l:List α):l.filter (fun _=>true)=l:=List.filter_eq_self.mpr fun _ _=>rfl
theorem rows_psi (g:Str->Int->Int) (L:List Int) (N:List Str) : ∀ m,m<=L.length->((rowsL N (fun _ _=>true) m).map fun r=>wt g L r*psi g (L.drop m) (without N r)).sum=psi g L N
 | 0,_=>by
  show ([[]].map fun r=>wt g L r*psi g (L.drop 0) (without N r)).sum=_
  have:without N []=N:=by unfold without;exact List.filter_eq_self.mpr fun x _=>by simp
  simp [wt,this]
 | m+1,h=>by
  rw[<- rows_psi g L N m (by omega)]
  show (((rowsL N _ m).flatMap _).map _).sum=_
  rw[sum_flatMap]
  refine congrArg List.sum (List.map_congr_left fun r hr=>?_)
  rw[filter_true,List.map_map]
  have hl:=rows_len N _ m r hr
  have hd:L.drop m=L.getD m 0::L.drop (m+1):= by
   rw[List.getD_eq_getElem?_getD,List.getElem?_eq_getElem (by omega)]
   exact (List.drop_eq_getElem_cons (by omega))
  rw[hd]
  show _=wt g L r*((without N r).map fun z=>g z (L.getD m 0)*psi g (L.drop (m+1)) ((without N r).filter fun x=>decide (x≠z))).sum
  rw[<- sum_mapM]
  refine congrArg List.sum (List.map_congr_left fun z _=>?_)
  show wt g L (r++[z])*psi g (L.drop (m+1)) (without N (r++[z]))=_
  rw[wt_snoc,hl,without_snoc,Int.mul_assoc]
theorem rows_all (g:Str->Int->Int) (L:List Int) (N:List Str):((rowsL N (fun _ _=>true) L.length).map fun r=>wt g L r).sum=psi g L N:= by
 rw[<- rows_psi g L N L.length (Nat.le_refl _)]
 refine congrArg List.sum (List.map_congr_left fun r _=>?_)
 rw[List.drop_length]
 show _=_*1
 omega
end L2
namespace L2
open PySem PySem.Spec PyProof.Rows
section
variable {X:Cx}
theorem sl_tupH:SlR X (fun x lo hi H Q=>∃ a xs,x = .ref a/\H a=some (.tup xs) /\ ∀ p H',Same H H'->H' p=some (.tup (cutV xs lo hi))->Q (.ref p) H'):= by
 intro pins s σ H x v vl vu lo hi sl Q I rx hs pl pu h
 obtain ⟨a,xs,rfl,hx,q⟩:=h
 have hxS:SqT X.K H a xs:=SqT.of hx
 by_cases hw:HT.sIx xs.length 0 lo=0/\HT.sIx xs.length xs.length hi=xs.length
 ·cases rx
  obtain ⟨its,r,ht,hz⟩:=I.tuple hxS
  have hlen:its.toArray.size=xs.length:=by rw[List.size_toArray];exact r.length.symm
  refine ⟨"tuple",_,PyProof.Rows.slot_tuple_getitem.lookup,ht.typeIs,?_⟩
  refine getItem_tuple_all ht hs pl pu (by rw[hlen];exact hw) ⟨.ref a,H,I,rfl,q a H (Same.refl H) ?_⟩
  have e:cutV xs lo hi=xs:=by unfold cutV;rw[hw.1,hw.2];simp
  rw[e];exact hx
 ·exact sl_tup pins s σ H _ v vl vu lo hi sl Q I rx hs pl pu ⟨a,xs,rfl,hxS,hw,fun p hp=>q p _ (Same.new hp) upd_same⟩
theorem op_catH:OpR X (binaryOp .Add) (fun x y H Q=>∃ a b xs ys,x = .ref a/\y = .ref b/\H a=some (.tup xs)/\H b=some (.tup ys)/\xs.length+ys.length<=sizeLine /\ ∀ p H',Same H H'->H' p=some (.tup (xs++ys))->Q (.ref p) H'):= by
 intro pins s σ H x y v u Q I rx ry h
 obtain ⟨a,b,xs,ys,rfl,rfl,ha,hb,hz,q⟩:=h
 by_cases hx:xs=[]
 ·cases rx
  cases ry
  obtain ⟨its,r1,p1,_⟩:=I.tuple (SqT.of ha)
  obtain ⟨its2,r2,p2,_⟩:=I.tuple (SqT.of hb)
  have hv:its=[]:=r1.nil_iff.mpr hx
  obtain ⟨⟨cls,dd,data,sl⟩,ho,hc,n,hd⟩:=id p1
  obtain ⟨⟨cls2,dd2,data2,sl2⟩,ho2,hc2,n2,hd2⟩:=id p2
  simp only at hc hd hc2 hd2
  subst hc hd hc2 hd2
  refine concat_meets ⟨_,ho,rfl⟩ ⟨_,ho2,rfl⟩ noFill_tuple_add seq_tuple_add PySem.F.slot_tuple_add PySem.F.entry_tuple_add (PySem.F.args_tuple_add_2 _ _)
   (tuple_addW0 a b its.toArray its2.toArray n n2 dd dd2 sl sl2 (by simp [hv])) ⟨ho,ho2,?_⟩
  exact ⟨.ref b,H,I,rfl,q b H (Same.refl H) (by rw[hx,List.nil_append];exact hb)⟩
 ·refine op_catT pins s σ H _ _ v u Q I rx ry ⟨a,b,xs,ys,rfl,rfl,SqT.of ha,SqT.of hb,hx,hz,fun e=>q a H (Same.refl H) (by rw[e,List.append_nil];exact ha),fun _ p hp=>q p _ (Same.new hp) upd_same⟩
theorem sl_tupP:SlR X (fun x lo hi H Q=>∃ a xs,x = .ref a/\PlT H a xs /\ ∀ p H',Same H H'->PlT H' p (cutV xs lo hi)->Q (.ref p) H'):= by
 intro pins s σ H x v vl vu lo hi sl Q I rx hs pl pu h
 obtain ⟨a,xs,rfl,hx,q⟩:=h
 have hxS:SqT X.K H a xs:=hx.sq
 cases rx
 obtain ⟨its,r,ht,hz⟩:=I.tuple hxS
 have hlen:its.toArray.size=xs.length:=by rw[List.size_toArray];exact r.length.symm
 refine ⟨"tuple",_,PyProof.Rows.slot_tuple_getitem.lookup,ht.typeIs,?_⟩
 by_cases hw:HT.sIx xs.length 0 lo=0/\HT.sIx xs.length xs.length hi=xs.length
 ·refine getItem_tuple_all ht hs pl pu (by rw[hlen];exact hw) ⟨.ref a,H,I,rfl,q a H (Same.refl H) ?_⟩
  have e:cutV xs lo hi=xs:=by unfold cutV;rw[hw.1,hw.2];simp
  rw[e];exact hx
 ·refine HT.getItem_tuple_cut ht hs pl pu (by rw[hlen];exact hw) ?_ (by rw[hlen];exact hz)
  rw[hlen]
  have hn:=I.hok.fresh (Nat.le_refl s.heap.objs.size)
  refine ⟨.ref s.heap.objs.size,_,I.laid (t':=s.toks) (o:=.frz { cls:=.type "tuple",data:=.seq (List.take (HT.sIx xs.length xs.length hi - HT.sIx xs.length 0 lo) (List.drop (HT.sIx xs.length 0 lo) its.toArray.toList)).toArray } (.tup (cutV xs lo hi))) (fun b ob q=>Heap.get?_push_of_some _ q) (Nat.le_refl _) ?_,rfl,q _ _ (Same.new hn) ⟨_,?_,upd_same⟩⟩
  ·exact ⟨Heap.get?_push_size _ rfl,Nat.le_trans (cutV_length xs lo hi) hz,_,(r.drop (HT.sIx xs.length 0 lo)).take (HT.sIx xs.length xs.length hi-HT.sIx xs.length 0 lo),IsTup.new _ _⟩
  ·rfl
end
theorem for_enumT {K:PySem.W.Frag} {a:Addr} {xs:List V} {g:TG} {tb:TS} {D:Ends} {σ:St} {H:Hp} (Pv:Nat->St->Hp->Prop) (h0:Pv 0 σ H) (hl : ∀ i σ H,i<=xs.length->Pv i σ H->SqT K H a xs)
  (hs : ∀ i x σ H t,xs[i]?=some x->Pv i σ H->H t=none->g (.ref t) σ (upd H t (.tup [.int (i:Int),x])) fun σ2 H2=>tb { D with nx:=Pv (i+1),ct:=Pv (i+1),bk:=D.nx } σ2 H2) (hd : ∀ σ H,Pv xs.length σ H->D.nx σ H) :
  ∃ W:Nat->Nat->St->Hp->Prop,(∃ m,W 0 m σ H) /\ ∀ i m σ H,W i m σ H ->
   ((IteT K a).stop i H/\D.nx σ H)\/((IteT K a).go i H /\ ∃ N:St->Hp->Prop,(∀ σ' H',N σ' H' -> ∃ m',m'<m/\W (i+1) m' σ' H') /\ ∀ x H',(IteT K a).yld i H x H'->g x σ H' fun σ2 H2=>tb { D with nx:=N,ct:=N,bk:=D.nx } σ2 H2):= by
 refine ⟨fun i m σ H=>m=xs.length-i/\i<=xs.length/\Pv i σ H,⟨xs.length,by simp,Nat.zero_le _,h0⟩,?_⟩
 rintro i m σ H ⟨rfl,hi,p⟩
 have q:=hl i σ H hi p
 by_cases hlt:i<xs.length
 ·refine .inr ⟨⟨xs,xs[i],q,by simp [hlt]⟩,Pv (i+1),fun σ' H' p'=>⟨xs.length-(i+1),by omega,rfl,hlt,p'⟩,fun x H' y=>?_⟩
  obtain ⟨t,y,ht,rfl,rfl,hy⟩:=y
  exact hs i y σ _ t (hy xs q) p ht
 ·have e:i=xs.length:=by omega
  subst e
  exact .inl ⟨⟨xs,q,Nat.le_refl _⟩,hd σ H p⟩
section
variable {X:Cx}
def tNeverT:TT:=fun _ _ _=>False
theorem pt_never {e:Expr}:PT X e tNeverT:=fun _ _ _ _ _ _ h=>h.elim
end
theorem lin_step (p:Int) (ps:List Int) (D:Tab):lin (outT p D D D.length) (phi ps)=lin D (phi (p::ps)):= by
 rw[lin_out p D D _ D.length (Nat.le_refl _),List.take_length,lin_plus];rfl
theorem rise_of : ∀ {L:List Int} {m:Int},L.Pairwise (· <= ·)->(∀ x ∈ L,m<=x)->Rise m L
 | [],m,_,_=>.nil m
 | a::L,m,h,hm=>by
  rw[List.pairwise_cons] at h
  exact .cons (hm a List.mem_cons_self) (rise_of h.2 h.1)
theorem enc_at {D:Tab} {i:Nat} {k:List Key} {v:V} (h:(encT D)[i]?=some (k,v)) : ∃ kv,D[i]?=some kv/\k=kv.1.map Sum.inl/\v = .int kv.2:= by
 unfold encT at h
 rw[List.getElem?_map] at h
 cases e:D[i]? with
 | none=>rw[e] at h;cases h
 | some kv=>rw[e] at h;cases h;exact ⟨kv,rfl,rfl,rfl⟩
theorem kV_inl (L:List Int):(L.map (Sum.inl:Int->Key)).map kV=L.map V.int:=by rw[List.map_map];rfl
theorem getD_enc (D:Tab) (k:List Int):((valV (encT D) (k.map Sum.inl)).getD (.int 0)) = .int ((getT D k).getD 0):= by
 rw[val_enc]
 cases getT D k <;> rfl
theorem good_pick {k:List Int} (h:GoodK k) {n:Nat} (hn:n<k.length):1<=k.getD n 0/\k.getD n 0<=9:= by
 have hm:k.getD n 0 ∈ k:=by rw[List.getD_eq_getElem?_getD,List.getElem?_eq_getElem hn];exact List.getElem_mem _
 refine ⟨h.1.all _ hm,?_⟩
 have : ∀ {L:List Int} {x:Int},(∀ y ∈ L,0<=y)->x ∈ L->x<=L.sum:= by
  intro L
  induction L with
  | nil=>intro x _ hx;simp at hx
  | cons a L ih=>
   intro x h0 hx
   have p0:0<=L.sum:= by
    have : ∀ {L:List Int},(∀ y ∈ L,0<=y)->0<=L.sum:= by
     intro L
     induction L with
     | nil=>intro _;simp
     | cons b L ih=>intro h;rw[List.sum_cons];have:=h b List.mem_cons_self;have:=ih fun y hy=>h y (List.mem_cons_of_mem _ hy);omega
    exact this fun y hy=>h0 y (List.mem_cons_of_mem _ hy)
   rw[List.sum_cons]
   rcases List.mem_cons.mp hx with rfl | hx
   ·omega
   ·have:=ih (fun y hy=>h0 y (List.mem_cons_of_mem _ hy)) hx
    have:=h0 a List.mem_cons_self
    omega
 exact Int.le_trans (this (fun y hy=>by have:=h.1.all y hy;omega) hm) h.2
theorem dn_small {t:Int} (h0:0<=t) (h1:t<=99) : ∀ n,n<=9->(dn t n).natAbs<=99 ^ n
 | 0,_=>by show (1:Int).natAbs<=1;decide
 | n+1,h=>by
  unfold dn
  rw[Int.natAbs_mul,Nat.pow_succ]
  exact Nat.mul_le_mul (dn_small h0 h1 n (by omega)) (by omega)
theorem dn_64 {t:Int} (h0:0<=t) (h1:t<=99) {n:Nat} (h:n<=9) : -(2 ^ 64)<dn t n/\dn t n<2 ^ 64:= by
 have:=dn_small h0 h1 n h
 have h2:(99:Nat) ^ n<=99 ^ 9:=Nat.pow_le_pow_right (by decide) h
 have h3:(99:Nat) ^ 9<2 ^ 64:=by decide
 omega
end L2
namespace L2
open PySem PySem.Spec PyProof.Rows
theorem dn_eq {t:Int} (h0:0<=t) : ∀ n:Nat,dn t n=dnL t n/\0<=dnL t n/\(dnL t n≠0->(n:Int)<=t)
 | 0=>⟨rfl,by show (0:Int)<=1;decide,fun _=>h0⟩
 | n+1=>by
  obtain ⟨e,g,h⟩:=dn_eq h0 n
  unfold dn dnL
  by_cases hz:dnL t n=0
  ·rw[e,hz,Int.zero_mul,Int.zero_mul];exact ⟨rfl,Int.le_refl _,fun z=>absurd rfl z⟩
  ·have hn:=h hz
   rw[show max 0 (t-(n:Int))=t-n by omega,e]
   refine ⟨rfl,Int.mul_nonneg g (by omega),fun hne=>?_⟩
   have:t-(n:Int)≠0:=fun q=>hne (by rw[q,Int.mul_zero])
   omega
theorem sum_nonneg : ∀ {l:List Int},(∀ x ∈ l,0<=x)->0<=l.sum
 | [],_=>by simp
 | a::l,h=>by
  rw[List.sum_cons]
  have:=h a List.mem_cons_self
  have:=sum_nonneg fun x hx=>h x (List.mem_cons_of_mem _ hx)
  omega
def lotS (ws:List Int) (m:Nat):List Int:=(List.range m).map fun (i:Nat)=>((ws.count (i:Int):Nat):Int)
theorem lotS_len (ws:List Int) (m:Nat):(lotS ws m).length=m:=by unfold lotS;rw[List.length_map,List.length_range]
theorem lotS_at (ws:List Int) {m i:Nat} (h:i<m):(lotS ws m).getD i 0=((ws.count (i:Int):Nat):Int):= by
 unfold lotS
 rw[List.getD_eq_getElem?_getD,List.getElem?_map,List.getElem?_range h];rfl
theorem lotS_cons (w:Int) (ws:List Int) (m:Nat):(lotS (w::ws) m).sum<=(lotS ws m).sum+1:= by
 induction m with
 | zero=>unfold lotS;simp
 | succ m ih=>
  have e : ∀ vs,lotS vs (m+1)=lotS vs m++[((vs.count (m:Int):Nat):Int)]:=fun vs=>by unfold lotS;rw[List.range_succ,List.map_append];rfl
  rw[e,e,List.sum_append,List.sum_append,List.sum_cons,List.sum_cons,List.sum_nil]
  by_cases hw:w=(m:Int)
  ·-- the last lot takes it
   have:lotS (w::ws) m=lotS ws m:= by
    unfold lotS
    refine List.map_congr_left fun i hi=>?_
    have:i<m:=List.mem_range.mp hi
    rw[List.count_cons_of_ne (by omega)]
   rw[this,hw,List.count_cons_self];omega
  ·rw[List.count_cons_of_ne hw];omega
theorem lotS_sum : ∀ (ws:List Int) (m:Nat),(lotS ws m).sum<=ws.length
 | [],m=>by
  have:lotS [] m=(List.range m).map fun _=>(0:Int):=by unfold lotS;rfl
  rw[this]
  have : ∀ n,((List.range n).map fun _=>(0:Int)).sum=0:=fun n=>by
   induction n with
   | zero=>rfl
   | succ n ih=>rw[List.range_succ,List.map_append,List.sum_append,ih];rfl
  rw[this];simp
 | w::ws,m=>by
  have h1:=lotS_cons w ws m
  have h2:=lotS_sum ws m
  rw[List.length_cons];omega
theorem cz_snd {W:Wds} (h:(W.map (·.1)).Nodup):(W.map (·.1)).map (cz W)=W.map (·.2):= by
 rw[List.map_map]
 refine List.map_congr_left fun w hw=>?_
 show cz W w.1=w.2
 unfold cz
 rw[countW_mem h hw];rfl
end L2
namespace L2
theorem perm_sumI {L L':List Int} (h:L.Perm L'):L.sum=L'.sum:= by
 induction h with
 | nil=>rfl
 | cons x _ ih=>rw[List.sum_cons,List.sum_cons,ih]
 | swap x y l=>rw[List.sum_cons,List.sum_cons,List.sum_cons,List.sum_cons];omega
 | trans _ _ a b=>exact a.trans b
end L2
namespace L2
open PySem PySem.Spec PyProof.Rows
theorem lotS_pos {ws:List Int} (hw:wayGo 0 ws=true) : ∀ s ∈ lotS ws (fresh 0 ws).toNat,1<=s/\s<=ws.length:=fun s hs=>by
 obtain ⟨i,hi,rfl⟩:=List.mem_map.mp hs
 have hi:i<(fresh 0 ws).toNat:=List.mem_range.mp hi
 have hm:(i:Int) ∈ ws:=(way_memJ ws hw _).mpr ⟨by omega,by omega⟩
 have:=List.count_pos_iff.mpr hm
 have:=List.count_le_length (a:=(i:Int)) (l:=ws)
 omega
theorem lotS_succ (ws:List Int) (m:Nat):lotS ws (m+1)=lotS ws m++[((ws.count (m:Int):Nat):Int)]:=by unfold lotS;rw[List.range_succ,List.map_append];rfl
end L2
namespace L2
open PySem PySem.Spec PyProof.Rows
def extR (N:List Str) (r:List Str):List (List Str):=(without N r).map fun z=>r++[z]
theorem rows_succ (N:List Str) (m:Nat):rowsL N (fun _ _=>true) (m+1)=(rowsL N (fun _ _=>true) m).flatMap (extR N):= by
 show (rowsL N _ m).flatMap _=_
 refine congrArg (fun f=>(rowsL N (fun _ _=>true) m).flatMap f) (funext fun r=>?_)
 rw[filter_true];rfl
theorem rows_many (N:List Str) (h:N.length<=6) : ∀ m,(rowsL N (fun _ _=>true) m).length<=6 ^ m
 | 0=>Nat.le_refl _
 | m+1=>by
  rw[rows_succ,List.length_flatMap,Nat.pow_succ]
  have ih:=rows_many N h m
  have : ∀ l:List (List Str),(l.map fun r=>(extR N r).length).sum<=l.length*6:=fun l=>by
   induction l with
   | nil=>simp
   | cons r l ih=>
    rw[List.map_cons,List.sum_cons,List.length_cons]
    have:(extR N r).length<=6:= by
     unfold extR without
     rw[List.length_map]
     exact Nat.le_trans (List.length_filter_le _ _) h
    omega
  exact Nat.le_trans (this _) (Nat.mul_le_mul_right 6 ih)
theorem flat_snoc {α β:Type} {l:List α} {i:Nat} {x:α} (h:l[i]?=some x) (f:α->List β):(l.take (i+1)).flatMap f=(l.take i).flatMap f++f x:= by
 rw[take_snoc h,List.flatMap_append,List.flatMap_cons,List.flatMap_nil,List.append_nil]
theorem without_snocN {N:List Str} {i:Nat} {z:Str} (h:N[i]?=some z) (r:List Str):without (N.take (i+1)) r=if z ∈ r then without (N.take i) r else without (N.take i) r++[z]:= by
 unfold without
 rw[take_snoc h,List.filter_append,List.filter_cons,List.filter_nil]
 by_cases e:z ∈ r
 ·rw[if_neg (by simp [e]),List.append_nil,if_pos e]
 ·rw[if_pos (by simp [e]),if_neg e]
theorem rows_in (N:List Str) : ∀ m,∀ r ∈ rowsL N (fun _ _=>true) m,r.Nodup /\ ∀ z ∈ r,z ∈ N
 | 0,r,h=>by rw[List.mem_singleton.mp h];exact ⟨List.nodup_nil,fun z hz=>by simp at hz⟩
 | m+1,r,h=>by
  rw[rows_succ] at h
  obtain ⟨r',h',hr⟩:=List.mem_flatMap.mp h
  obtain ⟨z,hz,rfl⟩:=List.mem_map.mp hr
  obtain ⟨n1,n2⟩:=rows_in N m r' h'
  obtain ⟨z1,z2⟩:=List.mem_filter.mp hz
  have z2:=of_decide_eq_true z2
  refine ⟨List.nodup_append.mpr ⟨n1,by simp,fun x hx y hy=>?_⟩,fun x hx=>?_⟩
  ·rw[List.mem_singleton.mp hy];intro e;exact z2 (e ▸ hx)
  ·rcases List.mem_append.mp hx with hx | hx
   ·exact n2 x hx
   ·rw[List.mem_singleton.mp hx];exact z1
def gL (W:Wds) (z:Str) (s:Int):Int:=dnL (cz W z) s.toNat
theorem prod_upd (f f':Nat->Int) (c:Int) (j:Nat) (hj:f' j=f j*c) (hne : ∀ i,i≠j->f' i=f i) : ∀ m,j<m->((List.range m).map f').foldl (· * ·) 1=((List.range m).map f).foldl (· * ·) 1*c
 | 0,h=>absurd h (by omega)
 | m+1,h=>by
  rw[List.range_succ,List.map_append,List.map_append,List.foldl_append,List.foldl_append]
  show (List.foldl _ 1 _)*f' m=(List.foldl _ 1 _)*f m*c
  by_cases e:j=m
  ·subst e
   have:(List.range j).map f'=(List.range j).map f:=List.map_congr_left fun i hi=>hne i (by have:=List.mem_range.mp hi;omega)
   rw[this,hj,Int.mul_assoc]
  ·rw[prod_upd f f' c j hj hne m (by omega),hne m (fun z=>e z.symm),Int.mul_assoc,Int.mul_assoc,Int.mul_comm c]
def prj (W:Wds) (r:List Str) (ws:List Int) (j:Nat):Int:=wt (gL W) (lotS (ws.take j) r.length) r
theorem prj_zero (W:Wds) (r:List Str) (ws:List Int):prj W r ws 0=1:= by
 unfold prj wt
 have : (List.range r.length).map (fun i=>gL W (r.getD i "") ((lotS (ws.take 0) r.length).getD i 0)) = (List.range r.length).map fun _=>(1 : Int):= by
  refine List.map_congr_left fun i hi=>?_
  rw[lotS_at _ (List.mem_range.mp hi),List.take_zero,List.count_nil];rfl
 rw[this]
 generalize r.length=n
 induction n with
 | zero=>rfl
 | succ n ih=>rw[List.range_succ,List.map_append,List.foldl_append,ih];rfl
theorem prj_succ {W:Wds} {r:List Str} {ws:List Int} {j:Nat} {w:Int} (h:ws[j]?=some w) (h0:0<=w) (h1:w<r.length) :
  prj W r ws (j + 1) = prj W r ws j * max 0 (cz W (r.getD w.toNat "") - ((ws.take j).count w : Nat)):= by
 unfold prj wt
 refine prod_upd (fun i=>gL W (r.getD i "") ((lotS (ws.take j) r.length).getD i 0)) (fun i=>gL W (r.getD i "") ((lotS (ws.take (j + 1)) r.length).getD i 0)) _ w.toNat ?_ ?_ r.length (by omega)
 ·rw[lotS_at _ (show w.toNat<r.length by omega),lotS_at _ (show w.toNat<r.length by omega),Int.toNat_of_nonneg h0,take_snoc h,List.count_append,List.count_singleton_self]
  unfold gL
  rw[Int.toNat_natCast,Int.toNat_natCast];rfl
 ·intro i hi
  by_cases hl:i<r.length
  ·rw[lotS_at _ hl,lotS_at _ hl,take_snoc h,List.count_append]
   have:List.count (i:Int) [w]=0:=List.count_eq_zero.mpr (by simp;omega)
   rw[this,Nat.add_zero]
  ·have e : ∀ vs:List Int,(lotS vs r.length).getD i 0=0:=fun vs=>by
    rw[List.getD_eq_getElem?_getD,List.getElem?_eq_none (by rw[lotS_len];omega)];rfl
   rw[e,e]
theorem rows_sum {W:Wds} (hW:woodsOk W=true) (ws:List Int) (m:Nat):((rowsL (W.map (·.1)) (fun _ _=>true) m).map fun r=>prj W r ws ws.length).sum=phi (W.map (·.2)) (lotS ws m):= by
 obtain ⟨x1,x2,x3⟩:=woodsOk_iff.mp hW
 have e1:(rowsL (W.map (·.1)) (fun _ _=>true) m).map (fun r=>prj W r ws ws.length)=(rowsL (W.map (·.1)) (fun _ _=>true) (lotS ws m).length).map fun r=>wt (gL W) (lotS ws m) r:= by
  rw[lotS_len]
  refine List.map_congr_left fun r hr=>?_
  unfold prj
  rw[List.take_length,rows_len _ _ m r hr]
 rw[e1,rows_all,<- cz_snd x2,<- psi_phi W _ _ x2]
 have:(gL W)=fun z s=>dn (cz W z) s.toNat:= by
  funext z s
  unfold gL
  exact ((dn_eq (cz_ok hW z).1 _).1).symm
 rw[this]
end L2
namespace L2
open PySem PySem.Spec PyProof.Rows
end L2
namespace L2
open PySem PySem.Spec PyProof.Rows
section
variable {X:Cx} {K:PySem.W.Frag}
end
end L2
namespace L2
open PySem PySem.Spec PyProof.Rows
theorem filter_one : ∀ {l:List Str} {x:Str},l.Nodup->x ∈ l->l.filter (fun z=>decide (z=x))=[x]
 | [],x,_,h=>by simp at h
 | a::l,x,hn,h=>by
  rw[List.nodup_cons] at hn
  rw[List.filter_cons]
  by_cases e:a=x
  ·subst e
   rw[if_pos (decide_eq_true rfl)]
   congr 1
   exact List.filter_eq_nil_iff.mpr fun z hz e=>hn.1 (of_decide_eq_true e ▸ hz)
  ·rw[if_neg (by simpa using e)]
   exact filter_one hn.2 ((List.mem_cons.mp h).resolve_left fun q=>e q.symm)
end L2
namespace L2
open PySem PySem.Spec PyProof.Rows
end L2
namespace L2
open PySem PySem.Spec PyProof.Rows
end L2
namespace L2
open PySem PySem.Spec PyProof.Rows
end L2
namespace L2
open PySem PySem.Spec PyProof.Rows
section
variable {X:Cx}
end
end L2
namespace L2
open PySem PySem.Spec PyProof.Rows
theorem le_tot : ∀ {W:Wds} {w:Str × Int},(∀ v ∈ W,0<=v.2)->w ∈ W->w.2<=totW W
 | v::W,w,h,hm=>by
  show w.2<=((v::W).map (·.2)).sum
  rw[List.map_cons,List.sum_cons]
  have h0:0<=(W.map (·.2)).sum:=sum_nonneg fun x hx=>by
   obtain ⟨u,hu,rfl⟩:=List.mem_map.mp hx
   exact h u (List.mem_cons_of_mem _ hu)
  have hv:=h v List.mem_cons_self
  rcases List.mem_cons.mp hm with rfl | hm
  ·omega
  ·have:=le_tot (fun u hu=>h u (List.mem_cons_of_mem _ hu)) hm
   have e:totW W=(W.map (·.2)).sum:=rfl
   omega
theorem tot_two (W:Wds):totW (W.map fun w=>(w.1,w.2+2))=totW W+2*(W.length:Int):= by
 induction W with
 | nil=>rfl
 | cons v W ih=>
  have e : ∀ (x:Str × Int) (V:Wds),totW (x::V)=x.2+totW V:=fun x V=>by
   show ((x::V).map (·.2)).sum=_
   rw[List.map_cons,List.sum_cons];rfl
  rw[List.map_cons,e,e,ih,List.length_cons]
  push_cast
  omega
end L2
namespace L2
open PySem PySem.Spec PyProof.Rows
end L2
namespace L2
open PySem PySem.Spec PyProof.Rows
end L2
namespace L2
open PySem PySem.Spec PyProof.Rows
def Zp:Nat->(Nat->Nat->Int)->Int
 | 0,F=>F 0 0
 | n+1,F=>Zp n (fun a b=>F (a+1) b)+Zp n (fun a b=>F a (b+1))
def bc (n s:Nat):Int:=Zp n fun a _=>if a=s then 1 else 0
def chL (n:Int):Nat->Int
 | 0=>1
 | j+1=>chL n j*(n-j) / (j+1)
def th (c:Int):List Int->Int->Nat->Int
 | [],u,n=>if u=c/\n=0 then 1 else 0
 | p::S,u,n=>th c S u n+((List.range n).map fun s=>bc n (s+1)*dn p (s+1)*th c S (u+1) (n-(s+1))).sum
def ta:List Int->Nat->Int
 | [],n=>if n=0 then 1 else 0
 | p::S,n=>ta S n+((List.range n).map fun s=>bc n (s+1)*dn p (s+1)*ta S (n-(s+1))).sum
def insI (x:Int):List Int->List Int
 | []=>[x]
 | y::l=>if x<=y then x::y::l else y::insI x l
def srt:List Int->List Int
 | []=>[]
 | x::l=>insI x (srt l)
theorem insI_perm (x:Int) : ∀ l:List Int,(insI x l).Perm (x::l)
 | []=>.refl _
 | y::l=>by
  unfold insI
  split
  ·exact .refl _
  ·exact ((insI_perm x l).cons y).trans (List.Perm.swap ..)
theorem srt_perm : ∀ l:List Int,(srt l).Perm l
 | []=>.refl _
 | x::l=>(insI_perm x _).trans ((srt_perm l).cons x)
def wys:Nat->List (List Int × Nat)
 | 0=>[([],0)]
 | n+1=>(wys n).flatMap fun q=>(List.range (q.2+1)).map fun (l:Nat)=>(q.1++[(l:Int)],if l=q.2 then q.2+1 else q.2)
def szs (q:List Int × Nat):List Int:=(List.range q.2).map fun (i:Nat)=>((q.1.count (i:Int):Nat):Int)
theorem wys_ok : ∀ n:Nat,n<6 -> ∀ q ∈ wys n,wayGo 0 q.1=true/\fresh 0 q.1=(q.2:Int)/\q.1.length=n:=by decide +kernel
theorem wys_len : ∀ n:Nat,n<6->(wys n).length<=52:=by decide +kernel
end L2
namespace L2
open PySem PySem.Spec PyProof.Rows
section
variable {X:Cx} {K:PySem.W.Frag}
theorem op_catP (h:X.K=K:=by rfl):OpR X (binaryOp .Add) (fun x y H Q=>∃ a b xs ys,x = .ref a/\y = .ref b/\SqT K H a xs/\SqT K H b ys/\xs≠[]/\ys≠[]/\xs.length+ys.length<=sizeLine /\ ∀ p H',H p=none->Same H H'->PlT H' p (xs++ys)->Q (.ref p) H'):= by
 subst h
 intro pins s σ H x y v u Q I rx ry h
 obtain ⟨a,b,xs,ys,rfl,rfl,ha,hb,hx,hy,hz,q⟩:=h
 cases rx
 cases ry
 obtain ⟨its,r1,p1,_⟩:=I.tuple ha
 obtain ⟨its2,r2,p2,_⟩:=I.tuple hb
 refine HT.cat_tup p1 p2 (fun z=>hx (r1.nil_iff.mp z)) (fun z=>absurd (r2.nil_iff.mp z) hy) (fun z=>?_) (by rw[<- r1.length,<- r2.length];exact hz)
 have hn:=I.hok.fresh (Nat.le_refl s.heap.objs.size)
 refine ⟨.ref s.heap.objs.size,_,I.laid (t':=s.toks) (o:=.frz { cls:=.type "tuple",data:=.seq (its ++ its2).toArray } (.tup (xs ++ ys))) (fun b ob q=>Heap.get?_push_of_some _ q) (Nat.le_refl _) ?_,rfl,q _ _ hn (Same.new hn) ⟨_,rfl,upd_same⟩⟩
 exact ⟨Heap.get?_push_size _ rfl,by rw[List.length_append];exact hz,_,r1.append r2,IsTup.new _ _⟩
def tTupP (t:TA):TE:=fun σ H Q=>t σ H fun xs H1=>xs.length<=sizeLine /\ ∀ p H',H1 p=none->Same H1 H'->PlT H' p xs->Q (.ref p) H'
theorem pe_tupP {es:List Expr} {t:TA} {pos:Pos} {x1} (h:PA X es t):PE X (.Tuple es x1 pos) (tTupP t):= by
 intro pins s σ H Q I hq
 refine wpAny_Tuple_spliced (thn (h pos pins s σ H _ I hq) fun us s1 ⟨xs,H1,I1,r,z,q⟩=>⟨by rw[<- r.length];exact z,?_⟩)
 have hf:H1 s1.heap.objs.size=none:=I1.hok.fresh (Nat.le_refl _)
 refine ⟨.ref s1.heap.objs.size,_,I1.laid (t':=s1.toks) (o:=.frz { cls:=.type "tuple",data:=.seq us.toArray } (.tup xs)) (fun b u e=>Heap.get?_push_of_some _ e) (Nat.le_refl _) ?_,rfl,q _ _ hf (Same.new hf) ⟨_,rfl,upd_same⟩⟩
 exact ⟨Heap.get?_push_size _ rfl,z,us,r,IsTup.new _ _⟩
end
abbrev PlAt (H:Hp) (ps:List Addr) (xss:List (List Int)):Prop:=Paired (fun a (xs:List Int)=>PlT H a (xs.map V.int)) ps xss
theorem PlAt.same {H H':Hp} {ps:List Addr} {xss:List (List Int)} (h:PlAt H ps xss) (s:Same H H'):PlAt H' ps xss:=L2.Paired.mapP h fun _ _ z=>PlT.same z s
theorem PlT.put {H:Hp} {a p:Addr} {xs:List V} {l:List V} {o:HO} (h:PlT H a xs) (hp:H p=some (.lst l)):PlT (upd H p o) a xs:= by
 obtain ⟨ob,h1,h⟩:=h
 exact ⟨ob,h1,by rw[upd_ne (fun e=>by rw[e,hp] at h;cases h)];exact h⟩
theorem PlAt.put {H:Hp} {ps:List Addr} {xss:List (List Int)} {p:Addr} {l:List V} {o:HO} (h:PlAt H ps xss) (hp:H p=some (.lst l)):PlAt (upd H p o) ps xss:=L2.Paired.mapP h fun _ _ z=>PlT.put z hp
def hole (H:Hp) (a:Addr):Hp:=fun b=>if b=a then none else H b
def wyX (q:List Int × Nat):List (List Int × Nat):=(List.range (q.2+1)).map fun (l:Nat)=>(q.1++[(l:Int)],if l=q.2 then q.2+1 else q.2)
theorem wyX_at {q:List Int × Nat} {c:Nat} (h:c<q.2+1):(wyX q)[c]?=some (q.1++[(c:Int)],if c=q.2 then q.2+1 else q.2):= by
 unfold wyX;rw[List.getElem?_map,List.getElem?_range h];rfl
theorem wyX_length (q:List Int × Nat):(wyX q).length=q.2+1:=by unfold wyX;rw[List.length_map,List.length_range]
theorem wyX_len {n:Nat} (hn:n<6) (j:Nat):(((wys n).take j).flatMap wyX).length<=600:= by
 have h1 : ∀ n:Nat,n<6->((wys n).flatMap wyX).length<=600:=by decide +kernel
 have h2 : ∀ l m:List (List Int × Nat),(l.flatMap wyX).length<=((l++m).flatMap wyX).length:=fun l m=>by rw[List.flatMap_append,List.length_append];omega
 have:=h2 ((wys n).take j) ((wys n).drop j)
 rw[List.take_append_drop] at this
 exact Nat.le_trans this (h1 n hn)
theorem filt_snoc {α:Type} {l:List α} {i:Nat} {x:α} (h:l[i]?=some x) (p:α->Bool):(l.take (i+1)).filter p=if p x=true then (l.take i).filter p++[x] else (l.take i).filter p:= by
 rw[take_snoc h,List.filter_append,List.filter_cons,List.filter_nil]
 split
 ·rfl
 ·rw[List.append_nil]
end L2
namespace L2
open PySem PySem.Spec PyProof.Rows
def CodeO (c:Addr) (qual:Str):HO:=.ext fun h=>∃ o vs t,h.get? c=some o/\o.data = .fields vs/\vs[1]?=some (.str qual t)
def TabOk (H:Hp) (P:Addr) (pos:Pos) (qual:Str):Prop:=∃ ps:Array Value,H P=some (.tbl ps)/\TriplesOk ps.toList/\(codeAmong pos ps.toList=none \/ ∃ c,codeAmong pos ps.toList=some (.ref c)/\H c=some (CodeO c qual))
def BmAt (mg : Str -> Option Value) (base : Heap) : Prop:=∃ bm ob,mg "__builtins__" = some (.ref bm) /\ bm ≠ builtinsNs /\ base.get? bm = some ob /\ ob.cls = .type "module" /\ ob.dict = some builtinsNs /\ ob.data = .plain
theorem TabOk.same {H H':Hp} {P:Addr} {pos:Pos} {qual:Str} (h:TabOk H P pos qual) (s:Same H H'):TabOk H' P pos qual:= by
 obtain ⟨ps,h1,h2,h3⟩:=h
 refine ⟨ps,s _ _ h1,h2,?_⟩
 rcases h3 with h3 | ⟨c,h3,h4⟩
 ·exact .inl h3
 ·exact .inr ⟨c,h3,s _ _ h4⟩
theorem hole_same {H H':Hp} {P:Addr} (s:Same H H'):Same (hole H P) (hole H' P):=fun b o e=>by
 unfold hole at e ⊢
 by_cases q:b=P
 ·rw[if_pos q] at e;cases e
 ·rw[if_neg q] at e ⊢;exact s b o e
theorem hole_le (H:Hp) (P:Addr):Same (hole H P) H:=fun b o e=>by
 unfold hole at e
 by_cases q:b=P
 ·rw[if_pos q] at e;cases e
 ·rw[if_neg q] at e;exact e
section
variable {X:Cx} {pins:List (Addr × Obj)} {σ:St} {H:Hp} {s:Shared}
theorem Inv.pin1 (I:Inv X pins σ H s) {a:Addr} {o:Obj} (h1:s.heap.get? a=some o) (h2:H a=none) (h3:a≠X.env.locals) (h4:a ∉ X.fs) (h5 : ∀ v,o.data ≠ .cell v):Inv X ((a,o)::pins) σ H s:=
 I.pins_of fun p hp=>by
  rcases List.mem_cons.mp hp with rfl | hp
  ·exact ⟨h1,h2,h3,h4,h5⟩
  ·exact I.pin p (List.mem_append_right _ hp)
theorem Inv.unpin {p:Addr × Obj} (I:Inv X (p::pins) σ H s):Inv X pins σ H s:=I.pins_of fun q hq=>I.pin q (List.mem_append_right _ (List.mem_cons_of_mem _ hq))
structure OwnR (X:Cx) (pins:List (Addr × Obj)) (a:Addr):Prop where
 ab:X.s₀.heap.objs.size<=a
 nl:a≠X.env.locals
 nc : ∀ x c,X.env.cells.lookup x=some c->c≠a
 np : ∀ p ∈ X.pn++pins,p.1≠a
 nf:a ∉ X.fs
theorem Inv.ownR (I:Inv X pins σ H s) {a:Addr} (h:s.heap.objs.size<=a):OwnR X pins a where
 ab:=Nat.le_trans I.sz h
 nl:=Nat.ne_of_gt (Nat.lt_of_lt_of_le I.lt h)
 nc:=fun x c e=>by
  obtain ⟨v,o,ho,_⟩:=I.cell x c e
  exact Nat.ne_of_lt (Nat.lt_of_lt_of_le (Heap.lt_size ho) h)
 np:=fun p hp=>Nat.ne_of_lt (Nat.lt_of_lt_of_le (Heap.lt_size (I.pin p hp).1) h)
 nf:=I.nofs h
theorem Inv.repin {a:Addr} {o o':Obj} {h':Heap} {t':Nat} (I:Inv X ((a,o)::pins) σ H s) (O:OwnR X pins a) (k : ∀ b u,b≠a->s.heap.get? b=some u->h'.get? b=some u) (e:h'.get? a=some o') (hd : ∀ v,o'.data ≠ .cell v) :
  Inv X ((a,o')::pins) σ H { s with heap:=h',toks:=t' }:= by
 obtain ⟨_,h2,h3,h4,_⟩:=I.pin (a,o) (List.mem_append_right _ List.mem_cons_self)
 exact ((Inv.unpin I).turned (t':=t') k h2 h3 (.inr O.ab) O.nc O.np).pin1 e h2 h3 h4 hd
theorem Inv.swap {p q:Addr × Obj} (I:Inv X (p::q::pins) σ H s):Inv X (q::p::pins) σ H s:=I.pins_of fun r hr=>I.pin r (List.mem_append_right _ (by
 rcases List.mem_cons.mp hr with rfl | hr
 ·exact List.mem_cons_of_mem _ List.mem_cons_self
 ·rcases List.mem_cons.mp hr with rfl | hr
  ·exact List.mem_cons_self
  ·exact List.mem_cons_of_mem _ (List.mem_cons_of_mem _ hr)))
end
section
variable {X:Cx} {pins:List (Addr × Obj)} {σ:St} {H:Hp} {s:Shared} {lps:Arguments} {lb:Expr} {lsc:Scope} {lpos:Pos} {cl:List (Str × Addr)} {c P:Addr} {E:Value->Shared->Prop} {Qv:Value->Shared->Prop}
abbrev lamObj (X : Cx) (lps : Arguments) (lb : Expr) (lsc : Scope) (cl : List (Str × Addr)) (c' : Addr) (ctv : Value) : Obj:=PySem.W.kla_obj "<lambda>" (X.env.qual ++ "<lambda>") lps lb lsc cl ((X.mg "__name__").getD .none) c' ctv
theorem mk_lam (I : Inv X pins σ H s) (hdef : defaultsOf lps X.env = ([],[])) (hcl : closureFor lsc X.env = pure cl) (hcode : X.env.code = .ref c) (hC : PySem.W.CodeHd X.base c P) (hbm : BmAt X.mg X.base) (hT : TabOk H P lpos (X.env.qual ++ "<lambda>"))
  (h : ∀ (f c' : Addr) (ctv : Value) (H' : Hp) (s' : Shared),Inv X ((f,lamObj X lps lb lsc cl c' ctv) :: pins) σ H' s' -> H' c' = some (CodeO c' (X.env.qual ++ "<lambda>")) -> TabOk H' P lpos (X.env.qual ++ "<lambda>") -> Same (hole H P) H' -> Qv (.ref f) s') :
  wpAny (model X.prog X.w) X.A (eval (.Lambda lps lb lsc lpos) X.env) Qv E s:= by
 obtain ⟨ps,hP,htr,hor⟩:=hT
 have hPh:s.heap.get? P=some (PySem.W.tabObj ps):=I.hok P _ hP
 obtain ⟨bm,ob,b1,b2,b3,b4,b5,b6⟩:=hbm
 have hg:s.heap.Ns mainGlobals X.mg:=I.ok.mod.glob.keeps I.bk
 have hbm':=I.bs bm ob b3
 have hgP:mainGlobals≠P:=fun q=>by
  obtain ⟨o,es,ep,e,hd,_⟩:=hg
  rw[q,hPh] at e;cases e;cases hd
 have hbP:bm≠P:=fun q=>by
  have:=hbm'.2
  rw[q,hP] at this;cases this
 have hbG:bm≠mainGlobals:=fun q=>by
  obtain ⟨o,es,ep,e,hd,_⟩:=hg
  rw[q,e] at hbm';cases hbm'.1;rw[hd] at b6;cases b6
 have hb:s.heap.BuiltinsAt X.mg P:=⟨bm,ob,b1,b2,hbG,hbP,hbm'.1,b4,b5,b6⟩
 have hC':PySem.W.CodeHd s.heap c P:=hC.keeps I.bk
 refine PySem.W.kla_eval hdef ?_
 rcases hor with hno | ⟨c',hyes,hc'⟩
 ·refine PySem.W.kla_makeFunction (mg:=X.mg) hcl I.ok.glob hg hcode hC' hPh htr hno hgP hb fun c' ctv h' tk hx hge hlt hrec htb=>?_
  have hc0:H c'=none:=I.hok.fresh hge
  have cP:c'≠P:=fun e=>by rw[e,hP] at hc0;cases hc0
  have kk : ∀ b o,b≠P->s.heap.get? b=some o->(h'.push (lamObj X lps lb lsc cl c' ctv)).get? b=some o:=fun b o hb e=>Heap.get?_push_of_some _ (hx b o hb e)
  have hH' : ∀ b u,H b = some u -> b ≠ P -> upd (upd H P (.tbl (ps ++ #[rawInt lpos.line,rawInt lpos.col,.ref c']))) c' (CodeO c' (X.env.qual ++ "<lambda>")) b = some u:=fun b u e hb=>by
   rw[upd_ne (ne_of_none e hc0),upd_ne hb];exact e
  have hPn : upd (upd H P (.tbl (ps ++ #[rawInt lpos.line,rawInt lpos.col,.ref c']))) c' (CodeO c' (X.env.qual ++ "<lambda>")) P = some (.tbl (ps ++ #[rawInt lpos.line,rawInt lpos.col,.ref c'])):= by
   rw[upd_ne cP.symm,upd_same]
  have hcn : upd (upd H P (.tbl (ps ++ #[rawInt lpos.line,rawInt lpos.col,.ref c']))) c' (CodeO c' (X.env.qual ++ "<lambda>")) c' = some (CodeO c' (X.env.qual ++ "<lambda>")):=upd_same
  have hno' : ∀ b,H b = none -> b ≠ c' -> upd (upd H P (.tbl (ps ++ #[rawInt lpos.line,rawInt lpos.col,.ref c']))) c' (CodeO c' (X.env.qual ++ "<lambda>")) b = none:=fun b e hb=>by
   rw[upd_ne hb,upd_ne (fun z=>by rw[z,hP] at e;cases e)];exact e
  have hcd2 : ∀ b u,upd (upd H P (.tbl (ps ++ #[rawInt lpos.line,rawInt lpos.col,.ref c']))) c' (CodeO c' (X.env.qual ++ "<lambda>")) b = some u -> b = c' \/ b = P \/ (H b = some u /\ b ≠ P /\ b ≠ c'):=fun b u e=>by
   by_cases h1:b=c'
   ·exact .inl h1
   ·by_cases h2:b=P
    ·exact .inr (.inl h2)
    ·rw[upd_ne h1,upd_ne h2] at e;exact .inr (.inr ⟨e,h2,h1⟩)
  generalize upd (upd H P (.tbl (ps ++ #[rawInt lpos.line,rawInt lpos.col,.ref c']))) c' (CodeO c' (X.env.qual ++ "<lambda>")) = H' at hH' hPn hcn hno' hcd2
  have hsz:s.heap.objs.size<=h'.objs.size:=Nat.le_trans hge (Nat.le_of_lt hlt)
  have I':Inv X pins σ H' { s with heap:=h'.push (lamObj X lps lb lsc cl c' ctv),toks:=tk }:= by
   refine I.un (t':=tk) ⟨fun b o e n hb _=>kk b o (fun z=>by rw[z,hP] at n;cases n) e,fun b o e n hb _=>⟨o.slots,kk b o (fun z=>by rw[z,hP] at n;cases n) e⟩,
    fun b o e n _=>hno' b n (fun z=>by rw[z] at e;exact absurd (Heap.lt_size e) (Nat.not_lt.mpr hge)),fun b o e _=>?_,fun b xs e=>hH' b _ e (fun z=>by rw[z,hP] at e;cases e),fun b o u e=>hH' b _ e (fun z=>by rw[z,hP] at e;cases e),fun b qs e=>?_⟩ (fun b u e=>?_)
   ·by_cases hb:b=P
    ·exact ⟨_,by rw[hb];exact Heap.get?_push_of_some _ htb⟩
    ·exact ⟨o,kk b o hb e⟩
   ·by_cases hb:b=P
    ·rw[hb,hP] at e;cases e
     exact ⟨_,by rw[hb];exact hPn⟩
    ·exact ⟨#[],by rw[hH' b _ e hb];simp⟩
   ·rcases hcd2 b u e with rfl | rfl | ⟨e1,e2,e3⟩
    ·rw[hcn] at e;cases e
     obtain ⟨c2,oc,vs,t,q1,q2,q3,q4⟩:=hrec
     cases q1
     refine ⟨⟨oc,vs,t,Heap.get?_push_of_some _ q2,q3,q4⟩,⟨oc,Heap.get?_push_of_some _ q2⟩,fun h1 h2 ⟨o1,v1,t1,z1,z2,z3⟩ kp=>⟨o1,v1,t1,kp _ z1,z2,z3⟩⟩
    ·rw[hPn] at e;cases e
     exact Heap.get?_push_of_some _ htb
    ·refine (I.hok b u e1).stay (fun d v hd q=>kk d v (fun z=>?_) q) (fun d q=>hH' d _ q (fun z=>by rw[z,hP] at q;cases q)) fun d xs q=>hH' d _ q (fun z=>by rw[z,hP] at q;cases q)
     rcases hd with hd | hd
     ·exact e2 (hd.symm.trans z)
     ·rw[z,hP] at hd;cases hd
  have hfn:H' h'.objs.size=none:=hno' _ (I.hok.fresh hsz) (Nat.ne_of_gt hlt)
  refine h _ c' ctv H' _ (I'.pin1 (Heap.get?_push_size _ rfl) hfn (I.ownR hsz).nl (I.ownR hsz).nf fun v z=>by cases z) hcn ⟨_,hPn,?_,.inr ⟨c',?_,hcn⟩⟩ fun b o e=>?_
  ·rw[Array.toList_append];exact TriplesOk_snoc _ _ _ _ htr
  ·rw[Array.toList_append];exact codeAmong_snoc _ htr hno
  ·have hb:b≠P:=fun z=>by rw[z] at e;unfold hole at e;rw[if_pos rfl] at e;cases e
   exact hH' b o (hole_le H P b o e) hb
 ·refine PySem.W.kla_makeFunctionHit (mg:=X.mg) hcl I.ok.glob hg hcode hC' hPh htr hyes hb fun ctv h' tk hk hsz=>?_
  have I':Inv X pins σ H { s with heap:=h'.push (lamObj X lps lb lsc cl c' ctv),toks:=tk }:=I.kept (t':=tk) fun b u e=>Heap.get?_push_of_some _ (hk b u e)
  exact h _ c' ctv H _ (I'.pin1 (Heap.get?_push_size _ rfl) (I.hok.fresh hsz) (I.ownR hsz).nl (I.ownR hsz).nf fun v z=>by cases z) hc' ⟨ps,hP,htr,.inr ⟨c',hyes,hc'⟩⟩ (hole_le H P)
end
section
variable {X:Cx} {pins:List (Addr × Obj)} {σ:St} {H:Hp} {s:Shared} {lps:Arguments} {lb:Expr} {lsc:Scope} {lpos:Pos} {cl:List (Str × Addr)}
def lamCx (X:Cx) (N:List Str) (qual:Str) (sc:Scope) (f c':Addr) (cl:List (Str × Addr)) (A:Around) (s:Shared) (H:Hp):Cx where
 prog:=X.prog
 w:=X.w
 K:=X.K
 mg:=X.mg
 base:=X.base
 A:=A.deeper (PySem.W.envX qual sc s.heap.objs.size f (.ref c') cl)
 N:=N
 s₀:=s
 H₀:=H
 env:=PySem.W.envX qual sc s.heap.objs.size f (.ref c') cl
 outer:=X.stack
 stack:=PySem.W.envX qual sc s.heap.objs.size f (.ref c') cl::X.stack
 ex:=[]
 calm:=true
 fn:=fun _=>false
 pn:=[]
 xe:=fun _ _=>False
structure LamOk (X:Cx) (lps:Arguments) (lb:Expr) (lsc:Scope) (cl:List (Str × Addr)) (x:Str) (fr:List Str) (ix:List Nat):Prop where
 kind:lsc.kind = .function
 co:lsc.isCoroutine=false
 gen:lsc.isGenerator=false
 par:lsc.names.lookup x=some .local
 nocell : ∀ y ∈ lsc.names,y.2 ≠ .cell
 free : ∀ q ∈ lsc.names,q.2 = .free->q.1 ∈ fr
 sub : ∀ q ∈ cl,X.env.cells.lookup q.1=some q.2
 has : ∀ y ∈ fr,∃ c,cl.lookup y=some c
 isf : ∀ y ∈ fr,lsc.names.lookup y=some .free/\X.env.scope.names.lookup y=some .cell
 pl:Paired (fun i y=>X.N[i]?=some y) ix fr
 bind : ∀ (qual : Str) (pm cdv ctv u : Value),bindArgs (PySem.W.kla_fn "<lambda>" qual lps lb lsc cl pm cdv ctv) ⟨[u],[]⟩ = pure [(x,u)]
abbrev lamSt (σ:St) (ix:List Nat) (v:V):St:=some v::ix.map fun i=>(σ[i]?).getD none
theorem run_lam {x:Str} {fr:List Str} {ix:List Nat} {te:TE} {A:Around} {v:V} {u:Value} {f c':Addr} {ctv:Value} {Q:VK} {E:Value->Shared->Prop} (L:LamOk X lps lb lsc cl x fr ix) (I:Inv X pins σ H s) (hf:(f,lamObj X lps lb lsc cl c' ctv) ∈ X.pn++pins)
  (hc : H c' = some (CodeO c' (X.env.qual ++ "<lambda>"))) (hA : A.frames = some X.stack) (hAh : A.handled = none) (hdp : A.depth < recursionLimit) (hb : PE (lamCx X (x :: fr) (X.env.qual ++ "<lambda>") lsc f c' cl A s H) lb te) (r : RelV v u) (q : te (lamSt σ ix v) H Q) :
  wpAny (model X.prog X.w) A (call (.ref f) [u]) (EP X pins σ Q) E s:= by
 obtain ⟨⟨oc,vs,t,e1,e2,e3⟩,_,_⟩:=I.hok c' _ hc
 refine wpAny_call (PySem.W.kla_callFunE hdp (I.pin _ hf).1 rfl L.co L.gen rfl ⟨c',oc,vs,t,rfl,e1,e2,e3⟩ ?_)
 rw[L.bind]
 refine wpAny_pure (wpAny_newFunctionEnv L.nocell (fun y hy=>by rw[List.mem_singleton.mp hy];exact L.par) (fun h₁ hns hsb=>⟨(I.nolimit).fresh _ hsb,?_⟩) L.kind)
 show codeAny _ _ (.expr lb (PySem.W.envX (X.env.qual ++ "<lambda>") lsc s.heap.objs.size f (.ref c') cl)) _ _
 have hk₁ : ∀ b o,s.heap.get? b=some o->h₁.get? b=some o:=fun b o e=>hsb.extBut b o (Nat.ne_of_lt (Heap.lt_size e)) (Heap.get?_push_of_some _ e)
 have cls : ∀ y c,cl.lookup y=some c->X.env.cells.lookup y=some c:=fun y c e=>L.sub (y,c) (PySem.mem_of_lookup e)
 have J : Inv (lamCx X (x :: fr) (X.env.qual ++ "<lambda>") lsc f c' cl A s H) [] (lamSt σ ix v) H { s with heap:=h₁,toks:=s.toks + [(x,u)].length }:= by
  refine ⟨⟨I.ok.mod,L.kind,rfl,rfl,Nat.le_refl _,fun y z c h1 h2=>I.ok.inj y z c (cls y c h1) (cls z c h2),fun y hy=>?_,fun y c h=>absurd h (by show ¬ (false=true);decide),fun _=>hAh,Around.frames_deeper hA,.inr ⟨rfl,rfl⟩,fun b z=>absurd (show b ∈ ([]:List Addr) from z) (by simp),I.bs,Nat.le_trans I.ok.bsz I.sz,fun b _ _ z=>absurd (show b ∈ ([]:List Addr) from z) (by simp),fun b z=>absurd (show b ∈ ([]:List Addr) from z) (by simp),I.stack,I.stkFree⟩,
   rfl,I.bare,Un.kept hk₁,⟨_,hns,fun i y v' h1 h2 h3=>?_⟩,fun y c e=>?_,I.hok.fresh (Nat.le_refl _),fun y c e=>I.freeC y c (cls y c e),fun p hp=>absurd (show p ∈ ([]:List (Addr × Obj)) from hp) (by simp),I.hok.kept hk₁,?_⟩
  ·have hy:lsc.names.lookup y=some .cell\/lsc.names.lookup y=some .free:=hy
   rcases hy with hy | hy
   ·exact absurd rfl (L.nocell _ (PySem.mem_of_lookup hy))
   ·exact L.has y (L.free _ (PySem.mem_of_lookup hy) rfl)
  ·cases i with
   | zero=>
    have h1:some x=some y:=h1
    have h2:some (some v)=some (some v'):=h2
    cases h1;cases h2
    exact ⟨u,r,.inl ⟨L.par,by simp⟩⟩
   | succ j=>
    have h1:fr[j]?=some y:=h1
    have h2:(ix.map fun i=>(σ[i]?).getD none)[j]?=some (some v'):=h2
    obtain ⟨n,hn,hj⟩:=paired_getR L.pl h1
    rw[List.getElem?_map,hj] at h2
    have h2:(σ[n]?).getD none=some v':=by injection h2
    have h2:σ[n]?=some (some v'):= by
     cases e:σ[n]? with
     | none=>rw[e] at h2;cases h2
     | some z=>rw[e] at h2;rw[show z=some v' from h2]
    obtain ⟨g1,g2⟩:=L.isf y (List.mem_of_getElem? h1)
    obtain ⟨m,hm,hl⟩:=I.loc
    obtain ⟨u',r',l⟩:=hl n y v' hn h2 (.inr (.inl g2))
    rcases l with ⟨k,_⟩ | ⟨_,c,e,z⟩
    ·have k:X.env.scope.names.lookup y=some .local:=k
     rw[g2] at k;cases k
    ·obtain ⟨c2,e2⟩:=L.has y (List.mem_of_getElem? h1)
     have:=cls y c2 e2
     rw[e] at this
     cases this
     obtain ⟨oz,z1,z2⟩:=z
     exact ⟨u',r',.inr ⟨.inr g1,c,e2,oz,hk₁ _ _ z1,z2⟩⟩
  ·obtain ⟨w0,o,ho,hd⟩:=I.cell y c (cls y c e)
   exact ⟨w0,o,hk₁ _ _ ho,hd⟩
  ·show (some v::ix.map fun i=>(σ[i]?).getD none).length=(x::fr).length
   rw[List.length_cons,List.length_cons,List.length_map,L.pl.length]
 refine PySem.W.kla_codeExpr (wpAny_mono (hb [] _ _ H _ J q) (fun u2 s2 hs=>?_) fun _ _ z=>False.elim z)
 obtain ⟨v2,H2,J2,r2,q2⟩:=hs
 exact ⟨v2,H2,I.call' J2.os J2.base J2.hok J2.bare (fun b z=>absurd (show b ∈ ([]:List Addr) from z) (by simp)),r2,q2⟩
theorem vals_rfs : ∀ {as:List Addr} {its:List Value},Vals (as.map V.ref) its->its=as.map Value.ref
 | [],_,.nil=>rfl
 | a::as,_,.cons r t=>by
  obtain rfl:_=Value.ref a:=r
  rw[vals_rfs t];rfl
end
def TopAt (kf:Nat->Int) (n i:Nat):Prop:=∀ j,j<n->kf i >= kf j/\(j<i->kf i > kf j)
section
variable {X:Cx} {P0:List (Addr × Obj)} {σ:St} {H2:Hp} {l It S q:Addr} {as:List Addr} {R:Result->Shared->Prop} {kf:Nat->Int}
theorem maxL_loop (hh:X.A.handled=none) (hsq:SqL X.K H2 l (as.map V.ref)) (hlI:l≠It) (hSI:S≠It) (oI:OwnR X P0 It) (oS:OwnR X P0 S)
  (turn : ∀ (i:Nat) (a:Addr),as[i]?=some a -> ∀ (pins:List (Addr × Obj)) (s:Shared) (H:Hp),Inv X pins σ H s->(∀ p ∈ P0,p ∈ pins)->Same H2 H ->
   wpAny (model X.prog X.w) X.A.in1 (call (.ref q) [.ref a]) (EP X pins σ fun v H'=>v = .int (kf i)/\Same H H') (fun _ _=>False) s)
  (hR : ∀ i a s' H',as[i]?=some a->TopAt kf as.length i->Inv X P0 σ H' s'->Same H2 H'->R (.ok (.ret (.ref a))) s') :
  ∀ (r j i : Nat) (s : Shared) (H : Hp) (ab : Addr) (tb : Tok) (c : Nat) (ob : Obj),as.length - (j + 1) = r -> j + 1 <= as.length -> Inv X ((S,seqObj "list" #[.ref ab,.int (kf i) tb] c) :: (It,ob) :: P0) σ H s -> Same H2 H ->
   s.heap.IsListIter It l (j+1)->as[i]?=some ab->i<=j->(∀ j',j'<=j->kf i >= kf j'/\(j'<i->kf i > kf j')) ->
   codeAny (model X.prog X.w) X.A (.builtin "max.loop" ⟨[.ref It,.ref q,.ref S],[]⟩) R s:= by
 have hname : (toString "max" ++ toString ".loop" : String) = "max.loop":=by decide
 have W:=Walks.list (prog:=X.prog) (w:=X.w) (A:=X.A.in1) hh It l hlI (as.map Value.ref).toArray
 have hsz:(as.map Value.ref).toArray.size=as.length:=by rw[List.size_toArray,List.length_map]
 have islist : ∀ {pins:List (Addr × Obj)} {s:Shared} {H:Hp},Inv X pins σ H s->Same H2 H->s.heap.IsList l (as.map Value.ref).toArray:=fun {pins s H} I sm=>by
  obtain ⟨its,r',pl,_⟩:=I.list (sm.seq hsq)
  rw[vals_rfs r'] at pl
  exact pl.isList
 have oS1 : ∀ ob:Obj,OwnR X ((It,ob)::P0) S:=fun ob=>⟨oS.ab,oS.nl,oS.nc,fun p hp=>by
  rcases List.mem_append.mp hp with hp | hp
  ·exact oS.np p (List.mem_append_left _ hp)
  ·rcases List.mem_cons.mp hp with rfl | hp
   ·exact fun z=>hSI z.symm
   ·exact oS.np p (List.mem_append_right _ hp),oS.nf⟩
 have oI1 : ∀ ob:Obj,OwnR X ((S,ob)::P0) It:=fun ob=>⟨oI.ab,oI.nl,oI.nc,fun p hp=>by
  rcases List.mem_append.mp hp with hp | hp
  ·exact oI.np p (List.mem_append_left _ hp)
  ·rcases List.mem_cons.mp hp with rfl | hp
   ·exact hSI
   ·exact oI.np p (List.mem_append_right _ hp),oI.nf⟩
 intro r
 induction r with
 | zero=>
  intro j i s H ab tb c ob hr hj I sm hit hab hij hbest
  have hin:j+1=as.length:=by omega
  have pS:=I.pin (S,seqObj "list" #[.ref ab,.int (kf i) tb] c) (List.mem_append_right _ List.mem_cons_self)
  have pI:=I.pin (It,ob) (List.mem_append_right _ (List.mem_cons_of_mem _ List.mem_cons_self))
  refine codeAny_builtin PySem.F.entry_max_loop ?_
  rw[Around.under_plainId PySem.F.plain_max_loop _]
  show wpAny _ X.A.in1 (seqItems? (.ref S) >>= _) _ _ _
  refine wpAny_bind (wpAny_seqItems pS.1 rfl ?_)
  show wpAny _ X.A.in1 (tryCatch (pyNext (.ref It)) _ >>= _) _ _ _
  refine wpAny_bind (wpAny_tryCatch (W.done _ _ _ ⟨by rw[hsz,<- hin];exact hit,islist I sm⟩ fun h' tk' hk'=>?_))
  have hk1 : ∀ b u,b≠It->s.heap.get? b=some u->h'.get? b=some u:=fun b u hb e=>hk' b u (by simpa using hb) e
  have I1 : Inv X ((S,seqObj "list" #[.ref ab,.int (kf i) tb] c) :: P0) σ H { s with heap:=h',toks:=tk' }:=(Inv.unpin (Inv.swap I)).turned (t':=tk') hk1 pI.2.1 pI.2.2.1 (.inr oI.ab) oI.nc (oI1 _).np
  have hS':=hk1 S _ hSI pS.1
  have s1:=Heap.SameBut.update h' S (Obj.mapSeq fun _=>(#[]:Array Value))
  show wpAny _ X.A.in1 (updateSeq S (fun _=>#[]) >>= _) _ _ _
  refine wpAny_bind ?_
  refine wpAny_updateSeq hS' rfl (wpAny_bind (wpAny_letGo (wpAny_pure ?_)))
  exact hR i ab _ H hab (fun j' hj'=>hbest j' (by omega)) ((Inv.unpin I1).turned (t':=tk') (fun b u hb e=>(s1.2 b hb).trans e) pS.2.1 pS.2.2.1 (.inr oS.ab) oS.nc oS.np) sm
 | succ r ih=>
  intro j i s H ab tb c ob hr hj I sm hit hab hij hbest
  have hlt:j+1<as.length:=by omega
  have pS:=I.pin (S,seqObj "list" #[.ref ab,.int (kf i) tb] c) (List.mem_append_right _ List.mem_cons_self)
  have pI:=I.pin (It,ob) (List.mem_append_right _ (List.mem_cons_of_mem _ List.mem_cons_self))
  refine codeAny_builtin PySem.F.entry_max_loop ?_
  rw[Around.under_plainId PySem.F.plain_max_loop _]
  show wpAny _ X.A.in1 (seqItems? (.ref S) >>= _) _ _ _
  refine wpAny_bind (wpAny_seqItems pS.1 rfl ?_)
  show wpAny _ X.A.in1 (tryCatch (pyNext (.ref It)) _ >>= _) _ _ _
  refine wpAny_bind (wpAny_tryCatch (W.item (j+1) _ _ _ (by rw[hsz];exact hlt) ⟨hit,islist I sm⟩ fun v h' tk' hP hst' hk'=>?_))
  obtain ⟨a1,ha1,rfl⟩ : ∃ a1,as[j+1]?=some a1/\v = .ref a1:= by
   have hP:(as.map Value.ref)[j+1]?=some v:=by simpa using hP
   rw[List.getElem?_map] at hP
   cases e:as[j+1]? with
   | none=>rw[e] at hP;cases hP
   | some z=>rw[e] at hP;cases hP;exact ⟨z,rfl,rfl⟩
  obtain ⟨oI',hoI',hoc,hod⟩:=id hst'.1
  have hk1 : ∀ b u,b≠It->s.heap.get? b=some u->h'.get? b=some u:=fun b u hb e=>hk' b u (by simpa using hb) e
  have I1 : Inv X ((S,seqObj "list" #[.ref ab,.int (kf i) tb] c) :: (It,oI') :: P0) σ H { s with heap:=h',toks:=tk' }:=Inv.swap (Inv.repin (t':=tk') (Inv.swap I) (oI1 _) hk1 hoI' (fun v z=>by rw[hod] at z; cases z))
  show wpAny _ X.A.in1 (tryCatch (holding [.ref a1] (call (.ref q) [.ref a1])) _ >>= _) _ _ _
  refine wpAny_bind (wpAny_tryCatch (wpAny_holding (wpAny_mono (turn (j+1) a1 ha1 _ _ H I1 (fun p hp=>List.mem_cons_of_mem _ (List.mem_cons_of_mem _ hp)) sm) (fun x s'' he=>?_) fun _ _ hF=>hF.elim)))
  obtain ⟨v2,H',I2,r2,rfl,sm2⟩:=he
  obtain ⟨t2,rfl⟩:=r2
  have pS2:=I2.pin (S,seqObj "list" #[.ref ab,.int (kf i) tb] c) (List.mem_append_right _ List.mem_cons_self)
  have pI2:=I2.pin (It,oI') (List.mem_append_right _ (List.mem_cons_of_mem _ List.mem_cons_self))
  have hit2:s''.heap.IsListIter It l (j+1+1):=⟨oI',pI2.1,hoc,hod⟩
  show wpAny _ X.A.in1 (tryCatch (holding [.ref a1,.int (kf (j+1)) t2] (richCompare .Gt (.int (kf (j+1)) t2) (.int (kf i) tb) >>= _)) _ >>= _) _ _ _
  refine wpAny_bind (wpAny_tryCatch (wpAny_holding (wpAny_bind (CmpOf.ints_gt (prog:=X.prog) (w:=X.w) (A:=X.A.in1) (P:=fun i v=>∃ t,v = .int (kf i) t) kf (fun i v h=>h) (j+1) i _ _ _ _ _ ⟨t2,rfl⟩ ⟨tb,rfl⟩ ?_))))
  refine wpAny_bind (wpAny_holding (wpAny_truthy_bool ?_))
  refine wpAny_bind (wpAny_letGo (wpAny_pure ?_))
  by_cases hb':kf (j+1) > kf i
  ·have s1:=Heap.SameBut.update s''.heap S (Obj.mapSeq fun _=>#[.ref a1,.int (kf (j+1)) t2])
   obtain ⟨c2,hc2⟩ : ∃ c2,(s''.heap.update S (Obj.mapSeq fun _=>#[.ref a1,.int (kf (j + 1)) t2])).get? S = some (seqObj "list" #[.ref a1,.int (kf (j + 1)) t2] c2):=⟨_,get?_update_seq pS2.1 fun _=>#[.ref a1,.int (kf (j + 1)) t2]⟩
   simp only [hb',decide_true,if_true]
   refine wpAny_bind ?_
   refine wpAny_updateSeq pS2.1 rfl (wpAny_bind (wpAny_letGo ?_))
   rw[hname]
   refine wpAny_pure ⟨plainId_quiet PySem.F.plain_max_loop _,ih (j+1) (j+1) _ H' a1 t2 c2 oI' (by omega) hlt (Inv.repin (t':=s''.toks) I2 (oS1 _) (fun b u hb e=>(s1.2 b hb).trans e) hc2 (fun v z=>by cases z)) (sm.trans sm2) ⟨oI',(s1.2 It hSI.symm).trans pI2.1,hoc,hod⟩ ha1 (Nat.le_refl _) fun j' hj'=>?_⟩
   by_cases e:j'=j+1
   ·subst e
    exact ⟨by omega,fun _=>by omega⟩
   ·have hb1:=hbest j' (by omega)
    have hb2:=hb1.1
    exact ⟨by omega,fun _=>by omega⟩
  ·simp only [hb',decide_false,Bool.false_eq_true,if_false]
   refine wpAny_bind (wpAny_letGo ?_)
   rw[hname]
   refine wpAny_pure ⟨plainId_quiet PySem.F.plain_max_loop _,ih (j+1) i _ H' ab tb c oI' (by omega) hlt I2 (sm.trans sm2) hit2 hab (by omega) fun j' hj'=>?_⟩
   by_cases e:j'=j+1
   ·subst e
    exact ⟨by omega,fun _=>by omega⟩
   ·exact hbest j' (by omega)
theorem max_key {s:Shared} {Q:Value->Shared->Prop} {E:Value->Shared->Prop} (hh:X.A.handled=none) (I:Inv X P0 σ H2 s) (hsq:SqL X.K H2 l (as.map V.ref)) (hne:0<as.length)
  (turn : ∀ (i:Nat) (a:Addr),as[i]?=some a -> ∀ (pins:List (Addr × Obj)) (s:Shared) (H:Hp),Inv X pins σ H s->(∀ p ∈ P0,p ∈ pins)->Same H2 H ->
   wpAny (model X.prog X.w) X.A.in1 (call (.ref q) [.ref a]) (EP X pins σ fun v H'=>v = .int (kf i)/\Same H H') (fun _ _=>False) s)
  (hQ : ∀ i a s' H',as[i]?=some a->TopAt kf as.length i->Inv X P0 σ H' s'->Same H2 H'->Q (.ref a) s') :
  wpAny (model X.prog X.w) X.A (call (.builtin "max") [.ref l] [(Str.ofString "key",.ref q)]) Q E s:= by
 have hname : (toString "max" ++ toString ".loop" : String) = "max.loop":=by decide
 have islist : ∀ {pins:List (Addr × Obj)} {s:Shared} {H:Hp},Inv X pins σ H s->Same H2 H->s.heap.IsList l (as.map Value.ref).toArray:=fun {pins s H} I sm=>by
  obtain ⟨its,r',pl,_⟩:=I.list (sm.seq hsq)
  rw[vals_rfs r'] at pl
  exact pl.isList
 have hls:=islist I (Same.refl H2)
 obtain ⟨ol,hol,_⟩:=id hls
 have hll:l<s.heap.objs.size:=Heap.lt_size hol
 refine kmk_tree PySem.F.kind_max PySem.F.plain_max PySem.F.entry_max (kmk_max_key _ _) ?_
 show wpAny _ X.A.in1 (Builtin.Builtins.bindParams "max" ["key","default"] 0 ⟨[],[(Str.ofString "key",.ref q)]⟩ >>= _) _ _ s
 refine wpAny_bind (wpAny_of_eq (show Builtin.Builtins.bindParams "max" ["key","default"] 0 ⟨[],[(Str.ofString "key",.ref q)]⟩ = pure [some (.ref q),none] from rfl) ?_)
 refine wpAny_bind (wpAny_pure ?_)
 refine wpAny_bind (wpAny_pyIter_list hls ?_)
 refine wpAny_bind (wpAny_newList ?_ (Nat.zero_le _))
 rw[hname]
 generalize hio : ({ cls:=.type "list_iterator",data:=.fields #[.ref l,.int 0 0] } : Obj) = io
 have hS:(s.heap.push io).objs.size=s.heap.objs.size+1:=size_push' ..
 have hlI:l≠s.heap.objs.size:=Nat.ne_of_lt hll
 have hSI:(s.heap.push io).objs.size≠s.heap.objs.size:=by rw[hS];exact Nat.ne_of_gt (Nat.lt_succ_self _)
 have oI:=I.ownR (Nat.le_refl s.heap.objs.size)
 have oS:OwnR X P0 (s.heap.push io).objs.size:=I.ownR (by rw[hS];exact Nat.le_succ _)
 have gI : ((s.heap.push io).push (seqObj "list" #[] 0)).get? s.heap.objs.size = some io:=Heap.get?_push_of_some _ (Heap.get?_push_size _ (by rw[<- hio]; rfl))
 have gS : ((s.heap.push io).push (seqObj "list" #[] 0)).get? (s.heap.push io).objs.size = some (seqObj "list" #[] 0):=Heap.get?_push_size _ rfl
 have I0 : Inv X P0 σ H2 { s with heap:=(s.heap.push io).push (seqObj "list" #[] 0) }:=I.kept (t':=s.toks) fun b u e=>Heap.get?_push_of_some _ (Heap.get?_push_of_some _ e)
 have iod : ∀ v,io.data ≠ .cell v:=fun v z=>by rw[<- hio] at z;cases z
 have I1 : Inv X ((s.heap.objs.size,io) :: P0) σ H2 { s with heap:=(s.heap.push io).push (seqObj "list" #[] 0) }:=I0.pin1 gI (I.hok.fresh (Nat.le_refl _)) oI.nl oI.nf iod
 have I2 : Inv X (((s.heap.push io).objs.size,seqObj "list" #[] 0) :: (s.heap.objs.size,io) :: P0) σ H2 { s with heap:=(s.heap.push io).push (seqObj "list" #[] 0) }:=I1.pin1 gS (I.hok.fresh (by rw[hS]; exact Nat.le_succ _)) oS.nl oS.nf fun v z=>by cases z
 have oI1 : ∀ ob:Obj,OwnR X (((s.heap.push io).objs.size,ob)::P0) s.heap.objs.size:=fun ob=>⟨oI.ab,oI.nl,oI.nc,fun p hp=>by
  rcases List.mem_append.mp hp with hp | hp
  ·exact oI.np p (List.mem_append_left _ hp)
  ·rcases List.mem_cons.mp hp with rfl | hp
   ·exact hSI
   ·exact oI.np p (List.mem_append_right _ hp),oI.nf⟩
 have oS1 : ∀ ob:Obj,OwnR X ((s.heap.objs.size,ob)::P0) (s.heap.push io).objs.size:=fun ob=>⟨oS.ab,oS.nl,oS.nc,fun p hp=>by
  rcases List.mem_append.mp hp with hp | hp
  ·exact oS.np p (List.mem_append_left _ hp)
  ·rcases List.mem_cons.mp hp with rfl | hp
   ·exact fun z=>hSI z.symm
   ·exact oS.np p (List.mem_append_right _ hp),oS.nf⟩
 generalize hSa:(s.heap.push io).objs.size=S at hSI oS gS I2 oI1 oS1
 generalize hIa:s.heap.objs.size=It at hlI hSI oI gI I1 I2 oI1 oS1
 refine wpAny_pure ⟨plainId_quiet PySem.F.plain_max_loop _,?_⟩
 have W:=Walks.list (prog:=X.prog) (w:=X.w) (A:=X.A.in1) hh It l hlI (as.map Value.ref).toArray
 have hsz:(as.map Value.ref).toArray.size=as.length:=by rw[List.size_toArray,List.length_map]
 refine codeAny_builtin PySem.F.entry_max_loop ?_
 rw[Around.under_plainId PySem.F.plain_max_loop _]
 show wpAny _ X.A.in1 (seqItems? (.ref S) >>= _) _ _ _
 refine wpAny_bind (wpAny_seqItems gS rfl ?_)
 show wpAny _ X.A.in1 (tryCatch (pyNext (.ref It)) _ >>= _) _ _ _
 refine wpAny_bind (wpAny_tryCatch (W.item 0 _ _ _ (by rw[hsz];exact hne) ⟨⟨_,gI,by rw[<- hio],by rw[<- hio];rfl⟩,islist I2 (Same.refl H2)⟩ fun v h' tk' hP hst' hk'=>?_))
 obtain ⟨a1,ha1,rfl⟩ : ∃ a1,as[0]?=some a1/\v = .ref a1:= by
  have hP:(as.map Value.ref)[0]?=some v:=by simpa using hP
  rw[List.getElem?_map] at hP
  cases e:as[0]? with
  | none=>rw[e] at hP;cases hP
  | some z=>rw[e] at hP;cases hP;exact ⟨z,rfl,rfl⟩
 obtain ⟨oI',hoI',hoc,hod⟩:=id hst'.1
 have I3 : Inv X ((S,seqObj "list" #[] 0) :: (It,oI') :: P0) σ H2 { s with heap:=h',toks:=tk' }:=Inv.swap (Inv.repin (s:={ s with heap:=(s.heap.push io).push (seqObj "list" #[] 0) }) (t':=tk') (Inv.swap I2) (oI1 _) (fun b u hb e=>hk' b u (by simpa using hb) e) hoI' (fun v z=>by rw[hod] at z; cases z))
 show wpAny _ X.A.in1 (tryCatch (holding [.ref a1] (call (.ref q) [.ref a1])) _ >>= _) _ _ _
 refine wpAny_bind (wpAny_tryCatch (wpAny_holding (wpAny_mono (turn 0 a1 ha1 _ _ H2 I3 (fun p hp=>List.mem_cons_of_mem _ (List.mem_cons_of_mem _ hp)) (Same.refl H2)) (fun x s'' he=>?_) fun _ _ hF=>hF.elim)))
 obtain ⟨v2,H',I4,r2,rfl,sm2⟩:=he
 obtain ⟨t2,rfl⟩:=r2
 have pS2:=I4.pin (S,seqObj "list" #[] 0) (List.mem_append_right _ List.mem_cons_self)
 have pI2:=I4.pin (It,oI') (List.mem_append_right _ (List.mem_cons_of_mem _ List.mem_cons_self))
 have s1:=Heap.SameBut.update s''.heap S (Obj.mapSeq fun _=>#[.ref a1,.int (kf 0) t2])
 obtain ⟨c2,hc2⟩ : ∃ c2,(s''.heap.update S (Obj.mapSeq fun _=>#[.ref a1,.int (kf 0) t2])).get? S = some (seqObj "list" #[.ref a1,.int (kf 0) t2] c2):=⟨_,get?_update_seq pS2.1 fun _=>#[.ref a1,.int (kf 0) t2]⟩
 show wpAny _ X.A.in1 (updateSeq S (fun _=>#[.ref a1,.int (kf 0) t2]) >>= _) _ _ _
 refine wpAny_bind ?_
 refine wpAny_updateSeq pS2.1 rfl ?_
 rw[hname]
 refine wpAny_pure ⟨plainId_quiet PySem.F.plain_max_loop _,maxL_loop hh hsq hlI hSI oI oS turn (fun i a s' H'' h1 h2 h3 h4=>hQ i a s' H'' h1 h2 h3 h4) _ 0 0 _ H' a1 t2 c2 oI' rfl hne (Inv.repin (t':=s''.toks) I4 (oS1 _) (fun b u hb e=>(s1.2 b hb).trans e) hc2 (fun v z=>by cases z)) sm2 ⟨oI',(s1.2 It hSI.symm).trans pI2.1,hoc,hod⟩ ha1 (Nat.le_refl _) fun j' hj'=>?_⟩
 have e:j'=0:=by omega
 subst e
 exact ⟨by omega,fun h=>absurd h (Nat.lt_irrefl _)⟩
end
section
variable {X:Cx} {lps:Arguments} {lb:Expr} {lsc:Scope} {lpos:Pos} {cl:List (Str × Addr)} {c P:Addr} {x:Str} {fr:List Str} {ix:List Nat} {te:TE}
def tMaxL (K:PySem.W.Frag) (P:Addr) (lpos:Pos) (qual:Str) (ix:List Nat) (te:TE) (t:TA):TE:=fun σ H Q=>t σ H fun vs H1=>∃ (l:Addr) (as:List Addr) (kf:Nat->Int),vs=[.ref l]/\SqL K (hole H1 P) l (as.map V.ref)/\0<as.length/\TabOk H1 P lpos qual /\
 (∀ (i:Nat) (a:Addr),as[i]?=some a -> ∀ H',Same (hole H1 P) H'->te (lamSt σ ix (.ref a)) H' fun v H''=>v = .int (kf i)/\Same H' H'') /\
 ∀ (i:Nat) (a:Addr) (H':Hp),as[i]?=some a->TopAt kf as.length i->Same (hole H1 P) H'->TabOk H' P lpos qual->Q (.ref a) H'
theorem pe_maxL {e : Expr} {t : TA} {p pos kpos : Pos} {k : Nat} (hr : Room (k + 1) X.A) (hg : Gl X "max") (hm : X.mg "max" = none) (hdef : defaultsOf lps X.env = ([],[])) (hcl : closureFor lsc X.env = pure cl) (hcode : X.env.code = .ref c) (hC : PySem.W.CodeHd X.base c P) (hbm : BmAt X.mg X.base)
  (L : LamOk X lps lb lsc cl x fr ix) (hb : ∀ (f c' : Addr) (s : Shared) (H : Hp),PE (lamCx X (x :: fr) (X.env.qual ++ "<lambda>") lsc f c' cl X.A.in1 s H) lb te) (ha : PA X [e] t) (he : starEach [e] X.env = [(false,eval e X.env)]:=by rfl) :
  PE X (.Call (.Name "max" p) [e] [⟨some "key",.Lambda lps lb lsc lpos,kpos⟩] pos) (tMaxL X.K P lpos (X.env.qual ++ "<lambda>") ix te t):= by
 intro pins s σ H Q I hh
 refine wpAny_Call_Name_kw (ld_blt I hg hm PyProof.Rows.Boot.«max» ?_ (by decide) (by decide))
 refine PyProof.Rows.callWith_kw (thn (ha pos pins s σ H _ I hh) fun us s1 ⟨vs,H1,I1,r,q⟩=>?_) (by rw[he];rfl) (by rw[he];rfl)
 obtain ⟨l,as,kf,rfl,hsq,hne,hT,ht,hQ⟩:=q
 obtain ⟨u,rfl,ru⟩:=vals1 r
 cases ru
 show wpAny _ _ (evalAll ((do let v <- eval (.Lambda lps lb lsc lpos) X.env;standAt pos;pure v)::(backToKw pos (keywordEach [] X.env)).map (·.2))) _ _ s1
 refine wpAny_evalAll_cons (wpAny_bind (mk_lam I1 hdef hcl hcode hC hbm hT fun f c' ctv H' s' I' hc' hT' sm=>wpAny_bind (wpAny_standAt (wpAny_pure ?_))))
 refine wpAny_evalAll_nil ?_
 have hsq':SqL X.K H' l (as.map V.ref):=sm.seq hsq
 refine max_key (kf:=kf) hr.hd I' hsq' hne (fun i a hi pins2 s2 H2 I2 hp sm2=>?_) fun i a s2 H2 hi htop I2 sm2=>?_
 ·exact run_lam L I2 (List.mem_append_right _ (hp _ List.mem_cons_self)) (sm2 _ _ hc') I2.ok.frames hr.hd (by have:=hr.in1.depth;exact this) (hb f c' s2 H2) (v:=.ref a) rfl (ht i a hi H2 (sm.trans sm2))
 ·exact ⟨.ref a,H2,Inv.unpin I2,rfl,hQ i a H2 hi htop (sm.trans sm2) (hT'.same sm2)⟩
end
end L2
namespace L2
open PySem PySem.Spec PyProof.Rows
section
variable {P:Program} {w:World} {K:PySem.W.Frag} {mg:Str->Option Value} {base:Heap}
theorem Fun.okCE {x qual:Str} {st:Stmt} {f c:Addr} {fd:FuncData} {N ps:List Str} {k:Nat} {sp:Sp} (F:Fun K x qual st f fd) (hc:fd.code = .ref c) (S:FnScope N ps (defScope st)) (len : ∀ vs H Q E,sp vs H Q E->vs.length=ps.length)
  (hbody : ∀ (cdv:Value),cdv = .ref c -> ∀ (A:Around) (outer:List Env) (s:Shared) (H:Hp) (vs:List V) (Q:VK) (E:XK),Room k (A.deeper (envOfC qual (defScope st) s.heap.objs.size f cdv))->Fn0 (cxOf (CXE P w) P w K mg base N qual (defScope st) f cdv A outer s H E) E->sp vs H Q E ->
   ∃ t,PSs (cxOf (CXE P w) P w K mg base N qual (defScope st) f cdv A outer s H E) (defBody st) t/\t { nx:=fun _ H'=>Q .non H',rt:=Q } (start N vs) H):FnOk P w K mg base (CXE P w) (k+1) f fd ps sp:= by
 obtain ⟨oc,od,kV,doc,pm,an,cdv,ct,osl,rfl,lk,hcd⟩:=F.ex
 exact fn_of lk hcd S len fun A outer s H vs Q E hr hsp=>hbody cdv hc A outer s H vs Q E hr ⟨rfl,rfl,rfl,rfl⟩ hsp
end
theorem law_callT {P:Program} {w:World} {K:PySem.W.Frag} {mg mb:Str->Option Value} {CX:CXT} {k:Nat} {fa a:Addr} {fd:FuncData} {x:Str} {sp:Sp} {s₁:Shared} {vs:List Value} {ns:List Int} {tabs:List (Addr × Addr)}
  (KX : K.In s₁.heap) (hns : s₁.heap.Ns mainGlobals mg) (hb : s₁.heap.Ns builtinsNs mb) (hbb : ∀ x : Str,x ≠ "__name__" -> mb x = bootBuiltins x) (hlim : s₁.heap.NoLimit) (hg : s₁.gens = #[]) (hbm : BmAt mg s₁.heap)
  (ha : s₁.heap.get? a = some { cls:=.type "list",data:=.seq vs.toArray }) (hi : IntsAre vs ns) (hl : ns.length <= sizeLine) (hr : Room k callerA)
  (hT : ∀ q ∈ tabs,PySem.W.CodeHd s₁.heap q.1 q.2/\s₁.heap.get? q.2=some (PySem.W.tabObj #[])/\K.lookup q.2=none)
  (F : ∀ base:Heap,K.In base->base.Ns mainGlobals mg->BmAt mg base->FnOk P w K mg base CX k fa fd [x] sp) (hbind : ∀ (s:Shared) (u:Value),BindsTo s fd ⟨[u],[]⟩ [(x,u)])
  (hsp : ∀ H:Hp,(∀ q ∈ tabs,H q.2=some (.tbl #[]))->SqL K H a (ns.map V.int)->sp [.ref a] H (fun v _=>v = .bl true) fun _ _ _=>False)
  (hCX : ∀ H e s',CX [] H s₁ (fun _ _ _=>False) e s'->False) :
  codeAny (model P w) callerA (.call (.ref fa) ⟨[.ref a],[]⟩) (fun r s'=>r = .ok (.ret (.bool true))/\OldK s₁.heap s'.heap/\s'.os=s₁.os/\AllBare s'.gens) s₁:= by
 have rv:=vals_ints hi
 have lenV:=hi.length
 have core : ∀ H:Hp,(∀ b,H b=none\/(∃ o xs,H b=some (.frz o (.lst xs))/\b=a)\/(H b=some (.tbl #[])/\b ∈ tabs.map (·.2)))->(∀ q ∈ tabs,H q.2=some (.tbl #[]))->SqL K H a (ns.map V.int)->HOk P w H s₁.heap->(∀ b,H b≠none->K.lookup b=none) ->
   codeAny (model P w) callerA (.call (.ref fa) ⟨[.ref a],[]⟩) (fun r s'=>r = .ok (.ret (.bool true))/\OldK s₁.heap s'.heap/\s'.os=s₁.os/\AllBare s'.gens) s₁:= by
  intro H hO hTH hS hok hK
  have base_of : ∀ {b:Addr} {o:Obj},s₁.heap.get? b=some o->H b=none->(hidT s₁.heap H).get? b=some o:=fun e n=>hidT_get e n
  have noA : ∀ {b:Addr} {o:Obj},s₁.heap.get? b=some o->(∀ ys n,o.data ≠ .seq ys n)->(∀ ys,o.data ≠ .fields ys)->H b=none:=fun {b o} e d1 d2=>by
   rcases hO b with z | ⟨ob,xs,z,rfl⟩ | ⟨z,_⟩
   ·exact z
   ·rw[ha] at e;cases e
    exact absurd rfl (d1 _ _)
   ·have:=hok b _ z
    have this:s₁.heap.get? b=some { cls:=.none,data:=.fields #[] }:=this
    rw[this] at e;cases e
    exact absurd rfl (d2 _)
  have nsK : ∀ {b:Addr} {m:Str->Option Value},s₁.heap.Ns b m->(hidT s₁.heap H).Ns b m:=fun {b m} ⟨o,es,ep,e,d,r⟩=>⟨o,es,ep,base_of e (noA e (fun _ _ z=>by rw[d] at z;cases z) (fun _ z=>by rw[d] at z;cases z)),d,r⟩
  have hKb:K.In (hidT s₁.heap H):=fun b o e=>base_of (KX b o e) (by
   cases q:H b with
   | none=>rfl
   | some u=>rw[hK b (by rw[q];simp)] at e;cases e)
  have hM:Mod K mg (hidT s₁.heap H):=⟨hKb,nsK hns,⟨mb,nsK hb,hbb⟩,let ⟨mc,h1,h2⟩:=hlim;⟨mc,nsK h1,h2⟩⟩
  have hbm':BmAt mg (hidT s₁.heap H):= by
   obtain ⟨bm,ob,b1,b2,b3,b4,b5,b6⟩:=hbm
   exact ⟨bm,ob,b1,b2,base_of b3 (noA b3 (fun _ _ z=>by rw[b6] at z;cases z) (fun _ z=>by rw[b6] at z;cases z)),b4,b5,b6⟩
  have e0:Env0 P w K mg (hidT s₁.heap H) callerA [] s₁ H:=⟨rfl,hM,fun b o e=>of_hidT e,Nat.le_of_eq (hidT_size _ _),trivial,fun b hb=>absurd (show b ∈ ([]:List Addr) from hb) (by simp),hok,.of_eq hg⟩
  refine codeAny_mono ((F _ hKb (nsK hns) hbm').run callerA [] s₁ H ⟨[.ref a],[]⟩ [.ref a] [.ref a] _ _ hr e0 (hbind s₁ (.ref a)) (.cons rfl .nil) (hsp H hTH hS)) fun r s' h=>?_
  cases r with
  | error e=>exact (hCX H e s' h).elim
  | ok fl=>
   cases fl with
   | next=>exact False.elim h
   | brk=>exact False.elim h
   | cont=>exact False.elim h
   | ret u=>
    obtain ⟨v,H',os,bare,un,hok',r',q⟩:=h
    have q':v = .bl true:=q
    subst q'
    obtain rfl:u=Value.bool true:=r'
    refine ⟨rfl,⟨fun b o e=>?_,fun b o e=>un.there b o e (by simp)⟩,os,bare⟩
    rcases hO b with z | ⟨ob,xs,z,_⟩ | ⟨z,hm⟩
    ·exact .inl (un.keep b o e z (by intro z;exact absurd (show b ∈ ([]:List Addr) from z) (by simp)) (by simp))
    ·have z2:=un.frzs b ob _ z
     obtain ⟨e1,_⟩:=hok b _ z
     obtain ⟨e2,_⟩:=hok' b _ z2
     rw[e] at e1;cases e1
     exact .inl e2
    ·obtain ⟨p,hp,rfl⟩:=List.mem_map.mp hm
     obtain ⟨more,z2⟩:=un.tbls _ _ z
     obtain ⟨c1,c2,_⟩:=hT p hp
     have e2:s'.heap.get? p.2=some { cls:=.none,data:=.fields (#[]++more) }:=hok' _ _ z2
     rw[c2] at e;cases e
     exact .inr (.inl ⟨(c1.tab c2).isCodeTable,rfl,#[],more,rfl,e2⟩)
 have hTa : ∀ q ∈ tabs,q.2≠a:=fun q hq e=>by
  have:=(hT q hq).2.1
  rw[e,ha] at this;cases this
 have inT : ∀ b,b ∈ tabs.map (·.2)->b≠a:=fun b hb=>by
  obtain ⟨q,hq,rfl⟩:=List.mem_map.mp hb
  exact hTa q hq
 cases hk:K.lookup a with
 | some o=>
  have e:=KX a o hk
  rw[ha] at e
  cases e
  refine core (fun b=>if b ∈ tabs.map (·.2) then some (.tbl #[]) else none) (fun b=>?_) (fun q hq=>if_pos (List.mem_map.mpr ⟨q,hq,rfl⟩)) (.inr ⟨_,vs.toArray,_,hk,rfl,rfl,rfl,by rw[List.size_toArray,lenV];exact hl,by simpa using rv⟩) (fun b u z=>?_) fun b z=>?_
  ·by_cases hb':b ∈ tabs.map (·.2)
   ·exact .inr (.inr ⟨if_pos hb',hb'⟩)
   ·exact .inl (if_neg hb')
  ·by_cases hb':b ∈ tabs.map (·.2)
   ·have z':=(if_pos hb').symm.trans z
    cases z'
    obtain ⟨q,hq,rfl⟩:=List.mem_map.mp hb'
    exact (hT q hq).2.1
   ·have z':=(if_neg hb').symm.trans z
    cases z'
  ·by_cases hb':b ∈ tabs.map (·.2)
   ·obtain ⟨q,hq,rfl⟩:=List.mem_map.mp hb'
    exact (hT q hq).2.2
   ·exact absurd (if_neg hb') z
 | none=>
  refine core (fun b=>if b ∈ tabs.map (·.2) then some (.tbl #[]) else if b = a then some (.frz { cls:=.type "list",data:=.seq vs.toArray } (.lst (ns.map V.int))) else none) (fun b=>?_) (fun q hq=>if_pos (List.mem_map.mpr ⟨q,hq,rfl⟩)) (.inl (.inr ⟨{ cls:=.type "list",data:=.seq vs.toArray },?_⟩)) (fun b u z=>?_) fun b z=>?_
  ·by_cases hb':b ∈ tabs.map (·.2)
   ·exact .inr (.inr ⟨if_pos hb',hb'⟩)
   ·by_cases hba:b=a
    ·exact .inr (.inl ⟨_,_,by (try dsimp only);rw[if_neg hb',if_pos hba],hba⟩)
    ·exact .inl (by (try dsimp only);rw[if_neg hb',if_neg hba])
  ·dsimp only
   rw[if_neg (fun hm=>inT a hm rfl),if_pos rfl]
  ·try dsimp only at z
   by_cases hb':b ∈ tabs.map (·.2)
   ·rw[if_pos hb'] at z
    cases z
    obtain ⟨q,hq,rfl⟩:=List.mem_map.mp hb'
    exact (hT q hq).2.1
   ·rw[if_neg hb'] at z
    by_cases hba:b=a
    ·rw[if_pos hba] at z
     cases z
     subst hba
     exact ⟨ha,by rw[List.length_map];exact hl,vs,_,rv,ha⟩
    ·rw[if_neg hba] at z;cases z
  ·try dsimp only at z
   by_cases hb':b ∈ tabs.map (·.2)
   ·obtain ⟨q,hq,rfl⟩:=List.mem_map.mp hb'
    exact (hT q hq).2.2
   ·rw[if_neg hb'] at z
    by_cases hba:b=a
    ·rw[hba];exact hk
    ·exact absurd (if_neg hba) z
theorem walk_ofT {l:PySem.W.OpenLaw} {n k:Nat} {q:Program} {loose:List Str} {XP:(Str->Option Value)->Heap->Prop} {YP:World->Heap->Prop} {d:DefRec} {K:Params->PySem.W.Frag} {CX:World->CXT} {sp:World->List (Addr × Addr)->Sp} {x:Str} {ts:List Addr}
  (hn:l.most=some n) (hn2:n<=sizeLine) (hdf:d.params.defaults=[]) (hr:Room k callerA)
  (hY : ∀ (w:World) (h:Heap),YP w h->(K w.params).In h /\ ∀ P ∈ ts,h.get? P=some (PySem.W.tabObj #[]))
  (F : ∀ (w:World) (mg:Str->Option Value) (fa:Addr) (h:Heap),(K w.params).In h->h.Ns mainGlobals mg->mg d.name=some (.ref fa) ->
   ∃ (fd:FuncData) (tabs:List (Addr × Addr)),(∀ q ∈ tabs,PySem.W.codeHdIn (K w.params) q.1 q.2=true/\q.2 ∈ ts/\(K w.params).lookup q.2=none)/\(∀ (s:Shared) (u:Value),BindsTo s fd ⟨[u],[]⟩ [(x,u)]) /\
    ∀ base:Heap,(K w.params).In base->base.Ns mainGlobals mg->BmAt mg base->FnOk l.prog w (K w.params) mg base (CX w) k fa fd [x] (sp w tabs))
  (hsp : ∀ (w:World) (tabs:List (Addr × Addr)) (H:Hp) (a:Addr) (ns:List Int),ns.length<=n->(∀ q ∈ tabs,H q.2=some (.tbl #[]))->SqL (K w.params) H a (ns.map V.int)->sp w tabs [.ref a] H (fun v _=>v = .bl true) fun _ _ _=>False)
  (hCX : ∀ (w:World) (H:Hp) (s:Shared) (e:Value) (s':Shared),CX w [] H s (fun _ _ _=>False) e s'->False) :
  PySem.W.WalkO q loose XP YP l.row.toRowW d [] (fun f vs=>PySem.call f vs):= by
 refine Att.attach_call hn hdf fun w s₀ s₁ mg mb fa o pm cd doc a vs ns G Y ho hd hcd hmg hobj hints hlen hg=>?_
 obtain ⟨KX,hts⟩:=hY w _ Y
 obtain ⟨fd,tabs,hT,hb,hF⟩:=F w mg fa _ KX G.T.g hmg
 obtain ⟨bm,ob,b1,b2,b3,b4,b5,b6⟩:=G.T.bmain
 exact law_callT KX G.T.g G.T.b G.T.builtins G.T.nolimit hg ⟨bm,ob,b1,b2,b3,b4,b5,b6⟩ hobj hints (Nat.le_trans hlen hn2) hr (fun q hq=>⟨PySem.W.codeHd_of_K KX (hT q hq).1,hts _ (hT q hq).2.1,(hT q hq).2.2⟩) hF hb (fun H hO hS=>hsp w tabs H a ns hlen hO hS) fun H e s'=>hCX w H s₁ e s'
end L2
namespace L2
open PySem PySem.Spec PyProof.Rows
section
variable {X:Cx} {K:PySem.W.Frag}
theorem pl_getD {H:Hp} {ps:List Addr} {xss:List (List Int)} {i:Nat} (h:PlAt H ps xss) (hi:i<ps.length):PlT H (ps.getD i 0) ((xss.getD i []).map V.int):= by
 obtain ⟨xs,h1,h2⟩:=paired_getM h (List.getElem?_eq_getElem hi)
 rw[List.getD_eq_getElem?_getD,List.getElem?_eq_getElem hi,List.getD_eq_getElem?_getD,h2]
 exact h1
theorem pl_pick {H:Hp} {ps:List Addr} {xss:List (List Int)} (h:PlAt H ps xss) : ∀ {o:List Nat},(∀ i ∈ o,i<ps.length)->PlAt H (o.map fun i=>ps.getD i 0) (o.map fun i=>xss.getD i [])
 | [],_=>.nil
 | i::o,hi=>.cons (pl_getD h (hi i List.mem_cons_self)) (pl_pick h fun j hj=>hi j (List.mem_cons_of_mem _ hj))
theorem call_sortedP (h : X.K = K:=by rfl) : CallR X (.builtin "sorted") (fun xs H Q=>∃ (p : Addr) (ps : List Addr) (xss : List (List Int)),xs = [.ref p] /\ SqL K H p (ps.map V.ref) /\ PlAt H ps xss /\ ps.length < 64 /\ (∀ x ∈ xss,x ≠ []) /\
  ∀ (l:Addr) (qs:List Addr) (yss:List (List Int)),PlAt H qs yss->yss.Perm xss->RowsUp yss->H l=none->Q (.ref l) (upd H l (.lst (qs.map V.ref)))):= by
 subst h
 intro pins s σ H xs us Q I r h
 obtain ⟨p,ps,xss,rfl,hq,hU,h64,hne,q⟩:=h
 have hP:TsAt X.K H ps xss:=L2.Paired.mapP hU fun a xs z=>PlT.sq z
 obtain ⟨u,rfl,ru⟩:=vals1 r
 cases ru
 obtain ⟨its,r',pl,hz⟩:=I.list hq
 have eits:=vals_refs r'
 subst eits
 have hlen:(ps.map Value.ref).length=ps.length:=List.length_map ..
 have hxl:=hP.length
 by_cases h2:2<=ps.length
 ·obtain ⟨m,F⟩:=I.fr
  refine PySem.W.kat_sorted F news_all pl.isList (by omega) (by omega) fun D e1 h' F' N' hD=>?_
  have keep : ∀ b o,b≠X.env.locals->s.heap.get? b=some o->h'.get? b=some o:=fun b o hb e=>by
   cases q:X.base.get? b with
   | some u=>
    have:=I.bk b u q
    rw[e] at this;cases this
    exact F'.keep b _ q
   | none=>exact (N' (b,o) (List.mem_cons_of_mem _ (mem_allNews hb q e))).1
  have tup : ∀ i,i < ps.length -> ∃ o its n,h'.get? (ps.getD i 0) = some o /\ o.cls = .type "tuple" /\ o.data = .seq its n /\ Vals ((xss.getD i []).map V.int) its.toList:=fun i hi=>by
   obtain ⟨its,rv,⟨o,ho,hc,n,hd⟩,_⟩:=I.tuple (ts_getD hP hi)
   have hb:ps.getD i 0≠X.env.locals:=fun z=>by
    obtain ⟨m',⟨o',es,ep,e',d',_⟩,_⟩:=I.loc
    rw[z,e'] at ho;cases ho
    rw[hd] at d';cases d'
   exact ⟨o,its.toArray,n,keep _ o hb ho,hc,hd,rv⟩
  have first : ∀ i,i < ps.length -> ∃ o its n t,h'.get? (ps.getD i 0) = some o /\ o.cls = .type "tuple" /\ o.data = .seq its n /\ its[0]? = some (Value.int ((xss.getD i []).headD 0) t):=fun i hi=>by
   obtain ⟨o,its,n,ho,hc,hd,rv⟩:=tup i hi
   have hx:xss.getD i []≠[]:=hne _ (by rw[getD_lt (by omega)];exact List.getElem_mem _)
   cases e:xss.getD i [] with
   | nil=>exact absurd e hx
   | cons z zs=>
    rw[e] at rv
    obtain ⟨v0,vr,ev⟩ : ∃ v0 vr,its.toList=v0::vr:= by
     cases e2:its.toList with
     | nil=>rw[e2] at rv;cases rv
     | cons a b=>exact ⟨a,b,rfl⟩
    rw[ev] at rv
    cases rv with
    | cons r1 r2=>
     obtain ⟨t,rfl⟩:=r1
     exact ⟨o,its,n,t,ho,hc,hd,by rw[<- Array.getElem?_toList,ev];rfl⟩
  have tups : ∀ (l:List Addr) (k:Nat),(∀ i,i<l.length->l.getD i 0=ps.getD (k+i) 0)->k+l.length<=ps.length -> ∃ fs:List Value,PySem.W.KatTups h' (l.map Value.ref) fs/\fs.length=l.length /\ ∀ v ∈ fs,∃ i t,v=Value.int i t:= by
   intro l
   induction l with
   | nil=>intro k _ _;exact ⟨[],PySem.W.KatTups.nil,rfl,fun v hv=>by simp at hv⟩
   | cons a l ih=>
    intro k hk hl
    rw[List.length_cons] at hl
    obtain ⟨fs,f1,f2,f3⟩:=ih (k+1) (fun i hi=>by
     have:=hk (i+1) (by rw[List.length_cons];omega)
     rw[show k+1+i=k+(i+1) by omega,<- this];rfl) (by omega)
    obtain ⟨o,its,n,t,ho,hc,hd,h0⟩:=first k (by omega)
    have ea:a=ps.getD k 0:=hk 0 (by rw[List.length_cons];omega)
    rw[<- ea] at ho
    refine ⟨_::fs,PySem.W.KatTups.cons ho hc hd h0 f1,by rw[List.length_cons,f2];rfl,fun v hv=>?_⟩
    rcases List.mem_cons.mp hv with e | e
    ·exact ⟨_,_,e⟩
    ·exact f3 v e
  obtain ⟨fs,f1,f2,f3⟩:=tups ps 0 (fun i _=>by rw[Nat.zero_add]) (by omega)
  refine PySem.W.kat_kind (T:=.type "int") f1 (by omega) (fun v hv=>?_) (by decide) ?_
  ·obtain ⟨i,t,rfl⟩:=f3 v hv
   exact PySem.W.Looks.of_pure rfl
  ·rw[hlen]
   obtain ⟨o1,o2⟩:=rows_sorted (xss:=xss) (by omega)
   have hin : ∀ i ∈ (kRun (ltR (lexRk xss)) (PySem.W.kas_sort xss.length)).toList,i<ps.length:=fun i hi=>by
    have:=List.mem_range.mp (o1.mem_iff.mp hi);omega
   rw[hxl]
   refine kWp_runIn (n:=xss.length) (lt:=ltR (lexRk xss)) (fun i j C hi hj hC=>?_) _ (kin_sort (by omega)) ?_
   ·unfold PySem.W.kas_ask
    have gi:(ps.map Value.ref).getD i Value.none = .ref (ps.getD i 0):= by
     rw[List.getD_eq_getElem?_getD,List.getElem?_map,List.getElem?_eq_getElem (by omega),List.getD_eq_getElem?_getD,List.getElem?_eq_getElem (by omega)];rfl
    have gj:(ps.map Value.ref).getD j Value.none = .ref (ps.getD j 0):= by
     rw[List.getD_eq_getElem?_getD,List.getElem?_map,List.getElem?_eq_getElem (by omega),List.getD_eq_getElem?_getD,List.getElem?_eq_getElem (by omega)];rfl
    rw[gi,gj]
    obtain ⟨oi,vi,ni,ho1,_,hd1,rv1⟩:=tup i (by omega)
    obtain ⟨oj,vj,nj,ho2,_,hd2,rv2⟩:=tup j (by omega)
    refine PySem.W.kat_lt ho1 hd1 ho2 hd2 (lex_ask 0 rv1 rv2 rfl ?_)
    rw[<- lexRk_lt hi];exact hC
   ·refine PySem.W.KasFin.intro F' N' (.head fun q hq=>Nat.ne_of_lt (hD q hq)) fun h2' c F2 N2=>?_
    generalize kRun (ltR (lexRk xss)) (PySem.W.kas_sort xss.length)=oo at o1 o2 hin N2
    have eout:(oo.toList.map fun i=>(ps.map Value.ref).getD i Value.none)=(oo.toList.map fun i=>ps.getD i 0).map Value.ref:= by
     rw[List.map_map]
     refine List.map_congr_left fun i hi=>?_
     have:=hin i hi
     rw[List.getD_eq_getElem?_getD,List.getElem?_map,List.getElem?_eq_getElem this]
     show _=Value.ref (ps.getD i 0)
     rw[List.getD_eq_getElem?_getD,List.getElem?_eq_getElem this];rfl
    rw[eout] at N2
    have hol:oo.toList.length=xss.length:=by rw[o1.length_eq,List.length_range]
    obtain ⟨hDn,J⟩:=I.layK (t':=s.toks) F.ns F2 N2 hD (refs_vals (oo.toList.map fun i=>ps.getD i 0)) (le_line (by rw[List.length_map,List.length_map];omega))
    refine ⟨.ref D,_,J,rfl,q D _ _ (pl_pick hU hin) ?_ o2 hDn⟩
    have:=o1.map fun i=>xss.getD i []
    rw[range_getD] at this
    exact this
 ·refine sorted_few pl.isList (by omega) ?_
  obtain ⟨e,he⟩:=sortedAll_at s.heap (ps.map Value.ref) (ps.map Value.ref).toArray
  have up:RowsUp xss:= by
   unfold RowsUp
   match xss,hxl with
   | [],_=>exact .nil
   | [x],_=>exact List.pairwise_singleton _ _
   | x::y::t,hxl=>simp at hxl;omega
  exact ⟨.ref (s.heap.objs.size+1),_,I.laid (t':=s.toks) (fun _ _=>sortedAll_old) (Nat.le_succ _) (show ObjOk X.prog X.w _ _ _ (.lst (ps.map V.ref)) from ⟨le_line (by rw[List.length_map];omega),ps.map Value.ref,e,refs_vals ps,he⟩),rfl,q _ ps xss hU (.refl _) up (I.hok.fresh (Nat.le_succ _))⟩
end
end L2
namespace L2
open PySem PySem.Spec PyProof.Rows
def fsz:Nat->Nat->Nat->List (List Int)
 | 0,_,_=>[]
 | f+1,n,m=>if n=0 then [[]] else (List.range (min n m)).flatMap fun i=>(fsz f (n-(i+1)) (i+1)).map (((i+1:Nat):Int) :: ·)
theorem fsz_len : ∀ f n m,(fsz f n m).length<=2 ^ n
 | 0,n,m=>Nat.zero_le _
 | f+1,n,m=>by
  unfold fsz
  by_cases e:n=0
  ·rw[if_pos e,e];exact Nat.le_refl _
  ·rw[if_neg e]
   have : ∀ k,k<=n->((List.range k).flatMap fun i=>(fsz f (n-(i+1)) (i+1)).map (((i+1:Nat):Int) :: ·)).length+2 ^ (n-k)<=2 ^ n:=fun k=>by
    induction k with
    | zero=>intro _;simp
    | succ k ih=>
     intro hk
     have:=ih (by omega)
     have l:=fsz_len f (n-(k+1)) (k+1)
     have e2:2 ^ (n-k)=2 ^ (n-(k+1))+2 ^ (n-(k+1)):=by rw[show n-k=(n-(k+1))+1 by omega,Nat.pow_succ];omega
     rw[List.range_succ,List.flatMap_append,List.length_append]
     simp only [List.flatMap_cons,List.flatMap_nil,List.append_nil,List.length_map]
     omega
   exact Nat.le_trans (Nat.le_add_right _ _) (this (min n m) (by omega))
theorem fsz_row : ∀ f n m,∀ r ∈ fsz f n m,(∀ x ∈ r,1<=x)/\r.sum=(n:Int)/\r.length<=n
 | 0,n,m,r,h=>by simp [fsz] at h
 | f+1,n,m,r,h=>by
  unfold fsz at h
  by_cases e:n=0
  ·rw[if_pos e] at h
   rw[List.mem_singleton.mp h]
   exact ⟨fun x hx=>by simp at hx,by rw[e];rfl,Nat.zero_le _⟩
  ·rw[if_neg e] at h
   obtain ⟨i,hi,h⟩:=List.mem_flatMap.mp h
   obtain ⟨q,hq,rfl⟩:=List.mem_map.mp h
   have hi:=List.mem_range.mp hi
   obtain ⟨h1,h2,h3⟩:=fsz_row f _ _ q hq
   refine ⟨fun x hx=>?_,by rw[List.sum_cons,h2];omega,by rw[List.length_cons];omega⟩
   rcases List.mem_cons.mp hx with rfl | hx
   ·omega
   ·exact h1 x hx
def fwG:Nat->List Int->List Int
 | _,[]=>[]
 | k,x::L=>List.replicate x.toNat (k:Int)++fwG (k+1) L
def fw (L:List Int):List Int:=fwG 0 L
theorem fwG_snoc (x:Int) : ∀ (L:List Int) (k:Nat),fwG k (L++[x])=fwG k L++List.replicate x.toNat ((k+L.length:Nat):Int)
 | [],k=>by simp [fwG]
 | y::L,k=>by
  show List.replicate y.toNat (k:Int)++fwG (k+1) (L++[x])=(List.replicate y.toNat (k:Int)++fwG (k+1) L)++_
  rw[fwG_snoc x L (k+1),List.append_assoc,List.length_cons,show k+1+L.length=k+(L.length+1) by omega]
theorem fw_take {L:List Int} {i:Nat} {x:Int} (h:L[i]?=some x):fw (L.take (i+1))=fw (L.take i)++List.replicate x.toNat (i:Int):= by
 unfold fw
 rw[take_snoc h,fwG_snoc,Nat.zero_add,List.length_take]
 have:=(List.getElem?_eq_some_iff.mp h).1
 rw[show min i L.length=i by omega]
def insL (x:List Int):List (List Int)->List (List Int)
 | []=>[x]
 | y::l=>if HT.lexLt x y=true then x::y::l else y::insL x l
def FW (n:Nat):List (List Int):=((fsz 10 n n).map fw).foldr insL []
def allUp:List (List Int)->Bool
 | []=>true
 | x::l=>l.all (fun y=>!HT.lexLt y x)&&allUp l
theorem allUp_up : ∀ {l:List (List Int)},allUp l=true->RowsUp l
 | [],_=>.nil
 | x::l,h=>by
  unfold allUp at h
  rw[Bool.and_eq_true,List.all_eq_true] at h
  exact List.Pairwise.cons (fun y hy=>by have:=h.1 y hy;simpa using this) (allUp_up h.2)
theorem FW_up : ∀ n<10,allUp (FW n)=true/\((FW n).isPerm ((fsz 10 n n).map fw))=true/\(FW n).length<=30/\(0<n->0<(FW n).length):=by decide +kernel
theorem FW_eq {n:Nat} (hn:n<10) {R:List (List Int)} (hp:R.Perm ((fsz 10 n n).map fw)) (hu:RowsUp R):R=FW n:=
 rowsUp_uniq hu (allUp_up (FW_up n hn).1) (hp.trans (List.isPerm_iff.mp (FW_up n hn).2.1).symm)
theorem FW_way : ∀ n<10,0<n -> ∀ r ∈ FW n,wayGo 0 r=true/\r.length=n:=by decide +kernel
def mxS (n:Int) (row:List Int):Int:=match row.getLast? with
 | none=>n-row.sum
 | some z=>min (n-row.sum) z
def extS (n:Int) (row:List Int):List (List Int):=(List.range (mxS n row).toNat).map fun (i:Nat)=>row++[(i:Int)+1]
def shR (n:Int):Nat->List (List Int)
 | 0=>[[]]
 | s+1=>((shR n s).flatMap (extS n)).filter fun r=>decide (r.sum<n)
def shW (n:Int):Nat->List (List Int)
 | 0=>[]
 | s+1=>shW n s++((shR n s).flatMap (extS n)).filter fun r=>decide (r.sum=n)
theorem shR_ok : ∀ n:Nat,n<10 -> ∀ s:Nat,s<10->(shR (n:Int) s).length<=100/\((shR (n:Int) s).flatMap (extS (n:Int))).length<=100/\(shW (n:Int) s).length<=100 /\ ∀ r ∈ shR (n:Int) s,r.length=s/\0<=r.sum/\r.sum<=n /\ -100<=mxS (n:Int) r/\mxS (n:Int) r<=100:=by decide +kernel
theorem shW_ok : ∀ n:Nat,n<10->0<n -> ∀ r ∈ shW (n:Int) n,r.length<=9/\(∀ x ∈ r,0<=x/\x<=9)/\0<r.length:=by decide +kernel
theorem shW_FW : ∀ n:Nat,n<10->0<n->(FW n).isPerm ((shW (n:Int) n).map fw)=true/\(shW (n:Int) n).length<=30:=by decide +kernel
theorem FW_eqS {n:Nat} (hn:n<10) (h0:0<n) {R:List (List Int)} (hp:R.Perm ((shW (n:Int) n).map fw)) (hu:RowsUp R):R=FW n:=
 rowsUp_uniq hu (allUp_up (FW_up n hn).1) (hp.trans (List.isPerm_iff.mp (shW_FW n hn h0).1).symm)
def posW (n i:Nat):Nat:=((wys n).map (·.1)).idxOf ((FW n).getD i [])
def repW (n j:Nat):Nat:=(FW n).findIdx fun r=>decide (srt (lotS r (fresh 0 r).toNat)=srt (szs ((wys n).getD j ([],0))))
theorem pos_ok : ∀ n:Nat,n<6->0<n->(∀ i,i<(FW n).length->posW n i<(wys n).length/\((wys n).getD (posW n i) ([],0)).1=(FW n).getD i []/\(∀ k,k<i->posW n k<posW n i)):=by decide +kernel
theorem rep_ok : ∀ n:Nat,n<6->0<n->(∀ j,j<(wys n).length->repW n j<(FW n).length/\posW n (repW n j)<=j/\srt (lotS ((FW n).getD (repW n j) []) (fresh 0 ((FW n).getD (repW n j) [])).toNat)=srt (szs ((wys n).getD j ([],0)))):=by decide +kernel
theorem srt_phi (S:List Int) {L M:List Int} (h:srt L=srt M):phi S L=phi S M:= by
 rw[<- phi_perm S (srt_perm L),h,phi_perm S (srt_perm M)]
def kfW (S:List Int) (n:Nat) (i:Nat):Int:=phi S (lotS ((FW n).getD i []) (fresh 0 ((FW n).getD i [])).toNat)
def tfW (S:List Int) (n:Nat) (j:Nat):Int:=phi S (szs ((wys n).getD j ([],0)))
theorem top_same {n:Nat} (hn:n<6) (h0:0<n) (S:List Int) {i j:Nat} (hi:i<(FW n).length) (hj:j<(wys n).length) (ti:TopAt (kfW S n) (FW n).length i) (tj:TopAt (tfW S n) (wys n).length j):(FW n).getD i []=((wys n).getD j ([],0)).1:= by
 have P:=pos_ok n hn h0
 have hw:=wys_ok n hn
 have same : ∀ k,k<(FW n).length->tfW S n (posW n k)=kfW S n k:=fun k hk=>by
  obtain ⟨p1,p2,_⟩:=P k hk
  unfold tfW kfW
  have hm:(wys n).getD (posW n k) ([],0) ∈ wys n:=by rw[getD_lt p1];exact List.getElem_mem _
  obtain ⟨_,w2,_⟩:=hw _ hm
  rw[<- p2,w2,Int.toNat_natCast];rfl
 obtain ⟨r1,r2,r3⟩:=rep_ok n hn h0 j hj
 have e1:kfW S n (repW n j)=tfW S n j:=srt_phi S r3
 have q1:=P (repW n j) r1
 have e2:=same (repW n j) r1
 have hpj:posW n (repW n j)=j:= by
  rcases Nat.lt_or_ge (posW n (repW n j)) j with h | h
  ·have:=(tj _ q1.1).2 h
   omega
  ·omega
 have k1:=(ti (repW n j) r1).1
 have k2:=(tj (posW n i) (P i hi).1).1
 rw[same i hi] at k2
 have:repW n j=i:= by
  rcases Nat.lt_trichotomy (repW n j) i with h | h | h
  ·have:=(ti (repW n j) r1).2 h
   omega
  ·exact h
  ·have h2:=q1.2.2 i h
   have:=(tj (posW n i) (P i hi).1).2 (by omega)
   rw[same i hi] at this
   omega
 rw[<- this,<- q1.2.1,hpj]
theorem lcw_enumL {K:PySem.W.Frag} {a:Addr} {xs:List V} {g:TG} {tc:TT} {tm:TM} {σ0:St} {ys0:List V} {H:Hp} {F:List V->Hp->Prop} (Pv:Nat->List V->Hp->Prop) (h0:Pv 0 ys0 H) (hl : ∀ i ys H,i<=xs.length->Pv i ys H->SqL K H a xs/\ys.length<=sizeLine)
  (hs : ∀ i x ys H t,xs[i]?=some x->Pv i ys H->H t=none->g (.ref t) σ0 (upd H t (.tup [.int (i:Int),x])) fun σ2 H2=>tc σ2 H2 fun b H3=>if b=true then tm σ2 H3 ys (Pv (i+1)) else Pv (i+1) ys H3)
  (hd : ∀ ys H,Pv xs.length ys H->F ys H):LcW (IteL K a) g tc tm σ0 ys0 H F:= by
 refine ⟨fun i m ys H=>m=xs.length-i/\i<=xs.length/\Pv i ys H,⟨xs.length,by simp,Nat.zero_le _,h0⟩,?_⟩
 rintro i m ys H ⟨rfl,hi,p⟩
 obtain ⟨q,hy⟩:=hl i ys H hi p
 refine ⟨hy,?_⟩
 by_cases hlt:i<xs.length
 ·refine .inr ⟨⟨xs,xs[i],q,by simp [hlt]⟩,Pv (i+1),fun ys' H' p'=>⟨xs.length-(i+1),by omega,rfl,hlt,p'⟩,fun x H' y=>?_⟩
  obtain ⟨t,y,ht,rfl,rfl,hy⟩:=y
  exact hs i y ys _ t (hy xs q) p ht
 ·have e:i=xs.length:=by omega
  subst e
  exact .inl ⟨⟨xs,q,Nat.le_refl _⟩,hd ys H p⟩
theorem fw_len : ∀ (L:List Int) (k:Nat),(∀ x ∈ L,0<=x/\x<=9)->(fwG k L).length<=9*L.length
 | [],_,_=>Nat.zero_le _
 | x::L,k,h=>by
  have:=fw_len L (k+1) fun y hy=>h y (List.mem_cons_of_mem _ hy)
  have:=h x List.mem_cons_self
  show (List.replicate x.toNat (k:Int)++fwG (k+1) L).length<=_
  rw[List.length_append,List.length_replicate,List.length_cons]
  omega
theorem rep_snoc {α:Type} (n:Nat) (x:α):List.replicate (n+1) x=List.replicate n x++[x]:=List.replicate_succ' ..
theorem lcYM {tm:TM} {σ2:St} {H2:Hp} {ys:List V} {N:List V->Hp->Prop} {N':Hp->Prop} (h:tm σ2 H2 ys N):tYes σ2 H2 fun b H3=>if b=true then tm σ2 H3 ys N else N' H3:= by
 show if true=true then tm σ2 H2 ys N else N' H2
 exact iteT h
theorem cut_tail1 (ns:List Int):cutV (ns.map V.int) (some (-1)) none=(ns.getLast?.toList).map V.int:= by
 rcases List.eq_nil_or_concat ns with rfl | ⟨L,z,rfl⟩
 ·rfl
 ·rw[List.concat_eq_append]
  unfold cutV
  have e:HT.sIx ((L++[z]).map V.int).length 0 (some (-1))=L.length:= by
   show (if (-1:Int)<0 then ((-1:Int)+(((L++[z]).map V.int).length:Int)).toNat else min (-1:Int).toNat ((L++[z]).map V.int).length)=_
   rw[if_pos (by decide),List.length_map,List.length_append,List.length_singleton];omega
  rw[e,HT.sIx_none,List.length_map,List.length_append,List.length_singleton,List.map_append,List.drop_append_of_le_length (by rw[List.length_map];exact Nat.le_refl _),show (L.map V.int).drop L.length=[] by rw[<- List.map_drop,List.drop_length];rfl]
  simp
theorem mxS_min {n:Int} {row:List Int} {m:Int} (h:IsMin ([n-row.sum]++row.getLast?.toList) m):m=mxS n row:= by
 unfold mxS
 obtain ⟨h1,h2⟩:=h
 cases e:row.getLast? with
 | none=>rw[e] at h1;simpa using h1
 | some z=>
  rw[e] at h1 h2
  have a1:=h2 (n-row.sum) (by simp)
  have a2:=h2 z (by simp)
  show m=min (n-row.sum) z
  have:m=n-row.sum\/m=z:=by simpa using h1
  omega
theorem eqVs_ints : ∀ L:List Int,eqVs (L.map V.int) (L.map V.int)=true
 | []=>rfl
 | a::L=>by
  show (eqV (.int a) (.int a)&&eqVs (L.map V.int) (L.map V.int))=true
  rw[eqVs_ints L]
  have:eqV (.int a) (.int a)=true:=by unfold eqV;simp
  rw[this];rfl
theorem hole_keep {H:Hp} {P:Addr} {pos:Pos} {q:Str} (h:TabOk H P pos q) {b:Addr} {o:HO} (e:H b=some o) (hne : ∀ ps,o ≠ .tbl ps):hole H P b=some o:= by
 obtain ⟨ps,hP,_⟩:=h
 unfold hole
 rw[if_neg (fun z=>by rw[z,hP] at e;cases e;exact hne _ rfl)];exact e
theorem hole_seq {K:PySem.W.Frag} {H:Hp} {P a:Addr} {pos:Pos} {q:Str} {xs:List V} (h:TabOk H P pos q) (hs:SqL K H a xs):SqL K (hole H P) a xs:= by
 rcases hs with (e | ⟨u,e⟩) | e
 ·exact .inl (.inl (hole_keep h e fun _ z=>by cases z))
 ·exact .inl (.inr ⟨u,hole_keep h e fun _ z=>by cases z⟩)
 ·exact .inr e
theorem top_uniq {kf:Nat->Int} {n i j:Nat} (hi:i<n) (hj:j<n) (ti:TopAt kf n i) (tj:TopAt kf n j):i=j:= by
 rcases Nat.lt_trichotomy i j with h | h | h
 ·have:=(tj i hi).2 h
  have:=(ti j hj).1
  omega
 ·exact h
 ·have:=(ti j hj).2 h
  have:=(tj i hi).1
  omega
theorem top_idx {T:List Int} {m:Int} (h:IsMax T m):T.idxOf m<T.length/\TopAt (fun j=>T.getD j 0) T.length (T.idxOf m):= by
 have hl:=List.idxOf_lt_length_of_mem h.1
 have hg:T.getD (T.idxOf m) 0=m:=by rw[getD_lt hl];simp
 refine ⟨hl,fun j hj=>?_⟩
 have hjm:T.getD j 0 ∈ T:=by rw[getD_lt hj];exact List.getElem_mem _
 have:=h.2 _ hjm
 dsimp only
 rw[hg]
 refine ⟨this,fun hlt=>?_⟩
 have hne:T.getD j 0≠m:=fun e=>by
  have : ∀ (T:List Int) (j:Nat),j<T.idxOf m->T.getD j 0≠m:=fun T=>by
   induction T with
   | nil=>intro j hj;simp at hj
   | cons a T ih=>
    intro j hj
    rw[List.idxOf_cons] at hj
    by_cases e:a=m
    ·subst e;simp at hj
    ·have e':(a==m)=false:=beq_eq_false_iff_ne.mpr e
     rw[e'] at hj
     cases j with
     | zero=>exact e
     | succ j=>exact ih j (by simp at hj;omega)
  exact this T j hlt e
 omega
end L2
set_option maxHeartbeats 4000000
local macro_rules | `(tactic| trivial)=>`(tactic| exact ⟨rfl,rfl,rfl,by decide +kernel,rfl,by decide +kernel,by decide +kernel⟩)
namespace Lw
open PySem L2
def top (i:Nat):Stmt:=PySem.Challenge.pw_censers_k33_whole_likeliest_ways.main.body.getD i (.Pass ⟨0,0,0,0⟩)
abbrev s_law_draw:Stmt:=top 28
abbrev s_law_cell:Stmt:=top 29
abbrev s_law_many:Stmt:=top 30
abbrev scheck_many:Stmt:=top 10
abbrev spicks:Stmt:=top 13
abbrev sfillings:Stmt:=top 14
abbrev sis_name:Stmt:=top 24
abbrev scheck_woods:Stmt:=top 25
abbrev sTray___init__:Stmt:=inClass (top 26) 0
abbrev sTray_all_woods:Stmt:=inClass (top 26) 1
abbrev sTray_total:Stmt:=inClass (top 26) 3
abbrev scheck_enough:Stmt:=top 15
abbrev sorders_behind:Stmt:=top 16
abbrev sfalling_sizes:Stmt:=top 17
abbrev sfirst_way:Stmt:=top 18
abbrev slikeliest:Stmt:=top 19
abbrev s_law_num:Stmt:=top 31
abbrev s_law_row_ok:Stmt:=top 32
abbrev s_law_way_ok:Stmt:=top 33
abbrev s_law_all:Stmt:=top 34
abbrev s_law_split:Stmt:=top 35
abbrev s_law_names:Stmt:=top 36
abbrev s_law_woods:Stmt:=top 37
abbrev s_law_assigned:Stmt:=top 38
abbrev s_law_draws:Stmt:=top 39
abbrev s_law_total:Stmt:=top 40
abbrev s_law_rich_woods:Stmt:=top 41
abbrev s_law_shapes:Stmt:=top 42
abbrev s_law_first_of:Stmt:=top 43
abbrev s_law_tried:Stmt:=top 44
abbrev slaw:Stmt:=top 45
structure Bs (mg:Str->Option Value):Prop where
 all : mg "all" = none
 bool : mg "bool" = none
 dict : mg "dict" = none
 enumerate : mg "enumerate" = none
 int : mg "int" = none
 isinstance : mg "isinstance" = none
 len : mg "len" = none
 list : mg "list" = none
 max : mg "max" = none
 min : mg "min" = none
 range : mg "range" = none
 set : mg "set" = none
 sorted : mg "sorted" = none
 sum : mg "sum" = none
 tuple : mg "tuple" = none
structure Gs (mg:Str->Option Value):Prop where
 yes:True
 MOST_CENSERS : ∃ t,mg "MOST_CENSERS" = some (.int 9 t)
 LONGEST_NAME : ∃ t,mg "LONGEST_NAME" = some (.int 12 t)
 MOST_WOODS : ∃ t,mg "MOST_WOODS" = some (.int 6 t)
 MOST_PACKETS : ∃ t,mg "MOST_PACKETS" = some (.int 99 t)
theorem paired_get {α β:Type} {R:α->β->Prop} : ∀ {l1:List α} {l2:List β} {j:Nat} {a:α},Paired R l1 l2->l1[j]?=some a -> ∃ b,R a b/\l2[j]?=some b
 | _,_,_,_,.nil,h=>by simp at h
 | _,_,0,_,.cons r t,h=>by simp at h;subst h;exact ⟨_,r,rfl⟩
 | _,_,j+1,_,.cons r t,h=>by
  obtain ⟨b,q,e⟩:=paired_get (j:=j) t (by simpa using h)
  exact ⟨b,q,by simpa using e⟩
theorem paired_app {α β:Type} {R:α->β->Prop} : ∀ {l1:List α} {l2:List β} {k1:List α} {k2:List β},Paired R l1 l2->Paired R k1 k2->Paired R (l1++k1) (l2++k2)
 | _,_,_,_,.nil,h=>h
 | _,_,_,_,.cons r t,h=>.cons r (paired_app t h)
def spRowOk (K:PySem.W.Frag):Sp:=fun vs H Q _=>∃ (a:Addr) (ns:List Int),vs=[.ref a]/\SqT K H a (ns.map V.int)/\ns.length<=1000 /\ ∀ H',Same H H'->Q (.bl (rowOk ns)) H'
def spNum:Sp:=fun vs H Q _=>∃ z:Int,vs=[.int z]/\Q (.bl true) H
def spWayOkF (K:PySem.W.Frag):Sp:=fun vs H Q _=>∃ (a:Addr) (ns:List Int) (n:Int),vs=[.ref a,.int n]/\PlT H a (ns.map V.int)/\ns.length<=1000 /\ ∀ H',Same H H'->Q (.bl (decide ((ns.length:Int)=n)&&rowOk ns)) H'
def spIsName (K:PySem.W.Frag):Sp:=fun vs H Q _=>∃ z:Str,vs=[.str z]/\z.length<=1000 /\ ∀ H',Same H H'->Q (.bl (isNm z)) H'
def spCheckWoods (K:PySem.W.Frag) (C:Addr):Sp:=fun vs H Q E=>∃ (l:Addr) (as:List Addr) (W:Wds),vs=[.ref l]/\H l=some (.lst (as.map V.ref))/\WAt H as W/\W.length<=50/\(∀ w ∈ W,w.1.length<=1000)/\(woodsOk W=true -> ∀ H',Same H H'->Q .non H')/\(woodsOk W=false -> ∀ H',Same H H'->E (.ref C) none H')
def spInit (K:PySem.W.Frag) (C CB:Addr):Sp:=fun vs H Q E=>∃ (p dx l:Addr) (as:List Addr) (W:Wds),vs=[.ref p,.ref l]/\H p=some (.ins C dx [])/\H l=some (.lst (as.map V.ref))/\WAt H as W/\W.length<=50/\(∀ w ∈ W,w.1.length<=1000)/\(woodsOk W=true -> ∀ (q:Addr) (H':Hp),H q=none->H' q=some (.lst (as.map V.ref))->H' p=some (.ins C dx (stkF q))->(∀ b o,H b=some o->b≠p->H' b=some o)->Q .non H')/\(woodsOk W=false -> ∀ H',Same H H'->E (.ref CB) none H')
def spAllWoods (K:PySem.W.Frag) (C:Addr):Sp:=fun vs H Q _=>∃ (p:Addr) (W:Wds),vs=[.ref p]/\TrayAt C H p W /\ ∀ (q:Addr) (as:List Addr) (H':Hp),H q=none->Same H H'->H' q=some (.lst (as.map V.ref))->WAt H' as W->Q (.ref q) H'
def spTotal (K:PySem.W.Frag) (C:Addr):Sp:=fun vs H Q _=>∃ (p:Addr) (W:Wds),vs=[.ref p]/\TrayAt C H p W/\W.length<=50 /\ ∀ H',Same H H'->Q (.int (W.map (·.2)).sum) H'
def spNames (K:PySem.W.Frag):Sp:=fun vs H Q _=>∃ (c n:Int),vs=[.int c,.int n]/\0<=n/\n<=9 /\ ∀ (p:Addr) (S:List Str) (H':Hp),H p=none->Same H H'->H' p=some (.lst (S.map V.str))->(S.length:Int)=n->S.Nodup->(∀ z ∈ S,isNm z=true)->Q (.ref p) H'
def spLWoods (K:PySem.W.Frag):Sp:=fun vs H Q _=>∃ c:Int,vs=[.int c] /\ ∀ (t l:Addr) (as:List Addr) (W:Wds) (z:Str) (H':Hp),H t=none->H l=none->Same H H'->H' t=some (.tup [.ref l,.str z])->H' l=some (.lst (as.map V.ref))->WAt H' as W->woodsOk W=true->countW W z=none->isNm z=true->Q (.ref t) H'
def spCheckMany (C:Addr):Sp:=fun vs H Q E=>∃ n:Int,vs=[.int n]/\(1<=n->n<=9->Q .non H)/\(¬ (1<=n/\n<=9)->E (.ref C) none H)
def spPicks:Sp:=fun vs H Q _=>∃ (t:Int) (n:Nat),vs=[.int t,.int n]/\(-1000<=t/\t<=1000)/\n<=9/\Q (.int (dn t n)) H
def spEnough (K:PySem.W.Frag) (C CF:Addr):Sp:=fun vs H Q E=>∃ (p:Addr) (W:Wds) (n:Int),vs=[.ref p,.int n]/\TrayAt C H p W/\W.length<=50/\(n<=totW W -> ∀ H',Same H H'->Q .non H')/\(totW W<n -> ∀ H',Same H H'->E (.ref CF) none H')
def spLTot (K:PySem.W.Frag):Sp:=fun vs H Q _=>∃ (l:Addr) (as:List Addr) (W:Wds),vs=[.ref l]/\H l=some (.lst (as.map V.ref))/\WAt H as W/\W.length<=50 /\ ∀ H',Same H H'->Q (.int (totW W)) H'
def spFillings (K:PySem.W.Frag):Sp:=fun vs H Q _=>∃ (l m:Addr) (S L:List Int),vs=[.ref l,.ref m]/\SqL K H l (S.map V.int)/\SqL K H m (L.map V.int)/\(∀ p ∈ S,0<=p/\p<=99)/\S.length<=6/\(∀ s ∈ L,1<=s)/\L.sum<=9 /\ ∀ H',Same H H'->Q (.int (phi S L)) H'
def spOB0 (K:PySem.W.Frag) (C:Addr):Sp:=fun vs H Q _=>∃ (p l a:Addr) (W:Wds) (ws:List Int),vs=[.ref p,.ref l,.ref a]/\TrayAt C H p W/\woodsOk W=true/\H l=some (.lst [])/\PlT H a (ws.map V.int)/\isWay ws=true /\ ∀ H',Same H H'->Q (.int (phi (W.map (·.2)) (lotS ws (fresh 0 ws).toNat))) H'
def spAssigned0 (K:PySem.W.Frag):Sp:=fun vs H Q _=>∃ (n o a:Addr) (N:List Str) (ws:List Int),vs=[.ref n,.ref o,.ref a]/\H n=some (.lst (N.map V.str))/\N.length<=6/\H o=some (.lst [])/\SqT K H a (ws.map V.int)/\isWay ws=true /\ ∀ (p:Addr) (ps:List Addr) (H':Hp),Same H H'->H' p=some (.lst (ps.map V.ref))->Paired (fun q (r:List Str)=>H' q=some (.lst (r.map V.str))) ps (rowsL N (fun _ _=>true) (fresh 0 ws).toNat)->Q (.ref p) H'
def spDraws0 (K:PySem.W.Frag):Sp:=fun vs H Q _=>∃ (l o a:Addr) (as:List Addr) (W:Wds) (ws:List Int),vs=[.ref l,.ref o,.ref a]/\H l=some (.lst (as.map V.ref))/\WAt H as W/\woodsOk W=true/\H o=some (.lst [])/\SqT K H a (ws.map V.int)/\isWay ws=true /\ ∀ H',Same H H'->Q (.int (phi (W.map (·.2)) (lotS ws (fresh 0 ws).toNat))) H'
def spRichN (K:PySem.W.Frag):Sp:=fun vs H Q _=>∃ (c n:Int),vs=[.int c,.int n]/\1<=n/\n<=9 /\ ∀ (t l:Addr) (as:List Addr) (W:Wds) (z:Str) (H':Hp),Same H H'->H' t=some (.tup [.ref l,.str z])->H' l=some (.lst (as.map V.ref))->WAt H' as W->woodsOk W=true->n<=totW W->isNm z=true->Q (.ref t) H'
def spAllP (K:PySem.W.Frag):Sp:=fun vs H Q _=>∃ n:Int,vs=[.int n]/\1<=n/\n<=5 /\ ∀ (p:Addr) (ps:List Addr) (H':Hp),Same H H'->H' p=some (.lst (ps.map V.ref))->PlAt H' ps ((wys n.toNat).map (·.1))->Q (.ref p) H'
abbrev lq33 : Str:=(("likeliest" : Str) ++ ".<locals>.") ++ "<lambda>"
def spLawT (K:PySem.W.Frag) (tabs:List (Addr × Addr)):Sp:=fun vs H Q _=>∃ (a:Addr) (ns:List Int),vs=[.ref a]/\SqL K H a (ns.map V.int)/\ns.length<=63/\(∀ q ∈ tabs,H q.2=some (.tbl #[])) /\ ∀ H',Q (.bl true) H'
def spFall (K:PySem.W.Frag) (d:Nat):Sp:=fun vs H Q _=>0<d /\ ∃ n m:Nat,vs=[.int n,.int m]/\n<d/\n<=9/\m<=9 /\ ∀ (p:Addr) (ps:List Addr) (H':Hp),Same H H'->H' p=some (.lst (ps.map V.ref))->LhAt H' ps (fsz d n m)->Q (.ref p) H'
def spFirstW (K:PySem.W.Frag):Sp:=fun vs H Q _=>∃ (l:Addr) (L:List Int),vs=[.ref l]/\SqL K H l (L.map V.int)/\(∀ x ∈ L,0<=x/\x<=9)/\L.length<=9 /\ ∀ (p:Addr) (H':Hp),Same H H'->PlT H' p ((fw L).map V.int)->Q (.ref p) H'
def spLike (K:PySem.W.Frag) (C CM CF PT:Addr):Sp:=fun vs H Q E=>∃ (p:Addr) (W:Wds) (n:Int),vs=[.ref p,.int n]/\TrayAt C H p W/\woodsOk W=true/\TabOk H PT ⟨73,27,73,67⟩ lq33/\(¬ (1<=n/\n<=9) -> ∀ H',Same H H'->E (.ref CM) none H')/\(1<=n->n<=9->totW W<n -> ∀ H',Same H H'->E (.ref CF) none H')/\(1<=n->n<=9->n<=totW W -> ∀ (q:Addr) (i:Nat) (H':Hp),Same (hole H PT) H'->TabOk H' PT ⟨73,27,73,67⟩ lq33->i<(FW n.toNat).length->TopAt (kfW (W.map (·.2)) n.toNat) (FW n.toNat).length i->PlT H' q (((FW n.toNat).getD i []).map V.int)->Q (.ref q) H')
def spTriedL (K : PySem.W.Frag) (C PT : Addr) : Sp:=fun vs H Q _=>∃ (p : Addr) (W : Wds) (n : Int),vs = [.ref p,.int n] /\ TrayAt C H p W /\ woodsOk W = true /\ TabOk H PT ⟨73,27,73,67⟩ lq33 /\ (¬ (1 <= n /\ n <= 9) -> ∀ (q : Addr) (H' : Hp),Same H H' -> H' q = some (.lst [.str "count"]) -> Q (.ref q) H') /\ (1 <= n -> n <= 9 -> totW W < n -> ∀ (q : Addr) (H' : Hp),Same H H' -> H' q = some (.lst [.str "few"]) -> Q (.ref q) H') /\ (1 <= n -> n <= 9 -> n <= totW W -> ∀ (q : Addr) (i : Nat) (H' : Hp),Same (hole H PT) H' -> TabOk H' PT ⟨73,27,73,67⟩ lq33 -> i < (FW n.toNat).length -> TopAt (kfW (W.map (·.2)) n.toNat) (FW n.toNat).length i -> PlT H' q (((FW n.toNat).getD i []).map V.int) -> Q (.ref q) H')
def spShapes (K:PySem.W.Frag):Sp:=fun vs H Q _=>∃ n:Nat,vs=[.int n]/\1<=n/\n<=9 /\ ∀ (p:Addr) (ps:List Addr) (H':Hp),Same H H'->H' p=some (.lst (ps.map V.ref))->LhAt H' ps (shW (n:Int) n)->Q (.ref p) H'
def spFirstOf (K:PySem.W.Frag):Sp:=fun vs H Q _=>∃ (l:Addr) (L:List Int),vs=[.ref l]/\SqL K H l (L.map V.int)/\(∀ x ∈ L,0<=x/\x<=9)/\L.length<=9 /\ ∀ (p:Addr) (H':Hp),Same H H'->PlT H' p ((fw L).map V.int)->Q (.ref p) H'
section
variable {P:Program} {w:World} {K:PySem.W.Frag} {mg:Str->Option Value} {base:Heap} {CBadTray:Addr} {CNoWood:Addr} {CBadMany:Addr} {CBadWay:Addr} {CTooFew:Addr} {CTray:Addr} {CTlikeliest PTlikeliest:Addr}
theorem sc_law_draw : FnScope (["_law_cell_here","_law_limits","_law_rest","_law_seed","_law_row","_law_limit"]) (["_law_cell_here","_law_limits"]) (defScope s_law_draw):=by trivial
theorem ok_law_draw {f : Addr} {fd : FuncData} (F : Fun K "_law_draw" "_law_draw" s_law_draw f fd) (B : Bs mg) (T : Gs mg)   : FnOk P w K mg base CX0 1 f fd ["_law_cell_here","_law_limits"] (spDraw K):= by
 have sc:=sc_law_draw
 refine F.ok sc (fun vs H Q E h=>?_) (fun cdv A outer s H vs Q E hr h=>?_)
 ·obtain ⟨c,a,ls,rfl,_⟩:=h;rfl
 ·obtain ⟨c,a,ls,rfl,hS,hL,hlen,k⟩:=h
  refine ⟨_,(pss_cons (ps_set (i:=2) sc.nd rfl (Or.inl rfl) (pe_ifExp (pt_cmpR op_ge (pv 0) (pe_op op_pow pe_int pe_int) (nomark _)) (pv 0) pe_int))
   (pss_cons (ps_set (i:=3) sc.nd rfl (Or.inl rfl) (pe_op op_mod (pe_op op_add (pe_op op_mulW (pe_op op_mod (pv 0) pe_int) pe_int) pe_int) pe_int))
   (pss_cons (ps_set (i:=4) sc.nd rfl (Or.inl rfl) (pe_lst pa_nil))
   (pss_cons (ps_for PassesOwn.never rfl (kpi_list (K:=K) (pv 1)) (pg_name (i:=5) sc.nd rfl (Or.inl rfl))
   (pss_cons (ps_set (i:=3) sc.nd rfl (Or.inl rfl) (pe_op op_mod (pe_op op_add (pe_op op_mulW (pe_op op_mod (pe_op op_mulW (pv 3) (pv 3)) pe_int) (pe_op op_add (pv 3) pe_int)) pe_int) pe_int))
   (pss_cons (ps_expr (pe_bm PySem.F.plainAttrs_list PySem.F.slot_list_append PySem.F.type_list_append mt_append (pv 4) (pa_cons (pe_ifExp (pt_cmpR op_gt (pv 2) pe_int (nomark _)) (pe_op op_mod (pv 2) (pv 5)) (pe_op op_mod (pe_op op_add (pe_op op_fdivW (pv 3) pe_int) (pe_op op_mulW (pe_op op_mod (pv 3) pe_int) pe_int)) (pv 5))) pa_nil)))
   (pss_one (ps_set (i:=2) sc.nd rfl (Or.inl rfl) (pe_op op_fdivW (pv 2) (pv 5)))))))
   (pss_one (ps_ret (pv 4))))))),?_⟩
  refine ⟨_,rfl,_,_,rfl,rfl,⟨by decide,by decide,by decide⟩,_,_,rfl,rfl,_,rfl,?_⟩
  refine ite_P (fun _=>True) (fun r _=>?_) (fun Q' h=>⟨_,rfl,h _ trivial⟩) (fun Q' h=>h _ trivial)
  refine ⟨_,rfl,_,_,rfl,rfl,p0,_,_,rfl,rfl,mulOk_r ⟨by decide,by decide⟩,_,_,rfl,rfl,_,_,rfl,rfl,p0,?_⟩
  refine ⟨Nat.zero_le _,fun p hp=>?_⟩
  have hS1:SqL K (upd H p (.lst [])) a (ls.map V.int):=(Same.new hp).seq hS
  refine ⟨_,rfl,a,rfl,⟨_,hS1⟩,for_list (K:=K) (a:=a) (xs:=ls.map V.int) (fun i σ H2=>∃ (r seed:Int) (rs:List Int) (v:Option V),σ=[some (.int c),some (.ref a),some (.int r),some (.int seed),some (.ref p),v]/\0<=seed/\seed<2147483647/\Same H H2/\H2 p=some (.lst (rs.map V.int))/\Drawn' (ls.take i) rs)
   ⟨r,_,[],none,rfl,(modB _ (by decide)).1,(modB _ (by decide)).2,Same.new hp,upd_same,.nil⟩ (fun i σ H2 _ ⟨_,_,_,_,_,_,_,s2,_,_⟩=>s2.seq hS) ?_ ?_⟩
  ·rintro i y σ H2 hi ⟨r,seed,rs,v,rfl,hs0,hs1,s2,hp2,hD⟩
   obtain ⟨l,rfl,hl,hil⟩:=getI hi
   have hlim:=hL l (List.mem_of_getElem? hl)
   have hrl:rs.length=i:=by have:=hD.length;rw[List.length_take] at this;omega
   refine ⟨_,rfl,_,rfl,_,_,rfl,rfl,mulOk_r ⟨by omega,by omega⟩,_,_,rfl,rfl,p0,_,rfl,_,_,rfl,rfl,_,_,rfl,rfl,mulOk_r ⟨by omega,by omega⟩,_,_,rfl,rfl,_,_,rfl,rfl,p0,?_⟩
   refine ⟨_,rfl,.inl ⟨rfl,_,SqL.of hp2⟩,_,rfl,_,_,rfl,rfl,_,rfl,?_⟩
   refine ite_P (fun q=>0<=q/\q<l) (fun q hq=>?_) (fun Q' h=>⟨_,rfl,_,rfl,_,_,rfl,rfl,hlim.1,h _ (modB _ hlim.1)⟩)
    (fun Q' h=>⟨_,rfl,_,_,rfl,rfl,⟨by decide,by decide⟩,_,rfl,_,_,rfl,rfl,p0,_,_,rfl,rfl,mulOk_r ⟨by decide,by decide⟩,_,_,rfl,rfl,_,rfl,_,_,rfl,rfl,hlim.1,h _ (modB _ hlim.1)⟩)
   obtain ⟨q0,q1⟩:=hq
   refine ⟨p,_,_,rfl,rfl,hp2,lt_line (by rw[ltm];omega),?_⟩
   refine ⟨_,rfl,_,rfl,_,_,rfl,rfl,hlim,?_⟩
   refine ⟨_,_,rs++[q],_,rfl,(modB _ (by decide)).1,(modB _ (by decide)).2,s2.put hp,by rw[upd_same,mapV],?_⟩
   rw[take_snoc hl]
   exact drawn_snoc hD q0 q1
  ·rintro σ H2 ⟨r,seed,rs,v,rfl,hs0,hs1,s2,hp2,hD⟩
   rw[ltm,List.take_length] at hD
   exact ⟨_,rfl,k p rs H2 hp s2 hp2 hD⟩
theorem sc_law_cell : FnScope (["_law_script","_law_k"]) (["_law_script","_law_k"]) (defScope s_law_cell):=by trivial
theorem ok_law_cell {f : Addr} {fd : FuncData} (F : Fun K "_law_cell" "_law_cell" s_law_cell f fd) (B : Bs mg) (T : Gs mg)   : FnOk P w K mg base CX0 1 f fd ["_law_script","_law_k"] (spCell K):= by
 have sc:=sc_law_cell
 refine F.ok sc (fun vs H Q E h=>?_) (fun cdv A outer s H vs Q E hr h=>?_)
 ·obtain ⟨a,ns,kk,rfl,_⟩:=h;rfl
 ·obtain ⟨a,ns,kk,rfl,hS,h0,h1,hl,k⟩:=h
  refine ⟨_,(pss_cons (ps_if (pt_cmpR op_lt (pv 1) (pe_callB (kc_len (K:=K)) (by rfl) B.len PyProof.Rows.Boot.«len» (pa_cons (pv 0) pa_nil)) (nomark _)) (pss_one (ps_ret (pe_ix (kix_list (K:=K)) (pv 0) (pv 1) (fun _ _=>rfl)))) pss_nil)
   (pss_one (ps_ret (pe_op op_add (pe_op op_add (pe_op op_mulW (pe_op op_mod (pe_callB (kc_sum (K:=K)) (by rfl) B.sum PyProof.Rows.Boot.«sum» (pa_cons (pv 0) pa_nil)) pe_int) pe_int) (pe_op op_mulW (pe_callB (kc_len (K:=K)) (by rfl) B.len PyProof.Rows.Boot.«len» (pa_cons (pv 0) pa_nil)) pe_int)) (pe_op op_mulW (pv 1) pe_int))))),?_⟩
  refine ⟨_,rfl,_,rfl,a,_,rfl,.inl hS,_,_,rfl,rfl,_,rfl,?_⟩
  rw[ltm]
  refine ite2 (fun hk=>?_) (fun _=>?_)
  ·have hk:kk<(ns.length:Int):=of_decide_eq_true hk
   obtain ⟨j,rfl⟩:=Int.eq_ofNat_of_zero_le h0
   have hj:j<ns.length:=by omega
   refine ⟨_,rfl,_,rfl,a,_,_,_,rfl,rfl,hS,atI_nat (v:=V.int (ns[j])) (by rw[List.getElem?_map,List.getElem?_eq_getElem hj];rfl),k _⟩
  ·refine ⟨_,rfl,a,ns,rfl,.inl hS,_,_,rfl,rfl,p0,_,_,rfl,rfl,mulOk_r ⟨by decide,by decide⟩,_,rfl,a,_,rfl,.inl hS,_,_,rfl,rfl,mulOk_r ⟨by decide,by decide⟩,_,_,rfl,rfl,_,rfl,_,_,rfl,rfl,mulOk_r ⟨by decide,by decide⟩,_,_,rfl,rfl,k _⟩
theorem sc_law_many : FnScope (["_law_script","_law_few"]) (["_law_script","_law_few"]) (defScope s_law_many):=by trivial
theorem ok_law_many {f : Addr} {fd : FuncData} (F : Fun K "_law_many" "_law_many" s_law_many f fd) (B : Bs mg) (T : Gs mg)   : FnOk P w K mg base CX0 1 f fd ["_law_script","_law_few"] (spMany K):= by
 have sc:=sc_law_many
 refine F.ok sc (fun vs H Q E h=>?_) (fun cdv A outer s H vs Q E hr h=>?_)
 ·obtain ⟨a,ns,f,rfl,_⟩:=h;rfl
 ·obtain ⟨a,ns,f,rfl,hS,k⟩:=h
  refine ⟨_,(pss_one (ps_ret (pe_callB kc_max2 (by rfl) B.max PyProof.Rows.Boot.«max» (pa_cons (pv 1) (pa_cons (pe_callB kc_min2 (by rfl) B.min PyProof.Rows.Boot.«min» (pa_cons (pe_callB (kc_len (K:=K)) (by rfl) B.len PyProof.Rows.Boot.«len» (pa_cons (pv 0) pa_nil)) (pa_cons pe_int pa_nil))) pa_nil))))),?_⟩
  refine ⟨_,rfl,_,rfl,a,_,rfl,.inl hS,_,_,rfl,_,_,rfl,k _ ?_ ?_⟩
  ·split <;> omega
  ·split <;> split <;> omega
theorem sccheck_many : FnScope (["censers"]) (["censers"]) (defScope scheck_many):=by trivial
theorem okcheck_many {f : Addr} {fd : FuncData} (F : Fun K "check_many" "check_many" scheck_many f fd) (B : Bs mg) (T : Gs mg) (mBadMany : mg "BadMany" = some (.ref CBadMany)) (qBadMany : PySem.W.excIn K CBadMany bmV "ValueError.__new__" = true)  : FnOk P w K mg base (CXE P w) 1 f fd ["censers"] (spCheckMany CBadMany):= by
 have sc:=sccheck_many
 refine F.okE sc (fun vs H Q E h=>?_) (fun cdv A outer s H vs Q E hr F0 h=>?_)
 ·obtain ⟨n,rfl,_⟩:=h;rfl
 ·obtain ⟨tM,gMOST_CENSERS⟩:=T.MOST_CENSERS
  obtain ⟨n,rfl,k,kE⟩:=h
  refine ⟨_,(pss_one (ps_if (pt_not (pt_chain op_le op_le pe_int (pv 0) (pe_glob (v:=.int 9) rfl gMOST_CENSERS ⟨_,rfl⟩))) (pss_one (ps_raise F0 rfl rfl mBadMany qBadMany (pa_cons pe_str pa_nil))) pss_nil)),?_⟩
  refine if_N (b:=!(decide (1<=n)&&decide (n<=9))) (P:=fun H'=>H'=H) (fun N hN=>chainI (x:=n) (H':=H) (fun Q' h'=>⟨_,rfl,h'⟩) (hN _ rfl)) (fun g H5 e=>?_) (fun g H5 e=>?_)
  ·rw[e]
   exact ⟨le_line (by simp),kE (fun z=>by rw[decide_eq_true z.1,decide_eq_true z.2] at g;simp at g)⟩
  ·rw[e]
   have g:=nF g
   rw[Bool.and_eq_true] at g
   exact k (of_decide_eq_true g.1) (of_decide_eq_true g.2)
theorem scpicks : FnScope (["packets","count","total","taken"]) (["packets","count"]) (defScope spicks):=by trivial
theorem okpicks {f : Addr} {fd : FuncData} (F : Fun K "picks" "picks" spicks f fd) (B : Bs mg) (T : Gs mg)   : FnOk P w K mg base CX0 1 f fd ["packets","count"] spPicks:= by
 have sc:=scpicks
 refine F.ok sc (fun vs H Q E h=>?_) (fun cdv A outer s H vs Q E hr h=>?_)
 ·obtain ⟨t,n,rfl,_⟩:=h;rfl
 ·obtain ⟨t,n,rfl,ht,hn,k⟩:=h
  refine ⟨_,(pss_cons (ps_set (i:=2) sc.nd rfl (Or.inl rfl) pe_int)
   (pss_cons (ps_for PassesOwn.never rfl (pi_range1 rfl B.range (pa_cons (pv 1) pa_nil)) (pg_name (i:=3) sc.nd rfl (Or.inl rfl))
   (pss_one (ps_aug (i:=2) sc.nd rfl (Or.inl rfl) (pe_op op_sub (pv 0) (pv 3)) ip_mul)))
   (pss_one (ps_ret (pv 2))))),?_⟩
  refine ⟨_,rfl,_,rfl,by omega,by omega,for_range (lo:=0) (n:=((n:Nat):Int).toNat) (fun i σ H2=>∃ o:Option V,σ=[some (.int t),some (.int n),some (.int (dn t i)),o]/\H2=H) ⟨none,rfl,rfl⟩ ?_ ?_⟩
  ·rintro i σ H2 hi ⟨o,rfl,rfl⟩
   refine ⟨_,rfl,_,rfl,_,rfl,_,_,rfl,rfl,_,_,rfl,rfl,mulOk_r ⟨by omega,by omega⟩,some (.int (0+(i:Int))),?_,rfl⟩
   show [_,_,some (V.int (dn t i*(t-(0+(i:Int))))),_]=_
   rw[Int.zero_add];rfl
  ·rintro σ H2 ⟨o,rfl,rfl⟩
   rw[Int.toNat_natCast]
   exact ⟨_,rfl,k⟩
theorem scfillings : FnScope (["stocks","sizes","orders","packets","further","left","count","place","size","fewer"]) (["stocks","sizes"]) (defScope sfillings):=by trivial
theorem okfillings {f : Addr} {fd : FuncData} (F : Fun K "fillings" "fillings" sfillings f fd) (B : Bs mg) (T : Gs mg)  (cpicks : Cal P w K mg base 1 "picks" [] spPicks) : FnOk P w K mg base CX0 2 f fd ["stocks","sizes"] (spFillings K):= by
 have sc:=scfillings
 refine F.ok sc (fun vs H Q E h=>?_) (fun cdv A outer s H vs Q E hr h=>?_)
 ·obtain ⟨l,m,S,L,rfl,_⟩:=h;rfl
 ·obtain ⟨l,m,S,L,rfl,hl,hm,hS,h6,hL,h9,k⟩:=h
  refine ⟨_,(pss_cons (ps_set (i:=2) sc.nd rfl (Or.inl rfl) (pe_disp1 (hu_of hr) (pe_callTy (kc_tuple (K:=K)) (by rfl) B.tuple PyProof.Rows.Boot.«tuple» (pa_cons (pe_callB (call_sorted (K:=K)) (by rfl) B.sorted PyProof.Rows.Boot.«sorted» (pa_cons (pv 1) pa_nil)) pa_nil)) pe_int))
   (pss_cons (ps_for PassesOwn.never rfl (kpi_list (K:=K) (pv 0)) (pg_name (i:=3) sc.nd rfl (Or.inl rfl))
   (pss_cons (ps_set (i:=4) sc.nd rfl (Or.inl rfl) (pe_callTy call_dictT (by rfl) B.dict PyProof.Rows.Boot.«dict» (pa_cons (pv 2) pa_nil)))
   (pss_cons (ps_for PassesOwn.never rfl (pi_itemsT (pv 2)) (pg_tup rfl (pgs_cons (pg_name (i:=5) sc.nd rfl (Or.inl rfl)) (pgs_cons (pg_name (i:=6) sc.nd rfl (Or.inl rfl)) pgs_nil)))
   (pss_one (ps_for PassesOwn.never rfl (pi_enumT (K:=K) rfl B.enumerate (pa_cons (pv 5) pa_nil)) (pg_tup rfl (pgs_cons (pg_name (i:=7) sc.nd rfl (Or.inl rfl)) (pgs_cons (pg_name (i:=8) sc.nd rfl (Or.inl rfl)) pgs_nil)))
   (pss_cons (ps_set (i:=9) sc.nd rfl (Or.inl rfl) (pe_op op_catH (pe_slice sl_tupH (pv 5) po_none (po_some (pv 7))) (pe_slice sl_tupH (pv 5) (po_some (pe_op op_add (pv 7) pe_int)) po_none)))
   (pss_one (ps_dput (hu_of hr) (pv 4) (pv 9) (pe_op op_add (pe_dget2 (hu_of hr) (pv 4) (pv 9) pe_int ⟨rfl,rfl,rfl,rfl⟩) (pe_op op_mulW (pv 6) (pe_cal cpicks (hr.mono (by decide)) rfl (pa_cons (pv 3) (pa_cons (pv 8) pa_nil))))) rfl))))))
   (pss_one (ps_set (i:=2) sc.nd rfl (Or.inl rfl) (pv 4))))))
   (pss_one (ps_ret (pe_dget2 (hu_of hr) (pv 2) (pe_tup pa_nil) pe_int ⟨rfl,rfl,rfl,rfl⟩))))),?_⟩
  have hll:(S.map V.int).length=S.length:=List.length_map ..
  have hLl:L.length<=9:= by
   have : ∀ {L:List Int},(∀ s ∈ L,1<=s)->(L.length:Int)<=L.sum:= by
    intro L
    induction L with
    | nil=>intro _;simp
    | cons a L ih=>intro h;rw[List.length_cons,List.sum_cons];have:=h a List.mem_cons_self;have:=ih fun x hx=>h x (List.mem_cons_of_mem _ hx);omega
   have:=this hL
   omega
  refine seq_a ?_
  intro od hod
  have s0:=Same.new (o:=HO.dT []) hod
  refine ⟨_,rfl,m,L,rfl,s0.seq hm,by omega,fun sl ms perm srt hsl=>?_⟩
  have s1:=s0.new2 (o:=HO.lst (ms.map V.int)) hsl
  refine ⟨sl,_,rfl,.inl ⟨SqL.of upd_same,fun t ht=>?_⟩⟩
  have s2:=s1.new2 (o:=HO.tup (ms.map V.int)) ht
  have hod2:upd (upd (upd H od (HO.dT [])) sl (HO.lst (ms.map V.int))) t (HO.tup (ms.map V.int)) od=some (.dT []):= by
   rw[upd_ne (ne_of_none (by rw[upd_ne (ne_of_none upd_same hsl),upd_same]) ht),upd_ne (ne_of_none upd_same hsl),upd_same]
  have ht2:upd (upd (upd H od (HO.dT [])) sl (HO.lst (ms.map V.int))) t (HO.tup (ms.map V.int)) t=some (.tup ((ms.map (Sum.inl:Int->Key)).map kV)):=by rw[upd_same,kV_inl]
  refine ⟨hod2,t,ms.map Sum.inl,rfl,ht2,?_⟩
  have s3:Same H (upd (upd (upd (upd H od (HO.dT [])) sl (HO.lst (ms.map V.int))) t (HO.tup (ms.map V.int))) od (.dT [(ms.map Sum.inl,.int 1)])):=s2.put hod
  have hod3:upd (upd (upd (upd H od (HO.dT [])) sl (HO.lst (ms.map V.int))) t (HO.tup (ms.map V.int))) od (.dT [(ms.map Sum.inl,.int 1)]) od=some (.dT (encT [(ms,1)])):=upd_same
  generalize upd (upd (upd (upd H od (HO.dT [])) sl (HO.lst (ms.map V.int))) t (HO.tup (ms.map V.int))) od (.dT [(ms.map Sum.inl,.int 1)])=H1 at s3 hod3
  have hgm:GoodK ms:=⟨rise_of srt fun x hx=>hL x (perm.subset hx),by rw[perm_sumI perm];exact h9⟩
  refine ⟨_,rfl,l,rfl,⟨_,s3.seq hl⟩,for_list (K:=K) (a:=l) (xs:=S.map V.int) (fun j σ H2=>∃ (od:Addr) (D:Tab) (o3 o4 o5 o6 o7 o8 o9:Option V),σ=[some (.ref l),some (.ref m),some (.ref od),o3,o4,o5,o6,o7,o8,o9]/\Same H H2/\H od=none/\H2 od=some (.dT (encT D))/\GoodT D/\D≠[]/\lin D (phi (S.drop j))=phi S L)
   ⟨od,[(ms,1)],none,none,none,none,none,none,none,rfl,s3,hod,hod3,⟨by simp,fun k hk=>by rw[List.mem_singleton.mp hk];exact hgm⟩,by simp,?_⟩ (fun j σ H2 _ ⟨_,_,_,_,_,_,_,_,_,_,s2,_⟩=>s2.seq hl) ?_ ?_⟩
  ·show 1*phi (S.drop 0) ms+0=_
   rw[List.drop_zero,phi_perm S perm];omega
  ·rintro j y σ H2 hj ⟨od,D,o3,o4,o5,o6,o7,o8,o9,rfl,s2,hodH,hod2,hG,hne,hlin⟩
   obtain ⟨p,rfl,hp,hjl⟩:=getI hj
   have hpS:=hS p (List.mem_of_getElem? hp)
   have hDne:encT D≠[]:=fun e=>hne (List.map_eq_nil_iff.mp e)
   refine gN ?_
   refine seq_a ?_
   refine ⟨_,rfl,od,_,rfl,hod2,hDne,hG.hash,fun fd hfd=>?_⟩
   have hfo:od≠fd:=ne_of_none hod2 hfd
   have hfdH:H fd=none:=s2.free hfd
   have s4:=s2.new2 (o:=HO.dT (encT D)) hfd
   have hod4:upd H2 fd (HO.dT (encT D)) od=some (.dT (encT D)):=by rw[upd_ne hfo];exact hod2
   have hfd4:upd H2 fd (HO.dT (encT D)) fd=some (.dT (encT D)):=upd_same
   generalize upd H2 fd (HO.dT (encT D))=H4 at s4 hod4 hfd4
   refine seq_by2 (fun σ' H'=>∃ o5 o6 o7 o8 o9:Option V,σ'=[some (.ref l),some (.ref m),some (.ref od),some (.int p),some (.ref fd),o5,o6,o7,o8,o9]/\Same H H'/\H' fd=some (.dT (encT (outT p D D D.length)))) (fun N hN=>?_) ?_
   ·refine ⟨_,rfl,od,_,rfl,hod4,fun o=>?_⟩
    have s5:Same H (upd H4 od (.frz o (.dT (encT D)))):=s4.put hodH
    have hod5:upd H4 od (.frz o (.dT (encT D))) od=some (.frz o (.dT (encT D))):=upd_same
    have hfd5:upd H4 od (.frz o (.dT (encT D))) fd=some (.dT (encT (outT p D D 0))):=by rw[upd_ne hfo.symm];exact hfd4
    generalize upd H4 od (.frz o (.dT (encT D)))=H5 at s5 hod5 hfd5
    have hel:(encT D).length=D.length:=List.length_map ..
    refine for_it (J:=IiT o od) (n:=D.length) (fun i σ H6=>∃ o5 o6 o7 o8 o9:Option V,σ=[some (.ref l),some (.ref m),some (.ref od),some (.int p),some (.ref fd),o5,o6,o7,o8,o9]/\Same H H6/\H6 od=some (.frz o (.dT (encT D)))/\H6 fd=some (.dT (encT (outT p D D i))))
     ⟨o5,o6,o7,o8,o9,rfl,s5,hod5,hfd5⟩ (fun i σ H6 hi ⟨_,_,_,_,_,_,_,h,_⟩=>⟨encT D,(encT D)[i]'(by omega),h,List.getElem?_eq_getElem _⟩) (fun σ H6 ⟨_,_,_,_,_,_,_,h,_⟩=>⟨encT D,h,by omega⟩) ?_ ?_
    ·rintro i x σ H6 H7 hi ⟨o5,o6,o7,o8,o9,rfl,s6,hod6,hfd6⟩ ⟨T',b,kk,vv,hT',rfl,rfl,hb,hkv⟩
     obtain ⟨⟨k0,v0⟩,hD0,rfl,rfl⟩:=enc_at (hkv _ hod6)
     dsimp only at *
     have hDi:D.getD i ([],0)=(k0,v0):=by rw[List.getD_eq_getElem?_getD,hD0];rfl
     have hgk:GoodK k0:=hG.good k0 (List.mem_map.mpr ⟨_,List.mem_of_getElem? hD0,rfl⟩)
     have hGF:=hG.out hG p i (by omega)
     rw[kV_inl] at hb
     have n7:=Same.new (o:=HO.tup [V.ref b,V.int v0]) hT'
     have s7:=s6.trans n7
     have hod7:=n7 _ _ hod6
     have hfd7:=n7 _ _ hfd6
     have hb7:=n7 _ _ hb
     refine ⟨T',_,rfl,SqT.of upd_same,rfl,_,_,rfl,_,_,rfl,rfl,?_⟩
     generalize upd H6 T' (HO.tup [V.ref b,V.int v0])=H7 at n7 s7 hod7 hfd7 hb7
     generalize hF:outT p D D i=F at hGF hfd7
     have e1:outT p D D (i+1)=inn p k0 v0 F k0.length:=by show inn p (D.getD i ([],0)).1 (D.getD i ([],0)).2 (outT p D D i) _=_;rw[hDi,hF]
     refine ⟨_,rfl,b,rfl,⟨_,SqT.of hb7⟩,for_enumT (K:=K) (a:=b) (xs:=k0.map V.int) (fun n σ H8=>∃ o7 o8 o9:Option V,σ=[some (.ref l),some (.ref m),some (.ref od),some (.int p),some (.ref fd),some (.ref b),some (.int v0),o7,o8,o9]/\Same H H8/\H8 od=some (.frz o (.dT (encT D)))/\H8 fd=some (.dT (encT (inn p k0 v0 F n)))/\H8 b=some (.tup (k0.map V.int)))
      ⟨o7,o8,o9,rfl,s7,hod7,hfd7,hb7⟩ (fun n σ H8 _ ⟨_,_,_,_,_,_,_,h⟩=>SqT.of h) ?_ ?_⟩
     ·rintro n y σ H8 tt hn ⟨o7,o8,o9,rfl,s8,hod8,hfd8,hb8⟩ htt
      obtain ⟨sz,rfl,hsz,hnl⟩:=getI hn
      have esz:k0.getD n 0=sz:=by rw[List.getD_eq_getElem?_getD,hsz];rfl
      obtain ⟨g1,g9⟩:=good_pick hgk hnl
      rw[esz] at g1 g9
      have hGn:=hGF.inn hgk p v0 n
      have n9:=Same.new (o:=HO.tup [V.int (n:Int),V.int sz]) htt
      have s9:=s8.trans n9
      have hod9:=n9 _ _ hod8
      have hfd9:=n9 _ _ hfd8
      have hb9:=n9 _ _ hb8
      refine ⟨tt,_,rfl,SqT.of upd_same,rfl,_,_,rfl,_,_,rfl,rfl,?_⟩
      generalize upd H8 tt (HO.tup [V.int (n:Int),V.int sz])=H9 at n9 s9 hod9 hfd9 hb9
      refine seq_a ?_
      refine ⟨_,rfl,_,rfl,_,rfl,b,_,rfl,hb9,fun q1 H10 s10 h10=>?_⟩
      refine ⟨_,rfl,_,rfl,_,_,rfl,rfl,_,rfl,b,_,rfl,s10 _ _ hb9,fun q2 H11 s11 h11=>?_⟩
      rw[cut_take_int] at h10
      have en:((n:Int)+1)=((n+1:Nat):Int):=by omega
      rw[en,cut_drop_int] at h11
      refine ⟨q1,q2,_,_,rfl,rfl,s11 _ _ h10,h11,le_line (by rw[List.length_map,List.length_map,List.length_take,List.length_drop];have:=hgk.1.len (Int.le_refl _);have:=hgk.2;omega),fun q3 H12 s12 h12=>?_⟩
      rw[<- List.map_append] at h12
      have h12:H12 q3=some (.tup (((dropAt k0 n).map (Sum.inl:Int->Key)).map kV)):=by rw[kV_inl];exact h12
      have S12:=(s10.trans s11).trans s12
      have hfd12:=S12 _ _ hfd9
      have hpk:IntMulOk v0 (dn p sz.toNat):=mulOk_r (dn_64 hpS.1 hpS.2 (by omega))
      refine ⟨_,rfl,fd,rfl,.inr ⟨_,.inl hfd12⟩,_,rfl,_,DGet.t hfd12 h12,?_⟩
      rw[getD_enc]
      refine ⟨_,rfl,_,rfl,_,rfl,p,sz.toNat,by rw[Int.toNat_of_nonneg (by omega)];rfl,⟨by omega,by omega⟩,by omega,_,_,rfl,rfl,hpk,_,_,rfl,rfl,?_⟩
      refine ⟨_,rfl,_,rfl,fd,_,rfl,DPut.t hfd12 h12 (lt_line (by rw[show (encT (inn p k0 v0 F n)).length=(inn p k0 v0 F n).length from List.length_map ..];have:=hGn.len;omega)),?_⟩
      rw[put_enc _ _ _ hGn.nd]
      have hfo':od≠fd:=hfo
      refine ⟨_,_,_,rfl,(s9.trans S12).put hfdH,by rw[upd_ne hfo'];exact S12 _ _ hod9,?_,by rw[upd_ne (ne_of (S12 _ _ hb9) hfd12 (fun z=>by cases z))];exact S12 _ _ hb9⟩
      rw[upd_same]
      show _=some (HO.dT (encT (addI (inn p k0 v0 F n) (dropAt k0 n) (v0*dn p (k0.getD n 0).toNat))))
      rw[esz]
     ·rintro σ H8 ⟨o7,o8,o9,rfl,s8,hod8,hfd8,hb8⟩
      rw[ltm] at hfd8
      exact ⟨_,_,_,_,_,rfl,s8,hod8,by rw[e1];exact hfd8⟩
    ·rintro σ H6 ⟨o5,o6,o7,o8,o9,rfl,s6,hod6,hfd6⟩
     exact hN _ _ ⟨_,_,_,_,_,rfl,s6,hfd6⟩
   rintro σ H7 ⟨o5,o6,o7,o8,o9,rfl,s7,hfd7⟩
   refine ⟨_,rfl,fd,outT p D D D.length,_,_,_,_,_,_,_,rfl,s7,hfdH,hfd7,hG.out hG p _ (Nat.le_refl _),?_,?_⟩
   ·have : ∀ (k:List Int) (v:Int) (F:Tab) (n:Nat),F≠[]->inn p k v F n≠[]:=fun k v F n hF=>by
     induction n with
     | zero=>exact hF
     | succ n ih=>intro e;have:=(len_add (dropAt k n) (v*dn p (k.getD n 0).toNat) (inn p k v F n)).2;unfold inn at e;rw[e] at this;simp at this
    have : ∀ i,outT p D D i≠[]:=fun i=>by
     induction i with
     | zero=>exact hne
     | succ i ih=>exact this _ _ _ _ ih
    exact this _
   ·rw[lin_step,<- hlin]
    have hd:S.drop j=p::S.drop (j+1):=drop_at hp
    rw[hd]
  ·rintro σ H2 ⟨od,D,o3,o4,o5,o6,o7,o8,o9,rfl,s2,hodH,hod2,hG,hne,hlin⟩
   rw[hll,List.drop_length] at hlin
   refine ⟨_,rfl,od,rfl,.inr ⟨_,.inl hod2⟩,Nat.zero_le _,fun t ht=>?_⟩
   have s3:=s2.new2 (o:=HO.tup []) ht
   refine ⟨_,DGet.t (k:=[]) (Same.new (o:=HO.tup []) ht _ _ hod2) upd_same,?_⟩
   have:=getD_enc D []
   rw[List.map_nil] at this
   rw[this,<- lin_nil D hG.nd,hlin]
   exact k _ s3
theorem scis_name : FnScope (["text"]) (["text"]) (defScope sis_name):=by trivial
theorem okis_name {f : Addr} {fd : FuncData} (F : Fun K "is_name" "is_name" sis_name f fd) (B : Bs mg) (T : Gs mg)   : FnOk P w K mg base CX0 1 f fd ["text"] (spIsName K):= by
 have sc:=scis_name
 refine F.ok sc (fun vs H Q E h=>?_) (fun cdv A outer s H vs Q E hr h=>?_)
 ·obtain ⟨z,rfl,_⟩:=h;rfl
 ·obtain ⟨tL,gLONGEST_NAME⟩:=T.LONGEST_NAME
  obtain ⟨z,rfl,hz,k⟩:=h
  refine ⟨_,(pss_one (ps_ret (pe_and (pe_chain op_le op_le pe_int (pe_callB call_len_str (by rfl) B.len PyProof.Rows.Boot.«len» (pa_cons (pv 0) pa_nil)) (pe_glob (v:=.int 12) rfl gLONGEST_NAME ⟨_,rfl⟩)) (pe_one (pe_callB (kc_all (K:=K)) (by rfl) B.all PyProof.Rows.Boot.«all» (pa_cons (pe_lc (N':=["sign"]) (M:=[none]) (lcSc_of (by rfl)) rfl (pi_str (pv 0)) (fun _ _ _ _ _=>pg_name (i:=0) (show (["sign"] : List Str).Nodup by decide +kernel) rfl (Or.inl rfl) (.inr rfl)) (frm_name rfl) (fun _ _ _ _ _=>pts_nil) (fun _ _ _ _ _=>(pe_chain op_leS op_leS pe_str (pv 0) pe_str))) pa_nil)))))),?_⟩
  refine chainV (x:=(z.length:Int)) (H':=H) (fun Q' h'=>⟨_,rfl,z,rfl,le_line (by omega),h'⟩) ⟨_,rfl,?_⟩
  refine ite2 (fun g=>?_) (fun g=>?_)
  ·refine ⟨_,rfl,z,rfl,lc_str (fun i ys H2=>H2=H/\ys=((List.range i).map fun j=>letN (z.cps.toList.getD j 0)).map V.bl) (le_line (by omega)) ⟨rfl,rfl⟩ (fun i ys H2 _ h=>by rw[h.2,List.length_map,List.length_map,List.length_range];exact Nat.le_refl _) ?_ ?_⟩
   ·rintro i ys H2 hi ⟨rfl,rfl⟩
    refine lcN ?_
    refine ⟨_,rfl,_,_,rfl,rfl,_,rfl,?_⟩
    have e1:=le_a z i
    have e2:=le_z z i
    have key : ∀ b:Bool,b=letN (z.cps.toList.getD i 0)->H2=H2/\((List.range i).map fun j=>letN (z.cps.toList.getD j 0)).map V.bl++[V.bl b]=((List.range (i+1)).map fun j=>letN (z.cps.toList.getD j 0)).map V.bl:=fun b e=>⟨rfl,by rw[e];exact bl_snoc (fun j=>letN (z.cps.toList.getD j 0)) i⟩
    refine ite2 (fun g1=>⟨_,_,rfl,rfl,key _ ?_⟩) (fun g1=>key _ ?_)
    ·unfold letN
     rw[<- e1,<- e2]
     exact (by rw[show (!decide ((sgZ z i).cps.toList < ("a" : Str).cps.toList)) = true from g1,Bool.true_and])
    ·unfold letN
     rw[<- e1,<- e2]
     exact (by rw[show (!decide ((sgZ z i).cps.toList < ("a" : Str).cps.toList)) = false from bF g1,Bool.false_and])
   ·rintro ys H2 ⟨rfl,rfl⟩ p hp
    refine ⟨p,_,rfl,.inl (SqL.of upd_same),?_⟩
    rw[all_letN]
    have k:=k _ (Same.new (o:=HO.lst (List.map V.bl ((List.range z.length).map fun j=>letN (z.cps.toList.getD j 0)))) hp)
    unfold isNm at k
    rw[g,Bool.true_and] at k
    exact k
  ·have k:=k _ (Same.refl _)
   unfold isNm at k
   rw[bF g,Bool.false_and] at k
   exact k
theorem sccheck_woods : FnScope (["woods","name","packets"]) (["woods"]) (defScope scheck_woods):=by trivial
theorem okcheck_woods {f : Addr} {fd : FuncData} (F : Fun K "check_woods" "check_woods" scheck_woods f fd) (B : Bs mg) (T : Gs mg) (mBadTray : mg "BadTray" = some (.ref CBadTray)) (qBadTray : PySem.W.excIn K CBadTray bmV "ValueError.__new__" = true) (cis_name : Cal P w K mg base 1 "is_name" [] (spIsName K)) : FnOk P w K mg base (CXE P w) 2 f fd ["woods"] (spCheckWoods K CBadTray):= by
 have sc:=sccheck_woods
 refine F.okE sc (fun vs H Q E h=>?_) (fun cdv A outer s H vs Q E hr F0 h=>?_)
 ·obtain ⟨l,as,W,rfl,_⟩:=h;rfl
 ·obtain ⟨tM,gMOST_WOODS⟩:=T.MOST_WOODS
  obtain ⟨tP,gMOST_PACKETS⟩:=T.MOST_PACKETS
  obtain ⟨l,as,W,rfl,hl,hW,hn,hz,k,kE⟩:=h
  refine ⟨_,(pss_cons (ps_if (pt_not (pt_chain op_le op_le pe_int (pe_callB (kc_len (K:=K)) (by rfl) B.len PyProof.Rows.Boot.«len» (pa_cons (pv 0) pa_nil)) (pe_glob (v:=.int 6) rfl gMOST_WOODS ⟨_,rfl⟩))) (pss_one (ps_raise F0 rfl rfl mBadTray qBadTray (pa_cons pe_str pa_nil))) pss_nil)
   (pss_cons (ps_if (pt_cmpR op_ne (pe_callB kc_lenZ (by rfl) B.len PyProof.Rows.Boot.«len» (pa_cons (pe_callTy (kc_setZ (K:=K)) (by rfl) B.set PyProof.Rows.Boot.«set» (pa_cons (pe_lc (N':=["name","packets"]) (M:=[none,none]) (lcSc_of (by rfl)) rfl (kpi_list (K:=K) (pv 0)) (fun _ _ _ _ _=>kpg_tup (K:=K) (n:=2) rfl (pgs_cons (pg_name (i:=0) (show (["name","packets"] : List Str).Nodup by decide +kernel) rfl (Or.inl rfl) (.inr rfl)) (pgs_cons (pg_name (i:=1) (show (["name","packets"] : List Str).Nodup by decide +kernel) rfl (Or.inl rfl) (.inr rfl)) pgs_nil))) frm_two (fun _ _ _ _ _=>pts_nil) (fun _ _ _ _ _=>(pv 0))) pa_nil)) pa_nil)) (pe_callB (kc_len (K:=K)) (by rfl) B.len PyProof.Rows.Boot.«len» (pa_cons (pv 0) pa_nil)) (nomark _)) (pss_one (ps_raise F0 rfl rfl mBadTray qBadTray (pa_cons pe_str pa_nil))) pss_nil)
   (pss_one (ps_for PassesOwn.leaving rfl (kpi_list (K:=K) (pv 0)) (pg_tup rfl (pgs_cons (pg_name (i:=1) sc.nd rfl (Or.inl rfl)) (pgs_cons (pg_name (i:=2) sc.nd rfl (Or.inl rfl)) pgs_nil)))
   (pss_cons (ps_if (pt_not (pt_val (pe_cal cis_name (hr.mono (by decide)) rfl (pa_cons (pv 1) pa_nil)))) (pss_one (ps_raise F0 rfl rfl mBadTray qBadTray (pa_cons pe_str pa_nil))) pss_nil)
   (pss_one (ps_if (pt_not (pt_chain op_le op_le pe_int (pv 2) (pe_glob (v:=.int 99) rfl gMOST_PACKETS ⟨_,rfl⟩))) (pss_one (ps_raise F0 rfl rfl mBadTray qBadTray (pa_cons pe_str pa_nil))) pss_nil))))))),?_⟩
  have hal:(as.map V.ref).length=W.length:=by rw[List.length_map,hW.length]
  refine seq_ifN (b:=!(decide (1<=(W.length:Int))&&decide ((W.length:Int)<=6))) (P:=fun H'=>H'=H) (fun N hN=>chainI (x:=(W.length:Int)) (H':=H) (fun Q' h'=>⟨_,rfl,l,_,rfl,.inl (SqL.of hl),by rw[hal];exact h'⟩) (hN _ rfl)) (fun g H' e=>?_) (fun g H' e=>?_)
  ·refine ⟨le_line (by simp),kE ?_ _ (by rw[e];exact Same.refl _)⟩
   unfold woodsOk
   rw[show (decide (1<=(W.length:Int))&&decide ((W.length:Int)<=6))=false from nT g];rfl
  subst e
  have g1:(decide (1<=(W.length:Int))&&decide ((W.length:Int)<=6))=true:=nF g
  refine seq_ifN (b:=!decide ((W.map (·.1)).Nodup)) (P:=Same H') (fun N hN=>?_) (fun g H2 s2=>?_) (fun g H2 s2=>?_)
  ·refine ⟨_,rfl,l,rfl,⟨_,SqL.of hl⟩,lc_list (xs:=as.map V.ref) (fun i ys H2=>H2=H'/\ys=((W.take i).map (·.1)).map V.str) (le_line (by omega)) ⟨rfl,rfl⟩
    (fun i ys H2 _ h=>⟨by rw[h.1];exact SqL.of hl,by rw[h.2,List.length_map,List.length_map,List.length_take];omega⟩) ?_ ?_⟩
   ·rintro i y ys H2 hi ⟨rfl,rfl⟩
    obtain ⟨q,rfl,hq,hil⟩:=getRef hi
    obtain ⟨w,hw,hwi⟩:=paired_getM hW hq
    refine ⟨q,_,rfl,SqT.of hw,rfl,_,_,rfl,_,_,rfl,rfl,lcY ⟨_,rfl,rfl,?_⟩⟩
    rw[map_take_snoc hwi];exact str_snoc
   ·rintro ys H2 ⟨rfl,rfl⟩ p hp
    rw[hal,List.take_length]
    refine ⟨p,_,rfl,SqL.of upd_same,by rw[List.length_map];omega,fun q hq=>?_⟩
    refine ⟨q,_,rfl,upd_same,?_⟩
    have sq:=(Same.new (o:=HO.lst ((W.map (·.1)).map V.str)) hp).new2 (o:=zSet P w q (setS (W.map (·.1))).length) hq
    refine ⟨_,rfl,l,_,rfl,.inl (SqL.of (sq l _ hl)),rfl,_,rfl,?_⟩
    rw[hal,dInt]
    have e:decide (((setS (W.map (·.1))).length:Int)=(W.length:Int))=decide ((W.map (·.1)).Nodup):= by
     refine decide_eq_decide.mpr ?_
     rw[<- (setS_len (W.map (·.1))).2,List.length_map];omega
    rw[e]
    exact hN _ sq
  ·refine ⟨le_line (by simp),kE ?_ _ s2⟩
   unfold woodsOk
   rw[show decide ((W.map (·.1)).Nodup)=false from nT g,Bool.and_false,Bool.false_and]
  have g2:decide ((W.map (·.1)).Nodup)=true:=nF g
  refine ⟨_,rfl,l,rfl,⟨_,SqL.of (s2 l _ hl)⟩,for_list (K:=K) (a:=l) (xs:=as.map V.ref) (fun i σ H3=>∃ o1 o2:Option V,σ=[some (.ref l),o1,o2]/\Same H' H3 /\ ∀ w ∈ W.take i,isNm w.1=true/\0<=w.2/\w.2<=99)
   ⟨none,none,rfl,s2,fun w h=>by simp at h⟩ (fun i σ H3 _ ⟨_,_,_,s3,_⟩=>SqL.of (s3 l _ hl)) ?_ ?_⟩
  ·rintro i y σ H3 hi ⟨o1,o2,rfl,s3,hk⟩
   obtain ⟨q,rfl,hq,hil⟩:=getRef hi
   obtain ⟨w,hw,hwi⟩:=paired_getM hW hq
   have hwm:=List.mem_of_getElem? hwi
   have bad : ¬ (isNm w.1=true/\0<=w.2/\w.2<=99)->woodsOk W=false:=fun h=>by
    cases e:woodsOk W with
    | false=>rfl
    | true=>exact absurd ((woodsOk_iff.mp e).2.2 w hwm) h
   refine ⟨q,_,rfl,SqT.of (s3 q _ hw),rfl,_,_,rfl,_,_,rfl,rfl,?_⟩
   refine seq_ifN (b:=!isNm w.1) (P:=Same H3) (fun N hN=>⟨_,rfl,w.1,rfl,hz w hwm,fun H4 s4=>⟨_,rfl,hN H4 s4⟩⟩) (fun g H4 s4=>?_) (fun g H4 s4=>?_)
   ·exact ⟨le_line (by simp),kE (bad fun h=>by rw[h.1] at g;simp at g) _ (s3.trans s4)⟩
   have g3:isNm w.1=true:=nF g
   refine if_N (b:=!(decide (0<=w.2)&&decide (w.2<=99))) (P:=fun H5=>H5=H4) (fun N hN=>chainI (x:=w.2) (H':=H4) (fun Q' h'=>⟨_,rfl,h'⟩) (hN _ rfl)) (fun g H5 e=>?_) (fun g H5 e=>?_)
   ·exact ⟨le_line (by simp),kE (bad fun h=>by rw[decide_eq_true h.2.1,decide_eq_true h.2.2] at g;simp at g) _ (by rw[e];exact s3.trans s4)⟩
   rw[e]
   refine ⟨_,_,rfl,s3.trans s4,fun v hv=>?_⟩
   rw[take_snoc hwi,List.mem_append,List.mem_singleton] at hv
   rcases hv with hv | rfl
   ·exact hk v hv
   ·exact ⟨g3,by simpa using g⟩
  ·rintro σ H3 ⟨o1,o2,rfl,s3,hk⟩
   rw[hal,List.take_length] at hk
   refine k (woodsOk_iff.mpr ⟨?_,by simpa using g2,hk⟩) _ s3
   rw[Bool.and_eq_true,decide_eq_true_iff,decide_eq_true_iff] at g1
   omega
theorem scTray___init__ : FnScope (["self","woods"]) (["self","woods"]) (defScope sTray___init__):=by trivial
theorem okTray___init__ {f : Addr} {fd : FuncData} (F : Fun K "__init__" "Tray.__init__" sTray___init__ f fd) (B : Bs mg) (T : Gs mg) (clTray : Cls K CTray) (nTray_stock : NoAttr K CTray "stock") (ccheck_woods : CalE P w K mg base 2 "check_woods" [] (spCheckWoods K CBadTray)) : FnOk P w K mg base (CXE P w) 3 f fd ["self","woods"] (spInit K CTray CBadTray):= by
 have sc:=scTray___init__
 refine F.okE sc (fun vs H Q E h=>?_) (fun cdv A outer s H vs Q E hr F0 h=>?_)
 ·obtain ⟨p,dx,l,as,W,rfl,_⟩:=h;rfl
 ·obtain ⟨p,dx,l,as,W,rfl,hp,hl,hW,hn,hz,k,kE⟩:=h
  refine ⟨_,(pss_cons (ps_expr (pe_calE ccheck_woods (hr.mono (by decide)) rfl (pass_fn F0) (pa_cons (pv 1) pa_nil)))
   (pss_one (ps_fld (pv 0) (pe_callTy (kc_list (K:=K)) (by rfl) B.list PyProof.Rows.Boot.«list» (pa_cons (pv 1) pa_nil)) rfl))),?_⟩
  refine ⟨_,rfl,l,as,W,rfl,hl,hW,hn,hz,fun ok H1 s1=>?_,kE⟩
  have hl1:=s1 l _ hl
  have hp1:=s1 p _ hp
  refine ⟨_,rfl,l,_,rfl,.inl (SqL.of hl1),fun q hq=>?_⟩
  have hpq:p≠q:=ne_of_none hp1 hq
  refine ⟨_,rfl,p,CTray,dx,[],rfl,by rw[upd_ne hpq];exact hp1,clTray,nTray_stock,by decide,?_⟩
  refine k ok q _ (s1.free hq) (by rw[upd_ne hpq.symm,upd_same]) upd_same fun b o e hb=>?_
  rw[upd_ne hb,upd_ne (ne_of_none (s1 b o e) hq)]
  exact s1 b o e
theorem scTray_all_woods : FnScope (["self"]) (["self"]) (defScope sTray_all_woods):=by trivial
theorem okTray_all_woods {f : Addr} {fd : FuncData} (F : Fun K "all_woods" "Tray.all_woods" sTray_all_woods f fd) (B : Bs mg) (T : Gs mg) (clTray : Cls K CTray) (nTray_stock : NoAttr K CTray "stock")  : FnOk P w K mg base CX0 1 f fd ["self"] (spAllWoods K CTray):= by
 have sc:=scTray_all_woods
 refine F.ok sc (fun vs H Q E h=>?_) (fun cdv A outer s H vs Q E hr h=>?_)
 ·obtain ⟨p,W,rfl,_⟩:=h;rfl
 ·obtain ⟨p,W,rfl,hT,k⟩:=h
  refine ⟨_,(pss_one (ps_ret (pe_callTy (kc_list (K:=K)) (by rfl) B.list PyProof.Rows.Boot.«list» (pa_cons (pe_fld (pv 0) rfl) pa_nil)))),?_⟩
  obtain ⟨dx,l,as,h1,h2,h3⟩:=hT
  exact ⟨_,rfl,p,CTray,dx,_,_,rfl,h1,clTray,nTray_stock,stkF_at l,l,_,rfl,.inl (SqL.of h2),fun q hq=>k q as _ hq (Same.new hq) upd_same (h3.same (Same.new hq))⟩
theorem scTray_total : FnScope (["self"]) (["self"]) (defScope sTray_total):=by trivial
theorem okTray_total {f : Addr} {fd : FuncData} (F : Fun K "total" "Tray.total" sTray_total f fd) (B : Bs mg) (T : Gs mg) (clTray : Cls K CTray) (nTray_stock : NoAttr K CTray "stock")  : FnOk P w K mg base CX0 1 f fd ["self"] (spTotal K CTray):= by
 have sc:=scTray_total
 refine F.ok sc (fun vs H Q E h=>?_) (fun cdv A outer s H vs Q E hr h=>?_)
 ·obtain ⟨p,W,rfl,_⟩:=h;rfl
 ·obtain ⟨p,W,rfl,hT,hn,k⟩:=h
  refine ⟨_,(pss_one (ps_ret (pe_callB (kc_sum (K:=K)) (by rfl) B.sum PyProof.Rows.Boot.«sum» (pa_cons (pe_lc (N':=["name","count"]) (M:=[none,none]) (lcSc_of (by rfl)) rfl (kpi_list (K:=K) (pe_fld (pv 0) rfl)) (fun _ _ _ _ _=>kpg_tup (K:=K) (n:=2) rfl (pgs_cons (pg_name (i:=0) (show (["name","count"] : List Str).Nodup by decide +kernel) rfl (Or.inl rfl) (.inr rfl)) (pgs_cons (pg_name (i:=1) (show (["name","count"] : List Str).Nodup by decide +kernel) rfl (Or.inl rfl) (.inr rfl)) pgs_nil))) frm_two (fun _ _ _ _ _=>pts_nil) (fun _ _ _ _ _=>(pv 1))) pa_nil)))),?_⟩
  obtain ⟨dx,l,as,h1,h2,h3⟩:=hT
  have hal:(as.map V.ref).length=W.length:=by rw[List.length_map,h3.length]
  refine ⟨_,rfl,p,CTray,dx,_,_,rfl,h1,clTray,nTray_stock,stkF_at l,l,rfl,⟨_,SqL.of h2⟩,lc_list (xs:=as.map V.ref) (fun i ys H2=>H2=H/\ys=((W.take i).map (·.2)).map V.int) (le_line (by omega)) ⟨rfl,rfl⟩
    (fun i ys H2 _ h=>⟨by rw[h.1];exact SqL.of h2,by rw[h.2,List.length_map,List.length_map,List.length_take];omega⟩) ?_ ?_⟩
  ·rintro i y ys H2 hi ⟨rfl,rfl⟩
   obtain ⟨q,rfl,hq,hil⟩:=getRef hi
   obtain ⟨w,hw,hwi⟩:=paired_getM h3 hq
   refine ⟨q,_,rfl,SqT.of hw,rfl,_,_,rfl,_,_,rfl,rfl,lcY ⟨_,rfl,rfl,?_⟩⟩
   rw[map_take_snoc hwi];exact mapV
  ·rintro ys H2 ⟨rfl,rfl⟩ q hq
   refine ⟨q,_,rfl,.inl (SqL.of upd_same),?_⟩
   rw[hal,List.take_length]
   exact k _ (Same.new hq)
theorem sccheck_enough : FnScope (["tray","censers"]) (["tray","censers"]) (defScope scheck_enough):=by trivial
theorem okcheck_enough {f : Addr} {fd : FuncData} (F : Fun K "check_enough" "check_enough" scheck_enough f fd) (B : Bs mg) (T : Gs mg) (mTooFew : mg "TooFew" = some (.ref CTooFew)) (qTooFew : PySem.W.excIn K CTooFew bmV "ValueError.__new__" = true) (clTray : Cls K CTray) (cTray_total : CalM P w K mg base CTray 1 "total" (spTotal K CTray)) : FnOk P w K mg base (CXE P w) 2 f fd ["tray","censers"] (spEnough K CTray CTooFew):= by
 have sc:=sccheck_enough
 refine F.okE sc (fun vs H Q E h=>?_) (fun cdv A outer s H vs Q E hr F0 h=>?_)
 ·obtain ⟨p,W,n,rfl,_⟩:=h;rfl
 ·obtain ⟨p,W,n,rfl,hT,hn,k,kE⟩:=h
  refine ⟨_,(pss_one (ps_if (pt_cmpR op_lt (pe_calM0 cTray_total clTray (hr.mono (by decide)) (pv 0)) (pv 1) (nomark _)) (pss_one (ps_raise F0 rfl rfl mTooFew qTooFew (pa_cons pe_str pa_nil))) pss_nil)),?_⟩
  obtain ⟨dx,l,as,h1,h2,h3⟩:=id hT
  refine ⟨_,rfl,p,dx,_,rfl,h1,stkF_no l (by decide +kernel),p,W,rfl,hT,hn,fun H1 s1=>?_⟩
  refine ⟨_,rfl,_,_,rfl,rfl,_,rfl,ite2 (fun g=>⟨le_line (by simp),kE (of_decide_eq_true g) _ s1⟩) (fun g=>k ?_ _ s1)⟩
  have : ¬ totW W<n:=fun z=>g (decide_eq_true z)
  omega
theorem scorders_behind : FnScope (["tray","opened","way","shut","woods_opened","orders","wood","name","stocks","sizes"]) (["tray","opened","way"]) (defScope sorders_behind):=by trivial
theorem okorders_behind {f : Addr} {fd : FuncData} (F : Fun K "orders_behind" "orders_behind" sorders_behind f fd) (B : Bs mg) (T : Gs mg) (clTray : Cls K CTray) (cTray_all_woods : CalM P w K mg base CTray 1 "all_woods" (spAllWoods K CTray)) (cfillings : Cal P w K mg base 2 "fillings" [] (spFillings K)) : FnOk P w K mg base CX0 3 f fd ["tray","opened","way"] (spOB0 K CTray):= by
 have sc:=scorders_behind
 refine F.ok sc (fun vs H Q E h=>?_) (fun cdv A outer s H vs Q E hr h=>?_)
 ·obtain ⟨p,l,a,W,ws,rfl,_⟩:=h;rfl
 ·obtain ⟨p,l,a,W,ws,rfl,hT,hW,hl,ha,hw,k⟩:=h
  refine ⟨_,(pss_cons (ps_set (i:=3) sc.nd rfl (Or.inr rfl) (pe_slice sl_tupP (pv 2) (po_some (pe_callB (kc_len (K:=K)) (by rfl) B.len PyProof.Rows.Boot.«len» (pa_cons (pv 1) pa_nil))) po_none))
   (pss_cons (ps_if (PW.pt (pw_and (pt_truth (pv 1) (fun _=>rfl)) (pw_and1 pt_never))) (pss_one (ps_ret pe_int)) pss_nil)
   (pss_cons (ps_set (i:=4) sc.nd rfl (Or.inr rfl) (pe_lc (N':=["place","name","opened"]) (M:=[none,none,some 1]) (lcSc_of (by rfl)) rfl (pi_enumL (K:=K) rfl B.enumerate (pa_cons (pv 1) pa_nil)) (fun _ _ _ _ _=>kpg_tup (K:=K) (n:=2) rfl (pgs_cons (pg_name (i:=0) (show (["place","name","opened"] : List Str).Nodup by decide +kernel) rfl (Or.inl rfl) (.inr rfl)) (pgs_cons (pg_name (i:=1) (show (["place","name","opened"] : List Str).Nodup by decide +kernel) rfl (Or.inl rfl) (.inr rfl)) pgs_nil))) frm_two (fun _ _ _ _ _=>pts_one (pt_cmpR (kop_notIn (K:=K)) (pv 1) (pe_slice (ksl_list (K:=K)) (pv 2) po_none (po_some (pv 0))) rfl)) (fun _ _ _ _ _=>(pv 1))))
   (pss_cons (ps_set (i:=5) sc.nd rfl (Or.inl rfl) pe_int)
   (pss_cons (ps_for PassesOwn.never rfl (pi_enumL (K:=K) rfl B.enumerate (pa_cons (pv 4) pa_nil)) (pg_tup rfl (pgs_cons (pg_name (i:=6) sc.nd rfl (Or.inl rfl)) (pgs_cons (pg_name (i:=7) sc.nd rfl (Or.inl rfl)) pgs_nil)))
   pss_never)
   (pss_cons (ps_lc (i:=8) sc.nd rfl rfl (N':=["name","packets","woods_opened"]) (M:=[none,none,some 4]) (lcSc_of (by rfl)) rfl (kpi_list (K:=K) (pe_calM0 cTray_all_woods clTray (hr.mono (by decide)) (pv 0))) (fun _ _ _ _ _=>kpg_tup (K:=K) (n:=2) rfl (pgs_cons (pg_name (i:=0) (show (["name","packets","woods_opened"] : List Str).Nodup by decide +kernel) rfl (Or.inl rfl) (.inr rfl)) (pgs_cons (pg_name (i:=1) (show (["name","packets","woods_opened"] : List Str).Nodup by decide +kernel) rfl (Or.inl rfl) (.inr rfl)) pgs_nil))) frm_two (fun _ _ _ _ _=>pts_one (pt_cmpR (kop_notIn (K:=K)) (pv 0) (pv 2) rfl)) (fun _ _ _ _ _=>(pv 1)))
   (pss_cons (ps_lc (i:=9) sc.nd rfl rfl (N':=["wood","shut"]) (M:=[none,some 3]) (lcSc_of (by rfl)) rfl (pi_range2 rfl B.range (pa_cons (pe_callB (kc_len (K:=K)) (by rfl) B.len PyProof.Rows.Boot.«len» (pa_cons (pv 4) pa_nil)) (pa_cons (pe_op op_add (pe_callB (kc_max (K:=K)) (by rfl) B.max PyProof.Rows.Boot.«max» (pa_cons (pv 2) pa_nil)) pe_int) pa_nil))) (fun _ _ _ _ _=>pg_name (i:=0) (show (["wood","shut"] : List Str).Nodup by decide +kernel) rfl (Or.inl rfl) (.inr rfl)) (frm_name rfl) (fun _ _ _ _ _=>pts_nil) (fun _ _ _ _ _=>(pe_bmT PySem.F.slot_tuple_count PySem.F.type_tuple_count (mt_countTu (K:=K)) (pv 1) (pa_cons (pv 0) pa_nil))))
   (pss_one (ps_ret (pe_op op_mulW (pv 5) (pe_cal cfillings (hr.mono (by decide)) rfl (pa_cons (pv 8) (pa_cons (pv 9) pa_nil))))))))))))),?_⟩
  obtain ⟨w1,w9,w0⟩:=isWay_iff.mp hw
  obtain ⟨x1,x2,x3⟩:=woodsOk_iff.mp hW
  have hne:ws≠[]:=fun e=>by rw[e] at w1;simp at w1
  obtain ⟨f1,fm⟩:=fresh_pos w0 hne
  have fl:=fresh_le ws
  refine seq_a ?_
  refine ⟨_,rfl,_,rfl,l,_,rfl,.inl (SqL.of hl),_,rfl,a,_,rfl,ha,fun sh H1 s1 hsh=>?_⟩
  have e0:cutV (ws.map V.int) (some ((([]:List V).length:Nat):Int)) none=ws.map V.int:= by
   rw[show ((([]:List V).length:Nat):Int)=((0:Nat):Int) from rfl,cut_drop_int,List.drop_zero]
  rw[e0] at hsh
  have hl1:=s1 _ _ hl
  refine seq_ifN (b:=false) (P:=fun H'=>H1=H') (fun N hN=>⟨_,rfl,_,.inl ⟨[],SqL.of hl1,rfl⟩,iteF (hN _ rfl)⟩) (fun g=>by cases g) (fun _ H' e=>?_)
  subst e
  refine seq_a ?_
  refine ⟨_,rfl,l,rfl,⟨_,SqL.of hl1⟩,lc_it (n:=0) (fun i ys H2=>H2=H1/\ys=[]) (le_line (by simp)) ⟨rfl,rfl⟩ (fun i ys H2 hi _=>absurd hi (by omega)) (fun ys H2 e=>⟨[],by rw[e.1];exact SqL.of hl1,by simp⟩) (fun i ys H2 _ e=>by rw[e.2];simp) (fun i x ys H2 H3 hi _ _=>absurd hi (by omega)) ?_⟩
  rintro ys H2 ⟨rfl,rfl⟩ u hu
  have n3:=Same.new (o:=HO.lst []) hu
  have s3:=s1.trans n3
  have hu3:upd H2 u (HO.lst []) u=some (.lst []):=upd_same
  have hsh3:=hsh.same n3
  generalize upd H2 u (HO.lst [])=H3 at n3 s3 hu3 hsh3
  refine seq_a ?_
  refine seq_by2 (fun σ' H'=>σ'=[some (.ref p),some (.ref l),some (.ref a),some (.ref sh),some (.ref u),some (.int 1),none,none,none,none]/\H'=H3) (fun N hN=>?_) ?_
  ·refine ⟨_,rfl,u,rfl,⟨_,SqL.of hu3⟩,for_enumL (K:=K) (a:=u) (xs:=[]) (fun i σ H4=>σ=[some (.ref p),some (.ref l),some (.ref a),some (.ref sh),some (.ref u),some (.int 1),none,none,none,none]/\H4=H3) ⟨rfl,rfl⟩ (fun i σ H4 _ e=>by rw[e.2];exact SqL.of hu3) (fun i y σ H4 t hi _ _=>by cases hi) (fun σ H4 e=>hN _ _ e)⟩
  rintro σ H4 ⟨rfl,rfl⟩
  refine seq_l ?_
  have hT4:=hT.same s3
  obtain ⟨dx,lt,as0,t1,t2,t3⟩:=id hT4
  refine ⟨_,rfl,p,dx,_,rfl,t1,stkF_no lt (by decide +kernel),p,W,rfl,hT4,fun q as H5 hq s5 hq5 hA5=>?_⟩
  have hal:(as.map V.ref).length=W.length:=by rw[List.length_map,hA5.length]
  have hu5:=s5 _ _ hu3
  refine ⟨q,rfl,⟨_,SqL.of hq5⟩,lc_list (xs:=as.map V.ref) (fun i ys H6=>H6=H5/\ys=((W.take i).map (·.2)).map V.int) (le_line (by omega)) ⟨rfl,rfl⟩
   (fun i ys H6 _ h=>⟨by rw[h.1];exact SqL.of hq5,by rw[h.2,List.length_map,List.length_map,List.length_take];omega⟩) ?_ ?_⟩
  ·rintro i y ys H6 hi ⟨rfl,rfl⟩
   obtain ⟨q',rfl,hq',hil⟩:=getRef hi
   obtain ⟨w,hww,hwi⟩:=paired_getM hA5 hq'
   refine ⟨q',_,rfl,SqT.of hww,rfl,_,_,rfl,_,_,rfl,rfl,?_⟩
   refine ⟨_,rfl,_,rfl,u,[],rfl,.inl (SqL.of hu5),rfl,rfl,_,rfl,iteT ?_⟩
   refine ⟨_,rfl,rfl,?_⟩
   rw[map_take_snoc hwi,List.map_append];rfl
  rintro ys H6 ⟨rfl,rfl⟩ st hst
  rw[hal,List.take_length]
  have n7:=Same.new (o:=HO.lst ((W.map (·.2)).map V.int)) hst
  have s7:=(s3.trans s5).trans n7
  have hst7:upd H6 st (HO.lst ((W.map (·.2)).map V.int)) st=some (.lst ((W.map (·.2)).map V.int)):=upd_same
  have hu7:=n7 _ _ hu5
  have hsh7:=(hsh3.same s5).same n7
  have ha7:=ha.same s7
  generalize upd H6 st (HO.lst ((W.map (·.2)).map V.int))=H7 at n7 s7 hst7 hu7 hsh7 ha7
  refine seq_l ?_
  refine ⟨_,rfl,u,_,rfl,.inl (SqL.of hu7),_,rfl,a,ws,rfl,.inr ha7.sq,hne,fun mx hmx=>?_⟩
  have em:mx=fresh 0 ws-1:=hmx.uniq fm
  subst em
  refine ⟨_,_,rfl,rfl,0,fresh 0 ws,?_,⟨by omega,by omega,by omega,by omega⟩,?_⟩
  ·show [V.int 0,V.int (fresh 0 ws-1+1)]=_
   rw[Int.sub_add_cancel]
  have en:(fresh 0 ws-0).toNat=(fresh 0 ws).toNat:=by omega
  rw[en]
  refine lc_range (fun i ys H8=>H8=H7/\ys=(lotS ws i).map V.int) (le_line (by omega)) ⟨rfl,rfl⟩ (fun i ys H8 _ h=>by rw[h.2,List.length_map,lotS_len];exact Nat.le_refl _) ?_ ?_
  ·rintro i ys H8 hi ⟨rfl,rfl⟩
   refine lcN ?_
   refine ⟨_,rfl,⟨sh,_,rfl,hsh7⟩,_,rfl,sh,ws,_,rfl,rfl,hsh7.sq,rfl,?_⟩
   rw[lotS_succ,List.map_append,Int.zero_add];rfl
  rintro ys H8 ⟨rfl,rfl⟩ sz hsz
  have n9:=Same.new (o:=HO.lst ((lotS ws (fresh 0 ws).toNat).map V.int)) hsz
  have hp:=lotS_pos w0
  have hsum:=lotS_sum ws (fresh 0 ws).toNat
  refine ⟨_,rfl,_,rfl,_,rfl,st,sz,W.map (·.2),lotS ws (fresh 0 ws).toNat,rfl,SqL.of (n9 _ _ hst7),SqL.of upd_same,fun x hx=>?_,by rw[List.length_map];omega,fun s hs=>(hp s hs).1,by omega,fun H' s'=>?_⟩
  ·obtain ⟨w,hwm,rfl⟩:=List.mem_map.mp hx
   exact (x3 w hwm).2
  ·refine ⟨_,_,rfl,rfl,mulOk_l ⟨by decide,by decide⟩,?_⟩
   show Q (V.int (1*_)) H'
   rw[Int.one_mul]
   exact k H' ((s7.trans n9).trans s')
theorem scfalling_sizes : FnScope (["censers","largest","found","size"]) (["censers","largest"]) (defScope sfalling_sizes):=by trivial
theorem okfalling_sizes {dd : Nat} {f : Addr} {fd : FuncData} (F : Fun K "falling_sizes" "falling_sizes" sfalling_sizes f fd) (B : Bs mg) (T : Gs mg)  (cfalling_sizes : Cal P w K mg base (1 + dd) "falling_sizes" [] (spFall K dd)) : FnOk P w K mg base CX0 (1 + dd + 1) f fd ["censers","largest"] (spFall K (dd + 1)):= by
 have sc:=scfalling_sizes
 refine F.ok sc (fun vs H Q E h=>?_) (fun cdv A outer s H vs Q E hr h=>?_)
 ·obtain ⟨_,n,m,rfl,_⟩:=h;rfl
 ·obtain ⟨hd0,n,m,rfl,hfu,n9,m9,k⟩:=h
  refine ⟨_,(pss_cons (ps_if (pt_cmpR op_eq (pv 0) pe_int (nomark _)) (pss_one (ps_ret (pe_lst (pa_cons (pe_lst pa_nil) pa_nil)))) pss_nil)
   (pss_cons (ps_set (i:=2) sc.nd rfl (Or.inl rfl) (pe_lst pa_nil))
   (pss_cons (ps_for PassesOwn.never rfl (pi_range2 rfl B.range (pa_cons pe_int (pa_cons (pe_op op_add (pe_callB kc_min2 (by rfl) B.min PyProof.Rows.Boot.«min» (pa_cons (pv 0) (pa_cons (pv 1) pa_nil))) pe_int) pa_nil))) (pg_name (i:=3) sc.nd rfl (Or.inr rfl))
   (pss_one (ps_set (i:=2) sc.nd rfl (Or.inl rfl) (pe_op op_cat (pv 2) (pe_lc (N':=["others","size"]) (M:=[none,some 3]) (lcSc_of (by rfl)) rfl (kpi_list (K:=K) (pe_cal cfalling_sizes (hr.mono (by omega)) rfl (pa_cons (pe_op op_sub (pv 0) (pv 3)) (pa_cons (pv 3) pa_nil)))) (fun _ _ _ _ _=>pg_name (i:=0) (show (["others","size"] : List Str).Nodup by decide +kernel) rfl (Or.inl rfl) (.inr rfl)) (frm_name rfl) (fun _ _ _ _ _=>pts_nil) (fun _ _ _ _ _=>(pe_op op_cat (pe_lst (pa_cons (pv 1) pa_nil)) (pv 0))))))))
   (pss_one (ps_ret (pv 2)))))),?_⟩
  by_cases e0:n=0
  ·subst e0
   refine ⟨_,rfl,rfl,_,rfl,?_⟩
   refine iteT ?_
   refine ⟨Nat.zero_le _,fun l0 hl0=>⟨le_line (by simp),fun l1 hl1=>?_⟩⟩
   have n1:=Same.new (o:=HO.lst ([]:List V)) hl0
   refine k l1 [l0] _ (n1.new2 hl1) upd_same ?_
   show LhAt _ [l0] (fsz (dd+1) 0 m)
   unfold fsz
   rw[if_pos rfl]
   exact .cons (Same.new hl1 _ _ upd_same) .nil
  have hne:decide (V.int (n:Int)=V.int 0)=false:=decide_eq_false fun e=>by injection e with e;omega
  refine seq_ifN (b:=false) (P:=fun H'=>H=H') (fun N hN=>⟨_,rfl,rfl,_,rfl,by rw[hne];exact hN _ rfl⟩) (fun g=>by cases g) (fun _ H' e=>?_)
  subst e
  refine seq_a ?_
  refine ⟨Nat.zero_le _,fun l0 hl0=>?_⟩
  have n1:=Same.new (o:=HO.lst ([]:List V)) hl0
  have hl1:upd H l0 (HO.lst []) l0=some (.lst (([]:List Addr).map V.ref)):=upd_same
  generalize upd H l0 (HO.lst [])=H1 at n1 hl1
  have em:(if (m:Int)<(n:Int) then (m:Int) else (n:Int))=((min n m:Nat):Int):=by split <;> omega
  have em2:((if (m:Int)<(n:Int) then (m:Int) else (n:Int))+1-1).toNat=min n m:=by rw[em];omega
  have step:fsz (dd+1) n m=(List.range (min n m)).flatMap fun i=>(fsz dd (n-(i+1)) (i+1)).map (((i+1:Nat):Int) :: ·):= by
   rw[fsz,if_neg e0]
  have hbd : ∀ i,i<=min n m->((List.range i).flatMap fun i=>(fsz dd (n-(i+1)) (i+1)).map (((i+1:Nat):Int) :: ·)).length<=10000:=fun i hi=>by
   have hs : ∀ i,i<=9->((List.range i).flatMap fun i=>(fsz dd (n-(i+1)) (i+1)).map (((i+1:Nat):Int) :: ·)).length<=i*512:=fun i=>by
    induction i with
    | zero=>intro _;simp
    | succ i ih=>
     intro hi
     have:=ih (by omega)
     have l:=fsz_len dd (n-(i+1)) (i+1)
     have l2:2 ^ (n-(i+1))<=2 ^ 9:=Nat.pow_le_pow_right (by decide) (by omega)
     rw[List.range_succ,List.flatMap_append,List.length_append]
     simp only [List.flatMap_cons,List.flatMap_nil,List.append_nil,List.length_map]
     omega
   have:=hs i (by omega)
   omega
  refine ⟨_,rfl,_,rfl,_,_,rfl,_,_,rfl,rfl,1,(if (m:Int)<(n:Int) then (m:Int) else (n:Int))+1,rfl,(by rw[em];omega),for_range (lo:=1) (n:=((if (m:Int)<(n:Int) then (m:Int) else (n:Int))+1-1).toNat) (fun i σ H2=>∃ (l:Addr) (ps:List Addr) (o3:Option V),σ=[some (.int (n:Int)),some (.int (m:Int)),some (.ref l),o3]/\Same H H2/\H2 l=some (.lst (ps.map V.ref))/\LhAt H2 ps ((List.range i).flatMap fun i=>(fsz dd (n-(i+1)) (i+1)).map (((i+1:Nat):Int) :: ·)))
   ⟨l0,[],none,rfl,n1,hl1,.nil⟩ ?_ ?_⟩
  ·rintro i σ H2 hi ⟨l,ps,o3,rfl,s2,hl2,hL2⟩
   rw[em2] at hi
   have ei:(1+(i:Int))=((i+1:Nat):Int):=by omega
   have e2:(n:Int)-((i+1:Nat):Int)=((n-(i+1):Nat):Int):=by omega
   refine gN ?_
   rw[ei]
   refine ⟨_,rfl,_,rfl,_,rfl,_,_,rfl,rfl,_,rfl,by omega,n-(i+1),i+1,by dsimp only;rw[e2];rfl,by omega,by omega,by omega,fun p qs H3 s3 hp3 hL3=>?_⟩
   have hpl:qs.length<=512:= by
    rw[hL3.length]
    have l:=fsz_len dd (n-(i+1)) (i+1)
    have l2:2 ^ (n-(i+1))<=2 ^ 9:=Nat.pow_le_pow_right (by decide) (by omega)
    omega
   refine ⟨p,rfl,⟨_,SqL.of hp3⟩,lc_list (xs:=qs.map V.ref) (fun j ys H4=>Same H3 H4 /\ ∃ us:List Addr,ys=us.map V.ref/\LhAt H4 us (((fsz dd (n-(i+1)) (i+1)).take j).map (((i+1:Nat):Int) :: ·))) (le_line (by rw[List.length_map];omega)) ⟨Same.refl _,[],rfl,.nil⟩
    (fun j ys H4 hj ⟨s4,us,e,hU⟩=>⟨SqL.of (s4 _ _ hp3),by rw[e,List.length_map,hU.length,List.length_map,List.length_take];omega⟩) ?_ ?_⟩
   ·rintro j y ys H4 hj ⟨s4,us,rfl,hU⟩
    obtain ⟨q,rfl,hq,hjl⟩:=getRef hj
    obtain ⟨r,hr',hrj⟩:=paired_getM hL3 hq
    have hr9:=(fsz_row _ _ _ r (List.mem_of_getElem? hrj)).2.2
    refine lcN ?_
    refine ⟨_,rfl,le_line (by simp),fun z hz=>?_⟩
    have n5:=Same.new (o:=HO.lst [V.int ((i+1:Nat):Int)]) hz
    refine ⟨_,rfl,z,q,_,_,rfl,rfl,upd_same,n5 _ _ (s4 _ _ hr'),le_line (by simp;omega),fun z2 hz2=>?_⟩
    refine ⟨(s4.trans n5).new2 hz2,us++[z2],ref_snoc,?_⟩
    rw[map_take_snoc hrj]
    exact Paired.snoc ((hU.sameH n5).sameH (Same.new hz2)) upd_same
   ·rintro ys H4 ⟨s4,us,rfl,hU⟩ z hz
    rw[List.length_map,hL3.length,List.take_length] at hU
    have n5:=Same.new (o:=HO.lst (us.map V.ref)) hz
    have hl5:=n5 _ _ (s4 _ _ (s3 _ _ hl2))
    have hlb:=hbd (i+1) (by omega)
    rw[List.range_succ,List.flatMap_append,List.length_append] at hlb
    simp only [List.flatMap_cons,List.flatMap_nil,List.append_nil] at hlb
    have hpsl:=hL2.length
    have husl:=hU.length
    refine ⟨l,z,_,_,rfl,rfl,hl5,upd_same,le_line (by rw[List.length_map,List.length_map];omega),fun z2 hz2=>?_⟩
    refine ⟨z2,ps++us,_,rfl,(((s2.trans s3).trans s4).trans n5).new2 hz2,by rw[upd_same,List.map_append],?_⟩
    rw[List.range_succ,List.flatMap_append]
    simp only [List.flatMap_cons,List.flatMap_nil,List.append_nil]
    exact paired_app ((((hL2.sameH s3).sameH s4).sameH n5).sameH (Same.new hz2)) ((hU.sameH n5).sameH (Same.new hz2))
  ·rintro σ H2 ⟨l,ps,o3,rfl,s2,hl2,hL2⟩
   rw[em2,<- step] at hL2
   exact ⟨_,rfl,k l ps H2 s2 hl2 hL2⟩
theorem scfirst_way : FnScope (["sizes"]) (["sizes"]) (defScope sfirst_way):=by trivial
theorem okfirst_way {f : Addr} {fd : FuncData} (F : Fun K "first_way" "first_way" sfirst_way f fd) (B : Bs mg) (T : Gs mg)   : FnOk P w K mg base CX0 1 f fd ["sizes"] (spFirstW K):= by
 have sc:=scfirst_way
 refine F.ok sc (fun vs H Q E h=>?_) (fun cdv A outer s H vs Q E hr h=>?_)
 ·obtain ⟨l,L,rfl,_⟩:=h;rfl
 ·obtain ⟨l,L,rfl,hl,hL,h9,k⟩:=h
  refine ⟨_,(pss_one (ps_ret (pe_callTy (kc_tupleO (K:=K)) (by rfl) B.tuple PyProof.Rows.Boot.«tuple» (pa_cons (pe_lc2 (N':=["wood","size","censer"]) (M:=[none,none,none]) (lcSc_of (by rfl)) rfl (pi_enumL (K:=K) rfl B.enumerate (pa_cons (pv 0) pa_nil)) (fun _ _ _ _ _=>kpg_tup (K:=K) (n:=2) rfl (pgs_cons (pg_name (i:=0) (show (["wood","size","censer"] : List Str).Nodup by decide +kernel) rfl (Or.inl rfl) (.inr rfl)) (pgs_cons (pg_name (i:=1) (show (["wood","size","censer"] : List Str).Nodup by decide +kernel) rfl (Or.inl rfl) (.inr rfl)) pgs_nil))) own_two (fun _ _ _ _ _=>pts_nil) (by decide) (by decide) (fun _ _ _ _ _=>(pi_range1 rfl B.range (pa_cons (pv 1) pa_nil))) (fun _ _ _ _ _=>pg_name (i:=2) (show (["wood","size","censer"] : List Str).Nodup by decide +kernel) rfl (Or.inl rfl) (.inr rfl)) own_name (fun _ _ _ _ _=>pts_nil) (fun _ _ _ _ _=>(pv 0))) pa_nil)))),?_⟩
  have hll:(L.map V.int).length=L.length:=List.length_map ..
  have hfl : ∀ i,(fw (L.take i)).length<=81:=fun i=>by
   have:=fw_len (L.take i) 0 fun x hx=>hL x (List.mem_of_mem_take hx)
   have h2:(L.take i).length<=9:=by rw[List.length_take];omega
   unfold fw;omega
  refine ⟨_,rfl,l,rfl,⟨_,hl⟩,?_⟩
  refine lcw_enumL (K:=K) (a:=l) (xs:=L.map V.int) (fun i ys H2=>Same H H2/\ys=(fw (L.take i)).map V.int) ⟨Same.refl H,rfl⟩ (fun i ys H2 _ h=>⟨h.1.seq hl,by rw[h.2,ltm];exact le_line (by have:=hfl i;omega)⟩) ?_ ?_
  ·rintro i y ys H2 t hi ⟨s2,rfl⟩ ht
   obtain ⟨x,rfl,hx,hil⟩:=getI hi
   have hx9:=hL x (List.mem_of_getElem? hx)
   have n3:=Same.new (o:=HO.tup [V.int (i:Int),V.int x]) ht
   refine ⟨t,_,rfl,SqT.of upd_same,rfl,_,_,rfl,_,_,rfl,rfl,?_⟩
   generalize upd H2 t (HO.tup [V.int (i:Int),V.int x])=H3 at n3
   refine lcYM ?_
   refine ⟨_,rfl,x,rfl,by omega,by omega,?_⟩
   have hfi:=hfl i
   refine lcw_range (lo:=0) (n:=x.toNat) (fun j ys H4=>Same H3 H4/\ys=(fw (L.take i)++List.replicate j (i:Int)).map V.int) ⟨Same.refl H3,by simp⟩ (fun j ys H4 hj h=>by rw[h.2,ltm,List.length_append,List.length_replicate];exact le_line (by omega)) ?_ ?_
   ·rintro j ys H4 hj ⟨s4,rfl⟩
    refine lcM ⟨lt_line (by rw[ltm,List.length_append,List.length_replicate];omega),?_⟩
    refine ⟨_,rfl,s4,?_⟩
    rw[rep_snoc,<- List.append_assoc];exact mapV
   ·rintro ys H4 ⟨s4,rfl⟩
    exact ⟨(s2.trans n3).trans s4,by rw[fw_take hx]⟩
  ·rintro ys H2 ⟨s2,rfl⟩ p hp
   rw[hll,List.take_length]
   exact ⟨p,_,rfl,SqL.of upd_same,.inr fun q ob hq hob=>k q _ ((s2.new2 hp).new2 hq) ⟨ob,hob,upd_same⟩⟩
theorem sclikeliest : FnScope (["tray","censers","firsts"]) (["tray","censers"]) (defScope slikeliest):=by trivial
theorem oklikeliest {f : Addr} {fd : FuncData} (F : Fun K "likeliest" "likeliest" slikeliest f fd) (hfc9 : fd.code = .ref CTlikeliest) (hC9 : PySem.W.CodeHd base CTlikeliest PTlikeliest) (bm9 : BmAt mg base) (B : Bs mg) (T : Gs mg)  (ccheck_enough : CalE P w K mg base 2 "check_enough" [] (spEnough K CTray CTooFew)) (ccheck_many : CalE P w K mg base 1 "check_many" [] (spCheckMany CBadMany)) (cfalling_sizes : Cal P w K mg base 11 "falling_sizes" [] (spFall K 10)) (cfirst_way : Cal P w K mg base 1 "first_way" [] (spFirstW K)) (corders_behind : Cal P w K mg base 3 "orders_behind" [] (spOB0 K CTray)) : FnOk P w K mg base (CXE P w) 14 f fd ["tray","censers"] (spLike K CTray CBadMany CTooFew PTlikeliest):= by
 have sc:=sclikeliest
 refine F.okCE hfc9 sc (fun vs H Q E h=>?_) (fun cdv hcd9 A outer s H vs Q E hr F0 h=>?_)
 ·obtain ⟨p,W,n,rfl,_⟩:=h;rfl
 ·subst hcd9
  obtain ⟨p,W,n,rfl,hT,hW,hTab,kM,kF,k⟩:=h
  refine ⟨_,(pss_cons (ps_expr (pe_calE ccheck_many (hr.mono (by decide)) rfl (pass_fn F0) (pa_cons (pv 1) pa_nil)))
   (pss_cons (ps_expr (pe_calE ccheck_enough (hr.mono (by decide)) rfl (pass_fn F0) (pa_cons (pv 0) (pa_cons (pv 1) pa_nil))))
   (pss_cons (ps_set (i:=2) sc.nd rfl (Or.inl rfl) (pe_callB (call_sortedP (K:=K)) (by rfl) B.sorted PyProof.Rows.Boot.«sorted» (pa_cons (pe_lc (N':=["sizes"]) (M:=[none]) (lcSc_of (by rfl)) rfl (kpi_list (K:=K) (pe_cal cfalling_sizes (hr.mono (by decide)) rfl (pa_cons (pv 1) (pa_cons (pv 1) pa_nil)))) (fun _ _ _ _ _=>pg_name (i:=0) (show (["sizes"] : List Str).Nodup by decide +kernel) rfl (Or.inl rfl) (.inr rfl)) (frm_name rfl) (fun _ _ _ _ _=>pts_nil) (fun _ _ _ _ _=>(pe_cal cfirst_way (hr.mono (by decide)) rfl (pa_cons (pv 0) pa_nil)))) pa_nil)))
   (pss_one (ps_ret (pe_maxL (x:="way") (fr:=["tray"]) (ix:=[0]) hr (by rfl) B.max rfl rfl rfl hC9 bm9 (by exact ⟨rfl,rfl,rfl,rfl,by decide +kernel,by decide +kernel,(List.forall_mem_cons.mpr ⟨rfl,(fun _ h=>nomatch h)⟩),(List.forall_mem_cons.mpr ⟨⟨_,rfl⟩,(fun _ h=>nomatch h)⟩),(List.forall_mem_cons.mpr ⟨⟨rfl,rfl⟩,(fun _ h=>nomatch h)⟩),(.cons rfl .nil),fun _ _ _ _ _=>rfl⟩) (fun _ _ _ _=>(pe_cal corders_behind ((hr.in1.deeper _).mono (by decide)) rfl (pa_cons (pv 1) (pa_cons (pe_lst pa_nil) (pa_cons (pv 0) pa_nil))))) (pa_cons (pv 2) pa_nil))))))),?_⟩
  obtain ⟨x1,x2,x3⟩:=woodsOk_iff.mp hW
  refine ⟨_,rfl,_,rfl,fun n1 n9=>?_,fun hn=>kM hn _ (Same.refl H)⟩
  refine ⟨_,rfl,_,rfl,p,W,_,rfl,hT,by omega,fun ht H1 s1=>?_,fun ht H1 s1=>kF n1 n9 ht _ s1⟩
  obtain ⟨N,rfl⟩:=Int.eq_ofNat_of_zero_le (show 0<=n by omega)
  rw[Int.toNat_natCast] at k
  have hN:N<10:=by omega
  dsimp only
  refine seq_a ?_
  refine ⟨_,rfl,_,rfl,by decide,N,N,rfl,by omega,by omega,by omega,fun l ps H2 s2 hl2 hL2=>?_⟩
  obtain ⟨u1,u2,u3,u4⟩:=FW_up N hN
  have hlen:(fsz 10 N N).length<=30:= by
   have:=(List.isPerm_iff.mp u2).length_eq
   rw[List.length_map] at this
   omega
  have hpl:=hL2.length
  refine ⟨l,rfl,⟨_,SqL.of hl2⟩,lc_list (xs:=ps.map V.ref) (fun j ys H3=>Same H2 H3 /\ ∃ qs:List Addr,ys=qs.map V.ref/\PlAt H3 qs (((fsz 10 N N).take j).map fw)) (le_line (by rw[List.length_map];omega)) ⟨Same.refl _,[],rfl,.nil⟩
   (fun j ys H3 hj ⟨s3,qs,e,hQ⟩=>⟨SqL.of (s3 _ _ hl2),by rw[e,List.length_map,hQ.length,List.length_map,List.length_take];omega⟩) ?_ ?_⟩
  ·rintro j y ys H3 hj ⟨s3,qs,rfl,hQ⟩
   obtain ⟨q,rfl,hq,hjl⟩:=getRef hj
   obtain ⟨r,hr',hrj⟩:=paired_getM hL2 hq
   obtain ⟨f1,f2,f3⟩:=fsz_row _ _ _ r (List.mem_of_getElem? hrj)
   have hle : ∀ x ∈ r,x<=9:=fun x hx=>by
    have h0 : ∀ (L:List Int),(∀ y ∈ L,1<=y) -> ∀ y ∈ L,y<=L.sum:=fun L=>by
     induction L with
     | nil=>intro _ y hy;simp at hy
     | cons a L ih=>
      intro h1 y hy
      have hs:0<=L.sum:=sum_nonneg fun z hz=>by have:=h1 z (List.mem_cons_of_mem _ hz);omega
      have ha:=h1 a List.mem_cons_self
      rw[List.sum_cons]
      rcases List.mem_cons.mp hy with rfl | hy
      ·omega
      ·have:=ih (fun z hz=>h1 z (List.mem_cons_of_mem _ hz)) y hy
       omega
    have:=h0 r f1 x hx
    omega
   refine lcN ?_
   refine ⟨_,rfl,q,r,rfl,SqL.of (s3 _ _ hr'),fun x hx=>⟨by have:=f1 x hx;omega,hle x hx⟩,by omega,fun t H4 s4 ht4=>⟨s3.trans s4,qs++[t],ref_snoc,?_⟩⟩
   rw[map_take_snoc hrj]
   exact Paired.snoc (hQ.same s4) ht4
  rintro ys H3 ⟨s3,qs,rfl,hQ⟩ u hu
  rw[List.length_map,hpl,List.take_length] at hQ
  have n4:=Same.new (o:=HO.lst (qs.map V.ref)) hu
  have hql:=hQ.length
  rw[List.length_map] at hql
  refine ⟨u,qs,_,rfl,SqL.of upd_same,hQ.same n4,by omega,fun x hx=>?_,fun v vs yss hV hperm hup hv=>?_⟩
  ·have hxm:x ∈ FW N:=(List.isPerm_iff.mp u2).symm.subset hx
   intro e
   have:=(FW_way N hN (by omega) x hxm).2
   rw[e] at this;simp at this;omega
  have eF:=FW_eq hN hperm hup
  subst eF
  have hvl:=hV.length
  have n5:=Same.new (o:=HO.lst (vs.map V.ref)) hv
  have S5:=((s1.trans s2).trans s3).trans (n4.trans n5)
  have hV5:=hV.same n5
  have hv5:upd (upd H3 u (HO.lst (qs.map V.ref))) v (HO.lst (vs.map V.ref)) v=some (.lst (vs.map V.ref)):=upd_same
  generalize upd (upd H3 u (HO.lst (qs.map V.ref))) v (HO.lst (vs.map V.ref))=H5 at n5 S5 hV5 hv5
  have hTab5:=hTab.same S5
  obtain ⟨tp,hP0,_⟩:=id hTab5
  have nP : ∀ {b:Addr} {o:HO},H5 b=some o->(∀ ps,o ≠ .tbl ps)->hole H5 PTlikeliest b=some o:=fun {b o} e hne=>by
   unfold hole
   rw[if_neg (fun z=>by rw[z,hP0] at e;cases e;exact hne _ rfl)];exact e
  have hTz:TrayAt CTray (hole H5 PTlikeliest) p W:= by
   obtain ⟨dx,tl,as,g1,g2,g3⟩:=hT.same S5
   exact ⟨dx,tl,as,nP g1 (fun _ z=>by cases z),nP g2 (fun _ z=>by cases z),L2.Paired.mapP g3 fun _ _ z=>nP z (fun _ z=>by cases z)⟩
  have hVz:PlAt (hole H5 PTlikeliest) vs (FW N):=L2.Paired.mapP hV5 fun _ _ z=>by
   obtain ⟨ob,z1,z2⟩:=z
   exact ⟨ob,z1,nP z2 (fun _ z=>by cases z)⟩
  refine ⟨_,rfl,v,vs,kfW (W.map (·.2)) N,rfl,SqL.of (nP hv5 (fun _ z=>by cases z)),by rw[hvl];exact u4 (by omega),hTab5,fun i a hi H' s'=>?_,fun i a H' hi htop s' hT'=>?_⟩
  ·obtain ⟨ws,hws,hwi⟩:=paired_getM hVz hi
   have ews:(FW N).getD i []=ws:=by rw[List.getD_eq_getElem?_getD,hwi];rfl
   obtain ⟨w1,w2⟩:=FW_way N hN (by omega) ws (List.mem_of_getElem? hwi)
   refine ⟨_,rfl,Nat.zero_le _,fun eo heo=>?_⟩
   have n6:=Same.new (o:=HO.lst ([]:List V)) heo
   refine ⟨_,rfl,p,eo,a,W,ws,rfl,(hTz.same s').same n6,hW,upd_same,(hws.same s').same n6,isWay_iff.mpr ⟨by omega,by omega,w1⟩,fun H6 s6=>⟨?_,n6.trans s6⟩⟩
   unfold kfW
   rw[ews]
  ·obtain ⟨ws,hws,hwi⟩:=paired_getM hVz hi
   have hil:=(List.getElem?_eq_some_iff.mp hwi).1
   rw[hvl] at htop
   refine k n1 n9 ht a i H' ((hole_same S5).trans s') hT' hil htop ?_
   rw[show (FW N).getD i []=ws by rw[List.getD_eq_getElem?_getD,hwi];rfl]
   exact hws.same s'
theorem sc_law_num : FnScope (["_law_found"]) (["_law_found"]) (defScope s_law_num):=by trivial
theorem ok_law_num {f : Addr} {fd : FuncData} (F : Fun K "_law_num" "_law_num" s_law_num f fd) (B : Bs mg) (T : Gs mg)   : FnOk P w K mg base CX0 1 f fd ["_law_found"] spNum:= by
 have sc:=sc_law_num
 refine F.ok sc (fun vs H Q E h=>?_) (fun cdv A outer s H vs Q E hr h=>?_)
 ·obtain ⟨z,rfl,_⟩:=h;rfl
 ·obtain ⟨z,rfl,k⟩:=h
  refine ⟨_,(pss_one (ps_ret (pe_and (pe_callB (kc_isi (K:=K)) (by rfl) B.isinstance PyProof.Rows.Boot.«isinstance» (pa_cons (pv 0) (pa_cons (pe_bltn (v:=.ty "int") rfl B.int PyProof.Rows.Boot.«int» rfl) pa_nil))) (pe_one (pe_not (pe_callB (kc_isi (K:=K)) (by rfl) B.isinstance PyProof.Rows.Boot.«isinstance» (pa_cons (pv 0) (pa_cons (pe_bltn (v:=.ty "bool") rfl B.bool PyProof.Rows.Boot.«bool» rfl) pa_nil)))))))),?_⟩
  refine ⟨_,rfl,.int z,"int",_,true,rfl,TyOf.int z,rfl,_,rfl,iteT ?_⟩
  exact ⟨_,rfl,.int z,"bool",_,false,rfl,TyOf.int z,rfl,_,rfl,k⟩
theorem sc_law_row_ok : FnScope (["_law_row"]) (["_law_row"]) (defScope s_law_row_ok):=by trivial
theorem ok_law_row_ok {f : Addr} {fd : FuncData} (F : Fun K "_law_row_ok" "_law_row_ok" s_law_row_ok f fd) (B : Bs mg) (T : Gs mg)   : FnOk P w K mg base CX0 1 f fd ["_law_row"] (spRowOk K):= by
 have sc:=sc_law_row_ok
 refine F.ok sc (fun vs H Q E h=>?_) (fun cdv A outer s H vs Q E hr h=>?_)
 ·obtain ⟨a,ns,rfl,_⟩:=h;rfl
 ·obtain ⟨a,ns,rfl,hS,hln,k⟩:=h
  refine ⟨_,(pss_cons (ps_if (PW.pt (pw_or (pt_not (pt_chain op_le op_le pe_int (pe_callB (kc_len (K:=K)) (by rfl) B.len PyProof.Rows.Boot.«len» (pa_cons (pv 0) pa_nil)) pe_int)) (pw_or1 (pt_cmpR op_ne (pe_ix (kix_tup (K:=K)) (pv 0) pe_int (fun _ _=>rfl)) pe_int (nomark _))))) (pss_one (ps_ret pe_bl)) pss_nil)
   (pss_one (ps_ret (pe_callB (kc_all (K:=K)) (by rfl) B.all PyProof.Rows.Boot.«all» (pa_cons (pe_lc (N':=["_law_k","_law_row"]) (M:=[none,some 0]) (lcSc_of (by rfl)) rfl (pi_range2 rfl B.range (pa_cons pe_int (pa_cons (pe_callB (kc_len (K:=K)) (by rfl) B.len PyProof.Rows.Boot.«len» (pa_cons (pv 0) pa_nil)) pa_nil))) (fun _ _ _ _ _=>pg_name (i:=0) (show (["_law_k","_law_row"] : List Str).Nodup by decide +kernel) rfl (Or.inl rfl) (.inr rfl)) (frm_name rfl) (fun _ _ _ _ _=>pts_nil) (fun _ _ _ _ _=>(pe_chain op_le op_le pe_int (pe_ix (kix_tup (K:=K)) (pv 1) (pv 0) (fun _ _=>rfl)) (pe_op op_add (pe_callB (kc_max (K:=K)) (by rfl) B.max PyProof.Rows.Boot.«max» (pa_cons (pe_slice (ksl_tup (K:=K)) (pv 1) po_none (po_some (pv 0))) pa_nil)) pe_int)))) pa_nil))))),?_⟩
  refine ⟨_,rfl,a,_,rfl,.inr hS,_,_,rfl,rfl,_,rfl,?_⟩
  rw[ltm]
  have no : ¬ (1<=ns.length/\ns.length<=9)->rowOk ns=false:=fun z=>by
   unfold rowOk
   rw[<- Bool.decide_and,decide_eq_false z];rfl
  refine ite2 (fun h1=>⟨_,_,rfl,rfl,_,rfl,ite2 (fun h2=>iteT ?_) (fun h2=>?_)⟩) (fun h1=>⟨_,rfl,iteT (iteT ?_)⟩)
  ·have k:=k H (Same.refl H)
   rw[no (by simp at h2;omega)] at k
   exact k
  ·have h1:(1:Int)<=(ns.length:Int):=of_decide_eq_true h1
   have h2:(ns.length:Int)<=9:=by simp at h2;omega
   have e0:rowOk ns=(decide (ns.getD 0 1=0)&&rowAll ns):= by
    unfold rowOk
    rw[decide_eq_true (show 1<=ns.length by omega),decide_eq_true (show ns.length<=9 by omega)];rfl
   have hp0:0<ns.length:=by omega
   have g0:ns.getD 0 1=ns.getD 0 0:= by
    rw[List.getD_eq_getElem?_getD,List.getD_eq_getElem?_getD,List.getElem?_eq_getElem hp0];rfl
   rw[e0,g0] at k
   refine ⟨_,rfl,a,_,_,_,rfl,rfl,hS,atI_lt (i:=0) (by decide) (by omega),rfl,_,rfl,ite2 (fun g=>?_) (fun g=>?_)⟩
   ·have g : ¬ ns.getD 0 0=0:=fun e=>by
     have e':ns.getD (0:Int).toNat 0=0:=e
     rw[e'] at g
     exact absurd g (by decide)
    have k:=k H (Same.refl H)
    rw[decide_eq_false g,Bool.false_and] at k
    exact k
   ·have g:ns.getD 0 0=0:= by
     have g' : ¬ (!decide (V.int (ns.getD 0 0)=V.int 0))=true:=g
     rw[Bool.not_eq_true,Bool.not_eq_false'] at g'
     exact V.int.inj (of_decide_eq_true g')
    rw[decide_eq_true g,Bool.true_and] at k
    refine ⟨_,rfl,a,_,rfl,.inr hS,_,_,rfl,⟨by decide,by decide,by rw[ltm];omega,by rw[ltm];omega⟩,?_⟩
    rw[ltm,show ((ns.length:Int)-1).toNat=ns.length-1 by omega]
    refine lc_range (fun i ys H2=>Same H H2/\ys=(List.range i).map fun j=>V.bl (decide (0<=ns.getD (j+1) 0)&&decide (ns.getD (j+1) 0<=maxL (ns.take (j+1))+1))) (le_line (by omega)) ⟨Same.refl H,rfl⟩
     (fun i ys H2 _ h=>by rw[h.2,List.length_map,List.length_range];exact Nat.le_refl _) ?_ ?_
    ·rintro i ys H2 hi ⟨s2,rfl⟩
     have e1:(1:Int)+(i:Int)=((i+1:Nat):Int):=by omega
     have hS2:=s2.seqT hS
     rw[e1]
     refine lcN ?_
     refine ⟨_,rfl,_,rfl,a,_,_,_,rfl,rfl,hS2,atI_lt (by omega) (by omega),_,_,rfl,rfl,_,rfl,?_⟩
     rw[Int.toNat_natCast]
     refine ite2 (fun g1=>?_) (fun g1=>?_)
     ·refine ⟨_,rfl,_,rfl,_,rfl,a,_,rfl,hS2,fun p H3 s3 hp3=>?_⟩
      rw[cut_take_int] at hp3
      refine ⟨p,_,rfl,.inr hp3,(fun e=>by have:=congrArg List.length e;rw[List.length_take,List.length_nil] at this;omega),fun m hm=>?_⟩
      refine ⟨_,_,rfl,rfl,_,_,rfl,rfl,s2.trans s3,?_⟩
      rw[<- map_snoc]
      rw[hm.eq,of_decide_eq_true g1 |> decide_eq_true,Bool.true_and]
     ·refine ⟨s2,?_⟩
      rw[<- map_snoc]
      rw[Bool.not_eq_true] at g1
      rw[g1,Bool.false_and]
    ·rintro ys H2 ⟨s2,rfl⟩ p hp
     refine ⟨p,_,rfl,.inl (SqL.of (by rw[upd_same,mapB2])),?_⟩
     have e2:((List.range (ns.length-1)).map fun j=>decide (0<=ns.getD (j+1) 0)&&decide (ns.getD (j+1) 0<=maxL (ns.take (j+1))+1)).all id=rowAll ns:= by
      rw[List.all_map];rfl
     rw[e2]
     exact k _ (s2.new2 hp)
  ·have h1 : ¬ (1:Int)<=(ns.length:Int):=fun e=>h1 (decide_eq_true e)
   have k:=k H (Same.refl H)
   rw[no (by omega)] at k
   exact k
theorem sc_law_way_ok : FnScope (["_law_found","_law_size"]) (["_law_found","_law_size"]) (defScope s_law_way_ok):=by trivial
theorem ok_law_way_ok {f : Addr} {fd : FuncData} (F : Fun K "_law_way_ok" "_law_way_ok" s_law_way_ok f fd) (B : Bs mg) (T : Gs mg)  (c_law_num : Cal P w K mg base 1 "_law_num" [] spNum) (c_law_row_ok : Cal P w K mg base 1 "_law_row_ok" [] (spRowOk K)) : FnOk P w K mg base CX0 2 f fd ["_law_found","_law_size"] (spWayOkF K):= by
 have sc:=sc_law_way_ok
 refine F.ok sc (fun vs H Q E h=>?_) (fun cdv A outer s H vs Q E hr h=>?_)
 ·obtain ⟨a,ns,n,rfl,_⟩:=h;rfl
 ·obtain ⟨a,ns,n,rfl,hT,hl,k⟩:=h
  refine ⟨_,(pss_cons (ps_if (PW.pt (pw_or (pt_not (pt_val (pe_callB (kc_isiP (K:=K)) (by rfl) B.isinstance PyProof.Rows.Boot.«isinstance» (pa_cons (pv 0) (pa_cons (pe_bltn (v:=.ty "tuple") rfl B.tuple PyProof.Rows.Boot.«tuple» rfl) pa_nil))))) (pw_or (pt_cmpR op_ne (pe_callB (kc_len (K:=K)) (by rfl) B.len PyProof.Rows.Boot.«len» (pa_cons (pv 0) pa_nil)) (pv 1) (nomark _)) (pw_or1 (pt_not (pt_val (pe_callB (kc_all (K:=K)) (by rfl) B.all PyProof.Rows.Boot.«all» (pa_cons (pe_lc (N':=["_law_one"]) (M:=[none]) (lcSc_of (by rfl)) rfl (kpi_tup (K:=K) (pv 0)) (fun _ _ _ _ _=>pg_name (i:=0) (show (["_law_one"] : List Str).Nodup by decide +kernel) rfl (Or.inl rfl) (.inr rfl)) (frm_name rfl) (fun _ _ _ _ _=>pts_nil) (fun _ _ _ _ _=>(pe_cal c_law_num (hr.mono (by decide)) rfl (pa_cons (pv 0) pa_nil)))) pa_nil)))))))) (pss_one (ps_ret pe_bl)) pss_nil)
   (pss_one (ps_ret (pe_cal c_law_row_ok (hr.mono (by decide)) rfl (pa_cons (pv 0) pa_nil))))),?_⟩
  refine ⟨_,rfl,.ref a,"tuple",_,true,rfl,.inr ⟨a,_,rfl,hT,rfl⟩,rfl,_,rfl,iteF ?_⟩
  refine ⟨_,rfl,a,_,rfl,.inr (hT.sq),_,rfl,rfl,_,rfl,?_⟩
  rw[ltm]
  refine ite2 (fun g=>iteT ?_) (fun g=>?_)
  ·have g : ¬ (ns.length:Int)=n:=fun e=>by rw[e] at g;exact absurd g (by simp)
   have k:=k H (Same.refl H)
   rw[decide_eq_false g,Bool.false_and] at k
   exact k
  ·have g:(ns.length:Int)=n:= by
    have g' : ¬ (!decide (V.int (ns.length:Int)=V.int n))=true:=g
    rw[Bool.not_eq_true,Bool.not_eq_false'] at g'
    exact V.int.inj (of_decide_eq_true g')
   rw[decide_eq_true g,Bool.true_and] at k
   refine ⟨_,rfl,a,rfl,⟨_,hT.sq⟩,lc_tup (xs:=ns.map V.int) (fun i ys H4=>H4=H/\ys=(List.replicate i true).map V.bl) (le_line (by rw[ltm];omega)) ⟨rfl,rfl⟩
    (fun i ys H4 _ ⟨e,e2⟩=>⟨by rw[e];exact hT.sq,by rw[e2,List.length_map,List.length_replicate];exact Nat.le_refl _⟩) ?_ ?_⟩
   ·rintro i y ys H4 hi ⟨rfl,rfl⟩
    obtain ⟨z,rfl,hz,hil⟩:=getI hi
    refine lcN ?_
    refine ⟨_,rfl,z,rfl,rfl,?_⟩
    rw[List.replicate_succ',List.map_append];rfl
   ·rintro ys H4 ⟨rfl,rfl⟩ p hp
    refine ⟨p,_,rfl,.inl (SqL.of upd_same),_,rfl,?_⟩
    rw[show (List.replicate (List.map V.int ns).length true).all id=true by simp]
    refine iteF ?_
    exact ⟨_,rfl,a,ns,rfl,(Same.new hp).seqT (hT.sq),hl,fun H5 s5=>k H5 ((Same.new hp).trans s5)⟩
theorem sc_law_all : FnScope (["_law_size","_law_rows","_law_step","_law_longer","_law_row"]) (["_law_size"]) (defScope s_law_all):=by trivial
theorem ok_law_all {f : Addr} {fd : FuncData} (F : Fun K "_law_all" "_law_all" s_law_all f fd) (B : Bs mg) (T : Gs mg)   : FnOk P w K mg base CX0 1 f fd ["_law_size"] (spAllP K):= by
 have sc:=sc_law_all
 refine F.ok sc (fun vs H Q E h=>?_) (fun cdv A outer s H vs Q E hr h=>?_)
 ·obtain ⟨n,rfl,_⟩:=h;rfl
 ·obtain ⟨n,rfl,n1,n5,k⟩:=h
  refine ⟨_,(pss_cons (ps_set (i:=1) sc.nd rfl (Or.inl rfl) (pe_lst (pa_cons (pe_tupP (pa_cons pe_int pa_nil)) pa_nil)))
   (pss_cons (ps_for PassesOwn.never rfl (pi_range1 rfl B.range (pa_cons (pe_op op_sub (pv 0) pe_int) pa_nil)) (pg_name (i:=2) sc.nd rfl (Or.inl rfl))
   (pss_cons (ps_set (i:=3) sc.nd rfl (Or.inl rfl) (pe_lst pa_nil))
   (pss_cons (ps_for PassesOwn.never rfl (kpi_list (K:=K) (pv 1)) (pg_name (i:=4) sc.nd rfl (Or.inr rfl))
   (pss_one (ps_expr (pe_bm PySem.F.plainAttrs_list PySem.F.slot_list_extend PySem.F.type_list_extend mt_extend (pv 3) (pa_cons (pe_lc (N':=["_law_lot","_law_row"]) (M:=[none,some 4]) (lcSc_of (by rfl)) rfl (pi_range1 rfl B.range (pa_cons (pe_op op_add (pe_callB (kc_max (K:=K)) (by rfl) B.max PyProof.Rows.Boot.«max» (pa_cons (pv 4) pa_nil)) pe_int) pa_nil)) (fun _ _ _ _ _=>pg_name (i:=0) (show (["_law_lot","_law_row"] : List Str).Nodup by decide +kernel) rfl (Or.inl rfl) (.inr rfl)) (frm_name rfl) (fun _ _ _ _ _=>pts_nil) (fun _ _ _ _ _=>(pe_op (op_catP (K:=K)) (pv 1) (pe_tupP (pa_cons (pv 0) pa_nil))))) pa_nil)))))
   (pss_one (ps_set (i:=1) sc.nd rfl (Or.inl rfl) (pv 3))))))
   (pss_one (ps_ret (pv 1))))),?_⟩
  refine ⟨le_line (by simp),fun q0 Hz hq0 sz hqz=>⟨le_line (by simp),fun l0 hl0=>?_⟩⟩
  have s0:=sz.new2 (o:=HO.lst [V.ref q0]) hl0
  have hq1:PlT (upd Hz l0 (HO.lst [V.ref q0])) q0 ([(0:Int)].map V.int):=hqz.same (Same.new hl0)
  have hl1:upd Hz l0 (HO.lst [V.ref q0]) l0=some (.lst ([q0].map V.ref)):=upd_same
  generalize upd Hz l0 (HO.lst [V.ref q0])=H0 at s0 hq1 hl1
  refine gN ?_
  try dsimp only
  refine nrm (σ':=[some (.int n),some (.ref l0),none,none,none]) rfl ?_
  refine ⟨_,rfl,_,_,rfl,rfl,_,rfl,by omega,by omega,for_range (lo:=0) (n:=(n-1).toNat) (fun i σ H1=>∃ (l:Addr) (ps:List Addr) (o2 o3 o4:Option V),σ=[some (.int n),some (.ref l),o2,o3,o4]/\Same H H1/\H1 l=some (.lst (ps.map V.ref))/\PlAt H1 ps ((wys (i+1)).map (·.1)))
   ⟨l0,[q0],none,none,none,rfl,s0,hl1,.cons hq1 .nil⟩ ?_ ?_⟩
  ·rintro i σ H1 hi ⟨l,ps,o2,o3,o4,rfl,s1,hl,hR⟩
   have hpl:=hR.length
   have hB:=wys_len (i+1) (by omega)
   have hok:=wys_ok (i+1) (by omega)
   rw[List.length_map] at hpl
   refine gN ?_
   try dsimp only
   refine ⟨Nat.zero_le _,fun lg hlg=>?_⟩
   have n2:=Same.new (o:=HO.lst []) hlg
   have hlg2:upd H1 lg (HO.lst []) lg=some (.lst (([]:List Addr).map V.ref)):=upd_same
   have nl:l≠lg:=ne_of_none hl hlg
   generalize upd H1 lg (HO.lst [])=H2 at n2 hlg2
   refine gN ?_
   try dsimp only
   refine nrm (σ':=[some (.int n),some (.ref l),some (.int (0+(i:Int))),some (.ref lg),o4]) rfl ?_
   refine ⟨_,rfl,l,rfl,⟨_,SqL.of (n2 _ _ hl)⟩,for_list (K:=K) (a:=l) (xs:=ps.map V.ref) (fun j σ H3=>∃ (o4:Option V) (qs:List Addr),σ=[some (.int n),some (.ref l),some (.int (0+(i:Int))),some (.ref lg),o4]/\Same H1 H3/\H3 lg=some (.lst (qs.map V.ref))/\PlAt H3 qs ((((wys (i+1)).take j).flatMap wyX).map (·.1)))
    ⟨o4,[],rfl,n2,hlg2,.nil⟩ (fun j σ H3 _ ⟨_,_,_,s,_⟩=>SqL.of (s _ _ hl)) ?_ ?_⟩
   ·rintro j y σ H3 hj ⟨o4,qs,rfl,s3,hlg3,hR3⟩
    obtain ⟨qa,rfl,hqa,hjl⟩:=getRef hj
    obtain ⟨r,hr',hri⟩:=paired_getM hR hqa
    obtain ⟨q,hqi,rfl⟩ : ∃ q,(wys (i+1))[j]?=some q/\q.1=r:= by
     rw[List.getElem?_map] at hri
     cases e:(wys (i+1))[j]? with
     | none=>rw[e] at hri;cases hri
     | some q=>rw[e] at hri;cases hri;exact ⟨q,rfl,rfl⟩
    obtain ⟨rw',rf,rl⟩:=hok q (List.mem_of_getElem? hqi)
    generalize hrr:q.1=r at *
    have rne:r≠[]:=fun e=>by rw[e] at rl;simp at rl
    obtain ⟨fp1,fp2⟩:=fresh_pos rw' rne
    have ffl:=fresh_le r
    have hr3:SqT K H3 qa (r.map V.int):=s3.seqT hr'.sq
    have hql:=hR3.length
    refine gN ?_
    refine ⟨_,rfl,.inl ⟨rfl,_,SqL.of hlg3⟩,_,rfl,qa,r,rfl,.inr hr3,rne,fun m hm=>⟨_,_,rfl,rfl,?_⟩⟩
    have em:m=fresh 0 r-1:=hm.uniq fp2
    refine ⟨_,rfl,by omega,by omega,?_⟩
    have em2:(m+2).toNat=q.2+1:=by omega
    refine lc_range (lo:=0) (n:=(m+2).toNat) (fun c ys H4=>Same H3 H4 /\ ∃ cs:List Addr,ys=cs.map V.ref/\cs.length=c/\PlAt H4 cs (((wyX q).take c).map (·.1))) (le_line (by omega)) ⟨Same.refl H3,[],rfl,rfl,.nil⟩ (fun c ys H4 _ h=>by
     obtain ⟨_,cs,e,e2,_⟩:=h
     rw[e,List.length_map,e2];exact Nat.le_refl _) ?_ ?_
    ·rintro c ys H4 hc ⟨s4,cs,rfl,hcl,hC⟩
     refine lcN ?_
     refine ⟨_,rfl,_,rfl,le_line (by simp),fun w H5 hw s45 hw5=>?_⟩
     have s5:=s4.trans s45
     have hC5:=hC.same s45
     refine ⟨qa,w,_,_,rfl,rfl,s5.seqT hr3,hw5.sq,(fun e=>rne (List.map_eq_nil_iff.mp e)),(by simp),le_line (by simp;omega),fun pn H6 _ s6 hpn=>?_⟩
     refine ⟨s5.trans s6,cs++[pn],by rw[List.map_append];rfl,by rw[List.length_append,hcl];rfl,?_⟩
     rw[map_take_snoc (wyX_at (q:=q) (show c<q.2+1 by omega))]
     refine Paired.snoc (hC5.same s6) ?_
     show PlT H6 pn ((q.1++[(c:Int)]).map V.int)
     rw[hrr,List.map_append];rw[Int.zero_add] at hpn;exact hpn
    ·rintro ys H4 ⟨s4,cs,rfl,hcl,hC⟩ u hu
     have hlg4:=s4 _ _ hlg3
     have s5:=s4.new2 (o:=HO.lst (cs.map V.ref)) hu
     have hC5:=hC.same (Same.new (o:=HO.lst (cs.map V.ref)) hu)
     have hu5:upd H4 u (HO.lst (cs.map V.ref)) u=some (.lst (cs.map V.ref)):=upd_same
     generalize upd H4 u (HO.lst (cs.map V.ref))=H5 at s5 hC5 hu5
     have hlg5:=s5 _ _ hlg3
     have hql2:qs.length<=600:= by
      rw[hR3.length,List.length_map]
      exact wyX_len (by omega) _
     refine ⟨lg,u,_,_,rfl,rfl,hlg5,hu5,le_line (by rw[List.length_map,List.length_map,hcl];omega),?_⟩
     refine ⟨_,qs++cs,rfl,(s3.trans s5).put hlg,by rw[upd_same,List.map_append],?_⟩
     rw[flat_snoc hqi,List.map_append]
     refine paired_app ((hR3.same s5).put hlg5) ?_
     rw[em2,<- wyX_length q,List.take_length] at hC5
     exact hC5.put hlg5
   ·rintro σ H3 ⟨o4,qs,rfl,s3,hlg3,hR3⟩
    refine ⟨_,rfl,lg,qs,_,_,_,rfl,s1.trans s3,hlg3,?_⟩
    rw[List.length_map,hpl,List.take_length] at hR3
    exact hR3
  ·rintro σ H1 ⟨l,ps,o2,o3,o4,rfl,s1,hl,hR⟩
   refine ⟨_,rfl,k l ps H1 s1 hl ?_⟩
   rw[show (n-1).toNat+1=n.toNat by omega] at hR
   exact hR
theorem sc_law_split : FnScope (["_law_cell_here","_law_parts","_law_wide","_law_side","_law_size","_law_found","_law_big","_law_k"]) (["_law_cell_here","_law_parts","_law_wide"]) (defScope s_law_split):=by trivial
theorem ok_law_split {f : Addr} {fd : FuncData} {ds : List Value} (F : FunD K "_law_split" "_law_split" s_law_split f fd ds) (B : Bs mg) (T : Gs mg)   : FnOk P w K mg base CX0 1 f fd ["_law_cell_here","_law_parts","_law_wide"] spSplit:= by
 have sc:=sc_law_split
 refine F.ok sc (fun vs H Q E h=>?_) (fun cdv A outer s H vs Q E hr h=>?_)
 ·obtain ⟨c,n,w,rfl,_⟩:=h;rfl
 ·obtain ⟨c,n,wd,rfl,hn0,hn1,hw0,hw2,k⟩:=h
  refine ⟨_,(pss_cons (ps_set (i:=3) sc.nd rfl (Or.inl rfl) (pe_op op_mulW (pe_op op_pow pe_int pe_int) (pe_op op_pow pe_int pe_int)))
   (pss_cons (ps_set (i:=4) sc.nd rfl (Or.inl rfl) (pe_ix (kix_list (K:=K)) (pe_lst (pa_cons (pe_op op_pow pe_int pe_int) (pa_cons (pv 3) (pa_cons (pe_op op_mulW (pe_op op_mulW (pe_op op_mulW (pv 3) (pv 3)) (pv 3)) (pv 3)) pa_nil)))) (pv 2) (fun _ _=>rfl)))
   (pss_cons (ps_set (i:=5) sc.nd rfl (Or.inl rfl) (pe_lst pa_nil))
   (pss_cons (ps_set (i:=6) sc.nd rfl (Or.inl rfl) (pe_cmpR op_ge (pv 0) (pe_op op_pow pe_int pe_int) (nomark _)))
   (pss_cons (ps_for PassesOwn.never rfl (pi_range1 rfl B.range (pa_cons (pv 1) pa_nil)) (pg_name (i:=7) sc.nd rfl (Or.inl rfl))
   (pss_one (ps_if (pt_val (pv 6)) (pss_cons (ps_expr (pe_bm PySem.F.plainAttrs_list PySem.F.slot_list_append PySem.F.type_list_append mt_append (pv 5) (pa_cons (pe_op op_add (pe_op op_pow pe_int pe_int) (pe_op op_mod (pv 0) (pv 4))) pa_nil)))
   (pss_one (ps_set (i:=0) sc.nd rfl (Or.inl rfl) (pe_op op_fdivW (pv 0) (pv 4))))) (pss_one (ps_expr (pe_bm PySem.F.plainAttrs_list PySem.F.slot_list_append PySem.F.type_list_append mt_append (pv 5) (pa_cons (pe_op op_add (pe_op op_mulW (pv 0) (pe_op op_add (pe_op op_mulW pe_int (pv 7)) pe_int)) (pe_op op_mulW pe_int (pv 7))) pa_nil)))))))
   (pss_one (ps_ret (pv 5)))))))),?_⟩
  refine ⟨_,_,rfl,rfl,⟨by decide,by decide,by decide⟩,_,_,rfl,rfl,⟨by decide,by decide,by decide⟩,_,_,rfl,rfl,mulOk_of (by decide +kernel),?_⟩
  refine ⟨_,_,rfl,rfl,⟨by decide,by decide,by decide⟩,_,rfl,_,rfl,_,rfl,_,_,rfl,rfl,mulOk_of (by decide +kernel),_,rfl,_,_,rfl,rfl,mulOk_of (by decide +kernel),_,rfl,_,_,rfl,rfl,mulOk_of (by decide +kernel),le_line (by decide),fun e he=>?_⟩
  obtain ⟨S,hS,hL⟩ : ∃ S:Int,atI [V.int (10 ^ (30:Int).toNat),V.int (10 ^ (60:Int).toNat*10 ^ (60:Int).toNat),V.int (10 ^ (60:Int).toNat*10 ^ (60:Int).toNat*(10 ^ (60:Int).toNat*10 ^ (60:Int).toNat)*(10 ^ (60:Int).toNat*10 ^ (60:Int).toNat)*(10 ^ (60:Int).toNat*10 ^ (60:Int).toNat))] wd=some (V.int S)/\LimOk S:= by
   have:wd=0\/wd=1\/wd=2:=by omega
   rcases this with rfl | rfl | rfl
   ·exact ⟨_,rfl,by decide +kernel,by decide +kernel⟩
   ·exact ⟨_,rfl,by decide +kernel,by decide +kernel⟩
   ·exact ⟨_,rfl,by decide +kernel,by decide +kernel⟩
  refine ⟨_,rfl,e,_,_,_,rfl,rfl,SqL.of upd_same,hS,?_⟩
  refine ⟨Nat.zero_le _,fun p hp=>?_⟩
  refine ⟨_,rfl,_,_,rfl,rfl,⟨by decide,by decide,by decide⟩,_,_,rfl,rfl,?_⟩
  have hpH:H p=none:=(Same.new he).free hp
  refine ⟨_,rfl,_,rfl,by omega,by omega,for_range (lo:=0) (n:=n.toNat) (fun i σ H2=>∃ (c':Int) (rs:List Int) (o:Option V),σ=[some (.int c'),some (.int n),some (.int wd),some (.int (10 ^ (60:Int).toNat*10 ^ (60:Int).toNat)),some (.int S),some (.ref p),some (.bl (decide ((10:Int) ^ (18:Int).toNat<=c))),o]/\Same H H2/\H2 p=some (.lst (rs.map V.int))/\rs.length=i)
   ⟨c,[],none,rfl,(Same.new he).new2 hp,upd_same,rfl⟩ ?_ ?_⟩
  ·rintro i σ H2 hi ⟨c',rs,o,rfl,s2,hp2,hl⟩
   refine ⟨_,rfl,_,rfl,?_⟩
   refine ite2 (fun _=>?_) (fun _=>?_)
   ·refine ⟨_,rfl,.inl ⟨rfl,_,SqL.of hp2⟩,_,_,rfl,rfl,⟨by decide,by decide,by decide⟩,_,rfl,_,rfl,_,_,rfl,rfl,hL.1,_,_,rfl,rfl,p,_,_,rfl,rfl,hp2,lt_line (by rw[ltm];omega),?_⟩
    refine ⟨_,rfl,_,rfl,_,_,rfl,rfl,hL,?_⟩
    exact ⟨_,rs++[_],_,rfl,s2.put hpH,by rw[upd_same,mapV],by rw[List.length_append,hl];rfl⟩
   ·refine ⟨_,rfl,.inl ⟨rfl,_,SqL.of hp2⟩,_,rfl,_,rfl,_,_,rfl,rfl,mulOk_l ⟨by decide,by decide⟩,_,_,rfl,rfl,_,_,rfl,rfl,mulOk_r ⟨by omega,by omega⟩,_,rfl,_,_,rfl,rfl,mulOk_l ⟨by decide,by decide⟩,_,_,rfl,rfl,p,_,_,rfl,rfl,hp2,lt_line (by rw[ltm];omega),?_⟩
    exact ⟨_,rs++[_],_,rfl,s2.put hpH,by rw[upd_same,mapV],by rw[List.length_append,hl];rfl⟩
  ·rintro σ H2 ⟨c',rs,o,rfl,s2,hp2,hl⟩
   exact ⟨_,rfl,k p rs H2 hpH s2 hp2 hl⟩
theorem sc_law_names : FnScope (["_law_cell_here","_law_count","_law_letters","_law_row","_law_found","_law_j","_law_size","_law_signs"]) (["_law_cell_here","_law_count"]) (defScope s_law_names):=by trivial
theorem ok_law_names {f : Addr} {fd : FuncData} (F : Fun K "_law_names" "_law_names" s_law_names f fd) (B : Bs mg) (T : Gs mg)  (c_law_draw : Cal P w K mg base 1 "_law_draw" [] (spDraw K)) : FnOk P w K mg base CX0 2 f fd ["_law_cell_here","_law_count"] (spNames K):= by
 have sc:=sc_law_names
 refine F.ok sc (fun vs H Q E h=>?_) (fun cdv A outer s H vs Q E hr h=>?_)
 ·obtain ⟨c,n,rfl,_⟩:=h;rfl
 ·obtain ⟨c,n,rfl,hn0,hn9,k⟩:=h
  refine ⟨_,(pss_cons (ps_set (i:=2) sc.nd rfl (Or.inr rfl) pe_str)
   (pss_cons (ps_set (i:=3) sc.nd rfl (Or.inr rfl) (pe_cal c_law_draw (hr.mono (by decide)) rfl (pa_cons (pv 0) (pa_cons (pe_op op_cat (pe_op op_cat (pe_lst (pa_cons pe_int (pa_cons pe_int (pa_cons pe_int (pa_cons pe_int pa_nil))))) (pe_lc (N':=["_law_j"]) (M:=[none]) (lcSc_of (by rfl)) rfl (pi_range1 rfl B.range (pa_cons (pv 1) pa_nil)) (fun _ _ _ _ _=>pg_name (i:=0) (show (["_law_j"] : List Str).Nodup by decide +kernel) rfl (Or.inl rfl) (.inr rfl)) (frm_name rfl) (fun _ _ _ _ _=>pts_nil) (fun _ _ _ _ _=>pe_int))) (pe_lc (N':=["_law_j"]) (M:=[none]) (lcSc_of (by rfl)) rfl (pi_range1 rfl B.range (pa_cons (pe_op op_mulW pe_int (pv 1)) pa_nil)) (fun _ _ _ _ _=>pg_name (i:=0) (show (["_law_j"] : List Str).Nodup by decide +kernel) rfl (Or.inl rfl) (.inr rfl)) (frm_name rfl) (fun _ _ _ _ _=>pts_nil) (fun _ _ _ _ _=>pe_int))) pa_nil))))
   (pss_cons (ps_set (i:=4) sc.nd rfl (Or.inl rfl) (pe_lst pa_nil))
   (pss_cons (ps_for PassesOwn.never rfl (pi_range1 rfl B.range (pa_cons (pv 1) pa_nil)) (pg_name (i:=5) sc.nd rfl (Or.inr rfl))
   (pss_cons (ps_set (i:=6) sc.nd rfl (Or.inl rfl) (pe_op op_add (pe_op op_add (pe_ix (kix_list (K:=K)) (pv 3) pe_int (fun _ _=>rfl)) pe_int) (pe_op op_mod (pe_ix (kix_list (K:=K)) (pv 3) (pe_op op_add pe_int (pv 5)) (fun _ _=>rfl)) (pe_op op_sub pe_int (pe_ix (kix_list (K:=K)) (pv 3) pe_int (fun _ _=>rfl))))))
   (pss_cons (ps_lc (i:=7) sc.nd rfl rfl (N':=["_law_k","_law_row","_law_count","_law_j"]) (M:=[none,some 3,some 1,some 5]) (lcSc_of (by rfl)) rfl (pi_range1 rfl B.range (pa_cons (pv 6) pa_nil)) (fun _ _ _ _ _=>pg_name (i:=0) (show (["_law_k","_law_row","_law_count","_law_j"] : List Str).Nodup by decide +kernel) rfl (Or.inl rfl) (.inr rfl)) (frm_name rfl) (fun _ _ _ _ _=>pts_nil) (fun _ _ _ _ _=>(pe_ifExp (pt_cmpR op_eq (pe_ix (kix_list (K:=K)) (pv 1) pe_int (fun _ _=>rfl)) pe_int (nomark _)) (pe_ix (kix_list (K:=K)) (pv 1) (pe_op op_add (pe_op op_add (pe_op op_add pe_int (pv 2)) (pe_op op_mulW pe_int (pv 3))) (pv 0)) (fun _ _=>rfl)) (pe_ix (kix_list (K:=K)) (pv 1) pe_int (fun _ _=>rfl)))))
   (pss_cons (ps_asg (pe_op op_add (pe_ix (kix_list (K:=K)) (pv 3) pe_int (fun _ _=>rfl)) (pe_op op_mulW pe_int (pv 5))) (pg_sub (pv 7) (pe_ix (kix_list (K:=K)) (pv 3) pe_int (fun _ _=>rfl)) set_list))
   (pss_one (ps_expr (pe_bm PySem.F.plainAttrs_list PySem.F.slot_list_append PySem.F.type_list_append mt_append (pv 4) (pa_cons (pe_bm PySem.F.plainAttrs_str PySem.F.slot_str_join PySem.F.type_str_join (mt_join (K:=K)) pe_str (pa_cons (pe_lc (N':=["_law_sign","_law_letters"]) (M:=[none,some 2]) (lcSc_of (by rfl)) rfl (kpi_list (K:=K) (pv 7)) (fun _ _ _ _ _=>pg_name (i:=0) (show (["_law_sign","_law_letters"] : List Str).Nodup by decide +kernel) rfl (Or.inl rfl) (.inr rfl)) (frm_name rfl) (fun _ _ _ _ _=>pts_nil) (fun _ _ _ _ _=>(pe_ix ix_str (pv 1) (pe_op op_mod (pv 0) pe_int) (fun _ _=>rfl)))) pa_nil)) pa_nil))))))))
   (pss_one (ps_ret (pv 4))))))),?_⟩
  obtain ⟨m,rfl⟩ : ∃ m:Nat,n=(m:Int):=⟨n.toNat,by omega⟩
  refine seq_c ?_
  refine seq_a ?_
  refine ⟨_,rfl,le_line (by simp),fun q1 hq1=>⟨_,rfl,_,rfl,by omega,by omega,?_⟩⟩
  refine lc_range (fun i ys H4=>H4=upd H q1 (.lst [.int 12,.int 2,.int 26,.int 26])/\ys=List.replicate i (V.int 12)) (le_line (by omega)) ⟨rfl,rfl⟩ (fun i ys H4 _ h=>by rw[h.2,List.length_replicate];exact Nat.le_refl _) ?_ ?_
  ·rintro i ys H4 hi ⟨rfl,rfl⟩
   refine lcN ?_
   exact ⟨rfl,(List.replicate_succ' ..).symm⟩
  rintro ys H4 ⟨rfl,rfl⟩ q2 hq2
  refine ⟨q1,q2,_,_,rfl,rfl,Same.new hq2 q1 _ upd_same,upd_same,le_line (by simp;omega),fun q3 hq3=>?_⟩
  have s5:=((Same.new (o:=HO.lst [.int 12,.int 2,.int 26,.int 26]) hq1).new2 (o:=HO.lst (List.replicate ((m:Int)).toNat (V.int 12))) hq2).new2 (o:=HO.lst ([V.int 12,V.int 2,V.int 26,V.int 26]++List.replicate ((m:Int)).toNat (V.int 12))) hq3
  have hq5:upd (upd (upd H q1 (HO.lst [.int 12,.int 2,.int 26,.int 26])) q2 (HO.lst (List.replicate ((m:Int)).toNat (V.int 12)))) q3 (HO.lst ([V.int 12,V.int 2,V.int 26,V.int 26]++List.replicate ((m:Int)).toNat (V.int 12))) q3=some (HO.lst ([V.int 12,V.int 2,V.int 26,V.int 26]++List.replicate ((m:Int)).toNat (V.int 12))):=upd_same
  generalize upd (upd (upd H q1 (HO.lst [.int 12,.int 2,.int 26,.int 26])) q2 (HO.lst (List.replicate ((m:Int)).toNat (V.int 12)))) q3 (HO.lst ([V.int 12,V.int 2,V.int 26,V.int 26]++List.replicate ((m:Int)).toNat (V.int 12)))=H5 at s5 hq5
  refine ⟨_,rfl,_,_,rfl,rfl,mulOk_l ⟨by decide,by decide⟩,_,rfl,by omega,by omega,?_⟩
  refine lc_range (fun i ys H4=>H4=H5/\ys=List.replicate i (V.int 26)) (le_line (by omega)) ⟨rfl,rfl⟩ (fun i ys H4 _ h=>by rw[h.2,List.length_replicate];exact Nat.le_refl _) ?_ ?_
  ·rintro i ys H4 hi ⟨rfl,rfl⟩
   refine lcN ?_
   exact ⟨rfl,(List.replicate_succ' ..).symm⟩
  rintro ys H4 ⟨rfl,rfl⟩ q4 hq4
  refine ⟨q3,q4,_,_,rfl,rfl,Same.new hq4 q3 _ hq5,upd_same,le_line (by simp;omega),fun q6 hq6=>?_⟩
  have el:([V.int 12,V.int 2,V.int 26,V.int 26]++List.replicate ((m:Int)).toNat (V.int 12))++List.replicate (12*(m:Int)).toNat (V.int 26)=(([12,2,26,26]:List Int)++List.replicate m 12++List.replicate (12*m) 26).map V.int:= by
   rw[Int.toNat_natCast,show (12*(m:Int)).toNat=12*m by omega]
   simp [List.map_replicate]
  refine ⟨c,q6,([12,2,26,26]:List Int)++List.replicate m 12++List.replicate (12*m) 26,rfl,SqL.of (by rw[upd_same,el]),fun l hl=>?_,by simp;omega,fun row rs H6 _ s6 hrow hD=>?_⟩
  ·have:l=12\/l=2\/l=26:= by
    simp only [List.mem_append,List.mem_replicate,List.mem_cons,List.not_mem_nil,or_false] at hl
    omega
   rcases this with rfl | rfl | rfl
   ·exact ⟨by decide,by decide +kernel⟩
   ·exact ⟨by decide,by decide +kernel⟩
   ·exact ⟨by decide,by decide +kernel⟩
  have s6:=((s5.new2 (o:=HO.lst (List.replicate (12*(m:Int)).toNat (V.int 26))) hq4).new2 hq6).trans s6
  obtain ⟨r0,⟨a0,b0⟩,e0⟩:=paired_getM hD (show (([12,2,26,26]:List Int)++List.replicate m 12++List.replicate (12*m) 26)[0]?=some 12 from rfl)
  obtain ⟨r1,_,e1⟩:=paired_getM hD (show (([12,2,26,26]:List Int)++List.replicate m 12++List.replicate (12*m) 26)[1]?=some 2 from rfl)
  obtain ⟨r2,_,e2⟩:=paired_getM hD (show (([12,2,26,26]:List Int)++List.replicate m 12++List.replicate (12*m) 26)[2]?=some 26 from rfl)
  obtain ⟨r3,_,e3⟩:=paired_getM hD (show (([12,2,26,26]:List Int)++List.replicate m 12++List.replicate (12*m) 26)[3]?=some 26 from rfl)
  have hrl:rs.length=4+m+12*m:= by
   have:=hD.length
   simp at this;omega
  have getE : ∀ j,j<rs.length->rs[j]?=some (rs.getD j 0):=fun j hj=>by rw[List.getD_eq_getElem?_getD,List.getElem?_eq_getElem hj];rfl
  refine seq_a ?_
  refine ⟨le_line (by simp),fun f hf=>?_⟩
  have hrf:row≠f:=ne_of_none hrow hf
  have hfH:H f=none:=s6.free hf
  refine ⟨_,rfl,_,rfl,by omega,by omega,for_range (lo:=0) (n:=((m:Int)).toNat) (fun i σ H2=>∃ (o5 o6 o7:Option V) (S:List Str),σ=[some (.int c),some (.int m),some (.str abcT),some (.ref row),some (.ref f),o5,o6,o7]/\Same H H2/\H2 row=some (.lst (rs.map V.int))/\H2 f=some (.lst (S.map V.str))/\S.length=i/\NmL r0.toNat r3 S)
   ⟨none,none,none,[],rfl,s6.new2 hf,Same.new hf _ _ hrow,upd_same,rfl,fun j hj=>absurd hj (by simp)⟩ ?_ ?_⟩
  ·rintro i σ H2 hi ⟨o5,o6,o7,S,rfl,s2,hrow2,hf2,hSl,hN⟩
   have hi:i<m:=by simpa using hi
   refine gN ?_
   refine seq_a ?_
   refine ⟨_,rfl,row,_,_,_,rfl,rfl,SqL.of hrow2,atI_nt e0,_,_,rfl,rfl,_,rfl,_,rfl,_,_,rfl,rfl,row,_,_,_,rfl,rfl,SqL.of hrow2,atI_intZ (j:=4+i) (by omega) (getE _ (by omega)),_,rfl,row,_,_,_,rfl,rfl,SqL.of hrow2,atI_nt e0,_,_,rfl,rfl,_,_,rfl,rfl,(by omega),_,_,rfl,rfl,?_⟩
   have x0:0<=rs.getD (4+i) 0 % (12-r0):=Int.emod_nonneg _ (by omega)
   have x1:rs.getD (4+i) 0 % (12-r0)<12-r0:=Int.emod_lt_of_pos _ (by omega)
   generalize rs.getD (4+i) 0 % (12-r0)=x at x0 x1
   refine seq_l ?_
   refine ⟨_,rfl,_,rfl,by omega,by omega,lc_range (n:=(r0+1+x).toNat) (fun j ys H4=>H4=H2 /\ ∃ zs:List Int,ys=zs.map V.int/\zs.length=j) (le_line (by omega)) ⟨rfl,[],rfl,rfl⟩ (fun j ys H4 _ ⟨_,zs,e,hz⟩=>by rw[e,List.length_map,hz];exact Nat.le_refl _) ?_ ?_⟩
   ·rintro j ys H4 hj ⟨rfl,zs,rfl,hzl⟩
    refine lcN ?_
    refine ⟨_,rfl,row,_,_,_,rfl,rfl,SqL.of hrow2,atI_nt e1,rfl,_,rfl,?_⟩
    refine ite_P (fun _=>True) (fun r _=>⟨rfl,zs++[r],mapV,by rw[List.length_append,hzl];rfl⟩) (fun Q' h=>⟨_,rfl,_,rfl,_,_,rfl,rfl,_,rfl,_,_,rfl,rfl,mulOk_l ⟨by decide,by decide⟩,_,_,rfl,rfl,_,rfl,_,_,rfl,rfl,row,_,_,_,rfl,rfl,SqL.of hrow2,atI_intZ (j:=4+m+12*i+j) (by omega) (getE _ (by omega)),h _ trivial⟩) (fun Q' h=>⟨_,rfl,row,_,_,_,rfl,rfl,SqL.of hrow2,atI_nt e2,h _ trivial⟩)
   rintro ys H4 ⟨rfl,zs,rfl,hzl⟩ g hg
   have s5':=s2.new2 (o:=HO.lst (zs.map V.int)) hg
   have hrow5:=Same.new (o:=HO.lst (zs.map V.int)) hg row _ hrow2
   have hf5:=Same.new (o:=HO.lst (zs.map V.int)) hg f _ hf2
   have hg5:upd H4 g (HO.lst (zs.map V.int)) g=some (.lst (zs.map V.int)):=upd_same
   have hrg:row≠g:=ne_of_none hrow2 hg
   have hfg:f≠g:=ne_of_none hf2 hg
   have hgH:H g=none:=s2.free hg
   generalize upd H4 g (HO.lst (zs.map V.int))=H5 at s5' hrow5 hf5 hg5
   refine ⟨_,rfl,row,_,_,_,rfl,rfl,SqL.of hrow5,atI_nt e3,_,rfl,_,_,rfl,rfl,mulOk_l ⟨by decide,by decide⟩,_,_,rfl,rfl,?_⟩
   refine ⟨_,rfl,_,rfl,row,_,_,_,rfl,rfl,SqL.of hrow5,atI_nt e0,g,_,_,_,rfl,rfl,hg5,ixN_pos a0 (by rw[List.length_map,hzl];omega),?_⟩
   have eset:(zs.map V.int).set r0.toNat (V.int (r3+5*(0+(i:Int))))=(zs.set r0.toNat (r3+5*(0+(i:Int)))).map V.int:=by rw[List.map_set]
   rw[eset]
   have s7:=s5'.put (o:=HO.lst ((zs.set r0.toNat (r3+5*(0+(i:Int)))).map V.int)) hgH
   have hrow7:upd H5 g (HO.lst ((zs.set r0.toNat (r3+5*(0+(i:Int)))).map V.int)) row=some (.lst (rs.map V.int)):=by rw[upd_ne hrg];exact hrow5
   have hf7:upd H5 g (HO.lst ((zs.set r0.toNat (r3+5*(0+(i:Int)))).map V.int)) f=some (.lst (S.map V.str)):=by rw[upd_ne hfg];exact hf5
   have hg7:upd H5 g (HO.lst ((zs.set r0.toNat (r3+5*(0+(i:Int)))).map V.int)) g=some (.lst ((zs.set r0.toNat (r3+5*(0+(i:Int)))).map V.int)):=upd_same
   generalize upd H5 g (HO.lst ((zs.set r0.toNat (r3+5*(0+(i:Int)))).map V.int))=H7 at s7 hrow7 hf7 hg7
   have hzl2:(zs.set r0.toNat (r3+5*(0+(i:Int)))).length=(r0+1+x).toNat:=by rw[List.length_set,hzl]
   have hz0:(zs.set r0.toNat (r3+5*(0+(i:Int)))).getD r0.toNat 0=r3+5*(0+(i:Int)):= by
    rw[List.getD_eq_getElem?_getD,List.getElem?_set_self (by rw[hzl];omega)];rfl
   generalize zs.set r0.toNat (r3+5*(0+(i:Int)))=zs' at hg7 hzl2 hz0
   refine ⟨_,rfl,.inl ⟨rfl,_,SqL.of hf7⟩,rfl,_,rfl,g,rfl,⟨_,SqL.of hg7⟩,lc_list (xs:=zs'.map V.int) (fun j ys H8=>H8=H7/\ys=((zs'.take j).map sgN).map V.str) (le_line (by rw[List.length_map];omega)) ⟨rfl,rfl⟩
    (fun j ys H8 _ h=>⟨by rw[h.1];exact SqL.of hg7,by rw[h.2,List.length_map,List.length_map,List.length_take];omega⟩) ?_ ?_⟩
   ·rintro j y ys H8 hj ⟨rfl,rfl⟩
    obtain ⟨zz,rfl,hzz,_⟩:=getI hj
    refine lcN ?_
    refine ⟨_,rfl,_,rfl,_,_,rfl,rfl,p0,abcT,_,_,rfl,rfl,le_line (by decide +kernel),abc_at zz,rfl,?_⟩
    rw[map_take_snoc hzz];exact str_snoc
   ·rintro ys H8 ⟨rfl,rfl⟩ q hq
    rw[ltm,List.take_length]
    refine ⟨_,q,_,rfl,rfl,SqL.of upd_same,joinOk_small (B:=1) (fun y hy=>?_) ?_,?_⟩
    ·obtain ⟨_,_,rfl⟩:=List.mem_map.mp hy
     exact Nat.le_refl _
    ·rw[List.length_map]
     show zs'.length*1+zs'.length*0<=_
     omega
    have hfq:f≠q:=ne_of_none hf7 hq
    have hrq:row≠q:=ne_of_none hrow7 hq
    refine ⟨f,_,_,rfl,rfl,by rw[upd_ne hfq];exact hf7,lt_line (by rw[List.length_map];omega),?_⟩
    refine ⟨_,_,_,S++[nmS zs'],rfl,(s7.new2 hq).put hfH,by rw[upd_ne hrf,upd_ne hrq];exact hrow7,by rw[upd_same];exact congrArg (fun l=>some (HO.lst l)) str_snoc,by rw[List.length_append,hSl];rfl,hN.snoc (nmS_ok (by omega) (by omega)) ?_⟩
    rw[nmS_at _ _ (by omega),hz0,hSl,Int.zero_add]
  ·rintro σ H2 ⟨o5,o6,o7,S,rfl,s2,hrow2,hf2,hSl,hN⟩
   have hSl:S.length=m:=by simpa using hSl
   obtain ⟨o1,o2⟩:=hN.ok (by omega)
   exact ⟨_,rfl,k f S H2 hfH s2 hf2 (by omega) o1 o2⟩
theorem sc_law_woods : FnScope (["_law_cell_here","_law_first","_law_second","_law_row","_law_names_here","_law_cap"]) (["_law_cell_here"]) (defScope s_law_woods):=by trivial
theorem ok_law_woods {f : Addr} {fd : FuncData} (F : Fun K "_law_woods" "_law_woods" s_law_woods f fd) (B : Bs mg) (T : Gs mg)  (c_law_draw : Cal P w K mg base 1 "_law_draw" [] (spDraw K)) (c_law_names : Cal P w K mg base 2 "_law_names" [] (spNames K)) (c_law_split : Cal P w K mg base 1 "_law_split" [.int 0] spSplit) : FnOk P w K mg base CX0 3 f fd ["_law_cell_here"] (spLWoods K):= by
 have sc:=sc_law_woods
 refine F.ok sc (fun vs H Q E h=>?_) (fun cdv A outer s H vs Q E hr h=>?_)
 ·obtain ⟨c,rfl,_⟩:=h;rfl
 ·obtain ⟨c,rfl,k⟩:=h
  refine ⟨_,(pss_cons (ps_asg (pe_cal c_law_split (hr.mono (by decide)) rfl (pa_cons (pv 0) (pa_cons pe_int pa_nil))) (pg_lst rfl (pgs_cons (pg_name (i:=1) sc.nd rfl (Or.inl rfl)) (pgs_cons (pg_name (i:=2) sc.nd rfl (Or.inl rfl)) pgs_nil))))
   (pss_cons (ps_set (i:=3) sc.nd rfl (Or.inr rfl) (pe_cal c_law_draw (hr.mono (by decide)) rfl (pa_cons (pv 1) (pa_cons (pe_op op_cat (pe_lst (pa_cons pe_int (pa_cons pe_int pa_nil))) (pe_lc (N':=["_law_k"]) (M:=[none]) (lcSc_of (by rfl)) rfl (pi_range1 rfl B.range (pa_cons pe_int pa_nil)) (fun _ _ _ _ _=>pg_name (i:=0) (show (["_law_k"] : List Str).Nodup by decide +kernel) rfl (Or.inl rfl) (.inr rfl)) (frm_name rfl) (fun _ _ _ _ _=>pts_nil) (fun _ _ _ _ _=>pe_int))) pa_nil))))
   (pss_cons (ps_set (i:=4) sc.nd rfl (Or.inr rfl) (pe_cal c_law_names (hr.mono (by decide)) rfl (pa_cons (pv 2) (pa_cons pe_int pa_nil))))
   (pss_cons (ps_set (i:=5) sc.nd rfl (Or.inr rfl) (pe_ix (kix_list (K:=K)) (pe_lst (pa_cons pe_int (pa_cons pe_int (pa_cons pe_int pa_nil)))) (pe_ix (kix_list (K:=K)) (pv 3) pe_int (fun _ _=>rfl)) (fun _ _=>rfl)))
   (pss_one (ps_ret (pe_tup (pa_cons (pe_lc (N':=["_law_k","_law_names_here","_law_cap","_law_row"]) (M:=[none,some 4,some 5,some 3]) (lcSc_of (by rfl)) rfl (pi_range1 rfl B.range (pa_cons (pe_op op_add (pe_ix (kix_list (K:=K)) (pv 3) pe_int (fun _ _=>rfl)) pe_int) pa_nil)) (fun _ _ _ _ _=>pg_name (i:=0) (show (["_law_k","_law_names_here","_law_cap","_law_row"] : List Str).Nodup by decide +kernel) rfl (Or.inl rfl) (.inr rfl)) (frm_name rfl) (fun _ _ _ _ _=>pts_nil) (fun _ _ _ _ _=>(pe_tup (pa_cons (pe_ix (kix_list (K:=K)) (pv 1) (pv 0) (fun _ _=>rfl)) (pa_cons (pe_op op_mod (pe_ix (kix_list (K:=K)) (pv 3) (pe_op op_add pe_int (pv 0)) (fun _ _=>rfl)) (pv 2)) pa_nil))))) (pa_cons (pe_ix (kix_list (K:=K)) (pv 4) pe_int (fun _ _=>rfl)) pa_nil))))))))),?_⟩
  refine ⟨_,rfl,c,2,0,rfl,by decide,by decide,by decide,by decide,fun p3 sp3 H3 _ s3 hp3 hl3=>?_⟩
  obtain ⟨f1,f2,rfl⟩ : ∃ f1 f2,sp3=[f1,f2]:= by
   match sp3,hl3 with
   | [x,y],_=>exact ⟨x,y,rfl⟩
  refine ⟨p3,_,rfl,SqL.of hp3,rfl,_,_,rfl,_,_,rfl,rfl,?_⟩
  refine ⟨_,rfl,le_line (by simp),fun q1 hq1=>⟨_,rfl,by decide,by decide,?_⟩⟩
  refine lc_range (fun i ys H4=>H4=upd H3 q1 (.lst [.int 6,.int 3])/\ys=List.replicate i (V.int 100)) (le_line (by decide)) ⟨rfl,rfl⟩ (fun i ys H4 _ h=>by rw[h.2,List.length_replicate];exact Nat.le_refl _) ?_ ?_
  ·rintro i ys H4 hi ⟨rfl,rfl⟩
   refine lcN ?_
   exact ⟨rfl,(List.replicate_succ' ..).symm⟩
  rintro ys H4 ⟨rfl,rfl⟩ q2 hq2
  refine ⟨q1,q2,_,_,rfl,rfl,Same.new hq2 q1 _ upd_same,upd_same,le_line (by simp),fun q3 hq3=>?_⟩
  have s4:=((s3.new2 (o:=HO.lst [.int 6,.int 3]) hq1).new2 (o:=HO.lst (List.replicate (6:Int).toNat (V.int 100))) hq2).new2 (o:=HO.lst ([V.int 6,V.int 3]++List.replicate (6:Int).toNat (V.int 100))) hq3
  refine ⟨f1,q3,[6,3,100,100,100,100,100,100],rfl,SqL.of upd_same,lim_ok (by decide +kernel),by decide,fun row rs H5 _ s5 hrow hD=>?_⟩
  have s5:=s4.trans s5
  obtain ⟨r0,⟨a0,b0⟩,e0⟩:=paired_getM hD (show ([6,3,100,100,100,100,100,100]:List Int)[0]?=some 6 from rfl)
  obtain ⟨r1,⟨a1,b1⟩,e1⟩:=paired_getM hD (show ([6,3,100,100,100,100,100,100]:List Int)[1]?=some 3 from rfl)
  have hrl:rs.length=8:=hD.length.symm
  refine ⟨_,rfl,f2,7,rfl,by decide,by decide,fun nm S H6 _ s6 hnm hSl hSn hSo=>?_⟩
  have hrow6:=s6 row _ hrow
  have s6:=s5.trans s6
  refine ⟨le_line (by simp),fun cp hcp=>?_⟩
  have s7:=s6.new2 (o:=HO.lst [V.int 4,V.int 12,V.int 100]) hcp
  have hrow7:=Same.new (o:=HO.lst [V.int 4,V.int 12,V.int 100]) hcp row _ hrow6
  have hnm7:=Same.new (o:=HO.lst [V.int 4,V.int 12,V.int 100]) hcp nm _ hnm
  have hcp7:upd H6 cp (HO.lst [V.int 4,V.int 12,V.int 100]) cp=some (.lst [V.int 4,V.int 12,V.int 100]):=upd_same
  generalize upd H6 cp (HO.lst [V.int 4,V.int 12,V.int 100])=H7 at s7 hrow7 hnm7 hcp7
  obtain ⟨cap,hcap,cap0,cap1⟩ : ∃ cap:Int,atI [V.int 4,V.int 12,V.int 100] r1=some (V.int cap)/\0<cap/\cap<=100:= by
   have:r1=0\/r1=1\/r1=2:=by omega
   rcases this with rfl | rfl | rfl
   ·exact ⟨4,rfl,by decide,by decide⟩
   ·exact ⟨12,rfl,by decide,by decide⟩
   ·exact ⟨100,rfl,by decide,by decide⟩
  refine ⟨_,rfl,row,_,_,_,rfl,rfl,SqL.of hrow7,atI_nt e1,cp,_,_,_,rfl,rfl,SqL.of hcp7,hcap,?_⟩
  refine ⟨_,rfl,row,_,_,_,rfl,rfl,SqL.of hrow7,atI_nt e0,_,_,rfl,rfl,_,rfl,by omega,by omega,lc_range (n:=(r0+1).toNat) (fun i ys H8=>Same H7 H8 /\ ∃ (bs:List Addr) (W:Wds),ys=bs.map V.ref/\WAt H8 bs W/\W.map (·.1)=S.take i /\ ∀ w ∈ W,0<=w.2/\w.2<=99) (le_line (by omega)) ⟨Same.refl _,[],[],rfl,.nil,rfl,fun w h=>by simp at h⟩
    (fun i ys H8 hi ⟨s8,bs,W,e,hb,hn,_⟩=>by
     have:=congrArg List.length hn
     rw[List.length_map,List.length_take] at this
     rw[e,List.length_map,hb.length];omega) ?_ ?_⟩
  ·rintro i ys H8 hi ⟨s8,bs,W,rfl,hb,hn,hk⟩
   have hi6:i<6:=by omega
   have hiS:i<S.length:=by omega
   refine lcN ?_
   refine ⟨_,rfl,_,rfl,nm,_,_,_,rfl,rfl,SqL.of (s8 nm _ hnm7),atI_strZ (j:=i) (by omega) hiS,_,rfl,_,rfl,_,_,rfl,rfl,row,_,_,_,rfl,rfl,SqL.of (s8 row _ hrow7),atI_intZ (j:=2+i) (r:=rs.getD (2+i) 0) (by omega) (by rw[List.getD_eq_getElem?_getD,List.getElem?_eq_getElem (by omega)];rfl),_,rfl,_,_,rfl,rfl,cap0,le_line (by simp),fun t ht=>?_⟩
   have m0:0<=rs.getD (2+i) 0 % cap:=Int.emod_nonneg _ (by omega)
   have m1:rs.getD (2+i) 0 % cap<cap:=Int.emod_lt_of_pos _ cap0
   refine ⟨s8.new2 ht,bs ++ [t],W ++ [(S.getD i "",rs.getD (2 + i) 0 % cap)],ref_snoc,Paired.snoc (hb.same (Same.new ht)) upd_same,?_,fun w hw=>?_⟩
   ·rw[List.map_append,hn,take_snoc (x:=S.getD i "") (by rw[List.getD_eq_getElem?_getD,List.getElem?_eq_getElem hiS]; rfl)]; rfl
   ·rcases List.mem_append.mp hw with h | h
    ·exact hk w h
    ·rw[List.mem_singleton.mp h];dsimp only;omega
  ·rintro ys H8 ⟨s8,bs,W,rfl,hb,hn,hk⟩ l hl
   have hl9:upd H8 l (HO.lst (bs.map V.ref)) l=some (.lst (bs.map V.ref)):=upd_same
   have s9:=s8.new2 (o:=HO.lst (bs.map V.ref)) hl
   have hb9:=hb.same (Same.new (o:=HO.lst (bs.map V.ref)) hl)
   have hlH:H l=none:=(s7.trans s8).free hl
   generalize upd H8 l (HO.lst (bs.map V.ref))=H9 at hl9 s9 hb9
   have hS6 : S[6]? = some (S.getD 6 ""):=by rw[List.getD_eq_getElem?_getD,List.getElem?_eq_getElem (show 6 < S.length by omega)]; rfl
   refine ⟨_,rfl,nm,_,_,_,rfl,rfl,SqL.of (s9 nm _ hnm7),atI_strZ (j:=6) rfl (by omega),le_line (by simp),fun t ht=>?_⟩
   have hWl:W.length=(r0+1).toNat:= by
    have:=congrArg List.length hn
    rw[List.length_map,List.length_take] at this
    omega
   refine k t l bs W (S.getD 6 "") _ ((s7.trans s9).free ht) hlH ((s7.trans s9).new2 ht) upd_same (Same.new ht l _ hl9) (hb9.same (Same.new ht)) (woodsOk_iff.mpr ⟨by omega,?_,fun w hw=>⟨?_,hk w hw⟩⟩) ?_ (hSo _ (List.mem_of_getElem? hS6))
   ·rw[hn];exact hSn.sublist (List.take_sublist _ _)
   ·refine hSo _ (List.mem_of_mem_take (i:=(r0+1).toNat) ?_)
    rw[<- hn];exact List.mem_map_of_mem hw
   ·rw[countW_none,hn]
    intro hm
    obtain ⟨j,hj,e⟩:=List.getElem_of_mem hm
    rw[List.length_take] at hj
    rw[List.getElem_take] at e
    have h6 : S[6] = S.getD 6 "":=by rw[List.getElem?_eq_getElem (show 6 < S.length by omega)] at hS6; exact Option.some.inj hS6
    rw[<- h6] at e
    have:=(List.getElem_inj hSn).mp e
    omega
theorem sc_law_assigned : FnScope (["_law_names_here","_law_opened","_law_way","_law_rows","_law_lot","_law_due","_law_longer","_law_row","_law_free"]) (["_law_names_here","_law_opened","_law_way"]) (defScope s_law_assigned):=by trivial
theorem ok_law_assigned {f : Addr} {fd : FuncData} (F : Fun K "_law_assigned" "_law_assigned" s_law_assigned f fd) (B : Bs mg) (T : Gs mg)   : FnOk P w K mg base CX0 1 f fd ["_law_names_here","_law_opened","_law_way"] (spAssigned0 K):= by
 have sc:=sc_law_assigned
 refine F.ok sc (fun vs H Q E h=>?_) (fun cdv A outer s H vs Q E hr h=>?_)
 ·obtain ⟨n,o,a,N,ws,rfl,_⟩:=h;rfl
 ·obtain ⟨n,o,a,N,ws,rfl,hn,hN,ho,ha,hw,k⟩:=h
  refine ⟨_,(pss_cons (ps_set (i:=3) sc.nd rfl (Or.inl rfl) (pe_lst (pa_cons (pe_lst pa_nil) pa_nil)))
   (pss_cons (ps_for PassesOwn.never rfl (pi_range1 rfl B.range (pa_cons (pe_op op_add (pe_callB (kc_max (K:=K)) (by rfl) B.max PyProof.Rows.Boot.«max» (pa_cons (pv 2) pa_nil)) pe_int) pa_nil)) (pg_name (i:=4) sc.nd rfl (Or.inr rfl))
   (pss_cons (ps_set (i:=5) sc.nd rfl (Or.inr rfl) (pe_lc (N':=["_law_k","_law_opened","_law_lot","_law_way"]) (M:=[none,some 1,some 4,some 2]) (lcSc_of (by rfl)) rfl (pi_range1 rfl B.range (pa_cons (pe_callB (kc_len (K:=K)) (by rfl) B.len PyProof.Rows.Boot.«len» (pa_cons (pv 1) pa_nil)) pa_nil)) (fun _ _ _ _ _=>pg_name (i:=0) (show (["_law_k","_law_opened","_law_lot","_law_way"] : List Str).Nodup by decide +kernel) rfl (Or.inl rfl) (.inr rfl)) (frm_name rfl) (fun _ _ _ _ _=>pts_one (pt_cmpR op_eq (pe_ix (kix_tup (K:=K)) (pv 3) (pv 0) (fun _ _=>rfl)) (pv 2) (nomark _))) (fun _ _ _ _ _=>(pe_ix (kix_list (K:=K)) (pv 1) (pv 0) (fun _ _=>rfl)))))
   (pss_cons (ps_set (i:=6) sc.nd rfl (Or.inl rfl) (pe_lst pa_nil))
   (pss_cons (ps_for PassesOwn.never rfl (kpi_list (K:=K) (pv 3)) (pg_name (i:=7) sc.nd rfl (Or.inr rfl))
   (pss_cons (ps_lc (i:=8) sc.nd rfl rfl (N':=["_law_name","_law_row"]) (M:=[none,some 7]) (lcSc_of (by rfl)) rfl (kpi_list (K:=K) (pv 0)) (fun _ _ _ _ _=>pg_name (i:=0) (show (["_law_name","_law_row"] : List Str).Nodup by decide +kernel) rfl (Or.inl rfl) (.inr rfl)) (frm_name rfl) (fun _ _ _ _ _=>pts_one (pt_cmpR (kop_notIn (K:=K)) (pv 0) (pv 1) rfl)) (fun _ _ _ _ _=>(pv 0)))
   (pss_one (ps_expr (pe_bm PySem.F.plainAttrs_list PySem.F.slot_list_extend PySem.F.type_list_extend mt_extend (pv 6) (pa_cons (pe_lcC (N':=["_law_name","_law_row","_law_due"]) (M:=[none,some 7,some 5]) (lcScC_of (by rfl)) rfl (kpi_list (K:=K) (pv 8)) (fun _ _ _ _ _=>pg_name (i:=0) (show (["_law_name","_law_row","_law_due"] : List Str).Nodup by decide +kernel) rfl (Or.inr rfl) (.inl rfl)) (frm_name rfl) (fun _ _ _ _ _=>pts_one (pt_val (pe_callB (kc_all (K:=K)) (by rfl) B.all PyProof.Rows.Boot.«all» (pa_cons (pe_lcV (N':=["_law_one","_law_name"]) (M:=[none,some 0]) (lcSc_of (by rfl)) rfl (kpi_list (K:=K) (pv 2)) (fun _ _ _ _ _=>pg_name (i:=0) (show (["_law_one","_law_name"] : List Str).Nodup by decide +kernel) rfl (Or.inl rfl) (.inr rfl)) (frm_name rfl) (fun _ _ _ _ _=>pts_nil) (fun _ _ _ _ _=>(pe_cmpR op_eq (pv 1) (pv 0) (nomark _)))) pa_nil)))) (fun _ _ _ _ _=>(pe_op op_cat (pv 1) (pe_lst (pa_cons (pv 0) pa_nil))))) pa_nil))))))
   (pss_one (ps_set (i:=3) sc.nd rfl (Or.inl rfl) (pv 6)))))))
   (pss_one (ps_ret (pv 3))))),?_⟩
  obtain ⟨w1,w9,w0⟩:=isWay_iff.mp hw
  have hne:ws≠[]:=fun e=>by rw[e] at w1;simp at w1
  obtain ⟨f1,fm⟩:=fresh_pos w0 hne
  have fl:=fresh_le ws
  have papp : ∀ {F:Addr->List Str->Prop} {l1 l3:List Addr} {l2 l4:List (List Str)},Paired F l1 l2->Paired F l3 l4->Paired F (l1++l3) (l2++l4):= by
   intro F l1 l3 l2 l4 h1 h2
   induction h1 with
   | nil=>exact h2
   | cons r t ih=>exact .cons r ih
  have big : ∀ {m:Nat},m<=9->(rowsL N (fun _ _=>true) m).length<=10077696:=fun {m} hm=>Nat.le_trans (rows_many N hN m) (Nat.pow_le_pow_right (by decide) hm:6 ^ m<=6 ^ 9)
  refine seq_a ?_
  refine ⟨Nat.zero_le _,fun p0 h0=>⟨le_line (by simp),fun p1 h1=>?_⟩⟩
  have s1:=(Same.new (o:=HO.lst []) h0).new2 (o:=HO.lst [V.ref p0]) h1
  have hp0:upd (upd H p0 (HO.lst [])) p1 (HO.lst [V.ref p0]) p0=some (.lst []):=by rw[upd_ne (ne_of_none upd_same h1)];exact upd_same
  have hp1:upd (upd H p0 (HO.lst [])) p1 (HO.lst [V.ref p0]) p1=some (.lst [V.ref p0]):=upd_same
  generalize upd (upd H p0 (HO.lst [])) p1 (HO.lst [V.ref p0])=H1 at s1 hp0 hp1
  refine seq_by2 (fun σ' H'=>∃ (p:Addr) (ps:List Addr) (o4 o5 o6 o7 o8:Option V),σ'=[some (.ref n),some (.ref o),some (.ref a),some (.ref p),o4,o5,o6,o7,o8]/\Same H H'/\H' p=some (.lst (ps.map V.ref))/\Paired (fun q (r:List Str)=>H' q=some (.lst (r.map V.str))) ps (rowsL N (fun _ _=>true) (fresh 0 ws).toNat)) (fun Nx hNx=>?_) ?_
  ·refine ⟨_,rfl,a,ws,rfl,.inr (s1.seqT ha),hne,fun mx hmx=>?_⟩
   have em:mx=fresh 0 ws-1:=hmx.uniq fm
   subst em
   refine ⟨_,_,rfl,rfl,fresh 0 ws,?_,by omega,by omega,?_⟩
   ·show [V.int (fresh 0 ws-1+1)]=_
    rw[Int.sub_add_cancel]
   refine for_range (lo:=0) (n:=(fresh 0 ws).toNat) (fun m σ H'=>∃ (p:Addr) (ps:List Addr) (o4 o5 o6 o7 o8:Option V),σ=[some (.ref n),some (.ref o),some (.ref a),some (.ref p),o4,o5,o6,o7,o8]/\Same H H'/\H' p=some (.lst (ps.map V.ref))/\Paired (fun q (r:List Str)=>H' q=some (.lst (r.map V.str))) ps (rowsL N (fun _ _=>true) m))
    ⟨p1,[p0],none,none,none,none,none,rfl,s1,hp1,.cons hp0 .nil⟩ ?_ (fun σ H' h=>hNx _ _ h)
   rintro m σ H2 hm ⟨p,ps,o4,o5,o6,o7,o8,rfl,s2,hp,hps⟩
   have hm9:m+1<=9:=by omega
   refine gN ?_
   refine seq_a ?_
   refine ⟨_,rfl,o,_,rfl,.inl (SqL.of (s2 _ _ ho)),0,rfl,by decide,by decide,lc_it (n:=0) (fun i ys H2'=>H2'=H2/\ys=[]) (le_line (by simp)) ⟨rfl,rfl⟩ (fun i ys H2 hi _=>absurd hi (by omega)) (fun ys H2 e=>by exact Nat.le_refl _) (fun i ys H2 _ e=>by rw[e.2];simp) (fun i x ys H2 H3 hi _ _=>absurd hi (by omega)) ?_⟩
   rintro ys H3 ⟨rfl,rfl⟩ du hdu
   have n3:=Same.new (o:=HO.lst []) hdu
   have s3:=s2.trans n3
   have hdu3:upd H3 du (HO.lst []) du=some (.lst []):=upd_same
   have hp3:=n3 _ _ hp
   have hps3:=Paired.mapP hps (fun q r e=>n3 _ _ e)
   generalize upd H3 du (HO.lst [])=H4 at n3 s3 hdu3 hp3 hps3
   refine seq_a ?_
   refine ⟨Nat.zero_le _,fun lg hlg=>?_⟩
   have n5:=Same.new (o:=HO.lst []) hlg
   have hlg5:upd H4 lg (HO.lst []) lg=some (.lst []):=upd_same
   generalize upd H4 lg (HO.lst [])=H5 at n5 hlg5
   refine seq_by2 (fun σ' H'=>∃ (qs:List Addr) (o7 o8:Option V),σ'=[some (.ref n),some (.ref o),some (.ref a),some (.ref p),some (.int (0+(m:Int))),some (.ref du),some (.ref lg),o7,o8]/\Same H4 H'/\H' lg=some (.lst (qs.map V.ref))/\Paired (fun q (r:List Str)=>q≠lg/\H' q=some (.lst (r.map V.str))) qs (rowsL N (fun _ _=>true) (m+1))) (fun Ny hNy=>?_) ?_
   ·refine ⟨_,rfl,p,rfl,⟨_,SqL.of (n5 _ _ hp3)⟩,for_list (K:=K) (a:=p) (xs:=ps.map V.ref) (fun i σ H'=>∃ (qs:List Addr) (o7 o8:Option V),σ=[some (.ref n),some (.ref o),some (.ref a),some (.ref p),some (.int (0+(m:Int))),some (.ref du),some (.ref lg),o7,o8]/\Same H4 H'/\H' lg=some (.lst (qs.map V.ref))/\Paired (fun q (r:List Str)=>q≠lg/\H' q=some (.lst (r.map V.str))) qs (((rowsL N (fun _ _=>true) m).take i).flatMap (extR N)))
     ⟨[],o7,o8,rfl,n5,hlg5,.nil⟩ (fun i σ H' _ ⟨_,_,_,_,s',_⟩=>SqL.of (s' _ _ hp3)) ?_ ?_⟩
    ·rintro i y σ H6 hi ⟨qs,o7,o8,rfl,s6,hlg6,hqs⟩
     obtain ⟨q7,rfl,hq7,hil⟩:=getRef hi
     obtain ⟨r,hr4,hri⟩:=paired_getM hps3 hq7
     have hr6:=s6 _ _ hr4
     have hn6:=s6 _ _ (s3 _ _ hn)
     have hdu6:=s6 _ _ hdu3
     have hrl:r.length=m:=rows_len _ _ m r (List.mem_of_getElem? hri)
     refine gN ?_
     refine seq_l ?_
     refine ⟨_,rfl,n,rfl,⟨_,SqL.of hn6⟩,lc_list (xs:=N.map V.str) (fun j ys H7=>H7=H6/\ys=(L2.without (N.take j) r).map V.str) (le_line (by rw[List.length_map];omega)) ⟨rfl,rfl⟩
      (fun j ys H7 _ h=>⟨by rw[h.1];exact SqL.of hn6,by rw[h.2,List.length_map];unfold L2.without;exact Nat.le_trans (List.length_filter_le _ _) (by rw[List.length_take];omega)⟩) ?_ ?_⟩
     ·rintro j y ys H7 hj ⟨rfl,rfl⟩
      obtain ⟨z,rfl,hz,hjl⟩:=getStr hj
      refine gN ?_
      refine ⟨_,rfl,_,rfl,q7,_,rfl,.inl (SqL.of hr6),rfl,flat_strs r,_,rfl,?_⟩
      rw[inV_strs]
      by_cases hzr:z ∈ r
      ·rw[decide_eq_true hzr]
       exact iteF ⟨rfl,by rw[without_snocN hz,if_pos hzr]⟩
      ·rw[decide_eq_false hzr]
       refine iteT ⟨_,rfl,rfl,?_⟩
       rw[without_snocN hz,if_neg hzr,List.map_append];rfl
     rintro ys H7 ⟨rfl,rfl⟩ fr hfr
     rw[List.length_map,List.take_length]
     have n8:=Same.new (o:=HO.lst ((L2.without N r).map V.str)) hfr
     have s8:=s6.trans n8
     have hfr8:upd H7 fr (HO.lst ((L2.without N r).map V.str)) fr=some (.lst ((L2.without N r).map V.str)):=upd_same
     have hlg8:=n8 _ _ hlg6
     have hr8:=n8 _ _ hr6
     have hdu8:=n8 _ _ hdu6
     have hqs8:=Paired.mapP hqs (fun q r e=>(⟨e.1,n8 _ _ e.2⟩:q≠lg/\_))
     generalize upd H7 fr (HO.lst ((L2.without N r).map V.str))=H8 at n8 s8 hfr8 hlg8 hr8 hdu8 hqs8
     refine ⟨_,rfl,.inl ⟨rfl,_,SqL.of hlg8⟩,?_⟩
     have hwl:(L2.without N r).length<=6:=by unfold L2.without;exact Nat.le_trans (List.length_filter_le _ _) hN
     refine ⟨_,rfl,fr,rfl,⟨_,SqL.of hfr8⟩,lc_list (xs:=(L2.without N r).map V.str) (fun j ys H9=>Same H8 H9 /\ ∃ qs':List Addr,ys=qs'.map V.ref/\Paired (fun q (r:List Str)=>q≠lg/\H9 q=some (.lst (r.map V.str))) qs' (((L2.without N r).take j).map fun z=>r++[z])) (le_line (by rw[List.length_map];omega)) ⟨Same.refl _,[],rfl,.nil⟩
      (fun j ys H9 _ ⟨s9,qs',e,hP⟩=>⟨SqL.of (s9 _ _ hfr8),by rw[e,List.length_map,hP.length,List.length_map,List.length_take];omega⟩) ?_ ?_⟩
     ·rintro j y ys H9 hj ⟨s9,qs',rfl,hP⟩
      obtain ⟨z,rfl,hz,hjl⟩:=getStr hj
      refine gN ?_
      refine ⟨_,rfl,du,rfl,⟨_,SqL.of (s9 _ _ hdu8)⟩,lc_list (xs:=[]) (fun j ys H'=>H'=H9/\ys=[]) (le_line (by simp)) ⟨rfl,rfl⟩ (fun j ys H' _ h=>⟨by rw[h.1];exact SqL.of (s9 _ _ hdu8),by rw[h.2];simp⟩) (fun j x ys H' hj _=>by cases hj) ?_⟩
      rintro ys H10 ⟨rfl,rfl⟩ u hu
      have n11:=Same.new (o:=HO.lst []) hu
      refine ⟨u,[],rfl,.inl (SqL.of upd_same),_,rfl,iteT ?_⟩
      have s11:=s9.trans n11
      have hP11:=Paired.mapP hP (fun q r e=>(⟨e.1,n11 _ _ e.2⟩:q≠lg/\_))
      generalize upd H10 u (HO.lst [])=H11 at n11 s11 hP11
      refine ⟨_,rfl,_,rfl,le_line (by simp),fun b hb=>?_⟩
      have n12:=Same.new (o:=HO.lst [V.str z]) hb
      refine ⟨q7,b,_,_,rfl,rfl,n12 _ _ (s11 _ _ hr8),upd_same,le_line (by rw[List.length_map];simp;omega),fun c hc=>?_⟩
      have n13:=n12.new2 (o:=HO.lst (r.map V.str++[V.str z])) hc
      refine ⟨s11.trans n13,qs'++[c],by rw[List.map_append];rfl,?_⟩
      rw[take_snoc hz,List.map_append]
      refine papp (Paired.mapP hP11 (fun q r e=>⟨e.1,n13 _ _ e.2⟩)) (.cons ⟨fun e=>?_,?_⟩ .nil)
      ·have:=n12 _ _ (s11 _ _ hlg8)
       rw[<- e,hc] at this;cases this
      ·rw[upd_same,List.map_append];rfl
     rintro ys H9 ⟨s9,qs',rfl,hP⟩ u hu
     rw[List.length_map,List.take_length] at hP
     have n10:=s9.new2 (o:=HO.lst (qs'.map V.ref)) hu
     have s10:=s8.trans n10
     have hlen:(qs.map V.ref).length+(qs'.map V.ref).length<=10077696:= by
      rw[List.length_map,List.length_map,hqs8.length,hP.length]
      have e1:(rowsL N (fun _ _=>true) (m+1)).length=((((rowsL N (fun _ _=>true) m).take (i+1)).flatMap (extR N))++(((rowsL N (fun _ _=>true) m).drop (i+1)).flatMap (extR N))).length:= by
       rw[rows_succ,<- List.flatMap_append,List.take_append_drop]
      have:=big hm9
      rw[e1,flat_snoc hri,List.length_append,List.length_append] at this
      have:(extR N r).length=((L2.without N r).map fun z=>r++[z]).length:=rfl
      omega
     refine ⟨lg,u,_,_,rfl,rfl,n10 _ _ hlg8,upd_same,le_line (by omega),?_⟩
     refine ⟨qs++qs',_,_,rfl,s10.put hlg,by rw[upd_same,List.map_append],?_⟩
     rw[flat_snoc hri]
     exact papp (Paired.mapP hqs8 (fun q r e=>⟨e.1,by rw[upd_ne e.1];exact n10 _ _ e.2⟩)) (Paired.mapP hP (fun q r e=>⟨e.1,by rw[upd_ne e.1];exact Same.new hu _ _ e.2⟩))
    ·rintro σ H6 ⟨qs,o7,o8,rfl,s6,hlg6,hqs⟩
     have hpl:(ps.map V.ref).length=(rowsL N (fun _ _=>true) m).length:=by rw[List.length_map,hps.length]
     rw[hpl,List.take_length,<- rows_succ] at hqs
     exact hNy _ _ ⟨qs,o7,o8,rfl,s6,hlg6,hqs⟩
   ·rintro σ H6 ⟨qs,o7,o8,rfl,s6,hlg6,hqs⟩
    exact ⟨_,rfl,lg,qs,_,_,_,_,_,rfl,s3.trans s6,hlg6,Paired.mapP hqs fun _ _ e=>e.2⟩
  ·rintro σ H2 ⟨p,ps,o4,o5,o6,o7,o8,rfl,s2,hp,hps⟩
   exact ⟨_,rfl,k p ps H2 s2 hp hps⟩
theorem sc_law_draws : FnScope (["_law_left","_law_opened","_law_way","_law_names_here","_law_total_here","_law_woods_row","_law_there","_law_found","_law_lot"]) (["_law_left","_law_opened","_law_way"]) (defScope s_law_draws):=by trivial
theorem ok_law_draws {f : Addr} {fd : FuncData} (F : Fun K "_law_draws" "_law_draws" s_law_draws f fd) (B : Bs mg) (T : Gs mg)  (c_law_assigned : Cal P w K mg base 1 "_law_assigned" [] (spAssigned0 K)) : FnOk P w K mg base CX0 2 f fd ["_law_left","_law_opened","_law_way"] (spDraws0 K):= by
 have sc:=sc_law_draws
 refine F.ok sc (fun vs H Q E h=>?_) (fun cdv A outer s H vs Q E hr h=>?_)
 ·obtain ⟨l,o,a,as,W,ws,rfl,_⟩:=h;rfl
 ·obtain ⟨l,o,a,as,W,ws,rfl,hl,hA,hW,ho,ha,hw,k⟩:=h
  refine ⟨_,(pss_cons (ps_lc (i:=3) sc.nd rfl rfl (N':=["_law_name","_law_packets"]) (M:=[none,none]) (lcSc_of (by rfl)) rfl (kpi_list (K:=K) (pv 0)) (fun _ _ _ _ _=>kpg_tup (K:=K) (n:=2) rfl (pgs_cons (pg_name (i:=0) (show (["_law_name","_law_packets"] : List Str).Nodup by decide +kernel) rfl (Or.inl rfl) (.inr rfl)) (pgs_cons (pg_name (i:=1) (show (["_law_name","_law_packets"] : List Str).Nodup by decide +kernel) rfl (Or.inl rfl) (.inr rfl)) pgs_nil))) frm_two (fun _ _ _ _ _=>pts_nil) (fun _ _ _ _ _=>(pv 0)))
   (pss_cons (ps_set (i:=4) sc.nd rfl (Or.inl rfl) pe_int)
   (pss_cons (ps_for PassesOwn.never rfl (kpi_list (K:=K) (pe_cal c_law_assigned (hr.mono (by decide)) rfl (pa_cons (pv 3) (pa_cons (pv 1) (pa_cons (pv 2) pa_nil))))) (pg_name (i:=5) sc.nd rfl (Or.inl rfl))
   (pss_cons (ps_set (i:=6) sc.nd rfl (Or.inl rfl) (pe_callTy (call_dictL (K:=K)) (by rfl) B.dict PyProof.Rows.Boot.«dict» (pa_cons (pv 0) pa_nil)))
   (pss_cons (ps_set (i:=7) sc.nd rfl (Or.inl rfl) pe_int)
   (pss_cons (ps_for PassesOwn.never rfl (kpi_tup (K:=K) (pe_slice (ksl_tup (K:=K)) (pv 2) (po_some (pe_callB (kc_len (K:=K)) (by rfl) B.len PyProof.Rows.Boot.«len» (pa_cons (pv 1) pa_nil))) po_none)) (pg_name (i:=8) sc.nd rfl (Or.inl rfl))
   (pss_cons (ps_set (i:=7) sc.nd rfl (Or.inl rfl) (pe_op op_mulW (pv 7) (pe_dget (hu_of hr) (pv 6) (pe_ix (kix_list (K:=K)) (pv 5) (pv 8) (fun _ _=>rfl)) (fun _ _=>rfl))))
   (pss_one (ps_dput (hu_of hr) (pv 6) (pe_ix (kix_list (K:=K)) (pv 5) (pv 8) (fun _ _=>rfl)) (pe_callB kc_max2 (by rfl) B.max PyProof.Rows.Boot.«max» (pa_cons pe_int (pa_cons (pe_op op_sub (pe_dget (hu_of hr) (pv 6) (pe_ix (kix_list (K:=K)) (pv 5) (pv 8) (fun _ _=>rfl)) (fun _ _=>rfl)) pe_int) pa_nil))) rfl))))
   (pss_one (ps_set (i:=4) sc.nd rfl (Or.inl rfl) (pe_op op_add (pv 4) (pv 7))))))))
   (pss_one (ps_ret (pv 4)))))),?_⟩
  obtain ⟨w1,w9,w0⟩:=isWay_iff.mp hw
  obtain ⟨x1,x2,x3⟩:=woodsOk_iff.mp hW
  have hal:(as.map V.ref).length=W.length:=by rw[List.length_map,hA.length]
  have putK_len : ∀ (d:List (Key × V)) (k:Key) (v:V),(putK d k v).length<=d.length+1:= by
   intro d k v;unfold putK;split <;> simp
  have plen : ∀ (kvs:List (Key × V)),(putAll kvs).length<=kvs.length:= by
   have : ∀ (kvs d:List (Key × V)),(kvs.foldl (fun d kv=>putK d kv.1 kv.2) d).length<=d.length+kvs.length:= by
    intro kvs
    induction kvs with
    | nil=>intro d;exact Nat.le_refl _
    | cons kv kvs ih=>intro d;have:=ih (putK d kv.1 kv.2);have:=putK_len d kv.1 kv.2;rw[List.length_cons];simp only [List.foldl_cons];omega
   intro kvs
   have:=this kvs []
   unfold putAll
   simpa using this
  have sqput : ∀ {H1:Hp} {d b:Addr} {kvs kvs':List (Key × V)} {xs:List V},H1 d=some (.dK kvs)->SqT K H1 b xs->SqT K (upd H1 d (.dK kvs')) b xs:= by
   intro H1 d b kvs kvs' xs hd hb
   rcases hb with (h | ⟨o,h⟩) | h
   ·exact .inl (.inl (by rw[upd_ne (fun e=>by rw[e,hd] at h;cases h)];exact h))
   ·exact .inl (.inr ⟨o,by rw[upd_ne (fun e=>by rw[e,hd] at h;cases h)];exact h⟩)
   ·exact .inr h
  refine seq_l ?_
  refine ⟨_,rfl,l,rfl,⟨_,SqL.of hl⟩,lc_list (xs:=as.map V.ref) (fun i ys H3=>H3=H/\ys=((W.take i).map (·.1)).map V.str) (le_line (by omega)) ⟨rfl,rfl⟩
   (fun i ys H3 _ h=>⟨by rw[h.1];exact SqL.of hl,by rw[h.2,List.length_map,List.length_map,List.length_take];omega⟩) ?_ ?_⟩
  ·rintro i y ys H3 hi ⟨rfl,rfl⟩
   obtain ⟨q,rfl,hq,hil⟩:=getRef hi
   obtain ⟨w,hww,hwi⟩:=paired_getM hA hq
   refine ⟨q,_,rfl,SqT.of hww,rfl,_,_,rfl,_,_,rfl,rfl,lcY ⟨_,rfl,rfl,?_⟩⟩
   rw[map_take_snoc hwi];exact str_snoc
  rintro ys H1 ⟨rfl,rfl⟩ nm hnm
  rw[hal,List.take_length]
  have s1:=Same.new (o:=HO.lst ((W.map (·.1)).map V.str)) hnm
  have hnm1:upd H1 nm (HO.lst ((W.map (·.1)).map V.str)) nm=some (.lst ((W.map (·.1)).map V.str)):=upd_same
  generalize upd H1 nm (HO.lst ((W.map (·.1)).map V.str))=H2 at s1 hnm1
  refine seq_c ?_
  refine seq_by2 (fun σ' H'=>∃ o5 o6 o7 o8:Option V,σ'=[some (.ref l),some (.ref o),some (.ref a),some (.ref nm),some (.int (phi (W.map (·.2)) (lotS ws (fresh 0 ws).toNat))),o5,o6,o7,o8]/\Same H1 H') (fun Nx hNx=>?_) ?_
  ·refine ⟨_,rfl,_,rfl,_,rfl,nm,o,a,W.map (·.1),ws,rfl,hnm1,by rw[List.length_map];omega,s1 _ _ ho,s1.seqT ha,hw,fun p ps H3 s3 hp hps=>?_⟩
   have hpl:(ps.map V.ref).length=(rowsL (W.map (·.1)) (fun _ _=>true) (fresh 0 ws).toNat).length:=by rw[List.length_map,hps.length]
   refine ⟨p,rfl,⟨_,SqL.of hp⟩,for_list (K:=K) (a:=p) (xs:=ps.map V.ref) (fun i σ H'=>∃ o5 o6 o7 o8:Option V,σ=[some (.ref l),some (.ref o),some (.ref a),some (.ref nm),some (.int (((rowsL (W.map (·.1)) (fun _ _=>true) (fresh 0 ws).toNat).take i).map fun r=>prj W r ws ws.length).sum),o5,o6,o7,o8]/\Same H3 H')
    ⟨none,none,none,none,rfl,Same.refl _⟩ (fun i σ H' _ ⟨_,_,_,_,_,s'⟩=>SqL.of (s' _ _ hp)) ?_ ?_⟩
   ·rintro i y σ H4 hi ⟨o5,o6,o7,o8,rfl,s4⟩
    obtain ⟨q,rfl,hq,hil⟩:=getRef hi
    obtain ⟨r,hr3,hri⟩:=paired_getM hps hq
    have hr4:=s4 _ _ hr3
    have hrm:=List.mem_of_getElem? hri
    have hrl:r.length=(fresh 0 ws).toNat:=rows_len _ _ _ r hrm
    obtain ⟨rnd,rin⟩:=rows_in _ _ r hrm
    have s14:=(s1.trans s3).trans s4
    refine gN ?_
    refine seq_a ?_
    refine ⟨_,rfl,l,as,kvW W,rfl,s14 _ _ hl,kvW_at (hA.same s14),fun dd hdd=>?_⟩
    have n5:=Same.new (o:=HO.dK (putAll (kvW W))) hdd
    have hdd5:upd H4 dd (HO.dK (putAll (kvW W))) dd=some (.dK (putAll (kvW W))):=upd_same
    generalize upd H4 dd (HO.dK (putAll (kvW W)))=H5 at n5 hdd5
    refine seq_c ?_
    refine seq_by2 (fun σ' H'=>∃ o8:Option V,σ'=[some (.ref l),some (.ref o),some (.ref a),some (.ref nm),some (.int (((rowsL (W.map (·.1)) (fun _ _=>true) (fresh 0 ws).toNat).take i).map fun r=>prj W r ws ws.length).sum),some (.ref q),some (.ref dd),some (.int (prj W r ws ws.length)),o8]/\Same H4 H') (fun Ny hNy=>?_) ?_
    ·refine ⟨_,rfl,_,rfl,o,_,rfl,.inl (SqL.of (n5 _ _ (s14 _ _ ho))),_,rfl,a,_,rfl,(s14.trans n5).seqT ha,fun sh H6 s6 hsh=>?_⟩
     have e0:cutV (ws.map V.int) (some ((([]:List V).length:Nat):Int)) none=ws.map V.int:= by
      rw[show ((([]:List V).length:Nat):Int)=((0:Nat):Int) from rfl,cut_drop_int,List.drop_zero]
     rw[e0] at hsh
     refine ⟨sh,rfl,⟨_,hsh⟩,for_tup (K:=K) (a:=sh) (xs:=ws.map V.int) (fun j σ H'=>∃ (kvs : List (Key × V)) (o8 : Option V),σ = [some (.ref l),some (.ref o),some (.ref a),some (.ref nm),some (.int (((rowsL (W.map (·.1)) (fun _ _=>true) (fresh 0 ws).toNat).take i).map fun r=>prj W r ws ws.length).sum),some (.ref q),some (.ref dd),some (.int (prj W r ws j)),o8] /\ Same H4 H' /\ H' dd = some (.dK kvs) /\ kvs.length <= 6 + j /\ SqT K H' sh (ws.map V.int) /\ ∀ x,x < r.length -> valV kvs (Sum.inr (r.getD x "")) = some (.int (max 0 (cz W (r.getD x "") - ((ws.take j).count (x : Int) : Nat)))))
      ⟨putAll (kvW W),o8,by rw[prj_zero];rfl,n5.trans s6,s6 _ _ hdd5,?_,hsh,fun x hx=>?_⟩ (fun j σ H' _ ⟨_,_,_,_,_,_,h,_⟩=>h) ?_ ?_⟩
     ·have:=plen (kvW W)
      have e:(kvW W).length=W.length:=by unfold kvW;rw[List.length_map]
      omega
     ·have hm : r.getD x "" ∈ r:= by
       rw[List.getD_eq_getElem?_getD,List.getElem?_eq_getElem hx]
       exact List.getElem_mem _
      rw[val_all x2 (fun e=>countW_none.mp e (rin _ hm)),List.take_zero,List.count_nil]
      have:=(cz_ok hW (r.getD x "")).1
      rw[show max 0 (cz W (r.getD x "") - ((0 : Nat) : Int)) = cz W (r.getD x "") by omega]
     ·rintro j y σ H7 hj ⟨kvs,o8,rfl,s7,hdd7,hkl,hsh7,hval⟩
      obtain ⟨w,rfl,hwj,hjl⟩:=getI hj
      have hwm:=(way_memJ ws w0 w).mp (List.mem_of_getElem? hwj)
      have hwl:w.toNat<r.length:=by omega
      have hq7:=s7 _ _ hr4
      have hat : atI (r.map V.str) w = some (.str (r.getD w.toNat "")):=atI_strZ (by omega) hwl
      have hv:=hval w.toNat hwl
      rw[Int.toNat_of_nonneg hwm.1] at hv
      have hc:=cz_ok hW (r.getD w.toNat "")
      have hmx : 0 <= max 0 (cz W (r.getD w.toNat "") - ((ws.take j).count w : Nat)) /\ max 0 (cz W (r.getD w.toNat "") - ((ws.take j).count w : Nat)) <= 99:=by omega
      have hG : DGet H7 dd (.str (r.getD w.toNat "")) (some (.int (max 0 (cz W (r.getD w.toNat "") - ((ws.take j).count w : Nat))))):= by
       rw[<- hv]; exact DGet.k (k:=Sum.inr (r.getD w.toNat "")) hdd7
      refine gN ?_
      refine seq_a ?_
      refine ⟨_,rfl,_,rfl,_,rfl,_,rfl,q,_,w,_,rfl,rfl,SqL.of hq7,hat,dd,_,rfl,hG,_,_,rfl,rfl,mulOk_r ⟨by omega,by omega⟩,?_⟩
      refine ⟨_,rfl,_,rfl,_,rfl,q,_,w,_,rfl,rfl,SqL.of hq7,hat,dd,_,rfl,hG,_,_,rfl,rfl,0,_,rfl,?_⟩
      refine ⟨_,rfl,_,rfl,_,rfl,q,_,w,_,rfl,rfl,SqL.of hq7,hat,dd,_,rfl,DPut.k (k:=Sum.inr (r.getD w.toNat "")) hdd7 (lt_line (by omega)),?_⟩
      refine ⟨_,_,by rw[prj_succ hwj hwm.1 (by omega)];rfl,s7.put hdd,upd_same,Nat.le_trans (putK_len _ _ _) (by omega),sqput hdd7 hsh7,fun x hx=>?_⟩
      rw[valV_put]
      by_cases ex:x=w.toNat
      ·subst ex
       rw[if_pos rfl,Int.toNat_of_nonneg hwm.1,take_snoc hwj,List.count_append,List.count_singleton_self]
       congr 2
       split <;> omega
      ·have hne : r.getD x "" ≠ r.getD w.toNat "":=fun e=>ex (by
        rw[List.getD_eq_getElem?_getD,List.getD_eq_getElem?_getD,List.getElem?_eq_getElem hx,List.getElem?_eq_getElem hwl] at e
        exact (List.getElem_inj rnd).mp e)
       rw[if_neg (fun e=>hne (Sum.inr.inj e)),hval x hx,take_snoc hwj,List.count_append]
       have:List.count (x:Int) [w]=0:=List.count_eq_zero.mpr (by simp;omega)
       rw[this,Nat.add_zero]
     ·rintro σ H7 ⟨kvs,o8,rfl,s7,_⟩
      exact hNy _ _ ⟨o8,by rw[List.length_map],s7⟩
    ·rintro σ H6 ⟨o8,rfl,s6⟩
     have e:(((rowsL (W.map (·.1)) (fun _ _=>true) (fresh 0 ws).toNat).take (i+1)).map fun r=>prj W r ws ws.length).sum=(((rowsL (W.map (·.1)) (fun _ _=>true) (fresh 0 ws).toNat).take i).map fun r=>prj W r ws ws.length).sum+prj W r ws ws.length:= by
      rw[map_take_snoc hri,List.sum_append,List.sum_cons,List.sum_nil,Int.add_zero]
     exact ⟨_,rfl,_,rfl,_,_,rfl,rfl,some (.ref q),some (.ref dd),some (.int (prj W r ws ws.length)),o8,by rw[e];rfl,s4.trans s6⟩
   ·rintro σ H4 ⟨o5,o6,o7,o8,rfl,s4⟩
    refine hNx _ _ ⟨o5,o6,o7,o8,?_,(s1.trans s3).trans s4⟩
    rw[hpl,List.take_length,rows_sum hW]
  ·rintro σ H2 ⟨o5,o6,o7,o8,rfl,s2⟩
   exact ⟨_,rfl,k H2 s2⟩
theorem sc_law_total : FnScope (["_law_left"]) (["_law_left"]) (defScope s_law_total):=by trivial
theorem ok_law_total {f : Addr} {fd : FuncData} (F : Fun K "_law_total" "_law_total" s_law_total f fd) (B : Bs mg) (T : Gs mg)   : FnOk P w K mg base CX0 1 f fd ["_law_left"] (spLTot K):= by
 have sc:=sc_law_total
 refine F.ok sc (fun vs H Q E h=>?_) (fun cdv A outer s H vs Q E hr h=>?_)
 ·obtain ⟨l,as,W,rfl,_⟩:=h;rfl
 ·obtain ⟨l,as,W,rfl,hl,hA,hn,k⟩:=h
  refine ⟨_,(pss_one (ps_ret (pe_callB (kc_sum (K:=K)) (by rfl) B.sum PyProof.Rows.Boot.«sum» (pa_cons (pe_lc (N':=["_law_name","_law_packets"]) (M:=[none,none]) (lcSc_of (by rfl)) rfl (kpi_list (K:=K) (pv 0)) (fun _ _ _ _ _=>kpg_tup (K:=K) (n:=2) rfl (pgs_cons (pg_name (i:=0) (show (["_law_name","_law_packets"] : List Str).Nodup by decide +kernel) rfl (Or.inl rfl) (.inr rfl)) (pgs_cons (pg_name (i:=1) (show (["_law_name","_law_packets"] : List Str).Nodup by decide +kernel) rfl (Or.inl rfl) (.inr rfl)) pgs_nil))) frm_two (fun _ _ _ _ _=>pts_nil) (fun _ _ _ _ _=>(pv 1))) pa_nil)))),?_⟩
  have hal:(as.map V.ref).length=W.length:=by rw[List.length_map,hA.length]
  refine ⟨_,rfl,l,rfl,⟨_,SqL.of hl⟩,lc_list (xs:=as.map V.ref) (fun i ys H2=>H2=H/\ys=((W.take i).map (·.2)).map V.int) (le_line (by omega)) ⟨rfl,rfl⟩
    (fun i ys H2 _ h=>⟨by rw[h.1];exact SqL.of hl,by rw[h.2,List.length_map,List.length_map,List.length_take];omega⟩) ?_ ?_⟩
  ·rintro i y ys H2 hi ⟨rfl,rfl⟩
   obtain ⟨q,rfl,hq,hil⟩:=getRef hi
   obtain ⟨w,hw,hwi⟩:=paired_getM hA hq
   refine ⟨q,_,rfl,SqT.of hw,rfl,_,_,rfl,_,_,rfl,rfl,lcY ⟨_,rfl,rfl,?_⟩⟩
   rw[map_take_snoc hwi,List.map_append];rfl
  ·rintro ys H2 ⟨rfl,rfl⟩ p hp
   rw[hal,List.take_length]
   exact ⟨p,_,rfl,.inl (SqL.of upd_same),k _ (Same.new hp)⟩
theorem sc_law_rich_woods : FnScope (["_law_cell_here","_law_size","_law_left","_law_stranger","_law_step"]) (["_law_cell_here","_law_size"]) (defScope s_law_rich_woods):=by trivial
theorem ok_law_rich_woods {f : Addr} {fd : FuncData} (F : Fun K "_law_rich_woods" "_law_rich_woods" s_law_rich_woods f fd) (B : Bs mg) (T : Gs mg)  (c_law_total : Cal P w K mg base 1 "_law_total" [] (spLTot K)) (c_law_woods : Cal P w K mg base 3 "_law_woods" [] (spLWoods K)) : FnOk P w K mg base CX0 5 f fd ["_law_cell_here","_law_size"] (spRichN K):= by
 have sc:=sc_law_rich_woods
 refine F.ok sc (fun vs H Q E h=>?_) (fun cdv A outer s H vs Q E hr h=>?_)
 ·obtain ⟨c,n,rfl,_⟩:=h;rfl
 ·obtain ⟨c,n,rfl,n1,n9,k⟩:=h
  refine ⟨_,(pss_cons (ps_asg (pe_cal c_law_woods (hr.mono (by decide)) rfl (pa_cons (pv 0) pa_nil)) (pg_tup rfl (pgs_cons (pg_name (i:=2) sc.nd rfl (Or.inl rfl)) (pgs_cons (pg_name (i:=3) sc.nd rfl (Or.inl rfl)) pgs_nil))))
   (pss_cons (ps_for PassesOwn.never rfl (pi_range1 rfl B.range (pa_cons (pv 1) pa_nil)) (pg_name (i:=4) sc.nd rfl (Or.inl rfl))
   (pss_one (ps_if (pt_cmpR op_lt (pe_cal c_law_total (hr.mono (by decide)) rfl (pa_cons (pv 2) pa_nil)) (pv 1) (nomark _)) (pss_one (ps_lc (i:=2) sc.nd rfl rfl (N':=["_law_name","_law_packets"]) (M:=[none,none]) (lcSc_of (by rfl)) rfl (kpi_list (K:=K) (pv 2)) (fun _ _ _ _ _=>kpg_tup (K:=K) (n:=2) rfl (pgs_cons (pg_name (i:=0) (show (["_law_name","_law_packets"] : List Str).Nodup by decide +kernel) rfl (Or.inl rfl) (.inr rfl)) (pgs_cons (pg_name (i:=1) (show (["_law_name","_law_packets"] : List Str).Nodup by decide +kernel) rfl (Or.inl rfl) (.inr rfl)) pgs_nil))) frm_two (fun _ _ _ _ _=>pts_nil) (fun _ _ _ _ _=>(pe_tup (pa_cons (pv 0) (pa_cons (pe_callB kc_min2 (by rfl) B.min PyProof.Rows.Boot.«min» (pa_cons pe_int (pa_cons (pe_op op_add (pv 1) pe_int) pa_nil))) pa_nil)))))) pss_nil)))
   (pss_one (ps_ret (pe_tup (pa_cons (pv 2) (pa_cons (pv 3) pa_nil))))))),?_⟩
  refine ⟨_,rfl,c,rfl,fun t l as W zs H1 ht hl s1 ht1 hl1 hA1 hok hzn hzi=>?_⟩
  refine ⟨t,_,rfl,SqT.of ht1,rfl,_,_,rfl,_,_,rfl,rfl,?_⟩
  dsimp only
  refine seq_by2 (fun σ' H'=>∃ (l:Addr) (as:List Addr) (W:Wds) (o4:Option V),σ'=[some (.int c),some (.int n),some (.ref l),some (.str zs),o4]/\Same H H'/\H' l=some (.lst (as.map V.ref))/\WAt H' as W/\woodsOk W=true/\n<=totW W) (fun N hN=>?_) ?_
  ·refine ⟨_,rfl,_,rfl,by omega,by omega,for_range (lo:=0) (n:=n.toNat) (fun i σ H'=>∃ (l:Addr) (as:List Addr) (W:Wds) (o4:Option V),σ=[some (.int c),some (.int n),some (.ref l),some (.str zs),o4]/\Same H H'/\H' l=some (.lst (as.map V.ref))/\WAt H' as W/\woodsOk W=true/\(n<=totW W\/2*(i:Int)<=totW W))
    ⟨l,as,W,none,rfl,s1,hl1,hA1,hok,.inr (by have:=(tot_ok hok).1;omega)⟩ ?_ ?_⟩
   ·rintro i σ H2 hi ⟨l,as,W,o4,rfl,s2,hl2,hA2,hok2,hor⟩
    obtain ⟨w1,w2,w3⟩:=woodsOk_iff.mp hok2
    have hal:(as.map V.ref).length=W.length:=by rw[List.length_map,hA2.length]
    refine gN ?_
    refine ⟨_,rfl,l,as,W,rfl,hl2,hA2,by omega,fun H3 s3=>?_⟩
    refine ⟨_,rfl,_,_,rfl,rfl,_,rfl,ite2 (fun g=>?_) (fun g=>?_)⟩
    ·have g:=of_decide_eq_true g
     have hl3:=s3 _ _ hl2
     have hA3:=hA2.same s3
     have hsm : ∀ w ∈ W,w.2<=97:=fun w hw=>by
      have h1:w.2<=totW W:=le_tot (fun v hv=>(w3 v hv).2.1) hw
      omega
     refine ⟨_,rfl,l,rfl,⟨_,SqL.of hl3⟩,lc_list (xs:=as.map V.ref) (fun i ys H4=>Same H3 H4 /\ ∃ bs:List Addr,ys=bs.map V.ref/\WAt H4 bs ((W.take i).map fun w=>(w.1,w.2+2))) (le_line (by omega)) ⟨Same.refl _,[],rfl,.nil⟩
      (fun i ys H4 _ ⟨s4,bs,e,hb⟩=>⟨SqL.of (s4 _ _ hl3),by rw[e,List.length_map,hb.length,List.length_map,List.length_take];omega⟩) ?_ ?_⟩
     ·rintro i y ys H4 hi ⟨s4,bs,rfl,hb⟩
      obtain ⟨q,rfl,hq,hil⟩:=getRef hi
      obtain ⟨w,hww,hwi⟩:=paired_getM hA3 hq
      have hsw:=hsm w (List.mem_of_getElem? hwi)
      refine ⟨q,_,rfl,SqT.of (s4 _ _ hww),rfl,_,_,rfl,_,_,rfl,rfl,lcY ?_⟩
      refine ⟨_,rfl,_,rfl,_,_,rfl,rfl,_,_,rfl,le_line (by simp),fun u hu=>?_⟩
      have e2:(if w.2+2<99 then w.2+2 else 99)=w.2+2:=by split <;> omega
      rw[e2]
      refine ⟨s4.new2 hu,bs++[u],ref_snoc,?_⟩
      rw[map_take_snoc hwi]
      exact Paired.snoc (hb.same (Same.new hu)) upd_same
     ·rintro ys H4 ⟨s4,bs,rfl,hb⟩ p hp
      rw[hal,List.take_length] at hb
      have hn:((W.map fun w=>(w.1,w.2+2)):Wds).map (·.1)=W.map (·.1):=by rw[List.map_map];rfl
      refine ⟨p,bs,W.map fun w=>(w.1,w.2+2),_,rfl,((s2.trans s3).trans s4).new2 hp,upd_same,hb.same (Same.new hp),woodsOk_iff.mpr ⟨by rw[List.length_map];exact w1,by rw[hn];exact w2,fun v hv=>?_⟩,?_⟩
      ·obtain ⟨w,hw,rfl⟩:=List.mem_map.mp hv
       have:=hsm w hw
       have:=w3 w hw
       exact ⟨this.1,by dsimp only;omega,by dsimp only;omega⟩
      ·rw[tot_two]
       rcases hor with h | h <;> (right;push_cast;omega)
    ·have g : ¬ totW W<n:=fun e=>g (decide_eq_true e)
     exact ⟨l,as,W,_,rfl,s2.trans s3,s3 _ _ hl2,hA2.same s3,hok2,.inl (by omega)⟩
   ·rintro σ H2 ⟨l,as,W,o4,rfl,s2,hl2,hA2,hok2,hor⟩
    exact hN _ _ ⟨l,as,W,o4,rfl,s2,hl2,hA2,hok2,by omega⟩
  ·rintro σ H2 ⟨l,as,W,o4,rfl,s2,hl2,hA2,hok2,hn⟩
   exact ⟨_,rfl,_,rfl,le_line (by simp),fun u hu=>k u l as W zs _ (s2.new2 hu) upd_same (Same.new hu _ _ hl2) (hA2.same (Same.new hu)) hok2 hn hzi⟩
theorem sc_law_shapes : FnScope (["_law_size","_law_rows","_law_whole","_law_step","_law_longer","_law_row","_law_more"]) (["_law_size"]) (defScope s_law_shapes):=by trivial
theorem ok_law_shapes {f : Addr} {fd : FuncData} (F : Fun K "_law_shapes" "_law_shapes" s_law_shapes f fd) (B : Bs mg) (T : Gs mg)   : FnOk P w K mg base CX0 1 f fd ["_law_size"] (spShapes K):= by
 have sc:=sc_law_shapes
 refine F.ok sc (fun vs H Q E h=>?_) (fun cdv A outer s H vs Q E hr h=>?_)
 ·obtain ⟨n,rfl,_⟩:=h;rfl
 ·obtain ⟨n,rfl,n1,n9,k⟩:=h
  refine ⟨_,(pss_cons (ps_set (i:=1) sc.nd rfl (Or.inl rfl) (pe_lst (pa_cons (pe_lst pa_nil) pa_nil)))
   (pss_cons (ps_set (i:=2) sc.nd rfl (Or.inl rfl) (pe_lst pa_nil))
   (pss_cons (ps_for PassesOwn.never rfl (pi_range1 rfl B.range (pa_cons (pv 0) pa_nil)) (pg_name (i:=3) sc.nd rfl (Or.inl rfl))
   (pss_cons (ps_set (i:=4) sc.nd rfl (Or.inl rfl) (pe_lst pa_nil))
   (pss_cons (ps_for PassesOwn.never rfl (kpi_list (K:=K) (pv 1)) (pg_name (i:=5) sc.nd rfl (Or.inl rfl))
   (pss_one (ps_for PassesOwn.never rfl (pi_range2 rfl B.range (pa_cons pe_int (pa_cons (pe_op op_add (pe_callB (kc_minL (K:=K)) (by rfl) B.min PyProof.Rows.Boot.«min» (pa_cons (pe_op op_cat (pe_lst (pa_cons (pe_op op_sub (pv 0) (pe_callB (kc_sum (K:=K)) (by rfl) B.sum PyProof.Rows.Boot.«sum» (pa_cons (pv 5) pa_nil))) pa_nil)) (pe_slice (ksl_list (K:=K)) (pv 5) (po_some (pe_un un_neg pe_int)) po_none)) pa_nil)) pe_int) pa_nil))) (pg_name (i:=6) sc.nd rfl (Or.inl rfl))
   (pss_one (ps_expr (pe_bm PySem.F.plainAttrs_list PySem.F.slot_list_append PySem.F.type_list_append mt_append (pv 4) (pa_cons (pe_op op_cat (pv 5) (pe_lst (pa_cons (pv 6) pa_nil))) pa_nil)))))))
   (pss_cons (ps_expr (pe_bm PySem.F.plainAttrs_list PySem.F.slot_list_extend PySem.F.type_list_extend mt_extend (pv 2) (pa_cons (pe_lc (N':=["_law_row","_law_size"]) (M:=[none,some 0]) (lcSc_of (by rfl)) rfl (kpi_list (K:=K) (pv 4)) (fun _ _ _ _ _=>pg_name (i:=0) (show (["_law_row","_law_size"] : List Str).Nodup by decide +kernel) rfl (Or.inl rfl) (.inr rfl)) (frm_name rfl) (fun _ _ _ _ _=>pts_one (pt_cmpR op_eq (pe_callB (kc_sum (K:=K)) (by rfl) B.sum PyProof.Rows.Boot.«sum» (pa_cons (pv 0) pa_nil)) (pv 1) (nomark _))) (fun _ _ _ _ _=>(pv 0))) pa_nil)))
   (pss_one (ps_lc (i:=1) sc.nd rfl rfl (N':=["_law_row","_law_size"]) (M:=[none,some 0]) (lcSc_of (by rfl)) rfl (kpi_list (K:=K) (pv 4)) (fun _ _ _ _ _=>pg_name (i:=0) (show (["_law_row","_law_size"] : List Str).Nodup by decide +kernel) rfl (Or.inl rfl) (.inr rfl)) (frm_name rfl) (fun _ _ _ _ _=>pts_one (pt_cmpR op_lt (pe_callB (kc_sum (K:=K)) (by rfl) B.sum PyProof.Rows.Boot.«sum» (pa_cons (pv 0) pa_nil)) (pv 1) (nomark _))) (fun _ _ _ _ _=>(pv 0))))))))
   (pss_one (ps_ret (pv 2)))))),?_⟩
  have hn:n<10:=by omega
  refine seq_a ?_
  refine ⟨Nat.zero_le _,fun e0 he0=>⟨le_line (by simp),fun r0 hr0=>?_⟩⟩
  have n1:=Same.new (o:=HO.lst ([]:List V)) he0
  have s1:=n1.new2 (o:=HO.lst [V.ref e0]) hr0
  have he1:upd (upd H e0 (HO.lst [])) r0 (HO.lst [V.ref e0]) e0=some (.lst (([]:List Int).map V.int)):=(Same.new hr0) _ _ upd_same
  have hr1:upd (upd H e0 (HO.lst [])) r0 (HO.lst [V.ref e0]) r0=some (.lst ([e0].map V.ref)):=upd_same
  generalize upd (upd H e0 (HO.lst [])) r0 (HO.lst [V.ref e0])=H1 at s1 he1 hr1
  refine seq_a ?_
  refine ⟨Nat.zero_le _,fun wl hwl=>?_⟩
  have n2:=Same.new (o:=HO.lst ([]:List V)) hwl
  have s2:=s1.trans n2
  have hw2:upd H1 wl (HO.lst []) wl=some (.lst (([]:List Addr).map V.ref)):=upd_same
  have hwH:H wl=none:=s1.free hwl
  have he2:=n2 _ _ he1
  have hr2:=n2 _ _ hr1
  have ne0:e0≠wl:=ne_of_none he1 hwl
  have nr0:r0≠wl:=ne_of_none hr1 hwl
  generalize upd H1 wl (HO.lst [])=H2 at n2 s2 hw2 he2 hr2
  refine ⟨_,rfl,_,rfl,by omega,by omega,for_range (lo:=0) (n:=((n:Nat):Int).toNat) (fun i σ H3=>∃ (rl:Addr) (rs ws:List Addr) (o3 o4 o5 o6:Option V),σ=[some (.int (n:Int)),some (.ref rl),some (.ref wl),o3,o4,o5,o6]/\Same H H3/\H3 rl=some (.lst (rs.map V.ref))/\LhAt H3 rs (shR (n:Int) i)/\H3 wl=some (.lst (ws.map V.ref))/\LhAt H3 ws (shW (n:Int) i)/\rl≠wl/\wl ∉ rs/\wl ∉ ws)
   ⟨r0,[e0],[],none,none,none,none,rfl,s2,hr2,.cons he2 .nil,hw2,.nil,nr0,by simpa using ne0.symm,by simp⟩ ?_ ?_⟩
  ·rintro i σ H3 hi ⟨rl,rs,ws,o3,o4,o5,o6,rfl,s3,hr3,hR3,hw3,hW3,nrl,nrs,nws⟩
   rw[Int.toNat_natCast] at hi
   obtain ⟨b1,b2,b3,b4⟩:=shR_ok n hn i (by omega)
   refine gN ?_
   rw[Int.zero_add]
   refine nrm (σ':=[some (.int (n:Int)),some (.ref rl),some (.ref wl),some (.int (i:Int)),o4,o5,o6]) rfl ?_
   refine seq_a ?_
   refine ⟨Nat.zero_le _,fun lg hlg=>?_⟩
   have n4:=Same.new (o:=HO.lst ([]:List V)) hlg
   have hg4:upd H3 lg (HO.lst []) lg=some (.lst (([]:List Addr).map V.ref)):=upd_same
   have nlw:wl≠lg:=ne_of_none hw3 hlg
   generalize upd H3 lg (HO.lst [])=H4 at n4 hg4
   refine seq_by2 (fun σ' H'=>∃ (lgs:List Addr) (o5 o6:Option V),σ'=[some (.int (n:Int)),some (.ref rl),some (.ref wl),some (.int (i:Int)),some (.ref lg),o5,o6]/\Same H3 H'/\H' lg=some (.lst (lgs.map V.ref))/\LhAt H' lgs ((shR (n:Int) i).flatMap (extS (n:Int)))/\wl ∉ lgs/\lg ∉ lgs) (fun Z hZ=>?_) ?_
   ·refine ⟨_,rfl,rl,rfl,⟨_,SqL.of (n4 _ _ hr3)⟩,for_list (K:=K) (a:=rl) (xs:=rs.map V.ref) (fun j σ H5=>∃ (lgs:List Addr) (o5 o6:Option V),σ=[some (.int (n:Int)),some (.ref rl),some (.ref wl),some (.int (i:Int)),some (.ref lg),o5,o6]/\Same H3 H5/\H5 lg=some (.lst (lgs.map V.ref))/\LhAt H5 lgs (((shR (n:Int) i).take j).flatMap (extS (n:Int)))/\wl ∉ lgs/\lg ∉ lgs)
     ⟨[],o5,o6,rfl,n4,hg4,.nil,by simp,by simp⟩ (fun j σ H5 _ ⟨_,_,_,_,s5,_⟩=>SqL.of (s5 _ _ hr3)) ?_ ?_⟩
    ·rintro j y σ H5 hj ⟨lgs,o5,o6,rfl,s5,hg5,hL5,nw5,nl5⟩
     obtain ⟨q,rfl,hq,hjl⟩:=getRef hj
     obtain ⟨row,hrow,hrj⟩:=paired_getM hR3 hq
     obtain ⟨c1,c2,c3,c4,c5⟩:=b4 row (List.mem_of_getElem? hrj)
     have hrow5:=s5 _ _ hrow
     have hlb:(((shR (n:Int) i).take (j+1)).flatMap (extS (n:Int))).length<=100:= by
      have h2 : ∀ l m:List (List Int),(l.flatMap (extS (n:Int))).length<=((l++m).flatMap (extS (n:Int))).length:=fun l m=>by rw[List.flatMap_append,List.length_append];omega
      have:=h2 ((shR (n:Int) i).take (j+1)) ((shR (n:Int) i).drop (j+1))
      rw[List.take_append_drop] at this
      omega
     rw[flat_snoc hrj,List.length_append] at hlb
     refine gN ?_
     refine nrm (σ':=[some (.int (n:Int)),some (.ref rl),some (.ref wl),some (.int (i:Int)),some (.ref lg),some (.ref q),o6]) rfl ?_
     refine ⟨_,rfl,_,rfl,q,row,rfl,.inl (SqL.of hrow5),_,_,rfl,rfl,le_line (by simp),fun z1 hz1=>?_⟩
     have n6:=Same.new (o:=HO.lst [V.int ((n:Int)-row.sum)]) hz1
     refine ⟨_,rfl,_,rfl,_,rfl,q,_,rfl,SqL.of (n6 _ _ hrow5),fun z2 hz2=>?_⟩
     rw[cut_tail1]
     have n7:=Same.new (o:=HO.lst (row.getLast?.toList.map V.int)) hz2
     refine ⟨z1,z2,_,_,rfl,rfl,n7 _ _ upd_same,upd_same,le_line (by cases row.getLast? <;> simp),fun z3 hz3=>?_⟩
     have n8:=Same.new (o:=HO.lst ([V.int ((n:Int)-row.sum)]++row.getLast?.toList.map V.int)) hz3
     refine ⟨z3,[(n:Int)-row.sum]++row.getLast?.toList,rfl,.inl (SqL.of (by rw[upd_same,List.map_append];rfl)),by simp,fun m hm=>⟨_,_,rfl,rfl,?_⟩⟩
     have em:=mxS_min hm
     have S8:=((s5.trans n6).trans n7).trans n8
     have hg8:=n8 _ _ (n7 _ _ (n6 _ _ hg5))
     have hL8:=((hL5.sameH n6).sameH n7).sameH n8
     generalize upd (upd (upd H5 z1 (HO.lst [V.int ((n:Int)-row.sum)])) z2 (HO.lst (row.getLast?.toList.map V.int))) z3 (HO.lst ([V.int ((n:Int)-row.sum)]++row.getLast?.toList.map V.int))=H8 at n8 S8 hg8 hL8
     have hgH:H3 lg=none:=hlg
     have hel:(extS (n:Int) row).length=(mxS (n:Int) row).toNat:=by unfold extS;rw[List.length_map,List.length_range]
     refine ⟨1,m+1,rfl,⟨by omega,by omega,by omega,by omega⟩,for_range (lo:=1) (n:=(m+1-1).toNat) (fun k2 σ H9=>∃ (lgs:List Addr) (o6:Option V),σ=[some (.int (n:Int)),some (.ref rl),some (.ref wl),some (.int (i:Int)),some (.ref lg),some (.ref q),o6]/\Same H3 H9/\H9 lg=some (.lst (lgs.map V.ref))/\LhAt H9 lgs (((shR (n:Int) i).take j).flatMap (extS (n:Int))++(extS (n:Int) row).take k2)/\wl ∉ lgs/\lg ∉ lgs)
      ⟨lgs,o6,rfl,S8,hg8,by rw[List.take_zero,List.append_nil];exact hL8,nw5,nl5⟩ ?_ ?_⟩
     ·rintro k2 σ H9 hk2 ⟨lgs,o6,rfl,s9,hg9,hL9,nw9,nl9⟩
      have hkm:k2<(mxS (n:Int) row).toNat:=by omega
      have hat:(extS (n:Int) row)[k2]?=some (row++[(k2:Int)+1]):=by unfold extS;rw[List.getElem?_map,List.getElem?_range hkm];rfl
      have hlen9:=hL9.length
      rw[List.length_append,List.length_take] at hlen9
      refine gN ?_
      refine ⟨_,rfl,.inl ⟨rfl,_,SqL.of hg9⟩,_,rfl,_,rfl,le_line (by simp),fun z4 hz4=>?_⟩
      have n10:=Same.new (o:=HO.lst [V.int (1+(k2:Int))]) hz4
      refine ⟨q,z4,_,_,rfl,rfl,n10 _ _ (s9 _ _ hrow),upd_same,le_line (by simp;omega),fun z5 hz5=>?_⟩
      have n11:=Same.new (o:=HO.lst (row.map V.int++[V.int (1+(k2:Int))])) hz5
      have hg11:=n11 _ _ (n10 _ _ hg9)
      have z5g:z5≠lg:=fun e=>by
       have:=n10 _ _ hg9
       rw[<- e,hz5] at this;cases this
      have z5w:z5≠wl:=fun e=>by
       have:=n10 _ _ (s9 _ _ hw3)
       rw[<- e,hz5] at this;cases this
      refine ⟨lg,_,_,rfl,rfl,hg11,lt_line (by rw[List.length_map];omega),?_⟩
      refine ⟨lgs++[z5],_,rfl,((s9.trans n10).trans n11).put hgH,by rw[upd_same,List.map_append];rfl,?_,?_,?_⟩
      ·rw[take_snoc hat,<- List.append_assoc]
       have hL11:=(hL9.sameH n10).sameH n11
       refine Paired.snoc (lh_outQ hL11 nl9) ?_
       rw[upd_ne z5g,upd_same,List.map_append,show (1+(k2:Int))=(k2:Int)+1 by omega];rfl
      ·intro hm
       rcases List.mem_append.mp hm with h | h
       ·exact nw9 h
       ·exact z5w (List.mem_singleton.mp h).symm
      ·intro hm
       rcases List.mem_append.mp hm with h | h
       ·exact nl9 h
       ·exact z5g (List.mem_singleton.mp h).symm
     ·rintro σ H9 ⟨lgs,o6,rfl,s9,hg9,hL9,nw9,nl9⟩
      refine ⟨lgs,_,_,rfl,s9,hg9,?_,nw9,nl9⟩
      rw[show (m+1-1).toNat=(extS (n:Int) row).length by rw[hel];omega,List.take_length] at hL9
      rw[flat_snoc hrj];exact hL9
    ·rintro σ H5 ⟨lgs,o5,o6,rfl,s5,hg5,hL5,nw5,nl5⟩
     rw[List.length_map,hR3.length,List.take_length] at hL5
     exact hZ _ _ ⟨lgs,_,_,rfl,s5,hg5,hL5,nw5,nl5⟩
   rintro σ H5 ⟨lgs,o5,o6,rfl,s5,hg5,hL5,nw5,nl5⟩
   generalize hX:(shR (n:Int) i).flatMap (extS (n:Int))=X at hL5 b2
   have hll:=hL5.length
   refine seq_by2 (fun σ' H'=>∃ ws2:List Addr,σ'=[some (.int (n:Int)),some (.ref rl),some (.ref wl),some (.int (i:Int)),some (.ref lg),o5,o6]/\Same H H'/\H' lg=some (.lst (lgs.map V.ref))/\LhAt H' lgs X/\H' wl=some (.lst (ws2.map V.ref))/\LhAt H' ws2 (shW (n:Int) i++X.filter fun r=>decide (r.sum=(n:Int)))/\wl ∉ ws2) (fun Z hZ=>?_) ?_
   ·refine ⟨_,rfl,.inl ⟨rfl,_,SqL.of (s5 _ _ hw3)⟩,_,rfl,lg,rfl,⟨_,SqL.of hg5⟩,?_⟩
    refine lc_list (xs:=lgs.map V.ref) (fun j ys H6=>H6=H5 /\ ∃ us:List Addr,ys=us.map V.ref/\us.length<=j/\LhAt H5 us ((X.take j).filter fun r=>decide (r.sum=(n:Int)))/\wl ∉ us) (le_line (by rw[List.length_map];omega)) ⟨rfl,[],rfl,Nat.le_refl _,.nil,by simp⟩
     (fun j ys H6 hj ⟨e6,us,e,e2,_⟩=>⟨by rw[e6];exact SqL.of hg5,by rw[e,List.length_map];exact e2⟩) ?_ ?_
    ·rintro j y ys H6 hj ⟨rfl,us,rfl,hul,hU,nwu⟩
     obtain ⟨q,rfl,hq,hjl⟩:=getRef hj
     obtain ⟨r,hr',hrj⟩:=paired_getM hL5 hq
     have nq:wl≠q:=fun e=>nw5 (by rw[e];exact List.mem_of_getElem? hq)
     refine gN ?_
     refine ⟨_,rfl,q,r,rfl,.inl (SqL.of hr'),_,rfl,rfl,_,rfl,ite2 (fun d=>?_) (fun d=>?_)⟩
     ·have d:r.sum=(n:Int):=by have d:V.int r.sum=V.int (n:Int):=of_decide_eq_true d;injection d
      rw[filt_snoc hrj,if_pos (decide_eq_true d)]
      refine ⟨_,rfl,rfl,us++[q],ref_snoc,by rw[List.length_append,List.length_singleton];omega,Paired.snoc hU hr',fun hm=>?_⟩
      rcases List.mem_append.mp hm with h | h
      ·exact nwu h
      ·exact nq (List.mem_singleton.mp h)
     ·have d : ¬ r.sum=(n:Int):=fun e=>d (decide_eq_true (by rw[e]))
      rw[filt_snoc hrj,if_neg (fun z=>d (of_decide_eq_true z))]
      exact ⟨rfl,us,rfl,by omega,hU,nwu⟩
    ·rintro ys H6 ⟨rfl,us,rfl,hul,hU,nwu⟩ z hz
     rw[List.length_map] at hul
     rw[List.length_map,hll,List.take_length] at hU
     have n7:=Same.new (o:=HO.lst (us.map V.ref)) hz
     have hw7:=n7 _ _ (s5 _ _ hw3)
     have hwl3:=hW3.length
     refine ⟨wl,z,_,_,rfl,rfl,hw7,upd_same,le_line (by rw[List.length_map,List.length_map];omega),?_⟩
     have hW7:=(hW3.sameH s5).sameH n7
     refine hZ _ _ ⟨ws++us,rfl,((s3.trans s5).trans n7).put hwH,by rw[upd_ne nlw.symm];exact n7 _ _ hg5,lh_outQ (hL5.sameH n7) nw5,by rw[upd_same,List.map_append],paired_app (lh_outQ hW7 nws) (lh_outQ (hU.sameH n7) nwu),fun hm=>?_⟩
     rcases List.mem_append.mp hm with h | h
     ·exact nws h
     ·exact nwu h
   rintro σ H6 ⟨ws2,rfl,s6,hg6,hL6,hw6,hW6,nw6⟩
   refine ⟨_,rfl,lg,rfl,⟨_,SqL.of hg6⟩,?_⟩
   refine lc_list (xs:=lgs.map V.ref) (fun j ys H7=>H7=H6 /\ ∃ us:List Addr,ys=us.map V.ref/\us.length<=j/\LhAt H6 us ((X.take j).filter fun r=>decide (r.sum<(n:Int)))/\wl ∉ us) (le_line (by rw[List.length_map];omega)) ⟨rfl,[],rfl,Nat.le_refl _,.nil,by simp⟩
    (fun j ys H7 hj ⟨e6,us,e,e2,_⟩=>⟨by rw[e6];exact SqL.of hg6,by rw[e,List.length_map];exact e2⟩) ?_ ?_
   ·rintro j y ys H7 hj ⟨rfl,us,rfl,hul,hU,nwu⟩
    obtain ⟨q,rfl,hq,hjl⟩:=getRef hj
    obtain ⟨r,hr',hrj⟩:=paired_getM hL6 hq
    have nq:wl≠q:=fun e=>nw5 (by rw[e];exact List.mem_of_getElem? hq)
    refine gN ?_
    refine ⟨_,rfl,q,r,rfl,.inl (SqL.of hr'),_,rfl,_,_,rfl,rfl,_,rfl,ite2 (fun d=>?_) (fun d=>?_)⟩
    ·have d:r.sum<(n:Int):=of_decide_eq_true d
     rw[filt_snoc hrj,if_pos (decide_eq_true d)]
     refine ⟨_,rfl,rfl,us++[q],ref_snoc,by rw[List.length_append,List.length_singleton];omega,Paired.snoc hU hr',fun hm=>?_⟩
     rcases List.mem_append.mp hm with h | h
     ·exact nwu h
     ·exact nq (List.mem_singleton.mp h)
    ·have d : ¬ r.sum<(n:Int):=fun e=>d (decide_eq_true e)
     rw[filt_snoc hrj,if_neg (fun z=>d (of_decide_eq_true z))]
     exact ⟨rfl,us,rfl,by omega,hU,nwu⟩
   ·rintro ys H7 ⟨rfl,us,rfl,hul,hU,nwu⟩ z hz
    rw[List.length_map,hll,List.take_length] at hU
    have n8:=Same.new (o:=HO.lst (us.map V.ref)) hz
    have zw:z≠wl:=fun e=>by rw[<- e,hz] at hw6;cases hw6
    refine ⟨z,us,ws2,_,_,_,_,rfl,s6.trans n8,upd_same,?_,n8 _ _ hw6,?_,zw,nwu,nw6⟩
    ·show LhAt _ us (((shR (n:Int) i).flatMap (extS (n:Int))).filter fun r=>decide (r.sum<(n:Int)))
     rw[hX];exact hU.sameH n8
    ·show LhAt _ ws2 (shW (n:Int) i++((shR (n:Int) i).flatMap (extS (n:Int))).filter fun r=>decide (r.sum=(n:Int)))
     rw[hX];exact hW6.sameH n8
  ·rintro σ H3 ⟨rl,rs,ws,o3,o4,o5,o6,rfl,s3,hr3,hR3,hw3,hW3,nrl,nrs,nws⟩
   rw[Int.toNat_natCast] at hW3
   exact ⟨_,rfl,k wl ws H3 s3 hw3 hW3⟩
theorem sc_law_first_of : FnScope (["_law_sizes","_law_found","_law_lot"]) (["_law_sizes"]) (defScope s_law_first_of):=by trivial
theorem ok_law_first_of {f : Addr} {fd : FuncData} (F : Fun K "_law_first_of" "_law_first_of" s_law_first_of f fd) (B : Bs mg) (T : Gs mg)   : FnOk P w K mg base CX0 1 f fd ["_law_sizes"] (spFirstOf K):= by
 have sc:=sc_law_first_of
 refine F.ok sc (fun vs H Q E h=>?_) (fun cdv A outer s H vs Q E hr h=>?_)
 ·obtain ⟨l,L,rfl,_⟩:=h;rfl
 ·obtain ⟨l,L,rfl,hl,hL,h9,k⟩:=h
  refine ⟨_,(pss_cons (ps_set (i:=1) sc.nd rfl (Or.inl rfl) (pe_lst pa_nil))
   (pss_cons (ps_for PassesOwn.never rfl (pi_range1 rfl B.range (pa_cons (pe_callB (kc_len (K:=K)) (by rfl) B.len PyProof.Rows.Boot.«len» (pa_cons (pv 0) pa_nil)) pa_nil)) (pg_name (i:=2) sc.nd rfl (Or.inr rfl))
   (pss_one (ps_expr (pe_bm PySem.F.plainAttrs_list PySem.F.slot_list_extend PySem.F.type_list_extend mt_extend (pv 1) (pa_cons (pe_lc (N':=["_law_k","_law_lot"]) (M:=[none,some 2]) (lcSc_of (by rfl)) rfl (pi_range1 rfl B.range (pa_cons (pe_ix (kix_list (K:=K)) (pv 0) (pv 2) (fun _ _=>rfl)) pa_nil)) (fun _ _ _ _ _=>pg_name (i:=0) (show (["_law_k","_law_lot"] : List Str).Nodup by decide +kernel) rfl (Or.inl rfl) (.inr rfl)) (frm_name rfl) (fun _ _ _ _ _=>pts_nil) (fun _ _ _ _ _=>(pv 1))) pa_nil)))))
   (pss_one (ps_ret (pe_callTy (kc_tupleO (K:=K)) (by rfl) B.tuple PyProof.Rows.Boot.«tuple» (pa_cons (pv 1) pa_nil)))))),?_⟩
  have hll:(L.map V.int).length=L.length:=List.length_map ..
  have hfl : ∀ i,(fw (L.take i)).length<=81:=fun i=>by
   have:=fw_len (L.take i) 0 fun x hx=>hL x (List.mem_of_mem_take hx)
   have h2:(L.take i).length<=9:=by rw[List.length_take];omega
   unfold fw;omega
  refine seq_a ?_
  refine ⟨Nat.zero_le _,fun fd hfd=>?_⟩
  have n1:=Same.new (o:=HO.lst ([]:List V)) hfd
  have hf1:upd H fd (HO.lst []) fd=some (.lst (([]:List Int).map V.int)):=upd_same
  have hfH:H fd=none:=hfd
  generalize upd H fd (HO.lst [])=H1 at n1 hf1
  refine ⟨_,rfl,l,_,rfl,.inl (n1.seq hl),?_⟩
  rw[hll]
  refine ⟨_,rfl,by omega,by omega,for_range (lo:=0) (n:=((L.length:Nat):Int).toNat) (fun i σ H2=>∃ o2:Option V,σ=[some (.ref l),some (.ref fd),o2]/\Same H H2/\H2 fd=some (.lst ((fw (L.take i)).map V.int)))
   ⟨none,rfl,n1,hf1⟩ ?_ ?_⟩
  ·rintro i σ H2 hi ⟨o2,rfl,s2,hf2⟩
   rw[Int.toNat_natCast] at hi
   have hx:L[i]?=some (L.getD i 0):=by rw[getD_lt hi];exact List.getElem?_eq_getElem hi
   generalize L.getD i 0=x at hx
   have hx9:=hL x (List.mem_of_getElem? hx)
   have hfi:=hfl i
   refine gN ?_
   rw[Int.zero_add]
   refine ⟨_,rfl,.inl ⟨rfl,_,SqL.of hf2⟩,_,rfl,_,rfl,l,_,_,_,rfl,rfl,s2.seq hl,atI_nt hx,x,rfl,by omega,by omega,?_⟩
   refine lc_range (lo:=0) (n:=x.toNat) (fun j ys H3=>H3=H2/\ys=(List.replicate j (i:Int)).map V.int) (le_line (by omega)) ⟨rfl,rfl⟩ (fun j ys H3 _ h=>by rw[h.2,ltm,List.length_replicate];exact Nat.le_refl _) ?_ ?_
   ·rintro j ys H3 hj ⟨rfl,rfl⟩
    refine lcN ?_
    refine ⟨_,rfl,rfl,?_⟩
    rw[rep_snoc];exact mapV
   ·rintro ys H3 ⟨rfl,rfl⟩ z hz
    have n4:=Same.new (o:=HO.lst ((List.replicate x.toNat (i:Int)).map V.int)) hz
    refine ⟨fd,z,_,_,rfl,rfl,n4 _ _ hf2,upd_same,le_line (by rw[ltm,ltm,List.length_replicate];omega),?_⟩
    refine ⟨_,rfl,(s2.trans n4).put hfH,?_⟩
    rw[upd_same,<- List.map_append,fw_take hx]
  ·rintro σ H2 ⟨o2,rfl,s2,hf2⟩
   rw[Int.toNat_natCast,List.take_length] at hf2
   exact ⟨_,rfl,fd,_,rfl,SqL.of hf2,.inr fun q ob hq hob=>k q _ (s2.new2 hq) ⟨ob,hob,upd_same⟩⟩
theorem sc_law_tried : FnScope (["_law_tray","_law_size"]) (["_law_tray","_law_size"]) (defScope s_law_tried):=by trivial
theorem ok_law_tried {f : Addr} {fd : FuncData} (F : Fun K "_law_tried" "_law_tried" s_law_tried f fd) (B : Bs mg) (T : Gs mg) (mBadMany : mg "BadMany" = some (.ref CBadMany)) (qBadMany : PySem.W.excIn K CBadMany bmV "ValueError.__new__" = true) (mTooFew : mg "TooFew" = some (.ref CTooFew)) (qTooFew : PySem.W.excIn K CTooFew bmV "ValueError.__new__" = true) (nTooFewBadMany : PySem.W.exmOne K (.ref CTooFew) (.ref CBadMany) = some false) (clikeliest : CalE P w K mg base 14 "likeliest" [] (spLike K CTray CBadMany CTooFew PTlikeliest)) : FnOk P w K mg base CX0 15 f fd ["_law_tray","_law_size"] (spTriedL K CTray PTlikeliest):= by
 have sc:=sc_law_tried
 refine F.ok sc (fun vs H Q E h=>?_) (fun cdv A outer s H vs Q E hr h=>?_)
 ·obtain ⟨p,W,n,rfl,_⟩:=h;rfl
 ·obtain ⟨p,W,n,rfl,hT,hW,hTab,kM,kF,k⟩:=h
  refine ⟨_,(pss_one (ps_try2 rfl rfl rfl rfl mBadMany qBadMany rfl mTooFew qTooFew nTooFewBadMany (fun _ _=>(pss_one (ps_ret (pe_calE clikeliest (hr.mono (by decide)) rfl pass_try (pa_cons (pv 0) (pa_cons (pv 1) pa_nil)))))) (fun _ _=>(pss_one (ps_ret (pe_lst (pa_cons pe_str pa_nil))))) (fun _ _=>(pss_one (ps_ret (pe_lst (pa_cons pe_str pa_nil))))))),?_⟩
  exact ⟨_,rfl,_,rfl,p,W,n,rfl,hT,hW,hTab,fun h H' s'=>.inl ⟨rfl,le_line (by simp),fun q hq=>kM h q _ (s'.new2 hq) upd_same⟩,fun h1 h2 h3 H' s'=>.inr ⟨rfl,le_line (by simp),fun q hq=>kF h1 h2 h3 q _ (s'.new2 hq) upd_same⟩,k⟩
theorem sclaw : FnScope (["_law_script","_law_k","_law_first","_law_second","_law_row","_law_size","_law_left","_law_stranger","_law_found","_law_ways","_law_told","_law_odd"]) (["_law_script"]) (defScope slaw):=by trivial
theorem oklaw {f : Addr} {fd : FuncData} (F : Fun K "law" "law" slaw f fd) (B : Bs mg) (T : Gs mg)  (c3_law_split : Cal P w K mg base 1 "_law_split" [] spSplit) (kTray : CalKE P w K mg base CTray 3 "Tray" (spInit K CTray CBadTray)) (c_law_all : Cal P w K mg base 1 "_law_all" [] (spAllP K)) (c_law_cell : Cal P w K mg base 1 "_law_cell" [] (spCell K)) (c_law_draw : Cal P w K mg base 1 "_law_draw" [] (spDraw K)) (c_law_draws : Cal P w K mg base 2 "_law_draws" [] (spDraws0 K)) (c_law_first_of : Cal P w K mg base 1 "_law_first_of" [] (spFirstOf K)) (c_law_many : Cal P w K mg base 1 "_law_many" [] (spMany K)) (c_law_rich_woods : Cal P w K mg base 5 "_law_rich_woods" [] (spRichN K)) (c_law_shapes : Cal P w K mg base 1 "_law_shapes" [] (spShapes K)) (c_law_total : Cal P w K mg base 1 "_law_total" [] (spLTot K)) (c_law_tried : Cal P w K mg base 15 "_law_tried" [] (spTriedL K CTray PTlikeliest)) (c_law_way_ok : Cal P w K mg base 2 "_law_way_ok" [] (spWayOkF K)) (c_law_woods : Cal P w K mg base 3 "_law_woods" [] (spLWoods K)) : FnOk P w K mg base CX0 16 f fd ["_law_script"] (spLawT K [(CTlikeliest,PTlikeliest)]):= by
 have sc:=sclaw
 refine F.ok sc (fun vs H Q E h=>?_) (fun cdv A outer s H vs Q E hr h=>?_)
 ·obtain ⟨a,ns,rfl,_⟩:=h;rfl
 ·obtain ⟨a,ns,rfl,hS,hlen,hTabs,k⟩:=h
  refine ⟨_,(pss_cons (ps_for PassesOwn.never rfl (pi_range1 rfl B.range (pa_cons (pe_callB kc_min2 (by rfl) B.min PyProof.Rows.Boot.«min» (pa_cons pe_int (pa_cons (pe_cal c_law_many (hr.mono (by decide)) rfl (pa_cons (pv 0) (pa_cons pe_int pa_nil))) pa_nil))) pa_nil)) (pg_name (i:=1) sc.nd rfl (Or.inl rfl))
   (pss_cons (ps_asg (pe_cal c3_law_split (hr.mono (by decide)) rfl (pa_cons (pe_cal c_law_cell (hr.mono (by decide)) rfl (pa_cons (pv 0) (pa_cons (pv 1) pa_nil))) (pa_cons pe_int (pa_cons pe_int pa_nil)))) (pg_lst rfl (pgs_cons (pg_name (i:=2) sc.nd rfl (Or.inl rfl)) (pgs_cons (pg_name (i:=3) sc.nd rfl (Or.inl rfl)) pgs_nil))))
   (pss_cons (ps_set (i:=4) sc.nd rfl (Or.inl rfl) (pe_cal c_law_draw (hr.mono (by decide)) rfl (pa_cons (pv 3) (pa_cons (pe_lst (pa_cons pe_int (pa_cons pe_int (pa_cons (pe_op op_pow pe_int pe_int) (pa_cons pe_int pa_nil))))) pa_nil))))
   (pss_cons (ps_set (i:=5) sc.nd rfl (Or.inl rfl) (pe_ifExp (pt_cmpR op_eq (pe_ix (kix_list (K:=K)) (pv 4) pe_int (fun _ _=>rfl)) pe_int (nomark _)) (pe_op op_add (pe_op op_mod (pe_ix (kix_list (K:=K)) (pv 4) pe_int (fun _ _=>rfl)) pe_int) pe_int) (pe_op op_add (pe_op op_mod (pe_ix (kix_list (K:=K)) (pv 4) pe_int (fun _ _=>rfl)) pe_int) pe_int)))
   (pss_cons (ps_asg (pe_ifExp (pt_cmpR op_eq (pe_ix (kix_list (K:=K)) (pv 4) pe_int (fun _ _=>rfl)) pe_int (nomark _)) (pe_cal c_law_woods (hr.mono (by decide)) rfl (pa_cons (pv 2) pa_nil)) (pe_cal c_law_rich_woods (hr.mono (by decide)) rfl (pa_cons (pv 2) (pa_cons (pv 5) pa_nil)))) (pg_tup rfl (pgs_cons (pg_name (i:=6) sc.nd rfl (Or.inr rfl)) (pgs_cons (pg_name (i:=7) sc.nd rfl (Or.inl rfl)) pgs_nil))))
   (pss_cons (ps_set (i:=8) sc.nd rfl (Or.inl rfl) (pe_cal c_law_tried (hr.mono (by decide)) rfl (pa_cons (pe_calKE kTray (hr.mono (by decide)) rfl passE0 (pa_cons (pe_callTy (kc_list (K:=K)) (by rfl) B.list PyProof.Rows.Boot.«list» (pa_cons (pv 6) pa_nil)) pa_nil)) (pa_cons (pv 5) pa_nil))))
   (pss_cons (ps_if (pt_cmpR op_lt (pe_cal c_law_total (hr.mono (by decide)) rfl (pa_cons (pv 6) pa_nil)) (pv 5) (nomark _)) (pss_one (ps_if (pt_cmpR (op_neF (K:=K) hr.units0) (pv 8) (pe_lst (pa_cons pe_str pa_nil)) (nomark _)) (pss_one (ps_ret pe_bl)) pss_nil)) (pss_cons (ps_if (pt_cmpR op_le (pv 5) pe_int (nomark _)) (pss_one (ps_set (i:=9) sc.nd rfl (Or.inl rfl) (pe_cal c_law_all (hr.mono (by decide)) rfl (pa_cons (pv 5) pa_nil)))) (pss_one (ps_set (i:=9) sc.nd rfl (Or.inl rfl) (pe_callB (call_sortedP (K:=K)) (by rfl) B.sorted PyProof.Rows.Boot.«sorted» (pa_cons (pe_lc (N':=["_law_sizes"]) (M:=[none]) (lcSc_of (by rfl)) rfl (kpi_list (K:=K) (pe_cal c_law_shapes (hr.mono (by decide)) rfl (pa_cons (pv 5) pa_nil))) (fun _ _ _ _ _=>pg_name (i:=0) (show (["_law_sizes"] : List Str).Nodup by decide +kernel) rfl (Or.inl rfl) (.inr rfl)) (frm_name rfl) (fun _ _ _ _ _=>pts_nil) (fun _ _ _ _ _=>(pe_cal c_law_first_of (hr.mono (by decide)) rfl (pa_cons (pv 0) pa_nil)))) pa_nil)))))
   (pss_cons (ps_lc (i:=10) sc.nd rfl rfl (N':=["_law_way","_law_left"]) (M:=[none,some 6]) (lcSc_of (by rfl)) rfl (kpi_list (K:=K) (pv 9)) (fun _ _ _ _ _=>pg_name (i:=0) (show (["_law_way","_law_left"] : List Str).Nodup by decide +kernel) rfl (Or.inl rfl) (.inr rfl)) (frm_name rfl) (fun _ _ _ _ _=>pts_nil) (fun _ _ _ _ _=>(pe_cal c_law_draws (hr.mono (by decide)) rfl (pa_cons (pv 1) (pa_cons (pe_lst pa_nil) (pa_cons (pv 0) pa_nil))))))
   (pss_one (ps_if (PW.pt (pw_or (pt_not (pt_val (pe_cal c_law_way_ok (hr.mono (by decide)) rfl (pa_cons (pv 8) (pa_cons (pv 5) pa_nil))))) (pw_or1 (pt_cmpR (op_neF (K:=K) hr.units0) (pv 8) (pe_ix (kix_list (K:=K)) (pv 9) (pe_bm PySem.F.plainAttrs_list PySem.F.slot_list_index PySem.F.type_list_index mt_index (pv 10) (pa_cons (pe_callB (kc_max (K:=K)) (by rfl) B.max PyProof.Rows.Boot.«max» (pa_cons (pv 10) pa_nil)) pa_nil)) (fun _ _=>rfl)) (nomark _))))) (pss_one (ps_ret pe_bl)) pss_nil)))))
   (pss_one (ps_for PassesOwn.never rfl (kpi_list (K:=K) (pe_lst (pa_cons pe_int (pa_cons pe_int (pa_cons (pe_op op_add pe_int (pe_ix (kix_list (K:=K)) (pv 4) pe_int (fun _ _=>rfl))) (pa_cons (pe_un un_neg (pe_ix (kix_list (K:=K)) (pv 4) pe_int (fun _ _=>rfl))) pa_nil)))))) (pg_name (i:=11) sc.nd rfl (Or.inl rfl))
   (pss_one (ps_if (pt_cmpR (op_neF (K:=K) hr.units0) (pe_cal c_law_tried (hr.mono (by decide)) rfl (pa_cons (pe_calKE kTray (hr.mono (by decide)) rfl passE0 (pa_cons (pe_lst (pa_cons (pe_tup (pa_cons (pv 7) (pa_cons (pe_op op_mod (pe_ix (kix_list (K:=K)) (pv 4) pe_int (fun _ _=>rfl)) pe_int) pa_nil))) pa_nil)) pa_nil)) (pa_cons (pv 11) pa_nil))) (pe_lst (pa_cons pe_str pa_nil)) (nomark _)) (pss_one (ps_ret pe_bl)) pss_nil)))))))))))
   (pss_one (ps_ret pe_bl))),?_⟩
  have hP0:H PTlikeliest=some (.tbl #[]):=hTabs (CTlikeliest,PTlikeliest) List.mem_cons_self
  have hTab0:TabOk H PTlikeliest ⟨73,27,73,67⟩ lq33:=⟨#[],hP0,trivial,.inl rfl⟩
  have hSz:=hole_seq hTab0 hS
  generalize hHz:hole H PTlikeliest=Hz at hSz
  have ecount : eqVs [V.str "count"] [V.str "count"] = true:=eqVs_strs ["count"]
  have efew : eqVs [V.str "few"] [V.str "few"] = true:=eqVs_strs ["few"]
  refine seq_by2 (fun σ' H'=>True) (fun Z hZ=>?_) (fun σ' H' _=>k _)
  refine ⟨_,rfl,a,ns,1,rfl,hS,fun z hz0 hz1=>⟨_,_,rfl,?_⟩⟩
  have hz7:0<=(if z<3 then z else 3)/\(if z<3 then z else 3)<=z:=by split <;> omega
  generalize (if z<3 then z else 3)=z7 at hz7
  refine ⟨_,rfl,by omega,by omega,for_range (lo:=0) (n:=z7.toNat) (fun i σ H2=>∃ (o1 o2 o3 o4 o5 o6 o7 o8 o9 o10 o11:Option V),σ=[some (.ref a),o1,o2,o3,o4,o5,o6,o7,o8,o9,o10,o11]/\Same Hz H2/\TabOk H2 PTlikeliest ⟨73,27,73,67⟩ lq33)
   ⟨none,none,none,none,none,none,none,none,none,none,none,rfl,by rw[<- hHz];exact hole_le H _,hTab0⟩ ?_ (fun σ H2 _=>hZ _ _ trivial)⟩
  rintro i σ H2 hi ⟨o1,o2,o3,o4,o5,o6,o7,o8,o9,o10,o11,rfl,s2,hTab2⟩
  refine ⟨_,rfl,_,rfl,a,ns,_,rfl,s2.seq hSz,by omega,by omega,by omega,fun cell=>?_⟩
  refine ⟨cell,2,1,rfl,by decide,by decide,by decide,by decide,fun p3 sp3 H3 _ s3 hp3 hl3=>?_⟩
  obtain ⟨f1,f2,rfl⟩ : ∃ f1 f2,sp3=[f1,f2]:= by
   match sp3,hl3 with
   | [x,y],_=>exact ⟨x,y,rfl⟩
  refine ⟨p3,_,rfl,SqL.of hp3,rfl,_,_,rfl,_,_,rfl,rfl,?_⟩
  dsimp only
  refine seq_a ?_
  refine ⟨_,rfl,_,_,rfl,rfl,⟨by decide,by decide,by decide⟩,le_line (by simp),fun q1 hq1=>?_⟩
  refine ⟨f2,q1,[14,3,10 ^ (20:Int).toNat,3],rfl,SqL.of upd_same,lim_ok (by decide +kernel),by decide,fun row rs H4 _ s4 hrow hD=>?_⟩
  have S4:=s3.trans ((Same.new hq1).trans s4)
  obtain ⟨r0,t0,rfl,r00,r09,hD⟩:=hD.uncons
  obtain ⟨r1,t1,rfl,_,_,hD⟩:=hD.uncons
  obtain ⟨r2,t2,rfl,r20,_,hD⟩:=hD.uncons
  obtain ⟨r3,t3,rfl,_,_,hD⟩:=hD.uncons
  generalize hrs:(r0::r1::r2::r3::t3)=rs at hrow
  have a0:atI (rs.map V.int) 0=some (V.int r0):=by rw[<- hrs];exact atI_int (by decide) rfl
  have a1:atI (rs.map V.int) 1=some (V.int r1):=by rw[<- hrs];exact atI_int (by decide) rfl
  have a2:atI (rs.map V.int) 2=some (V.int r2):=by rw[<- hrs];exact atI_int (by decide) rfl
  have a3:atI (rs.map V.int) 3=some (V.int r3):=by rw[<- hrs];exact atI_int (by decide) rfl
  refine seq_by2 (fun σ' H'=>∃ N:Nat,σ'=[some (.ref a),some (.int (0+(i:Int))),some (.int f1),some (.int f2),some (.ref row),some (.int (N:Int)),o6,o7,o8,o9,o10,o11]/\H4=H'/\1<=N/\N<=9) (fun Z2 hZ2=>?_) ?_
  ·refine ⟨_,rfl,row,_,_,_,rfl,rfl,SqL.of hrow,a1,rfl,_,rfl,ite2 (fun _=>?_) (fun _=>?_)⟩
   ·refine ⟨_,rfl,row,_,_,_,rfl,rfl,SqL.of hrow,a0,_,_,rfl,rfl,(by show (0:Int)<_;decide),_,_,rfl,rfl,hZ2 _ _ ⟨(r0 % 9+1).toNat,?_,rfl,by omega,by omega⟩⟩
    rw[Int.toNat_of_nonneg (by omega)];rfl
   ·refine ⟨_,rfl,row,_,_,_,rfl,rfl,SqL.of hrow,a0,_,_,rfl,rfl,(by show (0:Int)<_;decide),_,_,rfl,rfl,hZ2 _ _ ⟨(r0 % 5+1).toNat,?_,rfl,by omega,by omega⟩⟩
    rw[Int.toNat_of_nonneg (by omega)];rfl
  rintro σ H5 ⟨N,rfl,rfl,n1,n9⟩
  refine seq_by2 (fun σ' H'=>∃ (l:Addr) (as:List Addr) (W:Wds) (zs:Str),σ'=[some (.ref a),some (.int (0+(i:Int))),some (.int f1),some (.int f2),some (.ref row),some (.int (N:Int)),some (.ref l),some (.str zs),o8,o9,o10,o11]/\Same H4 H'/\H' l=some (.lst (as.map V.ref))/\WAt H' as W/\woodsOk W=true/\isNm zs=true) (fun Z2 hZ2=>?_) ?_
  ·refine ⟨_,rfl,row,_,_,_,rfl,rfl,SqL.of hrow,a3,rfl,_,rfl,ite2 (fun _=>?_) (fun _=>?_)⟩
   ·refine ⟨_,rfl,f1,rfl,fun t l as W zs H5 _ _ s5 ht5 hl5 hA5 hok _ hzi=>?_⟩
    exact ⟨t,_,rfl,SqT.of ht5,rfl,_,_,rfl,_,_,rfl,rfl,hZ2 _ _ ⟨l,as,W,zs,rfl,s5,hl5,hA5,hok,hzi⟩⟩
   ·refine ⟨_,rfl,_,rfl,f1,(N:Int),rfl,by omega,by omega,fun t l as W zs H5 s5 ht5 hl5 hA5 hok _ hzi=>?_⟩
    exact ⟨t,_,rfl,SqT.of ht5,rfl,_,_,rfl,_,_,rfl,rfl,hZ2 _ _ ⟨l,as,W,zs,rfl,s5,hl5,hA5,hok,hzi⟩⟩
  rintro σ H5 ⟨l,as,W,zs,rfl,s5,hl5,hA5,hok,hzi⟩
  obtain ⟨w1,w2,w3⟩:=woodsOk_iff.mp hok
  have hal:(as.map V.ref).length=W.length:=by rw[List.length_map,hA5.length]
  have hnl : ∀ w ∈ W,w.1.length<=1000:=fun w hw=>by
   have:=(w3 w hw).1
   unfold isNm at this
   rw[Bool.and_eq_true,Bool.and_eq_true,decide_eq_true_iff,decide_eq_true_iff] at this
   omega
  have hTab5:=hTab2.same (S4.trans s5)
  have S5:=s2.trans (S4.trans s5)
  have hrow5:=s5 _ _ hrow
  refine seq_by2 (fun σ' H'=>∃ q1:Addr,σ'=[some (.ref a),some (.int (0+(i:Int))),some (.int f1),some (.int f2),some (.ref row),some (.int (N:Int)),some (.ref l),some (.str zs),some (.ref q1),o9,o10,o11]/\Same (hole H5 PTlikeliest) H'/\TabOk H' PTlikeliest ⟨73,27,73,67⟩ lq33 /\
   ((totW W < (N : Int) /\ H' q1 = some (.lst [.str "few"])) \/ ((N : Int) <= totW W /\ ∃ j,j < (FW N).length /\ TopAt (kfW (W.map (·.2)) N) (FW N).length j /\ PlT H' q1 (((FW N).getD j []).map V.int)))) (fun Z2 hZ2=>?_) ?_
  ·refine ⟨_,rfl,l,_,rfl,.inl (SqL.of hl5),fun cp hcp=>?_⟩
   have n6:=Same.new (o:=HO.lst (as.map V.ref)) hcp
   have hcp6:upd H5 cp (HO.lst (as.map V.ref)) cp=some (.lst (as.map V.ref)):=upd_same
   have hA6:=hA5.same n6
   generalize upd H5 cp (HO.lst (as.map V.ref))=H6 at n6 hcp6 hA6
   intro x dx hx hdx hne
   have m0:=made_start (C:=CTray) hx hdx
   refine ⟨x,dx,cp,as,W,rfl,upd_same,m0 _ _ hcp6,hA6.same m0,by omega,hnl,fun _ q H7 hq hq7 hx7 kp=>⟨rfl,?_⟩,fun e=>absurd (hok.symm.trans e) (by decide)⟩
   have s7:=made_same hx hdx kp
   have S7:=n6.trans s7
   have hTab7:=hTab5.same S7
   refine ⟨_,rfl,x,W,(N:Int),rfl,⟨dx,q,as,hx7,hq7,hA6.same s7⟩,hok,hTab7,fun h=>absurd ⟨by omega,by omega⟩ h,fun _ _ hf q1 H8 s8 h8=>hZ2 _ _ ⟨q1,rfl,(hole_le _ _).trans (S7.trans s8),hTab7.same s8,.inl ⟨hf,h8⟩⟩,fun _ _ he q1 j H8 s8 hT8 hj ht hp8=>hZ2 _ _ ⟨q1,rfl,(hole_same S7).trans s8,hT8,.inr ⟨he,j,?_,?_,?_⟩⟩⟩
   ·rw[Int.toNat_natCast] at hj;exact hj
   ·rw[Int.toNat_natCast] at ht;exact ht
   ·rw[Int.toNat_natCast] at hp8;exact hp8
  rintro σ H8 ⟨q1,rfl,s8,hTab8,hc⟩
  have hl8:=s8 _ _ (hole_keep hTab5 hl5 fun _ z=>by cases z)
  have hrow8:=s8 _ _ (hole_keep hTab5 hrow5 fun _ z=>by cases z)
  have hA8:WAt H8 as W:=L2.Paired.mapP hA5 fun _ _ z=>s8 _ _ (hole_keep hTab5 z fun _ z=>by cases z)
  have S8:Same Hz H8:= by
   have h1:Same Hz (hole H5 PTlikeliest):=fun b o e=>by
    have e5:=S5 b o e
    have hb:b≠PTlikeliest:=fun z=>by rw[z,<- hHz] at e;unfold hole at e;rw[if_pos rfl] at e;cases e
    unfold hole
    rw[if_neg hb];exact e5
   exact h1.trans s8
  refine seq_by2 (fun σ' H'=>∃ o9 o10:Option V,σ'=[some (.ref a),some (.int (0+(i:Int))),some (.int f1),some (.int f2),some (.ref row),some (.int (N:Int)),some (.ref l),some (.str zs),some (.ref q1),o9,o10,o11]/\Same H8 H') (fun Z2 hZ2=>?_) ?_
  ·refine ⟨_,rfl,l,as,W,rfl,hl8,hA8,by omega,fun H9 s9=>⟨_,rfl,_,_,rfl,rfl,_,rfl,?_⟩⟩
   rcases hc with ⟨hf,hq1'⟩ | ⟨he,j,hj,htop,hp1⟩
   ·rw[decide_eq_true hf]
    refine iteT ?_
    refine if_N (b:=false) (P:=Same H9) (fun Z3 hZ3=>?_) (fun g=>by cases g) (fun _ H10 s10=>hZ2 _ _ ⟨_,_,rfl,s9.trans s10⟩)
    refine ⟨_,rfl,le_line (by simp),fun u hu=>⟨q1,u,_,_,rfl,rfl,.inr ⟨SqL.of (Same.new hu _ _ (s9 _ _ hq1')),SqL.of upd_same⟩,rfl,rfl,_,rfl,?_⟩⟩
    rw[efew]
    exact hZ3 _ (Same.new hu)
   ·rw[decide_eq_false (show ¬ totW W<(N:Int) by omega)]
    refine iteF ?_
    have hN10:N<10:=by omega
    obtain ⟨u1,u2,u3,u4⟩:=FW_up N hN10
    have hp9:=hp1.same s9
    have hl9:=s9 _ _ hl8
    have hA9:=hA8.same s9
    generalize hrw:(FW N).getD j []=rw' at hp1 hp9
    have hrm:rw' ∈ FW N:=by rw[<- hrw,getD_lt hj];exact List.getElem_mem _
    obtain ⟨y1,y2⟩:=FW_way N hN10 (by omega) rw' hrm
    have hway:isWay rw'=true:=isWay_iff.mpr ⟨by omega,by omega,y1⟩
    refine seq_by2 (fun σ' H'=>∃ (wl:Addr) (ps:List Addr) (U:List (List Int)),σ'=[some (.ref a),some (.int (0+(i:Int))),some (.int f1),some (.int f2),some (.ref row),some (.int (N:Int)),some (.ref l),some (.str zs),some (.ref q1),some (.ref wl),o10,o11]/\Same H9 H'/\H' wl=some (.lst (ps.map V.ref))/\PlAt H' ps U/\((N<=5/\U=(wys N).map (·.1))\/U=FW N)) (fun Z3 hZ3=>?_) ?_
    ·refine if_dec (b:=decide ((N:Int)<=5)) (fun Z4 hZ4=>⟨_,rfl,_,_,rfl,rfl,_,rfl,hZ4⟩) (fun g=>?_) (fun g=>?_)
     ·have g:(N:Int)<=5:=of_decide_eq_true g
      refine ⟨_,rfl,(N:Int),rfl,by omega,by omega,fun wl ps H10 s10 hwl hP=>hZ3 _ _ ⟨wl,ps,_,rfl,s10,hwl,?_,.inl ⟨by omega,rfl⟩⟩⟩
      rw[Int.toNat_natCast] at hP
      exact hP
     ·refine ⟨_,rfl,N,rfl,n1,n9,fun sl ps H10 s10 hsl hL10=>?_⟩
      obtain ⟨v1,v2⟩:=shW_FW N hN10 (by omega)
      have vok:=shW_ok N hN10 (by omega)
      have hpl:=hL10.length
      refine ⟨sl,rfl,⟨_,SqL.of hsl⟩,lc_list (xs:=ps.map V.ref) (fun m ys H11=>Same H10 H11 /\ ∃ qs:List Addr,ys=qs.map V.ref/\PlAt H11 qs (((shW (N:Int) N).take m).map fw)) (le_line (by rw[List.length_map];omega)) ⟨Same.refl _,[],rfl,.nil⟩
       (fun m ys H11 hm ⟨s11,qs,e,hQ⟩=>⟨SqL.of (s11 _ _ hsl),by rw[e,List.length_map,hQ.length,List.length_map,List.length_take];omega⟩) ?_ ?_⟩
      ·rintro m y ys H11 hm ⟨s11,qs,rfl,hQ⟩
       obtain ⟨q,rfl,hq,hml⟩:=getRef hm
       obtain ⟨r,hr',hrm'⟩:=paired_getM hL10 hq
       obtain ⟨k1,k2,k3⟩:=vok r (List.mem_of_getElem? hrm')
       refine lcN ?_
       refine ⟨_,rfl,q,r,rfl,SqL.of (s11 _ _ hr'),k2,k1,fun t H12 s12 ht12=>⟨s11.trans s12,qs++[t],ref_snoc,?_⟩⟩
       rw[map_take_snoc hrm']
       exact Paired.snoc (hQ.same s12) ht12
      rintro ys H11 ⟨s11,qs,rfl,hQ⟩ u hu
      rw[List.length_map,hpl,List.take_length] at hQ
      have n12:=Same.new (o:=HO.lst (qs.map V.ref)) hu
      have hql:=hQ.length
      rw[List.length_map] at hql
      refine ⟨u,qs,_,rfl,SqL.of upd_same,hQ.same n12,by omega,fun x hx=>?_,fun v vs yss hV hperm hup hv=>?_⟩
      ·have hxm:x ∈ FW N:=(List.isPerm_iff.mp v1).symm.subset hx
       intro e
       have:=(FW_way N hN10 (by omega) x hxm).2
       rw[e] at this;simp at this;omega
      ·have eF:=FW_eqS hN10 (by omega) hperm hup
       subst eF
       exact hZ3 _ _ ⟨v,vs,_,rfl,((s10.trans s11).trans n12).new2 hv,upd_same,hV.same (Same.new hv),.inr rfl⟩
    rintro σ H10 ⟨wl,ps,U,rfl,s10,hwl,hP,hU⟩
    have hUl:U.length<=60/\0<U.length /\ ∀ r ∈ U,wayGo 0 r=true/\r.length=N:= by
     rcases hU with ⟨h5,rfl⟩ | rfl
     ·rw[List.length_map]
      have hp : ∀ n:Nat,n<6->0<(wys n).length:=by decide +kernel
      exact ⟨Nat.le_trans (wys_len N (by omega)) (by decide),hp N (by omega),fun r hr=>by
       obtain ⟨q,hq,rfl⟩:=List.mem_map.mp hr
       obtain ⟨z1,_,z3⟩:=wys_ok N (by omega) q hq
       exact ⟨z1,z3⟩⟩
     ·exact ⟨by omega,u4 (by omega),FW_way N hN10 (by omega)⟩
    have hpl:=hP.length
    have hl10:=s10 _ _ hl9
    have hA10:=hA9.same s10
    generalize hG:(fun r:List Int=>phi (W.map (·.2)) (lotS r (fresh 0 r).toNat))=G
    refine seq_l ?_
    refine ⟨_,rfl,wl,rfl,⟨_,SqL.of hwl⟩,lc_list (xs:=ps.map V.ref) (fun m ys H11=>Same H10 H11/\ys=((U.take m).map G).map V.int) (le_line (by rw[List.length_map];omega)) ⟨Same.refl _,rfl⟩
     (fun m ys H11 hm ⟨s11,e⟩=>⟨SqL.of (s11 _ _ hwl),by rw[e,List.length_map,List.length_map,List.length_take];omega⟩) ?_ ?_⟩
    ·rintro m y ys H11 hm ⟨s11,rfl⟩
     obtain ⟨q,rfl,hq,hml⟩:=getRef hm
     obtain ⟨r,hr',hrm'⟩:=paired_getM hP hq
     obtain ⟨z1,z2⟩:=hUl.2.2 r (List.mem_of_getElem? hrm')
     refine lcN ?_
     refine ⟨_,rfl,Nat.zero_le _,fun eo heo=>?_⟩
     have n12:=Same.new (o:=HO.lst ([]:List V)) heo
     refine ⟨_,rfl,l,eo,q,as,W,r,rfl,n12 _ _ (s11 _ _ hl10),(hA10.same s11).same n12,hok,upd_same,((hr'.same s11).same n12).sq,isWay_iff.mpr ⟨by omega,by omega,z1⟩,fun H12 s12=>⟨s11.trans (n12.trans s12),?_⟩⟩
     rw[map_take_snoc hrm',<- hG];exact mapV
    rintro ys H11 ⟨s11,rfl⟩ tl htl
    rw[List.length_map,hpl,List.take_length]
    have n12:=Same.new (o:=HO.lst ((U.map G).map V.int)) htl
    have S12:=s11.trans n12
    have htl12:upd H11 tl (HO.lst ((U.map G).map V.int)) tl=some (.lst ((U.map G).map V.int)):=upd_same
    generalize upd H11 tl (HO.lst ((U.map G).map V.int))=H12 at n12 S12 htl12
    have hp12:=(hp9.same s10).same S12
    try dsimp only
    refine nrm (σ':=[some (.ref a),some (.int (0+(i:Int))),some (.int f1),some (.int f2),some (.ref row),some (.int (N:Int)),some (.ref l),some (.str zs),some (.ref q1),some (.ref wl),some (.ref tl),o11]) rfl ?_
    refine if_N (b:=false) (P:=Same H12) (fun Z3 hZ3=>?_) (fun g=>by cases g) (fun _ H13 s13=>hZ2 _ _ ⟨_,_,rfl,(s9.trans s10).trans (S12.trans s13)⟩)
    refine ⟨_,rfl,_,rfl,q1,rw',(N:Int),rfl,hp12,by omega,fun H13 s13=>⟨_,rfl,?_⟩⟩
    rw[<- way_rowOk,hway,decide_eq_true (show (rw'.length:Int)=(N:Int) by omega)]
    refine iteF ?_
    have htl13:=s13 _ _ htl12
    have hUG:U.map G≠[]:=fun e=>by
     have:=hUl.2.1
     rw[List.map_eq_nil_iff.mp e] at this;simp at this
    refine ⟨_,rfl,_,rfl,_,rfl,.inl ⟨rfl,_,SqL.of htl13⟩,_,rfl,tl,U.map G,rfl,.inl (SqL.of htl13),hUG,fun m hm=>?_⟩
    obtain ⟨ht1,ht2⟩:=top_idx hm
    rw[List.length_map] at ht1 ht2
    refine ⟨tl,U.map G,m,rfl,rfl,htl13,hm.1,by rw[List.length_map];omega,?_⟩
    generalize hjj:(U.map G).idxOf m=jj at ht1 ht2
    have hpj:ps[jj]?=some (ps[jj]'(by omega)):=List.getElem?_eq_getElem _
    obtain ⟨r2,hr2,hrj2⟩:=paired_getM hP hpj
    have hr13:=((hr2.same S12).same s13)
    refine ⟨wl,_,_,_,rfl,rfl,SqL.of (s13 _ _ (S12 _ _ hwl)),atI_ref hpj,?_⟩
    have hGet : ∀ k2,k2<U.length->(U.map G).getD k2 0=G (U.getD k2 []):=fun k2 hk2=>by
     rw[List.getD_eq_getElem?_getD,List.getElem?_map,List.getElem?_eq_getElem hk2,getD_lt hk2];rfl
    have same:rw'=r2:= by
     have er2:U.getD jj []=r2:=by rw[List.getD_eq_getElem?_getD,hrj2];rfl
     rcases hU with ⟨h5,e⟩ | e
     ·have hlU:U.length=(wys N).length:=by rw[e,List.length_map]
      have gw : ∀ k2,k2<(wys N).length->U.getD k2 []=((wys N).getD k2 ([],0)).1:=fun k2 hk2=>by
       rw[e,List.getD_eq_getElem?_getD,List.getElem?_map,List.getElem?_eq_getElem hk2,getD_lt hk2];rfl
      have tf : ∀ k2,k2<(wys N).length->(U.map G).getD k2 0=tfW (W.map (·.2)) N k2:=fun k2 hk2=>by
       rw[hGet k2 (by omega),gw k2 hk2,<- hG]
       unfold tfW
       have hmm:(wys N).getD k2 ([],0) ∈ wys N:=by rw[getD_lt hk2];exact List.getElem_mem _
       obtain ⟨_,q2,_⟩:=wys_ok N (by omega) _ hmm
       dsimp only
       rw[q2,Int.toNat_natCast];rfl
      have tj:TopAt (tfW (W.map (·.2)) N) (wys N).length jj:=fun k2 hk2=>by
       have:=ht2 k2 (by omega)
       dsimp only at this
       rw[tf k2 hk2,tf jj (by omega)] at this
       exact this
      have:=top_same (by omega) (by omega) (W.map (·.2)) hj (by omega) htop tj
      rw[hrw] at this
      rw[this,<- gw jj (by omega),er2]
     ·have tj:TopAt (kfW (W.map (·.2)) N) (FW N).length jj:=fun k2 hk2=>by
       have:=ht2 k2 (by rw[e];exact hk2)
       dsimp only at this
       rw[hGet k2 (by rw[e];exact hk2),hGet jj (by omega),<- hG] at this
       rw[e] at this
       exact this
      have:=top_uniq hj (by rw[e] at ht1;exact ht1) htop tj
      rw[<- hrw,this,<- er2,e]
    subst same
    refine ⟨q1,_,_,_,rfl,rfl,.inl ⟨(hp12.same s13).sq,hr13.sq⟩,flat_ints _,flat_ints _,_,rfl,?_⟩
    rw[eqVs_ints]
    exact hZ3 _ s13
  rintro σ H9 ⟨o9',o10',rfl,s9⟩
  have hrow9:=s9 _ _ hrow8
  refine ⟨_,rfl,row,_,_,_,rfl,rfl,SqL.of hrow9,a2,_,_,rfl,rfl,_,rfl,row,_,_,_,rfl,rfl,SqL.of hrow9,a2,_,rfl,le_line (by simp),fun ol hol=>?_⟩
  have n10:=Same.new (o:=HO.lst [V.int 0,V.int 10,V.int (10+r2),V.int (-r2)]) hol
  have hol10:upd H9 ol (HO.lst [V.int 0,V.int 10,V.int (10+r2),V.int (-r2)]) ol=some (.lst ([0,10,10+r2,-r2].map V.int)):=upd_same
  refine ⟨ol,rfl,⟨_,SqL.of hol10⟩,?_⟩
  have S10:=s9.trans n10
  generalize upd H9 ol (HO.lst [V.int 0,V.int 10,V.int (10+r2),V.int (-r2)])=H10 at n10 hol10 S10
  refine for_list (K:=K) (a:=ol) (xs:=[0,10,10+r2,-r2].map V.int) (fun m σ H11=>∃ o11:Option V,σ=[some (.ref a),some (.int (0+(i:Int))),some (.int f1),some (.int f2),some (.ref row),some (.int (N:Int)),some (.ref l),some (.str zs),some (.ref q1),o9',o10',o11]/\Same H10 H11)
   ⟨o11,rfl,Same.refl _⟩ (fun m σ H11 _ ⟨_,_,s11⟩=>SqL.of (s11 _ _ hol10)) ?_ ?_
  ·rintro m v σ H11 hm ⟨o11,rfl,s11⟩
   obtain ⟨od,rfl,hod,_⟩:=getI hm
   have hbad : ¬ (1<=od/\od<=9):= by
    have:=List.mem_of_getElem? hod
    simp only [List.mem_cons,List.not_mem_nil,or_false] at this
    omega
   have hTab11:=hTab8.same (S10.trans s11)
   have hrow11:=s11 _ _ (n10 _ _ hrow9)
   refine gN ?_
   refine nrm (σ':=[some (.ref a),some (.int (0+(i:Int))),some (.int f1),some (.int f2),some (.ref row),some (.int (N:Int)),some (.ref l),some (.str zs),some (.ref q1),o9',o10',some (.int od)]) rfl ?_
   refine if_N (b:=false) (P:=Same H11) (fun Z3 hZ3=>?_) (fun g=>by cases g) (fun _ H12 s12=>⟨_,rfl,s11.trans s12⟩)
   refine ⟨_,rfl,_,rfl,row,_,_,_,rfl,rfl,SqL.of hrow11,a0,_,_,rfl,rfl,(by show (0:Int)<3;decide),le_line (by simp),fun t1 ht1=>⟨le_line (by simp),fun t2 ht2=>?_⟩⟩
   have n12:=Same.new (o:=HO.tup [V.str zs,V.int (r0 % 3)]) ht1
   have n13:=Same.new (o:=HO.lst [V.ref t1]) ht2
   have hA13:WAt (upd (upd H11 t1 (HO.tup [V.str zs,V.int (r0 % 3)])) t2 (HO.lst [V.ref t1])) [t1] [(zs,r0 % 3)]:=.cons (n13 _ _ upd_same) .nil
   have ht13:upd (upd H11 t1 (HO.tup [V.str zs,V.int (r0 % 3)])) t2 (HO.lst [V.ref t1]) t2=some (.lst ([t1].map V.ref)):=upd_same
   have S13:=n12.trans n13
   have hok1:woodsOk [(zs,r0 % 3)]=true:=woodsOk_iff.mpr ⟨⟨by simp,by simp⟩,by simp,fun w hw=>by rw[List.mem_singleton.mp hw];exact ⟨hzi,by dsimp only;omega,by dsimp only;omega⟩⟩
   have hzl:zs.length<=1000:= by
    unfold isNm at hzi
    rw[Bool.and_eq_true,Bool.and_eq_true,decide_eq_true_iff,decide_eq_true_iff] at hzi
    omega
   generalize upd (upd H11 t1 (HO.tup [V.str zs,V.int (r0 % 3)])) t2 (HO.lst [V.ref t1])=H13 at n13 hA13 ht13 S13
   intro x dx hx hdx hne
   have m0:=made_start (C:=CTray) hx hdx
   refine ⟨x,dx,t2,[t1],[(zs,r0 % 3)],rfl,upd_same,m0 _ _ ht13,hA13.same m0,by simp,fun w hw=>by rw[List.mem_singleton.mp hw];exact hzl,fun _ q H14 hq hq14 hx14 kp=>⟨rfl,?_⟩,fun e=>absurd (hok1.symm.trans e) (by decide)⟩
   have s14:=made_same hx hdx kp
   have S14:=S13.trans s14
   refine ⟨_,rfl,x,_,od,rfl,⟨dx,q,[t1],hx14,hq14,hA13.same s14⟩,hok1,hTab11.same S14,fun _ q2 H15 s15 h15=>?_,fun h1 h2=>absurd ⟨h1,h2⟩ hbad,fun h1 h2=>absurd ⟨h1,h2⟩ hbad⟩
   refine ⟨le_line (by simp),fun u hu=>⟨q2,u,_,_,rfl,rfl,.inr ⟨SqL.of (Same.new hu _ _ h15),SqL.of upd_same⟩,rfl,rfl,_,rfl,?_⟩⟩
   rw[ecount]
   exact hZ3 _ ((S14.trans s15).new2 hu)
  ·rintro σ H11 ⟨o11,rfl,s11⟩
   exact ⟨_,_,_,_,_,_,_,_,_,_,_,rfl,S8.trans (S10.trans s11),hTab8.same (S10.trans s11)⟩
end
theorem all_mk {l : PySem.W.OpenLaw} {w : World} {K : PySem.W.Frag} {h : Heap} {mg : Str -> Option Value} {fa : Addr} (X : K.In h) (G : h.Ns mainGlobals mg) (hfa : mg "law" = some (.ref fa))
  {f1:Addr} {od1 an1:Option Addr} {sl1:Array (Option Value)} {oc1 kV1 dc1 pm1 cd1 ct1:Value} {f2:Addr} {od2 an2:Option Addr} {sl2:Array (Option Value)} {oc2 kV2 dc2 pm2 cd2 ct2:Value} {f3:Addr} {od3 an3:Option Addr} {sl3:Array (Option Value)} {oc3 kV3 dc3 pm3 cd3 ct3:Value} {f4:Addr} {od4 an4:Option Addr} {sl4:Array (Option Value)} {oc4 kV4 dc4 pm4 cd4 ct4:Value} {f5:Addr} {od5 an5:Option Addr} {sl5:Array (Option Value)} {oc5 kV5 dc5 pm5 cd5 ct5:Value} {f6:Addr} {od6 an6:Option Addr} {sl6:Array (Option Value)} {oc6 kV6 dc6 pm6 cd6 ct6:Value} {f7:Addr} {od7 an7:Option Addr} {sl7:Array (Option Value)} {oc7 kV7 dc7 pm7 cd7 ct7:Value} {f8:Addr} {od8 an8:Option Addr} {sl8:Array (Option Value)} {oc8 kV8 dc8 pm8 cd8 ct8:Value} {f9:Addr} {od9 an9:Option Addr} {sl9:Array (Option Value)} {oc9 kV9 dc9 pm9 cd9 ct9:Value} {f10:Addr} {od10 an10:Option Addr} {sl10:Array (Option Value)} {oc10 kV10 dc10 pm10 cd10 ct10:Value} {f11:Addr} {od11 an11:Option Addr} {sl11:Array (Option Value)} {oc11 kV11 dc11 pm11 cd11 ct11:Value} {f12:Addr} {od12 an12:Option Addr} {sl12:Array (Option Value)} {oc12 kV12 dc12 pm12 cd12 ct12:Value} {f13:Addr} {od13 an13:Option Addr} {sl13:Array (Option Value)} {oc13 kV13 dc13 pm13 cd13 ct13:Value} {f14:Addr} {od14 an14:Option Addr} {sl14:Array (Option Value)} {oc14 kV14 dc14 pm14 cd14 ct14:Value} {f15:Addr} {od15 an15:Option Addr} {sl15:Array (Option Value)} {oc15 kV15 dc15 pm15 cd15 ct15:Value} {f16:Addr} {od16 an16:Option Addr} {sl16:Array (Option Value)} {oc16 kV16 dc16 pm16 ct16:Value} {CTlikeliest PTlikeliest:Addr} {f17:Addr} {od17 an17:Option Addr} {sl17:Array (Option Value)} {oc17 kV17 dc17 pm17 cd17 ct17:Value} {f18:Addr} {od18 an18:Option Addr} {sl18:Array (Option Value)} {oc18 kV18 dc18 pm18 cd18 ct18:Value} {f19:Addr} {od19 an19:Option Addr} {sl19:Array (Option Value)} {oc19 kV19 dc19 pm19 cd19 ct19:Value} {f20:Addr} {od20 an20:Option Addr} {sl20:Array (Option Value)} {oc20 kV20 dc20 pm20 cd20 ct20:Value} {f21:Addr} {od21 an21:Option Addr} {sl21:Array (Option Value)} {oc21 kV21 dc21 pm21 cd21 ct21:Value} {T21:Addr} {oT21:Obj} {nT21:Nat} {tk21:Tok} {f22:Addr} {od22 an22:Option Addr} {sl22:Array (Option Value)} {oc22 kV22 dc22 pm22 cd22 ct22:Value} {f23:Addr} {od23 an23:Option Addr} {sl23:Array (Option Value)} {oc23 kV23 dc23 pm23 cd23 ct23:Value} {f24:Addr} {od24 an24:Option Addr} {sl24:Array (Option Value)} {oc24 kV24 dc24 pm24 cd24 ct24:Value} {f25:Addr} {od25 an25:Option Addr} {sl25:Array (Option Value)} {oc25 kV25 dc25 pm25 cd25 ct25:Value} {f26:Addr} {od26 an26:Option Addr} {sl26:Array (Option Value)} {oc26 kV26 dc26 pm26 cd26 ct26:Value} {f27:Addr} {od27 an27:Option Addr} {sl27:Array (Option Value)} {oc27 kV27 dc27 pm27 cd27 ct27:Value} {f28:Addr} {od28 an28:Option Addr} {sl28:Array (Option Value)} {oc28 kV28 dc28 pm28 cd28 ct28:Value} {f29:Addr} {od29 an29:Option Addr} {sl29:Array (Option Value)} {oc29 kV29 dc29 pm29 cd29 ct29:Value} {f30:Addr} {od30 an30:Option Addr} {sl30:Array (Option Value)} {oc30 kV30 dc30 pm30 cd30 ct30:Value} {f31:Addr} {od31 an31:Option Addr} {sl31:Array (Option Value)} {oc31 kV31 dc31 pm31 cd31 ct31:Value} {tg0:Tok} {tg1:Tok} {tg2:Tok} {tg3:Tok} {CBadTray:Addr} {CNoWood:Addr} {CBadMany:Addr} {CBadWay:Addr} {CTooFew:Addr} {CTray:Addr} {ts:List Addr}
  (a1 : PySem.W.nsIn K mainGlobals "_law_draw" = some (some (.ref f1)))
  (l1 : K.lookup f1 = some ⟨oc1,od1,.func (PySem.W.fnOf "_law_draw" "_law_draw" (defArgs s_law_draw) (defBody s_law_draw) (defScope s_law_draw) .none kV1 dc1 pm1 an1 cd1 ct1),sl1⟩)
  (c1 : PySem.W.codeIn K cd1 "_law_draw" = true) (k1 : PySem.W.keepIn K (.ref f1) = true)
  (a2 : PySem.W.nsIn K mainGlobals "_law_cell" = some (some (.ref f2)))
  (l2 : K.lookup f2 = some ⟨oc2,od2,.func (PySem.W.fnOf "_law_cell" "_law_cell" (defArgs s_law_cell) (defBody s_law_cell) (defScope s_law_cell) .none kV2 dc2 pm2 an2 cd2 ct2),sl2⟩)
  (c2 : PySem.W.codeIn K cd2 "_law_cell" = true) (k2 : PySem.W.keepIn K (.ref f2) = true)
  (a3 : PySem.W.nsIn K mainGlobals "_law_many" = some (some (.ref f3)))
  (l3 : K.lookup f3 = some ⟨oc3,od3,.func (PySem.W.fnOf "_law_many" "_law_many" (defArgs s_law_many) (defBody s_law_many) (defScope s_law_many) .none kV3 dc3 pm3 an3 cd3 ct3),sl3⟩)
  (c3 : PySem.W.codeIn K cd3 "_law_many" = true) (k3 : PySem.W.keepIn K (.ref f3) = true)
  (a4 : PySem.W.nsIn K mainGlobals "check_many" = some (some (.ref f4)))
  (l4 : K.lookup f4 = some ⟨oc4,od4,.func (PySem.W.fnOf "check_many" "check_many" (defArgs scheck_many) (defBody scheck_many) (defScope scheck_many) .none kV4 dc4 pm4 an4 cd4 ct4),sl4⟩)
  (c4 : PySem.W.codeIn K cd4 "check_many" = true) (k4 : PySem.W.keepIn K (.ref f4) = true)
  (a5 : PySem.W.nsIn K mainGlobals "picks" = some (some (.ref f5)))
  (l5 : K.lookup f5 = some ⟨oc5,od5,.func (PySem.W.fnOf "picks" "picks" (defArgs spicks) (defBody spicks) (defScope spicks) .none kV5 dc5 pm5 an5 cd5 ct5),sl5⟩)
  (c5 : PySem.W.codeIn K cd5 "picks" = true) (k5 : PySem.W.keepIn K (.ref f5) = true)
  (a6 : PySem.W.nsIn K mainGlobals "fillings" = some (some (.ref f6)))
  (l6 : K.lookup f6 = some ⟨oc6,od6,.func (PySem.W.fnOf "fillings" "fillings" (defArgs sfillings) (defBody sfillings) (defScope sfillings) .none kV6 dc6 pm6 an6 cd6 ct6),sl6⟩)
  (c6 : PySem.W.codeIn K cd6 "fillings" = true) (k6 : PySem.W.keepIn K (.ref f6) = true)
  (a7 : PySem.W.nsIn K mainGlobals "is_name" = some (some (.ref f7)))
  (l7 : K.lookup f7 = some ⟨oc7,od7,.func (PySem.W.fnOf "is_name" "is_name" (defArgs sis_name) (defBody sis_name) (defScope sis_name) .none kV7 dc7 pm7 an7 cd7 ct7),sl7⟩)
  (c7 : PySem.W.codeIn K cd7 "is_name" = true) (k7 : PySem.W.keepIn K (.ref f7) = true)
  (a8 : PySem.W.nsIn K mainGlobals "check_woods" = some (some (.ref f8)))
  (l8 : K.lookup f8 = some ⟨oc8,od8,.func (PySem.W.fnOf "check_woods" "check_woods" (defArgs scheck_woods) (defBody scheck_woods) (defScope scheck_woods) .none kV8 dc8 pm8 an8 cd8 ct8),sl8⟩)
  (c8 : PySem.W.codeIn K cd8 "check_woods" = true) (k8 : PySem.W.keepIn K (.ref f8) = true)
  (a9 : PySem.W.findIn K (.ref CTray) "__init__" = some (some (.ref f9))) (i9 : PySem.W.isFn K (.ref f9) = true)
  (l9 : K.lookup f9 = some ⟨oc9,od9,.func (PySem.W.fnOf "__init__" "Tray.__init__" (defArgs sTray___init__) (defBody sTray___init__) (defScope sTray___init__) .none kV9 dc9 pm9 an9 cd9 ct9),sl9⟩)
  (c9 : PySem.W.codeIn K cd9 "Tray.__init__" = true) (k9 : PySem.W.keepIn K (.ref f9) = true)
  (a10 : PySem.W.findIn K (.ref CTray) "all_woods" = some (some (.ref f10))) (i10 : PySem.W.isFn K (.ref f10) = true)
  (l10 : K.lookup f10 = some ⟨oc10,od10,.func (PySem.W.fnOf "all_woods" "Tray.all_woods" (defArgs sTray_all_woods) (defBody sTray_all_woods) (defScope sTray_all_woods) .none kV10 dc10 pm10 an10 cd10 ct10),sl10⟩)
  (c10 : PySem.W.codeIn K cd10 "Tray.all_woods" = true) (k10 : PySem.W.keepIn K (.ref f10) = true)
  (a11 : PySem.W.findIn K (.ref CTray) "total" = some (some (.ref f11))) (i11 : PySem.W.isFn K (.ref f11) = true)
  (l11 : K.lookup f11 = some ⟨oc11,od11,.func (PySem.W.fnOf "total" "Tray.total" (defArgs sTray_total) (defBody sTray_total) (defScope sTray_total) .none kV11 dc11 pm11 an11 cd11 ct11),sl11⟩)
  (c11 : PySem.W.codeIn K cd11 "Tray.total" = true) (k11 : PySem.W.keepIn K (.ref f11) = true)
  (a12 : PySem.W.nsIn K mainGlobals "check_enough" = some (some (.ref f12)))
  (l12 : K.lookup f12 = some ⟨oc12,od12,.func (PySem.W.fnOf "check_enough" "check_enough" (defArgs scheck_enough) (defBody scheck_enough) (defScope scheck_enough) .none kV12 dc12 pm12 an12 cd12 ct12),sl12⟩)
  (c12 : PySem.W.codeIn K cd12 "check_enough" = true) (k12 : PySem.W.keepIn K (.ref f12) = true)
  (a13 : PySem.W.nsIn K mainGlobals "orders_behind" = some (some (.ref f13)))
  (l13 : K.lookup f13 = some ⟨oc13,od13,.func (PySem.W.fnOf "orders_behind" "orders_behind" (defArgs sorders_behind) (defBody sorders_behind) (defScope sorders_behind) .none kV13 dc13 pm13 an13 cd13 ct13),sl13⟩)
  (c13 : PySem.W.codeIn K cd13 "orders_behind" = true) (k13 : PySem.W.keepIn K (.ref f13) = true)
  (a14 : PySem.W.nsIn K mainGlobals "falling_sizes" = some (some (.ref f14)))
  (l14 : K.lookup f14 = some ⟨oc14,od14,.func (PySem.W.fnOf "falling_sizes" "falling_sizes" (defArgs sfalling_sizes) (defBody sfalling_sizes) (defScope sfalling_sizes) .none kV14 dc14 pm14 an14 cd14 ct14),sl14⟩)
  (c14 : PySem.W.codeIn K cd14 "falling_sizes" = true) (k14 : PySem.W.keepIn K (.ref f14) = true)
  (a15 : PySem.W.nsIn K mainGlobals "first_way" = some (some (.ref f15)))
  (l15 : K.lookup f15 = some ⟨oc15,od15,.func (PySem.W.fnOf "first_way" "first_way" (defArgs sfirst_way) (defBody sfirst_way) (defScope sfirst_way) .none kV15 dc15 pm15 an15 cd15 ct15),sl15⟩)
  (c15 : PySem.W.codeIn K cd15 "first_way" = true) (k15 : PySem.W.keepIn K (.ref f15) = true)
  (a16 : PySem.W.nsIn K mainGlobals "likeliest" = some (some (.ref f16)))
  (l16 : K.lookup f16 = some ⟨oc16,od16,.func (PySem.W.fnOf "likeliest" "likeliest" (defArgs slikeliest) (defBody slikeliest) (defScope slikeliest) .none kV16 dc16 pm16 an16 (.ref CTlikeliest) ct16),sl16⟩)
  (c16 : PySem.W.codeIn K (.ref CTlikeliest) "likeliest" = true) (k16 : PySem.W.keepIn K (.ref f16) = true)
  (u16:PTlikeliest ∈ ts) (t16:PySem.W.codeHdIn K CTlikeliest PTlikeliest=true) (v16:K.lookup PTlikeliest=none)
  (a17 : PySem.W.nsIn K mainGlobals "_law_num" = some (some (.ref f17)))
  (l17 : K.lookup f17 = some ⟨oc17,od17,.func (PySem.W.fnOf "_law_num" "_law_num" (defArgs s_law_num) (defBody s_law_num) (defScope s_law_num) .none kV17 dc17 pm17 an17 cd17 ct17),sl17⟩)
  (c17 : PySem.W.codeIn K cd17 "_law_num" = true) (k17 : PySem.W.keepIn K (.ref f17) = true)
  (a18 : PySem.W.nsIn K mainGlobals "_law_row_ok" = some (some (.ref f18)))
  (l18 : K.lookup f18 = some ⟨oc18,od18,.func (PySem.W.fnOf "_law_row_ok" "_law_row_ok" (defArgs s_law_row_ok) (defBody s_law_row_ok) (defScope s_law_row_ok) .none kV18 dc18 pm18 an18 cd18 ct18),sl18⟩)
  (c18 : PySem.W.codeIn K cd18 "_law_row_ok" = true) (k18 : PySem.W.keepIn K (.ref f18) = true)
  (a19 : PySem.W.nsIn K mainGlobals "_law_way_ok" = some (some (.ref f19)))
  (l19 : K.lookup f19 = some ⟨oc19,od19,.func (PySem.W.fnOf "_law_way_ok" "_law_way_ok" (defArgs s_law_way_ok) (defBody s_law_way_ok) (defScope s_law_way_ok) .none kV19 dc19 pm19 an19 cd19 ct19),sl19⟩)
  (c19 : PySem.W.codeIn K cd19 "_law_way_ok" = true) (k19 : PySem.W.keepIn K (.ref f19) = true)
  (a20 : PySem.W.nsIn K mainGlobals "_law_all" = some (some (.ref f20)))
  (l20 : K.lookup f20 = some ⟨oc20,od20,.func (PySem.W.fnOf "_law_all" "_law_all" (defArgs s_law_all) (defBody s_law_all) (defScope s_law_all) .none kV20 dc20 pm20 an20 cd20 ct20),sl20⟩)
  (c20 : PySem.W.codeIn K cd20 "_law_all" = true) (k20 : PySem.W.keepIn K (.ref f20) = true)
  (a21 : PySem.W.nsIn K mainGlobals "_law_split" = some (some (.ref f21)))
  (l21 : K.lookup f21 = some ⟨oc21,od21,.func (PySem.W.fnOf "_law_split" "_law_split" (defArgs s_law_split) (defBody s_law_split) (defScope s_law_split) (.ref T21) kV21 dc21 pm21 an21 cd21 ct21),sl21⟩)
  (c21 : PySem.W.codeIn K cd21 "_law_split" = true) (k21 : PySem.W.keepIn K (.ref f21) = true)
  (lT21:K.lookup T21=some oT21) (dT21:oT21.data = .seq [Value.int 0 tk21].toArray nT21)
  (a22 : PySem.W.nsIn K mainGlobals "_law_names" = some (some (.ref f22)))
  (l22 : K.lookup f22 = some ⟨oc22,od22,.func (PySem.W.fnOf "_law_names" "_law_names" (defArgs s_law_names) (defBody s_law_names) (defScope s_law_names) .none kV22 dc22 pm22 an22 cd22 ct22),sl22⟩)
  (c22 : PySem.W.codeIn K cd22 "_law_names" = true) (k22 : PySem.W.keepIn K (.ref f22) = true)
  (a23 : PySem.W.nsIn K mainGlobals "_law_woods" = some (some (.ref f23)))
  (l23 : K.lookup f23 = some ⟨oc23,od23,.func (PySem.W.fnOf "_law_woods" "_law_woods" (defArgs s_law_woods) (defBody s_law_woods) (defScope s_law_woods) .none kV23 dc23 pm23 an23 cd23 ct23),sl23⟩)
  (c23 : PySem.W.codeIn K cd23 "_law_woods" = true) (k23 : PySem.W.keepIn K (.ref f23) = true)
  (a24 : PySem.W.nsIn K mainGlobals "_law_assigned" = some (some (.ref f24)))
  (l24 : K.lookup f24 = some ⟨oc24,od24,.func (PySem.W.fnOf "_law_assigned" "_law_assigned" (defArgs s_law_assigned) (defBody s_law_assigned) (defScope s_law_assigned) .none kV24 dc24 pm24 an24 cd24 ct24),sl24⟩)
  (c24 : PySem.W.codeIn K cd24 "_law_assigned" = true) (k24 : PySem.W.keepIn K (.ref f24) = true)
  (a25 : PySem.W.nsIn K mainGlobals "_law_draws" = some (some (.ref f25)))
  (l25 : K.lookup f25 = some ⟨oc25,od25,.func (PySem.W.fnOf "_law_draws" "_law_draws" (defArgs s_law_draws) (defBody s_law_draws) (defScope s_law_draws) .none kV25 dc25 pm25 an25 cd25 ct25),sl25⟩)
  (c25 : PySem.W.codeIn K cd25 "_law_draws" = true) (k25 : PySem.W.keepIn K (.ref f25) = true)
  (a26 : PySem.W.nsIn K mainGlobals "_law_total" = some (some (.ref f26)))
  (l26 : K.lookup f26 = some ⟨oc26,od26,.func (PySem.W.fnOf "_law_total" "_law_total" (defArgs s_law_total) (defBody s_law_total) (defScope s_law_total) .none kV26 dc26 pm26 an26 cd26 ct26),sl26⟩)
  (c26 : PySem.W.codeIn K cd26 "_law_total" = true) (k26 : PySem.W.keepIn K (.ref f26) = true)
  (a27 : PySem.W.nsIn K mainGlobals "_law_rich_woods" = some (some (.ref f27)))
  (l27 : K.lookup f27 = some ⟨oc27,od27,.func (PySem.W.fnOf "_law_rich_woods" "_law_rich_woods" (defArgs s_law_rich_woods) (defBody s_law_rich_woods) (defScope s_law_rich_woods) .none kV27 dc27 pm27 an27 cd27 ct27),sl27⟩)
  (c27 : PySem.W.codeIn K cd27 "_law_rich_woods" = true) (k27 : PySem.W.keepIn K (.ref f27) = true)
  (a28 : PySem.W.nsIn K mainGlobals "_law_shapes" = some (some (.ref f28)))
  (l28 : K.lookup f28 = some ⟨oc28,od28,.func (PySem.W.fnOf "_law_shapes" "_law_shapes" (defArgs s_law_shapes) (defBody s_law_shapes) (defScope s_law_shapes) .none kV28 dc28 pm28 an28 cd28 ct28),sl28⟩)
  (c28 : PySem.W.codeIn K cd28 "_law_shapes" = true) (k28 : PySem.W.keepIn K (.ref f28) = true)
  (a29 : PySem.W.nsIn K mainGlobals "_law_first_of" = some (some (.ref f29)))
  (l29 : K.lookup f29 = some ⟨oc29,od29,.func (PySem.W.fnOf "_law_first_of" "_law_first_of" (defArgs s_law_first_of) (defBody s_law_first_of) (defScope s_law_first_of) .none kV29 dc29 pm29 an29 cd29 ct29),sl29⟩)
  (c29 : PySem.W.codeIn K cd29 "_law_first_of" = true) (k29 : PySem.W.keepIn K (.ref f29) = true)
  (a30 : PySem.W.nsIn K mainGlobals "_law_tried" = some (some (.ref f30)))
  (l30 : K.lookup f30 = some ⟨oc30,od30,.func (PySem.W.fnOf "_law_tried" "_law_tried" (defArgs s_law_tried) (defBody s_law_tried) (defScope s_law_tried) .none kV30 dc30 pm30 an30 cd30 ct30),sl30⟩)
  (c30 : PySem.W.codeIn K cd30 "_law_tried" = true) (k30 : PySem.W.keepIn K (.ref f30) = true)
  (a31 : PySem.W.nsIn K mainGlobals "law" = some (some (.ref f31)))
  (l31 : K.lookup f31 = some ⟨oc31,od31,.func (PySem.W.fnOf "law" "law" (defArgs slaw) (defBody slaw) (defScope slaw) .none kV31 dc31 pm31 an31 cd31 ct31),sl31⟩)
  (c31 : PySem.W.codeIn K cd31 "law" = true) (k31 : PySem.W.keepIn K (.ref f31) = true)
  (z0 : PySem.W.nsIn K mainGlobals "all" = some none)
  (z1 : PySem.W.nsIn K mainGlobals "bool" = some none)
  (z2 : PySem.W.nsIn K mainGlobals "dict" = some none)
  (z3 : PySem.W.nsIn K mainGlobals "enumerate" = some none)
  (z4 : PySem.W.nsIn K mainGlobals "int" = some none)
  (z5 : PySem.W.nsIn K mainGlobals "isinstance" = some none)
  (z6 : PySem.W.nsIn K mainGlobals "len" = some none)
  (z7 : PySem.W.nsIn K mainGlobals "list" = some none)
  (z8 : PySem.W.nsIn K mainGlobals "max" = some none)
  (z9 : PySem.W.nsIn K mainGlobals "min" = some none)
  (z10 : PySem.W.nsIn K mainGlobals "range" = some none)
  (z11 : PySem.W.nsIn K mainGlobals "set" = some none)
  (z12 : PySem.W.nsIn K mainGlobals "sorted" = some none)
  (z13 : PySem.W.nsIn K mainGlobals "sum" = some none)
  (z14 : PySem.W.nsIn K mainGlobals "tuple" = some none)
  (mc0 : PySem.W.nsIn K mainGlobals "MOST_CENSERS" = some (some (.int 9 tg0)))
  (mc1 : PySem.W.nsIn K mainGlobals "LONGEST_NAME" = some (some (.int 12 tg1)))
  (mc2 : PySem.W.nsIn K mainGlobals "MOST_WOODS" = some (some (.int 6 tg2)))
  (mc3 : PySem.W.nsIn K mainGlobals "MOST_PACKETS" = some (some (.int 99 tg3)))
  (xmBadTray : PySem.W.nsIn K mainGlobals "BadTray" = some (some (.ref CBadTray))) (xqBadTray : PySem.W.excIn K CBadTray bmV "ValueError.__new__" = true)
  (xmNoWood : PySem.W.nsIn K mainGlobals "NoWood" = some (some (.ref CNoWood))) (xqNoWood : PySem.W.excIn K CNoWood bmV "ValueError.__new__" = true)
  (xmBadMany : PySem.W.nsIn K mainGlobals "BadMany" = some (some (.ref CBadMany))) (xqBadMany : PySem.W.excIn K CBadMany bmV "ValueError.__new__" = true)
  (xmBadWay : PySem.W.nsIn K mainGlobals "BadWay" = some (some (.ref CBadWay))) (xqBadWay : PySem.W.excIn K CBadWay bmV "ValueError.__new__" = true)
  (xmTooFew : PySem.W.nsIn K mainGlobals "TooFew" = some (some (.ref CTooFew))) (xqTooFew : PySem.W.excIn K CTooFew bmV "ValueError.__new__" = true)
  (xnTooFewBadMany:PySem.W.exmOne K (.ref CTooFew) (.ref CBadMany)=some false)
  (oaTray : PySem.W.nsIn K mainGlobals "Tray" = some (some (.ref CTray))) (opTray : PySem.W.plainGet K CTray Str.empty = true) (ohTray : PySem.W.hasDictIn K CTray = true) (ooTray : PySem.W.plainOver K CTray = true) (osTray : PySem.W.findIn K (.ref CTray) "__setattr__" = some (some (.builtin "object.__setattr__"))) (okTray : PySem.W.makesIn K CTray = true) (ocTray : PySem.W.keepIn K (.ref CTray) = true)
  (onTray_stock : PySem.W.findIn K (.ref CTray) "stock" = some none) :
  ∃ (fd : FuncData) (tabs : List (Addr × Addr)),(∀ q ∈ tabs,PySem.W.codeHdIn K q.1 q.2 = true /\ q.2 ∈ ts /\ K.lookup q.2 = none) /\ (∀ (s : Shared) (v : Value),BindsTo s fd ⟨[v],[]⟩ [("_law_script",v)]) /\ ∀ base : Heap,K.In base -> base.Ns mainGlobals mg -> BmAt mg base -> FnOk l.prog w K mg base CX0 16 fa fd ["_law_script"] (spLawT K tabs):= by
 have e:=hfa.symm.trans (PySem.W.mg_of X G a31)
 cases e
 have B:Bs mg:=⟨PySem.W.mg_none_of X G z0,PySem.W.mg_none_of X G z1,PySem.W.mg_none_of X G z2,PySem.W.mg_none_of X G z3,PySem.W.mg_none_of X G z4,PySem.W.mg_none_of X G z5,PySem.W.mg_none_of X G z6,PySem.W.mg_none_of X G z7,PySem.W.mg_none_of X G z8,PySem.W.mg_none_of X G z9,PySem.W.mg_none_of X G z10,PySem.W.mg_none_of X G z11,PySem.W.mg_none_of X G z12,PySem.W.mg_none_of X G z13,PySem.W.mg_none_of X G z14⟩
 have T:Gs mg:=⟨trivial,⟨_,PySem.W.mg_of X G mc0⟩,⟨_,PySem.W.mg_of X G mc1⟩,⟨_,PySem.W.mg_of X G mc2⟩,⟨_,PySem.W.mg_of X G mc3⟩⟩
 have mBadTray:=PySem.W.mg_of X G xmBadTray
 have mNoWood:=PySem.W.mg_of X G xmNoWood
 have mBadMany:=PySem.W.mg_of X G xmBadMany
 have mBadWay:=PySem.W.mg_of X G xmBadWay
 have mTooFew:=PySem.W.mg_of X G xmTooFew
 have clTray:Cls K CTray:=⟨opTray,ohTray,ooTray,osTray⟩
 refine ⟨PySem.W.fnOf "law" "law" (defArgs slaw) (defBody slaw) (defScope slaw) .none kV31 dc31 pm31 an31 cd31 ct31,[(CTlikeliest,PTlikeliest)],(List.forall_mem_cons.mpr ⟨⟨t16,u16,v16⟩,(fun _ h=>nomatch h)⟩),fun s v=>.of_eq rfl,fun base kb9 _ bm9=>?_⟩
 have F1:=fun_mk (st:=s_law_draw) l1 c1 k1
 have C1 : Cal l.prog w K mg base 1 "_law_draw" [] (spDraw K):=F1.cal (ok_law_draw F1 B T  ) (PySem.W.mg_of X G a1) (fun _ _ _ _ _ _ us hl=>match us,hl with | [_,_],_=>rfl)
 have F2:=fun_mk (st:=s_law_cell) l2 c2 k2
 have C2 : Cal l.prog w K mg base 1 "_law_cell" [] (spCell K):=F2.cal (ok_law_cell F2 B T  ) (PySem.W.mg_of X G a2) (fun _ _ _ _ _ _ us hl=>match us,hl with | [_,_],_=>rfl)
 have F3:=fun_mk (st:=s_law_many) l3 c3 k3
 have C3 : Cal l.prog w K mg base 1 "_law_many" [] (spMany K):=F3.cal (ok_law_many F3 B T  ) (PySem.W.mg_of X G a3) (fun _ _ _ _ _ _ us hl=>match us,hl with | [_,_],_=>rfl)
 have F4:=fun_mk (st:=scheck_many) l4 c4 k4
 have C4 : CalE l.prog w K mg base 1 "check_many" [] (spCheckMany CBadMany):=F4.calE (okcheck_many F4 B T mBadMany xqBadMany ) (PySem.W.mg_of X G a4) (fun _ _ _ _ _ _ us hl=>match us,hl with | [_],_=>rfl)
 have F5:=fun_mk (st:=spicks) l5 c5 k5
 have C5 : Cal l.prog w K mg base 1 "picks" [] spPicks:=F5.cal (okpicks F5 B T  ) (PySem.W.mg_of X G a5) (fun _ _ _ _ _ _ us hl=>match us,hl with | [_,_],_=>rfl)
 have F6:=fun_mk (st:=sfillings) l6 c6 k6
 have C6 : Cal l.prog w K mg base 2 "fillings" [] (spFillings K):=F6.cal (okfillings F6 B T  C5) (PySem.W.mg_of X G a6) (fun _ _ _ _ _ _ us hl=>match us,hl with | [_,_],_=>rfl)
 have F7:=fun_mk (st:=sis_name) l7 c7 k7
 have C7 : Cal l.prog w K mg base 1 "is_name" [] (spIsName K):=F7.cal (okis_name F7 B T  ) (PySem.W.mg_of X G a7) (fun _ _ _ _ _ _ us hl=>match us,hl with | [_],_=>rfl)
 have F8:=fun_mk (st:=scheck_woods) l8 c8 k8
 have C8 : CalE l.prog w K mg base 2 "check_woods" [] (spCheckWoods K CBadTray):=F8.calE (okcheck_woods F8 B T mBadTray xqBadTray C7) (PySem.W.mg_of X G a8) (fun _ _ _ _ _ _ us hl=>match us,hl with | [_],_=>rfl)
 have F9:=fun_mk (st:=sTray___init__) l9 c9 k9
 have b9:=F9.binds (ps:=["self","woods"]) fun _ _ _ _ _ _ us hl=>match us,hl with | [_,_],_=>rfl
 have C9 : CalKE l.prog w K mg base CTray 3 "Tray" (spInit K CTray CBadTray):=⟨f9,_,_,okTray___init__ F9 B T clTray onTray_stock C8,⟨okTray,a9,i9,ocTray⟩,PySem.W.mg_of X G oaTray,b9⟩
 have F10:=fun_mk (st:=sTray_all_woods) l10 c10 k10
 have b10:=F10.binds (ps:=["self"]) fun _ _ _ _ _ _ us hl=>match us,hl with | [_],_=>rfl
 have C10 : CalM l.prog w K mg base CTray 1 "all_woods" (spAllWoods K CTray):=⟨f10,_,_,okTray_all_woods F10 B T clTray onTray_stock , ⟨a10,i10,k10⟩,b10⟩
 have F11:=fun_mk (st:=sTray_total) l11 c11 k11
 have b11:=F11.binds (ps:=["self"]) fun _ _ _ _ _ _ us hl=>match us,hl with | [_],_=>rfl
 have C11 : CalM l.prog w K mg base CTray 1 "total" (spTotal K CTray):=⟨f11,_,_,okTray_total F11 B T clTray onTray_stock , ⟨a11,i11,k11⟩,b11⟩
 have F12:=fun_mk (st:=scheck_enough) l12 c12 k12
 have C12 : CalE l.prog w K mg base 2 "check_enough" [] (spEnough K CTray CTooFew):=F12.calE (okcheck_enough F12 B T mTooFew xqTooFew clTray C11) (PySem.W.mg_of X G a12) (fun _ _ _ _ _ _ us hl=>match us,hl with | [_,_],_=>rfl)
 have F13:=fun_mk (st:=sorders_behind) l13 c13 k13
 have C13 : Cal l.prog w K mg base 3 "orders_behind" [] (spOB0 K CTray):=F13.cal (okorders_behind F13 B T clTray C10 C6) (PySem.W.mg_of X G a13) (fun _ _ _ _ _ _ us hl=>match us,hl with | [_,_,_],_=>rfl)
 have F14:=fun_mk (st:=sfalling_sizes) l14 c14 k14
 have R14 : ∀ dd : Nat,Cal l.prog w K mg base (1 + dd) "falling_sizes" [] (spFall K dd):=fun dd=>by
  induction dd with
  | zero=>exact F14.cal (ps:=["censers","largest"]) ⟨fun _ _ _ _ h=>absurd h.1 (by decide),fun _ _ _ _ _ _ _ _ _ _ _ _ _ h=>absurd h.1 (by decide)⟩ (PySem.W.mg_of X G a14) (fun _ _ _ _ _ _ us hl=>match us,hl with | [_,_],_=>rfl)
  | succ dd ih=>exact F14.cal (okfalling_sizes F14 B T  ih) (PySem.W.mg_of X G a14) (fun _ _ _ _ _ _ us hl=>match us,hl with | [_,_],_=>rfl)
 have C14:=R14 10
 have F15:=fun_mk (st:=sfirst_way) l15 c15 k15
 have C15 : Cal l.prog w K mg base 1 "first_way" [] (spFirstW K):=F15.cal (okfirst_way F15 B T  ) (PySem.W.mg_of X G a15) (fun _ _ _ _ _ _ us hl=>match us,hl with | [_],_=>rfl)
 have F16:=fun_mk (st:=slikeliest) l16 c16 k16
 have C16 : CalE l.prog w K mg base 14 "likeliest" [] (spLike K CTray CBadMany CTooFew PTlikeliest):=F16.calE (oklikeliest F16 rfl (PySem.W.codeHd_of_K kb9 t16) bm9 B T  C12 C4 C14 C15 C13) (PySem.W.mg_of X G a16) (fun _ _ _ _ _ _ us hl=>match us,hl with | [_,_],_=>rfl)
 have F17:=fun_mk (st:=s_law_num) l17 c17 k17
 have C17 : Cal l.prog w K mg base 1 "_law_num" [] spNum:=F17.cal (ok_law_num F17 B T  ) (PySem.W.mg_of X G a17) (fun _ _ _ _ _ _ us hl=>match us,hl with | [_],_=>rfl)
 have F18:=fun_mk (st:=s_law_row_ok) l18 c18 k18
 have C18 : Cal l.prog w K mg base 1 "_law_row_ok" [] (spRowOk K):=F18.cal (ok_law_row_ok F18 B T  ) (PySem.W.mg_of X G a18) (fun _ _ _ _ _ _ us hl=>match us,hl with | [_],_=>rfl)
 have F19:=fun_mk (st:=s_law_way_ok) l19 c19 k19
 have C19 : Cal l.prog w K mg base 2 "_law_way_ok" [] (spWayOkF K):=F19.cal (ok_law_way_ok F19 B T  C17 C18) (PySem.W.mg_of X G a19) (fun _ _ _ _ _ _ us hl=>match us,hl with | [_,_],_=>rfl)
 have F20:=fun_mk (st:=s_law_all) l20 c20 k20
 have C20 : Cal l.prog w K mg base 1 "_law_all" [] (spAllP K):=F20.cal (ok_law_all F20 B T  ) (PySem.W.mg_of X G a20) (fun _ _ _ _ _ _ us hl=>match us,hl with | [_],_=>rfl)
 have F21:=funD_mk (st:=s_law_split) (ds:=[Value.int 0 tk21]) l21 c21 k21 lT21 dT21
 have D21 : Cal l.prog w K mg base 1 "_law_split" [] spSplit:=⟨f21,_,_,[],ok_law_split F21 B T  , PySem.W.mg_of X G a21,k21,F21.binds (es:=[]) (fun _ _ _ _ _ _ _ us hl=>match us,(show us.length = 3 from by simpa using hl) with | [_,_,_],_=>⟨_,rfl,rfl⟩),.nil⟩
 have C21 : Cal l.prog w K mg base 1 "_law_split" [.int 0] spSplit:=⟨f21,_,_,[Value.int 0 tk21],ok_law_split F21 B T  , PySem.W.mg_of X G a21,k21,F21.binds (fun _ _ _ _ _ _ _ us hl=>match us,(show us.length = 2 from by simpa using hl) with | [_,_],_=>⟨_,rfl,rfl⟩),.cons ⟨_,rfl⟩ .nil⟩
 have F22:=fun_mk (st:=s_law_names) l22 c22 k22
 have C22 : Cal l.prog w K mg base 2 "_law_names" [] (spNames K):=F22.cal (ok_law_names F22 B T  C1) (PySem.W.mg_of X G a22) (fun _ _ _ _ _ _ us hl=>match us,hl with | [_,_],_=>rfl)
 have F23:=fun_mk (st:=s_law_woods) l23 c23 k23
 have C23 : Cal l.prog w K mg base 3 "_law_woods" [] (spLWoods K):=F23.cal (ok_law_woods F23 B T  C1 C22 C21) (PySem.W.mg_of X G a23) (fun _ _ _ _ _ _ us hl=>match us,hl with | [_],_=>rfl)
 have F24:=fun_mk (st:=s_law_assigned) l24 c24 k24
 have C24 : Cal l.prog w K mg base 1 "_law_assigned" [] (spAssigned0 K):=F24.cal (ok_law_assigned F24 B T  ) (PySem.W.mg_of X G a24) (fun _ _ _ _ _ _ us hl=>match us,hl with | [_,_,_],_=>rfl)
 have F25:=fun_mk (st:=s_law_draws) l25 c25 k25
 have C25 : Cal l.prog w K mg base 2 "_law_draws" [] (spDraws0 K):=F25.cal (ok_law_draws F25 B T  C24) (PySem.W.mg_of X G a25) (fun _ _ _ _ _ _ us hl=>match us,hl with | [_,_,_],_=>rfl)
 have F26:=fun_mk (st:=s_law_total) l26 c26 k26
 have C26 : Cal l.prog w K mg base 1 "_law_total" [] (spLTot K):=F26.cal (ok_law_total F26 B T  ) (PySem.W.mg_of X G a26) (fun _ _ _ _ _ _ us hl=>match us,hl with | [_],_=>rfl)
 have F27:=fun_mk (st:=s_law_rich_woods) l27 c27 k27
 have C27 : Cal l.prog w K mg base 5 "_law_rich_woods" [] (spRichN K):=F27.cal (ok_law_rich_woods F27 B T  C26 C23) (PySem.W.mg_of X G a27) (fun _ _ _ _ _ _ us hl=>match us,hl with | [_,_],_=>rfl)
 have F28:=fun_mk (st:=s_law_shapes) l28 c28 k28
 have C28 : Cal l.prog w K mg base 1 "_law_shapes" [] (spShapes K):=F28.cal (ok_law_shapes F28 B T  ) (PySem.W.mg_of X G a28) (fun _ _ _ _ _ _ us hl=>match us,hl with | [_],_=>rfl)
 have F29:=fun_mk (st:=s_law_first_of) l29 c29 k29
 have C29 : Cal l.prog w K mg base 1 "_law_first_of" [] (spFirstOf K):=F29.cal (ok_law_first_of F29 B T  ) (PySem.W.mg_of X G a29) (fun _ _ _ _ _ _ us hl=>match us,hl with | [_],_=>rfl)
 have F30:=fun_mk (st:=s_law_tried) l30 c30 k30
 have C30 : Cal l.prog w K mg base 15 "_law_tried" [] (spTriedL K CTray PTlikeliest):=F30.cal (ok_law_tried F30 B T mBadMany xqBadMany mTooFew xqTooFew xnTooFewBadMany C16) (PySem.W.mg_of X G a30) (fun _ _ _ _ _ _ us hl=>match us,hl with | [_,_],_=>rfl)
 have F31:=fun_mk (st:=slaw) l31 c31 k31
 exact oklaw F31 B T  D21 C9 C20 C2 C1 C25 C29 C3 C27 C28 C26 C30 C19 C23
theorem walk {l:PySem.W.OpenLaw} {q:Program} {loose:List Str} {XP:(Str->Option Value)->Heap->Prop} {YP:World->Heap->Prop} {d:DefRec} {K:Params->PySem.W.Frag} {ts:List Addr} (hn:l.most=some 63) (hdf:d.params.defaults=[])
  (hY : ∀ (w:World) (h:Heap),YP w h->(K w.params).In h /\ ∀ P ∈ ts,h.get? P=some (PySem.W.tabObj #[]))
  (F : ∀ (w:World) (mg:Str->Option Value) (fa:Addr) (h:Heap),(K w.params).In h->h.Ns mainGlobals mg->mg d.name=some (.ref fa) ->
   ∃ (fd : FuncData) (tabs : List (Addr × Addr)),(∀ q ∈ tabs,PySem.W.codeHdIn (K w.params) q.1 q.2 = true /\ q.2 ∈ ts /\ (K w.params).lookup q.2 = none) /\ (∀ (s : Shared) (u : Value),BindsTo s fd ⟨[u],[]⟩ [("_law_script",u)]) /\ ∀ base : Heap,(K w.params).In base -> base.Ns mainGlobals mg -> BmAt mg base -> FnOk l.prog w (K w.params) mg base CX0 16 fa fd ["_law_script"] (spLawT (K w.params) tabs)) :
  PySem.W.WalkO q loose XP YP l.row.toRowW d [] (fun f vs=>PySem.call f vs):=
 L2.walk_ofT (n:=63) (k:=16) (x:="_law_script") (CX:=fun _=>CX0) (sp:=fun w tabs=>spLawT (K w.params) tabs) hn (by decide) hdf ⟨rfl,by decide,by decide⟩ hY F (fun _ _ _ a ns hl hT hS=>⟨a,ns,rfl,hS,hl,hT,fun _=>rfl⟩) fun _ _ _ _ _ z=>z
end Lw
namespace PySem.W.Fast
def tw4951255337384113295:=0
def tw13391270658387555137:=0
def tw12465594099015824393:=0
def tw8973355584077812442:=0
def tw14139881395237309116:=0
def tw8975550372396540457:=0
def tw6746319428588821358:=0
def tw8696454525351446073:=0
def tw1880977472074486877:=0
def tw1547444757340905010:=0
def tw2279633885590034173:=0
def tw13693486146438653427:=0
def tw2781918427783066242:=0
def tw4880661965686900537:=0
def tw5008296841042239390:=0
def tw17751829615352042929:=0
def tw5466356822782656254:=0
def tw5437178075515367153:=0
def tw7134930060111999904:=0
def tw9605668275911770709:=0
def tw14214927329864601960:=0
def tw9202136370387698755:=0
def tw17379405244248177825:=0
def tw11777689592217409235:=0
def tw3791834522647741622:=0
def tw13193236322672814555:=0
def tw2750614639163789240:=0
def tw16785693504068944769:=0
def tw8865978383436734816:=0
def tw2949404316148060974:=0
def tw5258918533828362161:=0
def tw8371197720241442398:=0
def tw6272724368367087618:=0
def tw2867557427944203416:=0
def tw15869769085134414149:=0
def tw11006203422837773080:=0
def tw1583529092238739748:=0
def tw10539725450660344111:=0
def tw5065557868108204154:=0
def tw9564424221095155186:=0
def tw2557409678185890126:=0
def tw2898504569001980920:=0
def tw10235416840256117965:=0
def tw10859704621412012390:=0
def tw4546520237232342154:=0
def tw733362057153719166:=0
def tw17665578029302675245:=0
def tw6541874696885611868:=0
def tw13148300933278841423:=0
def tw18073228176063782545:=0
def tw1189167407277920586:=0
def tw7913914999204080765:=0
def tw16547937028859200428:=0
def tw481296599998802352:=0
def tw13105530637446980822:=0
def tw8582294281418148883:=0
def tw17060253848528903982:=0
def tw17308693248876873879:=0
def tw5616249870750975909:=0
def tw15915543178112427599:=0
def tw18306534840499501438:=0
def tw11012600819767167948:=0
def tw18072323604548393293:=0
def tw3371925574670148919:=0
def tw6694285869779751983:=0
def tw880024198520731146:=0
def tw16951472513288971930:=0
def tw16030295391541462006:=0
def tw14180961640364272091:=0
def tw7640262635612905644:=0
def tw16392403271736453813:=0
def tw14742195847990280403:=0
def tw6028716734499861384:=0
def tw11287183399090212893:=0
def tw2972614355266372127:=0
def tw11011406876835434670:=0
def tw4995737165303788332:=0
def tw1272643131051435487:=0
def tw1503726759076873664:=0
def tw4729423974540212729:=0
def tw2319974645732637221:=0
def tw14984961704830966040:=0
def tw11282553940923376408:=0
def tw1264479103992756376:=0
def tw11238825292631073008:=0
def tw13533373531192393189:=0
def tw5141040776698236266:=0
def tw6382865074950365893:=0
def tw14486056382849986291:=0
def tw3661102665923618957:=0
def tw1605532503097805026:=0
def tw14687765776183436513:=0
def tw5430179974045785544:=0
def tw6024301538080834970:=0
def tw13337777373868739209:=0
def tw3737904869937470040:=0
def tw5681512031920706246:=0
def tw1833070861342996106:=0
def tw4654928589300229068:=0
def tw17186425397160714436:=0
def tw5106530003710005848:=0
def tw8304242424621142839:=0
def tw7609965080229341823:=0
def tw7813421998456500749:=0
def tw8721243461245229350:=0
def tw3754782109650147555:=0
def tw14986543666710210285:=0
def tw1004341381560186215:=0
def tw921156915853311621:=0
def tw1303764766212555273:=0
def tw913138281030231816:=0
def tw185155387015528540:=0
def tw16599908490919849228:=0
def tw13688838966051452735:=0
def tw7624346291778012785:=0
def tw15350449916407749324:=0
def tw17783090901747203650:=0
def tw15019227266929755533:=0
def tw8749350190681518681:=0
def tw15770466859739064217:=0
def tw5708278502264386924:=0
def tw2043134811308341123:=0
def tw11268816813292513391:=0
def tw3641399939328537370:=0
def tw2766931730360186564:=0
def tw18437908002814315746:=0
def tw1229376628562117748:=0
def tw18339677284654381848:=0
def tw18278009903762295758:=0
def tw7786255087186123764:=0
def tw9389556572951784983:=0
def tw15303393112242027385:=0
def tw1395979316103957772:=0
def tw14410501499771331101:=0
def tw7399560764755409356:=0
def tw5988381582615182782:=0
def tw2915767002807945165:=0
def tw2880419283107712331:=0
def tw17611237801630727637:=0
def tw3871209395858503860:=0
def tw2339387405629150418:=0
def tw12948735763265736539:=0
def tw15224512554866220568:=0
def tw9278150334369277017:=0
def tw7226393626026615172:=0
def tw17482210741140221180:=0
def tw15617587268775265246:=0
def tw7873901468400375749:=0
def tw7842356749569748668:=0
def tw9579959332909593529:=0
def tw9380146863433193176:=0
def tw8861085105454603121:=0
def tw8821076601302739755:=0
def tw7748784955156673117:=0
def tw7651888697385470189:=0
def tw6961611726094839815:=0
def tw538588428723689889:=0
def tw5212796681352389091:=0
def tw5201993854269960381:=0
def tw5003297477958223660:=0
def tw4079652237135910958:=0
def tw3935790510548381026:=0
def tw3104666195963851590:=0
def tw2253204482204711966:=0
def tw1855646086858079846:=0
def tw17957869622534023789:=0
def tw17061439542649528661:=0
def tw17038326310678135999:=0
def tw16517490452966484244:=0
def tw15088917580605007827:=0
def tw14672889697001891314:=0
def tw13668161385500723921:=0
def tw13099075736786071709:=0
def tw12547946112617963770:=0
def tw11998308967207893438:=0
def tw11342204187275906845:=0
def tw10735993989912918597:=0
def tw8638694528731929508:=0
def tw197861384542520048:=0
def tw17211803621341651384:=0
def tw4723248257670442529:=0
def tw4191891549390989484:=0
def tw310603619559373317:=0
def tw16986110737779409606:=0
def tw1376147943757103338:=0
def tw13459720884946554870:=0
def tw2593134475702092239:=0
def tw7074515134370839904:=0
def tw17952982767486350397:=0
def tw14288371434441010990:=0
def tw10333064319236489236:=0
def tw6858528154954776587:=0
def tw18183713940370726127:=0
def tw878372961369395589:=0
def tw16187531604127181650:=0
def tw16195725481890286412:=0
def tw8364148275672554741:=0
def tw7797375627831811765:=0
def tw17673296420581646935:=0
def tw1752050036548073325:=0
def tw15579566661028282482:=0
def tw14964421323154271921:=0
def tw13787725936249400641:=0
def tw13573322065137689858:=0
def tw10416637461168517057:=0
def tw7173815463019552355:=0
def tw6712792973162888696:=0
def tw6323404869820639441:=0
def tw13329200109138262225:=0
def tw12287722589164921864:=0
def tw1210933181959169909:=0
def tw8004797932288395428:=0
def tw17736900574392184114:=0
def tw16218376233647160105:=0
def tw15677470196456565501:=0
def tw6014984329282067710:=0
def tw14420566810922203052:=0
def tw1209253827787220241:=0
def tw8274784961869224409:=0
def tw7214546939708774919:=0
def tw3405778073162911410:=0
def tw17259437821353647071:=0
def tw14970616111717423191:=0
def tw12695826123246557472:=0
def tw4685520343238543954:=0
def tw16955633143963317932:=0
def tw14552020170700201093:=0
def tw13213260619466765964:=0
def tw9039529853456527015:=0
def tw8797476917400453423:=0
def tw8556276033133948976:=0
def tw8472232407131058756:=0
def tw8318171823084082219:=0
def tw754725157963025483:=0
def tw7465327741467856718:=0
def tw7407088310007929531:=0
def tw7134475898008592388:=0
def tw7092860767471477179:=0
def tw7047688755804934101:=0
def tw6756906098317763140:=0
def tw6728395716592132565:=0
def tw5912525956844348625:=0
def tw5494268859084931206:=0
def tw4878471414685273650:=0
def tw4587669431219608349:=0
def tw4452162924806987447:=0
def tw4434139587550945157:=0
def tw4418641723500563442:=0
def tw4356346894740201079:=0
def tw4271870727461372497:=0
def tw4162762491588827641:=0
def tw4128420449834267466:=0
def tw3931517243458159958:=0
def tw3801387251944957697:=0
def tw369025975033458859:=0
def tw3330946219054405625:=0
def tw3056627779550158932:=0
def tw2444336412991961012:=0
def tw2229090040168683657:=0
def tw2217407808925557152:=0
def tw1958028918522527991:=0
def tw18336825030643861647:=0
def tw18306202257267859883:=0
def tw18250215442863589991:=0
def tw17581856664276113293:=0
def tw17517682114189684436:=0
def tw17310993556192112992:=0
def tw16845889996760991978:=0
def tw16840820240877134447:=0
def tw16367338846984174215:=0
def tw16317421217033642549:=0
def tw16193616704793992946:=0
def tw1590751150224910977:=0
def tw15629265289509408226:=0
def tw15579794430967919570:=0
def tw1556721238520327895:=0
def tw15300845373253424138:=0
def tw15098754627528464740:=0
def tw14821014797356793159:=0
def tw14662484797031278514:=0
def tw13973036307395572425:=0
def tw13972714249677269150:=0
def tw13791712108686257540:=0
def tw13056136657928650967:=0
def tw1286641532566969043:=0
def tw12505038287368499362:=0
def tw12312367683871971954:=0
def tw12010517872406240485:=0
def tw11825449358807872142:=0
def tw11770128972666289160:=0
def tw11500215509763614333:=0
def tw11280555298933955031:=0
def tw10820025871208661780:=0
def tw10752226740271460527:=0
def tw10726961738975454331:=0
def tw10601475049631538374:=0
def tw10539474936879865627:=0
end PySem.W.Fast
open PySem PySem.W PyProof.Rows
set_option maxRecDepth 100000 in
set_option maxHeartbeats 0 in
theorem PySem.Challenge.cw_censers_k33_whole_likeliest_ways_holds : PySem.Challenge.rw_censers_k33_whole_likeliest_ways.Holds := by
 w_on;o_law;k_head;(case hw=>w_witness2)
 k_fill
 refine Lw.walk (l:=PySem.Challenge.rw_censers_k33_whole_likeliest_ways) rfl rfl (fun w h Y=>⟨PySem.W.km_in_of Y,PySem.W.km_tabs_of Y⟩) ?F
 case F=>
  intro w mg fa h KX G hmg
  refine' Lw.all_mk KX G hmg ?a1 ?l1 ?c1 ?k1 ?a2 ?l2 ?c2 ?k2 ?a3 ?l3 ?c3 ?k3 ?a4 ?l4 ?c4 ?k4 ?a5 ?l5 ?c5 ?k5 ?a6 ?l6 ?c6 ?k6 ?a7 ?l7 ?c7 ?k7 ?a8 ?l8 ?c8 ?k8 ?a9 ?i9 ?l9 ?c9 ?k9 ?a10 ?i10 ?l10 ?c10 ?k10 ?a11 ?i11 ?l11 ?c11 ?k11 ?a12 ?l12 ?c12 ?k12 ?a13 ?l13 ?c13 ?k13 ?a14 ?l14 ?c14 ?k14 ?a15 ?l15 ?c15 ?k15 ?a16 ?l16 ?c16 ?k16 ?u16 ?t16 ?v16 ?a17 ?l17 ?c17 ?k17 ?a18 ?l18 ?c18 ?k18 ?a19 ?l19 ?c19 ?k19 ?a20 ?l20 ?c20 ?k20 ?a21 ?l21 ?c21 ?k21 ?lT21 ?dT21 ?a22 ?l22 ?c22 ?k22 ?a23 ?l23 ?c23 ?k23 ?a24 ?l24 ?c24 ?k24 ?a25 ?l25 ?c25 ?k25 ?a26 ?l26 ?c26 ?k26 ?a27 ?l27 ?c27 ?k27 ?a28 ?l28 ?c28 ?k28 ?a29 ?l29 ?c29 ?k29 ?a30 ?l30 ?c30 ?k30 ?a31 ?l31 ?c31 ?k31 ?z0 ?z1 ?z2 ?z3 ?z4 ?z5 ?z6 ?z7 ?z8 ?z9 ?z10 ?z11 ?z12 ?z13 ?z14 ?mc0 ?mc1 ?mc2 ?mc3 ?xmBadTray ?xqBadTray ?xmNoWood ?xqNoWood ?xmBadMany ?xqBadMany ?xmBadWay ?xqBadWay ?xmTooFew ?xqTooFew ?xnTooFewBadMany ?oaTray ?opTray ?ohTray ?ooTray ?osTray ?okTray ?ocTray ?onTray_stock
  (case oaTray=>k_is)
  (case a1=>k_is)
  (case l1=>k_is)
  (case c1=>k_is)
  (case k1=>k_is)
  (case a2=>k_is)
  (case l2=>k_is)
  (case c2=>k_is)
  (case k2=>k_is)
  (case a3=>k_is)
  (case l3=>k_is)
  (case c3=>k_is)
  (case k3=>k_is)
  (case a4=>k_is)
  (case l4=>k_is)
  (case c4=>k_is)
  (case k4=>k_is)
  (case a5=>k_is)
  (case l5=>k_is)
  (case c5=>k_is)
  (case k5=>k_is)
  (case a6=>k_is)
  (case l6=>k_is)
  (case c6=>k_is)
  (case k6=>k_is)
  (case a7=>k_is)
  (case l7=>k_is)
  (case c7=>k_is)
  (case k7=>k_is)
  (case a8=>k_is)
  (case l8=>k_is)
  (case c8=>k_is)
  (case k8=>k_is)
  (case a9=>k_is)
  (case i9=>k_is)
  (case l9=>k_is)
  (case c9=>k_is)
  (case k9=>k_is)
  (case a10=>k_is)
  (case i10=>k_is)
  (case l10=>k_is)
  (case c10=>k_is)
  (case k10=>k_is)
  (case a11=>k_is)
  (case i11=>k_is)
  (case l11=>k_is)
  (case c11=>k_is)
  (case k11=>k_is)
  (case a12=>k_is)
  (case l12=>k_is)
  (case c12=>k_is)
  (case k12=>k_is)
  (case a13=>k_is)
  (case l13=>k_is)
  (case c13=>k_is)
  (case k13=>k_is)
  (case a14=>k_is)
  (case l14=>k_is)
  (case c14=>k_is)
  (case k14=>k_is)
  (case a15=>k_is)
  (case l15=>k_is)
  (case c15=>k_is)
  (case k15=>k_is)
  (case a16=>k_is)
  (case l16=>k_is)
  (case c16=>k_is)
  (case k16=>k_is)
  (case u16=>first | exact .head _ | exact .tail _ (.head _))
  (case t16=>kernel_rfl)
  (case v16=>kernel_rfl)
  (case a17=>k_is)
  (case l17=>k_is)
  (case c17=>k_is)
  (case k17=>k_is)
  (case a18=>k_is)
  (case l18=>k_is)
  (case c18=>k_is)
  (case k18=>k_is)
  (case a19=>k_is)
  (case l19=>k_is)
  (case c19=>k_is)
  (case k19=>k_is)
  (case a20=>k_is)
  (case l20=>k_is)
  (case c20=>k_is)
  (case k20=>k_is)
  (case a21=>k_is)
  (case l21=>k_is)
  (case c21=>k_is)
  (case k21=>k_is)
  (case lT21=>k_is)
  (case dT21=>rfl)
  (case a22=>k_is)
  (case l22=>k_is)
  (case c22=>k_is)
  (case k22=>k_is)
  (case a23=>k_is)
  (case l23=>k_is)
  (case c23=>k_is)
  (case k23=>k_is)
  (case a24=>k_is)
  (case l24=>k_is)
  (case c24=>k_is)
  (case k24=>k_is)
  (case a25=>k_is)
  (case l25=>k_is)
  (case c25=>k_is)
  (case k25=>k_is)
  (case a26=>k_is)
  (case l26=>k_is)
  (case c26=>k_is)
  (case k26=>k_is)
  (case a27=>k_is)
  (case l27=>k_is)
  (case c27=>k_is)
  (case k27=>k_is)
  (case a28=>k_is)
  (case l28=>k_is)
  (case c28=>k_is)
  (case k28=>k_is)
  (case a29=>k_is)
  (case l29=>k_is)
  (case c29=>k_is)
  (case k29=>k_is)
  (case a30=>k_is)
  (case l30=>k_is)
  (case c30=>k_is)
  (case k30=>k_is)
  (case a31=>k_is)
  (case l31=>k_is)
  (case c31=>k_is)
  (case k31=>k_is)
  (case z0=>k_is)
  (case z1=>k_is)
  (case z2=>k_is)
  (case z3=>k_is)
  (case z4=>k_is)
  (case z5=>k_is)
  (case z6=>k_is)
  (case z7=>k_is)
  (case z8=>k_is)
  (case z9=>k_is)
  (case z10=>k_is)
  (case z11=>k_is)
  (case z12=>k_is)
  (case z13=>k_is)
  (case z14=>k_is)
  (case mc0=>k_is)
  (case mc1=>k_is)
  (case mc2=>k_is)
  (case mc3=>k_is)
  (case xmBadTray=>k_is)
  (case xqBadTray=>k_exc)
  (case xmNoWood=>k_is)
  (case xqNoWood=>k_exc)
  (case xmBadMany=>k_is)
  (case xqBadMany=>k_exc)
  (case xmBadWay=>k_is)
  (case xqBadWay=>k_exc)
  (case xmTooFew=>k_is)
  (case xqTooFew=>k_exc)
  (case xnTooFewBadMany=>first | k_is | rfl)
  (case opTray=>k_is)
  (case ohTray=>k_is)
  (case ooTray=>k_is)
  (case osTray=>k_is)
  (case okTray=>k_is)
  (case ocTray=>k_is)
  (case onTray_stock=>k_is)
