import PyProof.Rows.All
import Wide.All
import OpenK.AllK
import Wide.FinOn
import Lean
import PyProof.EqAt
import PyProof.EqKinds
import PyProof.TupleCall
import KE.KSortTup
import KE.KRevSl
import KE.KDictSum
import PyProof.NeKinds
import PyProof.Rows.Range3
import PyProof.Rows.SetFrom
import PyProof.Rows.StrItems
import PyProof.StrWalks
import PyProof.EnumMake
import PyProof.FString5
import PyProof.Conv_int_bool
import PyProof.DictStraight
import PyProof.StrLawsIn
import PyProof.Rows.RuleN_abs
import PyProof.Rows.CallKwBuiltin
import PyProof.MinMaxWalk
import PyProof.IsiH_list
import PyProof.AttrMiss
import KE.KDictOf
import PyProof.DictList
import PyProof.TupleIter
import PyProof.Rows.CountFlat
import PyProof.Rows.RuleB_mul
import PyProof.CompFree
import PyProof.DictItemsLoops
import KE.KSortKey
import KE.KDictList
import PyProof.SetRoads
import PyProof.DictWalks
import PyProof.DictCompW
import KE.KTab
import PySem.Challenge.RW_censers_k36_sayings_refused
set_option Elab.async false
set_option linter.all false
set_option maxRecDepth 100000
namespace L2
open PySem PySem.Spec PyProof.Rows
abbrev Key:=Sum Int Str
def K5:Key->Value->Bool
 | .inl k,v=>Value.isInt k v
 | .inr x,v=>Value.isStrOf x v
def Si (w:World):Key->Int
 | .inl k=>hashInt k
 | .inr x=>hashStr w x
theorem A6 : ∀ {k:Key} {v:Value},K5 k v=true->(∃ i t,k=Sum.inl i/\v=Value.int i t)\/(∃ x t,k=Sum.inr x/\v=Value.str x t)
 | .inl i,v,h=>by
  obtain ⟨t,e⟩:=Value.isInt_shape (k:=i) (v:=v) h
  exact .inl ⟨i,t,rfl,e⟩
 | .inr x,v,h=>by
  obtain ⟨t,e⟩:=Value.isStrOf_shape (x:=x) (v:=v) h
  exact .inr ⟨x,t,rfl,e⟩
theorem Mg (i:Int) (t:Tok):K5 (.inl i) (.int i t)=true:=by simp [K5,Value.isInt]
theorem MW (x:Str) (t:Tok):K5 (.inr x) (.str x t)=true:=by simp [K5,Value.isStrOf]
theorem Q9 (a b:Int):decide ((Sum.inl a:Key)=Sum.inl b)=(a==b):= by
 by_cases e:a=b
 ·subst e;simp
 ·have h : ¬ (Sum.inl a:Key)=Sum.inl b:=fun q=>e (Sum.inl.inj q)
  rw[decide_eq_false h]
  exact (beq_eq_false_iff_ne.mpr e).symm
theorem Qk (a b:Str):decide ((Sum.inr a:Key)=Sum.inr b)=decide (a=b):= by
 by_cases e:a=b
 ·subst e;simp
 ·have h : ¬ (Sum.inr a:Key)=Sum.inr b:=fun q=>e (Sum.inr.inj q)
  rw[decide_eq_false h,decide_eq_false e]
theorem QA (a:Int) (b:Str):decide ((Sum.inl a:Key)=Sum.inr b)=false:=decide_eq_false (fun q=>nomatch q)
theorem Qi (a:Str) (b:Int):decide ((Sum.inr a:Key)=Sum.inl b)=false:=decide_eq_false (fun q=>nomatch q)
def Bb (prog:Program) (w:World):PySem.KeyKind prog w Key where
 is:=K5
 hash:=Si w
 inj:=fun v a b ha hb=>by
  rcases A6 ha with ⟨i,t,rfl,rfl⟩ | ⟨x,t,rfl,rfl⟩
  ·rcases A6 hb with ⟨j,u,rfl,e⟩ | ⟨y,u,rfl,e⟩
   ·injection e with e1 _;rw[e1]
   ·exact nomatch e
  ·rcases A6 hb with ⟨j,u,rfl,e⟩ | ⟨y,u,rfl,e⟩
   ·exact nomatch e
   ·injection e with e1 _;rw[e1]
 byValue:=fun k v h=>by
  rcases A6 h with ⟨i,t,rfl,rfl⟩ | ⟨x,t,rfl,rfl⟩ <;> rfl
 pyHash:=fun hv h=>by
  rcases A6 hv with ⟨i,t,rfl,rfl⟩ | ⟨x,t,rfl,rfl⟩
  ·exact wpAny_pyHash_int h
  ·exact wpAny_pyHash_str h
 eqBool:=fun hu hv h=>by
  rcases A6 hu with ⟨i,t,rfl,rfl⟩ | ⟨x,t,rfl,rfl⟩
  ·rcases A6 hv with ⟨j,u,rfl,rfl⟩ | ⟨y,u,rfl,rfl⟩
   ·rw[Q9] at h;exact wpAny_eqBool_int h
   ·rw[QA] at h;exact SeqAt.EqAt.int_str i t y u _ _ _ _ h
  ·rcases A6 hv with ⟨j,u,rfl,rfl⟩ | ⟨y,u,rfl,rfl⟩
   ·rw[Qi] at h;exact SeqAt.EqAt.str_int x t j u _ _ _ _ h
   ·rw[Qk] at h;exact wpAny_eqBool_str h
 «strs»:=fun k x t v h=>by
  rcases A6 h with ⟨i,u,rfl,e⟩ | ⟨y,u,rfl,e⟩
  ·exact nomatch e
  ·injection e with e1 _
   subst e1
   cases v <;> rfl
theorem Jb (prog:Program) (w:World) (i:Int) (t:Tok):(Bb prog w).is (.inl i) (.int i t)=true:=Mg i t
theorem Js (prog:Program) (w:World) (x:Str) (t:Tok):(Bb prog w).is (.inr x) (.str x t)=true:=MW x t
end L2
namespace L2
open PySem PySem.Spec PyProof.Rows
inductive V where
 | non | bl (b:Bool) | int (i:Int) | str (x:Str) | byt (b:Array UInt8) | flt (b:UInt64) | ref (a:Addr) | ty (n:String)
 deriving DecidableEq
def Be:V->Value->Prop
 | .non,u=>u=Value.none
 | .bl b,u=>u=Value.bool b
 | .int i,u=>∃ t,u=Value.int i t
 | .str x,u=>∃ t,u=Value.str x t
 | .byt b,u=>∃ t,u=Value.bytes b t
 | .flt b,u=>∃ t,u=Value.float b t
 | .ref a,u=>u=Value.ref a
 | .ty n,u=>u=Value.type n
abbrev Bf:List V->List Value->Prop:=Paired Be
theorem Bf.length {xs:List V} {us:List Value} (r:Bf xs us):xs.length=us.length:=Paired.length r
theorem Bf.get : ∀ {xs:List V} {us:List Value} {i:Nat} {x:V},Bf xs us->xs[i]?=some x -> ∃ u,us[i]?=some u/\Be x u
 | _,_,_,_,.nil,e=>by simp at e
 | _,_,0,_,.cons r _,e=>by simp at e;subst e;exact ⟨_,rfl,r⟩
 | _,_,i+1,x,.cons _ t,e=>by
  obtain ⟨u,h1,h2⟩:=Bf.get (i:=i) (x:=x) t (by simpa using e)
  exact ⟨u,by simpa using h1,h2⟩
theorem Bf.append : ∀ {xs ys:List V} {us ws:List Value},Bf xs us->Bf ys ws->Bf (xs++ys) (us++ws)
 | _,_,_,_,.nil,s=>s
 | _,_,_,_,.cons r t,s=>.cons r (Bf.append t s)
theorem Bf.take : ∀ {xs:List V} {us:List Value} (n:Nat),Bf xs us->Bf (xs.take n) (us.take n)
 | _,_,0,_=>.nil
 | _,_,_+1,.nil=>.nil
 | _,_,n+1,.cons r t=>.cons r (Bf.take n t)
theorem Bf.drop : ∀ {xs:List V} {us:List Value} (n:Nat),Bf xs us->Bf (xs.drop n) (us.drop n)
 | _,_,0,r=>r
 | _,_,_+1,.nil=>.nil
 | _,_,n+1,.cons _ t=>Bf.drop n t
def IK:Option V->Option Value->Prop
 | some v,some u=>Be v u
 | none,none=>True
 | _,_=>False
def KV {κ:Type}:List (κ × V)->List (κ × Value)->Prop:=Paired fun (p:κ × V) (q:κ × Value)=>p.1=q.1/\Be p.2 q.2
def kV:Key->V
 | .inl i=>.int i
 | .inr x=>.str x
inductive HO where
 | lst (xs:List V)
 | tup (xs:List V)
 | dK (kvs:List (Key × V)) | dT (kvs:List (List Key × V))
 | set (S:Int->Bool) (n:Nat)
 | ins (C dx:Addr) (fs:List (Str × V))
 | own (x:Addr)
 | xd (fs:List (Str × V))
 | met (f x:Addr)
 | rng (lo hi:Int)
 | frz (o:Obj) (u:HO)
 | tbl (ps:Array Value)
 | ext (φ:Heap->Prop)
abbrev Hp:=Addr->Option HO
def upd (H:Hp) (a:Addr) (o:HO):Hp:=fun b=>if b=a then some o else H b
theorem Ab {H:Hp} {a:Addr} {o:HO}:upd H a o a=some o:=by unfold upd;rw[if_pos rfl]
theorem Af {H:Hp} {a b:Addr} {o:HO} (h:b≠a):upd H a o b=H b:=by unfold upd;rw[if_neg h]
theorem PU {H:Hp} {a:Addr} {o u:HO}:upd (upd H a o) a u=upd H a u:= by
 funext b;unfold upd;split <;> rfl
theorem Cv {H:Hp} {a b:Addr} {o u:HO} (h:H a=some o) (h':H b=some u) (d:o≠u):a≠b:= by
 intro e;subst e;rw[h] at h';exact d (Option.some.inj h')
theorem Aj {H:Hp} {a b:Addr} {o:HO} (h:H a=some o) (h':H b=none):a≠b:= by
 intro e;subst e;rw[h] at h';cases h'
section
variable (P:Program) (w:World)
def A8 (H:Hp) (h:Heap) (a:Addr):HO->Prop
 | .lst xs=>xs.length <= sizeLine /\ ∃ (its : List Value) (n : Nat),Bf xs its /\ h.get? a = some { cls:=.type "list",data:=.seq its.toArray n }
 | .tup xs=>xs.length<=sizeLine /\ ∃ its:List Value,Bf xs its/\IsTup h a its.toArray
 | .dK kvs=>kvs.length<=sizeLine/\(a==sysModules)=false /\ ∃ vs,KV kvs vs/\h.DictOf (Bb P w) a vs
 | .dT kvs=>kvs.length<=sizeLine/\(a==sysModules)=false /\ ∃ xs:List (List Key × Addr × Value),
   Paired (fun (p:List Key × V) (q:List Key × Addr × Value)=>p.1=q.1/\H q.2.1=some (.tup (p.1.map kV))/\Be p.2 q.2.2) kvs xs /\
   ∃ o es ep,h.get? a=some o/\o.ExactDict/\o.data = .dict es ep/\es.toList=xs.map (entryOfKey (tupleKind (Bb P w)))/\(xs.map (·.1)).Nodup
 | .set S n=>h.SetOf (intKind P w) a S n
 | .ins C dx fs=>H dx=some (.own a)/\fs.length<=1000/\dx≠a/\h.get? a=some (PySem.W.instObj C dx) /\
   ∃ mA,h.Ns1 dx mA/\(∀ f,IK (fs.lookup f) (mA f))/\PySem.Within mA (fs.map (·.1))
 | .own _=>∃ o,h.get? a=some o
 | .xd fs=>∃ mA,h.Ns1 a mA /\ ∀ f,IK (fs.lookup f) (mA f)
 | .rng lo hi=>∃ t u v,h.get? a = some { cls:=.type "range",data:=.fields #[.int lo t,.int hi u,.int 1 v] }
 | .frz o u=>h.get? a=some o/\A8 H h a u
 | .tbl ps=>h.get? a=some { cls:=.none,data:=.fields ps }
 | .met f x=>h.get? a=some (PySem.W.methodObj (.ref f) (.ref x))
 | .ext φ=>φ h/\(∃ o,h.get? a=some o) /\ ∀ h1 h2:Heap,φ h1->(∀ o,h1.get? a=some o->h2.get? a=some o)->φ h2
def HOk (H:Hp) (h:Heap):Prop:=∀ a o,H a=some o->A8 P w H h a o
end
section
variable {P:Program} {w:World} {H H':Hp} {h h':Heap} {a:Addr} {o:HO}
theorem A8.lt (x:A8 P w H h a o):a<h.objs.size:= by
 cases o with
 | lst xs=>obtain ⟨_,_,_,_,e⟩:=x;exact Heap.lt_size e
 | tup xs=>obtain ⟨_,_,_,p⟩:=x;exact p.lt
 | dK kvs=>obtain ⟨_,_,_,_,o,_,_,e,_⟩:=x;exact Heap.lt_size e
 | dT kvs=>obtain ⟨_,_,_,_,o,_,_,e,_⟩:=x;exact Heap.lt_size e
 | set S n=>obtain ⟨o,_,_,_,e,_⟩:=x;exact Heap.lt_size e
 | ins C dx fs=>obtain ⟨_,_,_,e,_⟩:=x;exact Heap.lt_size e
 | own y=>obtain ⟨_,e⟩:=x;exact Heap.lt_size e
 | xd fs=>obtain ⟨_,⟨_,_,_,e,_⟩,_⟩:=x;exact Heap.lt_size e
 | rng lo hi=>obtain ⟨_,_,_,e⟩:=x;exact Heap.lt_size e
 | frz ob u=>obtain ⟨e,_⟩:=x;exact Heap.lt_size e
 | tbl ps=>exact Heap.lt_size (show h.get? a=some _ from x)
 | met f y=>exact Heap.lt_size (show h.get? a=some _ from x)
 | ext φ=>obtain ⟨_,⟨_,e⟩,_⟩:=x;exact Heap.lt_size e
theorem Paired.mapP {α β:Type} {F G:α->β->Prop} : ∀ {l₁:List α} {l₂:List β},Paired F l₁ l₂->(∀ a b,F a b->G a b)->Paired G l₁ l₂
 | _,_,.nil,_=>.nil
 | _,_,.cons r t,f=>.cons (f _ _ r) (Paired.mapP t f)
theorem A8.stay (x:A8 P w H h a o) (k : ∀ b u,(b=a\/H b=some (.own a))->h.get? b=some u->h'.get? b=some u)
  (ho : ∀ b,H b=some (.own a)->H' b=some (.own a)) (ht : ∀ b xs,H b=some (.tup xs)->H' b=some (.tup xs)):A8 P w H' h' a o:= by
 induction o with
 | lst xs=>obtain ⟨z,its,n,r,e⟩:=x;exact ⟨z,its,n,r,k _ _ (.inl rfl) e⟩
 | tup xs=>obtain ⟨z,its,r,ob,e,c⟩:=x;exact ⟨z,its,r,ob,k _ _ (.inl rfl) e,c⟩
 | dK kvs=>obtain ⟨z,y,vs,r,ob,es,ep,e,c⟩:=x;exact ⟨z,y,vs,r,ob,es,ep,k _ _ (.inl rfl) e,c⟩
 | dT kvs=>
  obtain ⟨z,y,xs,r,ob,es,ep,e,c⟩:=x
  exact ⟨z,y,xs,Paired.mapP r fun p q z=>⟨z.1,ht _ _ z.2.1,z.2.2⟩,ob,es,ep,k _ _ (.inl rfl) e,c⟩
 | set S n=>obtain ⟨ob,es,ep,t,e,c⟩:=x;exact ⟨ob,es,ep,t,k _ _ (.inl rfl) e,c⟩
 | ins C dx fs=>
  obtain ⟨d,z,ne,e,mA,⟨od,es,ep,e2,c⟩,r⟩:=x
  exact ⟨ho _ d,z,ne,k _ _ (.inl rfl) e,mA,⟨od,es,ep,k _ _ (.inr d) e2,c⟩,r⟩
 | own y=>obtain ⟨ob,e⟩:=x;exact ⟨ob,k _ _ (.inl rfl) e⟩
 | xd fs=>obtain ⟨mA,⟨od,es,ep,e,c⟩,r⟩:=x;exact ⟨mA,⟨od,es,ep,k _ _ (.inl rfl) e,c⟩,r⟩
 | rng lo hi=>obtain ⟨t,u,v,e⟩:=x;exact ⟨t,u,v,k _ _ (.inl rfl) e⟩
 | frz ob u ih=>obtain ⟨e,q⟩:=x;exact ⟨k _ _ (.inl rfl) e,ih q⟩
 | tbl ps=>
  have e:h.get? a=some { cls:=.none,data:=.fields ps }:=x
  show h'.get? a=some { cls:=.none,data:=.fields ps }
  exact k a _ (.inl rfl) e
 | met f y=>
  have e:h.get? a=some (PySem.W.methodObj (.ref f) (.ref y)):=x
  show h'.get? a=some (PySem.W.methodObj (.ref f) (.ref y))
  exact k a _ (.inl rfl) e
 | ext φ=>obtain ⟨p,⟨o,e⟩,st⟩:=x;exact ⟨st _ _ p fun o q=>k _ _ (.inl rfl) q,⟨o,k _ _ (.inl rfl) e⟩,st⟩
theorem HOk.lt (x:HOk P w H h) (e:H a=some o):a<h.objs.size:=(x a o e).lt
theorem HOk.fresh (x:HOk P w H h) (e:h.objs.size<=a):H a=none:= by
 cases q:H a with
 | none=>rfl
 | some u=>exact absurd (Nat.lt_of_lt_of_le (x.lt q) e) (Nat.lt_irrefl _)
theorem HOk.kept (x:HOk P w H h) (k : ∀ b u,h.get? b=some u->h'.get? b=some u):HOk P w H h':=fun a o e=>
 (x a o e).stay (fun b u _ q=>k b u q) (fun _ q=>q) fun _ _ q=>q
theorem HOk.laid (x:HOk P w H h) (k : ∀ b u,h.get? b=some u->h'.get? b=some u) (hp:h.objs.size<=a) (new:A8 P w (upd H a o) h' a o):HOk P w (upd H a o) h':=fun b u e=>by
 have hn:=x.fresh hp
 by_cases hb:b=a
 ·subst hb;rw[Ab] at e;cases e;exact new
 ·rw[Af hb] at e
  exact (x b u e).stay (fun c v _ q=>k c v q) (fun c q=>by rw[Af (Aj q hn)];exact q) fun c xs q=>by rw[Af (Aj q hn)];exact q
end
def Rd (H:Hp) (a:Addr) (u:HO):Prop:=H a=some u \/ ∃ o,H a=some (.frz o u)
theorem Rd.ok {P:Program} {w:World} {H:Hp} {h:Heap} {a:Addr} {u:HO} (r:Rd H a u) (x:HOk P w H h):A8 P w H h a u:= by
 rcases r with r | ⟨o,r⟩
 ·exact x a u r
 ·obtain ⟨_,q⟩:=x a _ r
  exact q
def Mut:Option HO->Prop
 | some (.lst _)=>True
 | some (.dK _)=>True
 | some (.dT _)=>True
 | some (.set _ _)=>True
 | some (.ins _ _ _)=>True
 | some (.ext _)=>True
 | _=>False
section
variable {P:Program} {w:World} {H:Hp} {h h':Heap} {x e:Addr} {o':HO}
theorem HOk.write (ok:HOk P w H h) (mu:Mut (H x)) (he:e=x\/H e=some (.own x)) (k : ∀ b u,b≠e->h.get? b=some u->h'.get? b=some u) (heo : ∃ u,h'.get? e=some u)
  (new:A8 P w (upd H x o') h' x o'):HOk P w (upd H x o') h':=fun b u q=>by
 have nown : ∀ c y,H c=some (.own y)->c≠x:=fun c y r z=>by subst z;rw[r] at mu;exact mu
 have ntup : ∀ c xs,H c=some (.tup xs)->c≠x:=fun c xs r z=>by subst z;rw[r] at mu;exact mu
 by_cases hb:b=x
 ·subst hb;rw[Ab] at q;cases q;exact new
 ·rw[Af hb] at q
  by_cases hbe:b=e
  ·have q':H b=some (.own x):= by
    rcases he with z | z
    ·exact absurd (hbe.trans z) hb
    ·rw[hbe];exact z
   rw[q] at q';cases q'
   obtain ⟨v,hv⟩:=heo
   exact ⟨v,by rw[hbe];exact hv⟩
  ·refine (ok b u q).stay (fun c v hc r=>k c v ?_ r) (fun c r=>by rw[Af (nown c b r)];exact r) fun c xs r=>by rw[Af (ntup c xs r)];exact r
   rcases hc with rfl | hc
   ·exact hbe
   ·rintro rfl
    rcases he with z | z
    ·exact nown c b hc z
    ·rw[hc] at z;cases z;exact hb rfl
end
structure Un (fs ex:List Addr) (H H':Hp) (h h':Heap):Prop where
 keep : ∀ b o,h.get? b=some o->H b=none->b ∉ fs->b ∉ ex->h'.get? b=some o
 slot : ∀ b o,h.get? b=some o->H b=none->b ∈ fs->b ∉ ex -> ∃ sl,h'.get? b=some { o with slots:=sl }
 free : ∀ b o,h.get? b=some o->H b=none->b ∉ ex->H' b=none
 there : ∀ b o,h.get? b=some o->b ∉ ex -> ∃ o',h'.get? b=some o'
 tups : ∀ b xs,H b=some (.tup xs)->H' b=some (.tup xs)
 frzs : ∀ b o u,H b=some (.frz o u)->H' b=some (.frz o u)
 tbls : ∀ b ps,H b=some (.tbl ps) -> ∃ more,H' b=some (.tbl (ps++more))
section
variable {fs fs' ex ex':List Addr} {H H1 H2:Hp} {h h1 h2 h':Heap} {a x e:Addr} {o:HO}
theorem Un.any (u:Un fs ex H H1 h h1) {b:Addr} {ob:Obj} (q:h.get? b=some ob) (n:H b=none) (hx:b ∉ ex) : ∃ sl,h1.get? b=some { ob with slots:=sl }:= by
 by_cases hb:b ∈ fs
 ·exact u.slot b ob q n hb hx
 ·exact ⟨ob.slots,u.keep b ob q n hb hx⟩
theorem Un.kept (k : ∀ b u,h.get? b=some u->h'.get? b=some u):Un fs ex H H h h':=
 ⟨fun b ob q _ _ _=>k b ob q,fun b ob q _ _ _=>⟨ob.slots,k b ob q⟩,fun _ _ _ n _=>n,fun b ob q _=>⟨ob,k b ob q⟩,fun _ _ q=>q,fun _ _ _ q=>q,fun _ ps q=>⟨#[],by rw[q];simp⟩⟩
theorem Un.refl:Un fs ex H H h h:=Un.kept fun _ _ q=>q
theorem Un.laid (k : ∀ b u,h.get? b=some u->h'.get? b=some u) (hp:h.objs.size<=a) (hn:H a=none):Un fs ex H (upd H a o) h h' where
 keep:=fun b u q _ _ _=>k b u q
 slot:=fun b u q _ _ _=>⟨u.slots,k b u q⟩
 free:=fun b u q n _=>by rw[Af (Nat.ne_of_lt (Nat.lt_of_lt_of_le (Heap.lt_size q) hp))];exact n
 there:=fun b u q _=>⟨u,k b u q⟩
 tups:=fun b xs q=>by rw[Af (Aj q hn)];exact q
 frzs:=fun b u xs q=>by rw[Af (Aj q hn)];exact q
 tbls:=fun b ps q=>⟨#[],by rw[Af (Aj q hn),q];simp⟩
theorem Un.write (mu:Mut (H x)) (he:e=x\/H e=some (.own x)) (k : ∀ b u,b≠e->h.get? b=some u->h'.get? b=some u) (heo : ∃ u,h'.get? e=some u):Un fs ex H (upd H x o) h h':= by
 have hx : ∀ b,H b=none->b≠x:=fun b n z=>by subst z;rw[n] at mu;exact mu
 have hb : ∀ b,H b=none->b≠e:=fun b n z=>by
  subst z
  rcases he with r | r
  ·exact hx b n r
  ·rw[n] at r;cases r
 have hm : ∀ b u,H b=some u -> ¬ Mut (some u)->b≠x:=fun b u q nm z=>by subst z;rw[q] at mu;exact nm mu
 refine ⟨fun b u q n _ _=>k b u (hb b n) q,fun b u q n _ _=>⟨u.slots,k b u (hb b n) q⟩,fun b u q n _=>by rw[Af (hx b n)];exact n,fun b u q _=>?_,
  fun b xs q=>by rw[Af (hm b _ q fun z=>z)];exact q,fun b u xs q=>by rw[Af (hm b _ q fun z=>z)];exact q,fun b ps q=>⟨#[],by rw[Af (hm b _ q fun z=>z),q];simp⟩⟩
 by_cases hbe:b=e
 ·subst hbe;exact heo
 ·exact ⟨u,k b u hbe q⟩
end
def trk (h:Heap) (H:Hp):List Addr:=(List.range h.objs.size).filter fun a=>(H a).isSome
def M5 (h:Heap) (H:Hp):Heap:=PySem.W.hideAll h (trk h H)
theorem MH (h:Heap) (H:Hp):(M5 h H).objs.size=h.objs.size:=PySem.W.hideAll_size _ _
theorem M9 {h:Heap} {H:Hp} {b:Addr} {o:Obj} (e:h.get? b=some o) (n:H b=none):(M5 h H).get? b=some o:=
 PySem.W.hideAll_get _ e fun hm=>by
  have q:(H b).isSome=true:=(List.mem_filter.mp hm).2
  rw[n] at q;simp at q
theorem OT {h:Heap} {H:Hp} {b:Addr} {o:Obj} (e:(M5 h H).get? b=some o):h.get? b=some o/\H b=none:= by
 have e':h.get? b=some o:=PySem.W.of_hideAll (trk h H) e
 refine ⟨e',?_⟩
 cases q:H b with
 | none=>rfl
 | some x=>
  have hm:b ∈ trk h H:=List.mem_filter.mpr ⟨List.mem_range.mpr (Heap.lt_size e'),by simp [q]⟩
  have z:(M5 h H).get? b=none:=PySem.W.hideAll_none (trk h H) hm
  rw[z] at e;cases e
end L2
namespace L2
open PySem PySem.Spec PyProof.Rows
structure Mod (K:PySem.W.Frag) (mg:Str->Option Value) (base:Heap):Prop where
 kin:K.In base
 glob:base.Ns mainGlobals mg
 blt : ∃ mb,base.Ns builtinsNs mb /\ ∀ x : Str,x ≠ "__name__" -> mb x = bootBuiltins x
 nolimit:base.NoLimit
structure Cx where
 prog:Program
 w:World
 K:PySem.W.Frag
 mg:Str->Option Value
 base:Heap
 A:Around
 N:List Str
 s₀:Shared
 H₀:Hp
 env:Env
 outer:List Env
 stack:List Env
 ex:List Addr
 fn:Str->Bool
 calm:Bool
 pn:List (Addr × Obj)
 xe:Value->Shared->Prop
def frs (l:List Env):List Addr:=l.filterMap (·.frame)
abbrev Cx.fs (X:Cx):List Addr:=frs X.outer
def Vis (sc:Scope) (x:Str):Prop:=sc.names.lookup x=some .local\/sc.names.lookup x=some .cell\/sc.names.lookup x=some .free
def Loc (sc:Scope) (x:Str):Prop:=sc.names.lookup x=some .local\/sc.names.lookup x=some .cell
def SS (env:Env) (h:Heap) (m:Str->Option Value) (x:Str) (u:Value):Prop:=
 (env.kindOf x=some .local/\m x=some u)\/((env.kindOf x=some .cell\/env.kindOf x=some .free) /\ ∃ c,env.cells.lookup x=some c/\h.IsCell c (some u))
structure Cx.Ok (X:Cx):Prop where
 mod:Mod X.K X.mg X.base
 kind:X.env.scope.kind = .function
 glob:X.env.globals=mainGlobals
 blt:X.env.builtins=builtinsNs
 above:X.s₀.heap.objs.size<=X.env.locals
 inj : ∀ x y c,X.env.cells.lookup x=some c->X.env.cells.lookup y=some c->x=y
 has : ∀ x,(X.env.kindOf x=some .cell\/X.env.kindOf x=some .free) -> ∃ c,X.env.cells.lookup x=some c
 cab : ∀ x c,X.fn x=true->X.env.cells.lookup x=some c->X.s₀.heap.objs.size<=c
 hd:X.calm=true->X.A.handled=none
 frames:X.A.frames=some X.stack
 stk:X.stack=X.outer\/(X.stack=X.env::X.outer/\X.env.frame=some X.env.locals)
 exf : ∀ b ∈ X.ex,b≠X.env.locals /\ ∀ x c,X.env.cells.lookup x=some c->c≠b
 bs : ∀ b o,X.base.get? b=some o->X.s₀.heap.get? b=some o/\X.H₀ b=none
 bsz:X.base.objs.size<=X.s₀.heap.objs.size
 noex : ∀ b o,X.base.get? b=some o->b ∉ X.ex
 exfs : ∀ b ∈ X.ex,b ∉ X.fs
 funs:X.s₀.heap.FunFrames X.base X.outer
 frf : ∀ b ∈ X.fs,X.H₀ b=none
structure Inv (X:Cx) (pins:List (Addr × Obj)) (σ:List (Option V)) (H:Hp) (s:Shared):Prop where
 ok:X.Ok
 os:s.os=X.s₀.os
 bare:AllBare s.gens
 base:Un X.fs X.ex X.H₀ H X.s₀.heap s.heap
 loc : ∃ m,s.heap.Ns X.env.locals m /\ ∀ (i:Nat) (x:Str) (v:V),X.N[i]?=some x->σ[i]?=some (some v)->Vis X.env.scope x -> ∃ u,Be v u/\SS X.env s.heap m x u
 cell : ∀ x c,X.env.cells.lookup x=some c -> ∃ v,s.heap.IsCell c v
 free:H X.env.locals=none
 freeC : ∀ x c,X.env.cells.lookup x=some c->H c=none
 pin : ∀ p ∈ X.pn++pins,s.heap.get? p.1=some p.2/\H p.1=none/\p.1≠X.env.locals/\p.1 ∉ X.fs /\ ∀ v,p.2.data ≠ .cell v
 hok:HOk X.prog X.w H s.heap
 len:σ.length=X.N.length
section
variable {X:Cx} {pins:List (Addr × Obj)} {σ:List (Option V)} {H H':Hp} {s:Shared} {h':Heap}
theorem Cx.Ok.nofr (ok:X.Ok) {b:Addr} {o:Obj} (e:X.base.get? b=some o):b ∉ X.fs:=fun hb=>by
 have:=(ok.funs.mem hb).1
 rw[e] at this;cases this
theorem Inv.bs (I:Inv X pins σ H s) : ∀ b o,X.base.get? b=some o->s.heap.get? b=some o/\H b=none:=fun b o e=>
 ⟨I.base.keep b o (I.ok.bs b o e).1 (I.ok.bs b o e).2 (I.ok.nofr e) (I.ok.noex b o e),I.base.free b o (I.ok.bs b o e).1 (I.ok.bs b o e).2 (I.ok.noex b o e)⟩
theorem Inv.bk (I:Inv X pins σ H s) : ∀ b o,X.base.get? b=some o->s.heap.get? b=some o:=fun b o e=>(I.bs b o e).1
theorem Inv.mod (I:Inv X pins σ H s):Mod X.K X.mg X.base:=I.ok.mod
theorem Inv.kIn (I:Inv X pins σ H s):X.K.In s.heap:=I.ok.mod.kin.keeps I.bk
theorem Inv.nolimit (I:Inv X pins σ H s):s.heap.NoLimit:=I.ok.mod.nolimit.keeps I.bk
theorem Inv.fr (I:Inv X pins σ H s) : ∃ m,Fr X.base X.env.locals s.heap m:=
 let ⟨m,hn,_⟩:=I.loc
 ⟨m,hn,I.bk,Nat.le_trans I.ok.bsz I.ok.above⟩
theorem Inv.lt (I:Inv X pins σ H s):X.env.locals<s.heap.objs.size:=let ⟨_,hn,_⟩:=I.loc;hn.lt
theorem Inv.sz (I:Inv X pins σ H s):X.s₀.heap.objs.size<=s.heap.objs.size:=Nat.le_trans I.ok.above (Nat.le_of_lt I.lt)
theorem Inv.nofs (I:Inv X pins σ H s) {a:Addr} (h:s.heap.objs.size<=a):a ∉ X.fs:=fun hb=>by
 obtain ⟨_,o,ho,_⟩:=I.ok.funs.mem hb
 exact absurd (Nat.lt_of_lt_of_le (Heap.lt_size ho) (Nat.le_trans I.sz h)) (Nat.lt_irrefl _)
theorem Inv.cne (I:Inv X pins σ H s) : ∀ x c,X.env.cells.lookup x=some c->c≠X.env.locals:=fun x c e z=>by
 obtain ⟨v,o,ho,hd⟩:=I.cell x c e
 obtain ⟨m,⟨o',es,ep,ho',hd',_⟩,_⟩:=I.loc
 rw[z,ho'] at ho;cases ho;rw[hd'] at hd;cases hd
theorem Inv.funs (I:Inv X pins σ H s):s.heap.FunFrames X.base X.outer:= by
 have all : ∀ (l:List Env),(∀ b ∈ frs l,b ∈ X.fs)->X.s₀.heap.FunFrames X.base l->s.heap.FunFrames X.base l:= by
  intro l
  induction l with
  | nil=>intro _ _;trivial
  | cons env r ih=>
   intro hs hl
   obtain ⟨hk,⟨L,o,hf,hn,ho,hd⟩,hr⟩:=hl
   have hL:L ∈ X.fs:=hs L (by unfold frs;rw[List.filterMap_cons,hf];exact List.mem_cons_self)
   obtain ⟨sl,e⟩:=I.base.slot L o ho (I.ok.frf L hL) hL fun z=>I.ok.exfs L z hL
   exact ⟨hk,⟨L,_,hf,hn,e,hd⟩,ih (fun b hb=>hs b (by unfold frs;rw[List.filterMap_cons,hf];exact List.mem_cons_of_mem _ hb)) hr⟩
 exact all X.outer (fun _ hb=>hb) I.ok.funs
theorem Inv.stack (I:Inv X pins σ H s):s.heap.FunFrames X.base X.stack:= by
 rcases I.ok.stk with e | ⟨e,hf⟩
 ·rw[e];exact I.funs
 ·rw[e]
  obtain ⟨m,hn,_⟩:=I.loc
  refine .cons (by rw[I.ok.kind];decide) hf hn ?_ I.funs
  exact Heap.get?_none_of_le (Nat.le_trans I.ok.bsz I.ok.above)
theorem Inv.stkSub (I:Inv X pins σ H s) : ∀ b ∈ frs X.stack,b ∈ X.env.locals::X.fs:=fun b hb=>by
 rcases I.ok.stk with e | ⟨e,hf⟩
 ·rw[e] at hb;exact List.mem_cons_of_mem _ hb
 ·rw[e] at hb
  unfold frs at hb
  rw[List.filterMap_cons,hf] at hb
  exact hb
theorem Inv.stkFree (I:Inv X pins σ H s) : ∀ b ∈ frs X.stack,H b=none:=fun b hb=>by
 rcases List.mem_cons.mp (I.stkSub b hb) with e | hb
 ·rw[e];exact I.free
 ·obtain ⟨_,o,ho,_⟩:=I.ok.funs.mem hb
  exact I.base.free b o ho (I.ok.frf b hb) fun z=>I.ok.exfs b z hb
theorem Inv.step {g':Array GenState} {t':Nat} {d':Drawn} {ch:List Addr} (I:Inv X pins σ H s)
  (hch : ∀ b ∈ ch,(b ∈ X.ex\/X.s₀.heap.objs.size<=b)/\b≠X.env.locals/\(∀ x c,X.env.cells.lookup x=some c->c≠b) /\ ∀ p ∈ X.pn++pins,p.1≠b)
  (keep : ∀ b o,b≠X.env.locals->b ∉ X.fs->b ∉ ch->s.heap.get? b=some o->H b=none->h'.get? b=some o)
  (slot : ∀ b o,b≠X.env.locals->b ∈ X.fs->b ∉ ch->s.heap.get? b=some o->H b=none -> ∃ sl,h'.get? b=some { o with slots:=sl }) (free : ∀ b o,b ∉ ch->s.heap.get? b=some o->H b=none->H' b=none)
  (there : ∀ b o,b ∉ ch->s.heap.get? b=some o -> ∃ o',h'.get? b=some o')
  (tups : ∀ b xs,H b=some (.tup xs)->H' b=some (.tup xs)) (frzs : ∀ b o u,H b=some (.frz o u)->H' b=some (.frz o u)) (tbls : ∀ b ps,H b=some (.tbl ps) -> ∃ more,H' b=some (.tbl (ps++more)))
  (ns : ∀ m,s.heap.Ns X.env.locals m->h'.Ns X.env.locals m) (hok:HOk X.prog X.w H' h') (hg:AllBare g') :
  Inv X pins σ H' { s with heap:=h',gens:=g',drawn:=d',toks:=t' }:= by
 have neL : ∀ b o,X.s₀.heap.get? b=some o->b≠X.env.locals:=fun b o e=>Nat.ne_of_lt (Nat.lt_of_lt_of_le (Heap.lt_size e) I.ok.above)
 have neC : ∀ b o,X.s₀.heap.get? b=some o->b ∉ X.ex->b ∉ ch:=fun b o e hx hb=>by
  rcases (hch b hb).1 with z | z
  ·exact hx z
  ·exact absurd (Nat.lt_of_lt_of_le (Heap.lt_size e) z) (Nat.lt_irrefl _)
 have cellK : ∀ x c,X.env.cells.lookup x=some c -> ∀ v,s.heap.IsCell c v->h'.IsCell c v:=fun x c e v ⟨o,ho,hd⟩=>by
  have nch:c ∉ ch:=fun z=>(hch c z).2.2.1 x c e rfl
  by_cases hc:c ∈ X.fs
  ·obtain ⟨sl,q⟩:=slot c o (I.cne x c e) hc nch ho (I.freeC x c e)
   exact ⟨_,q,hd⟩
  ·exact ⟨o,keep c o (I.cne x c e) hc nch ho (I.freeC x c e),hd⟩
 refine ⟨I.ok,I.os,hg,⟨fun b o e n hb hx=>?_,fun b o e n hb hx=>?_,fun b o e n hx=>?_,fun b o e hx=>?_,fun b xs e=>tups b xs (I.base.tups b xs e),fun b o xs e=>frzs b o xs (I.base.frzs b o xs e),fun b ps e=>?_⟩,?_,fun x c e=>?_,?_,fun x c e=>?_,fun p hp=>?_,hok,I.len⟩
 ·exact keep b o (neL b o e) hb (neC b o e hx) (I.base.keep b o e n hb hx) (I.base.free b o e n hx)
 ·obtain ⟨sl,e1⟩:=I.base.slot b o e n hb hx
  obtain ⟨sl',e2⟩:=slot b _ (neL b o e) hb (neC b o e hx) e1 (I.base.free b o e n hx)
  exact ⟨sl',e2⟩
 ·obtain ⟨o',e1⟩:=I.base.there b o e hx
  exact free b o' (neC b o e hx) e1 (I.base.free b o e n hx)
 ·obtain ⟨o',e1⟩:=I.base.there b o e hx
  exact there b o' (neC b o e hx) e1
 ·obtain ⟨m1,e1⟩:=I.base.tbls b ps e
  obtain ⟨m2,e2⟩:=tbls b _ e1
  exact ⟨m1++m2,by rw[e2,Array.append_assoc]⟩
 ·obtain ⟨m,hn,hl⟩:=I.loc
  refine ⟨m,ns m hn,fun i x v e1 e2 e3=>?_⟩
  obtain ⟨u,r,l⟩:=hl i x v e1 e2 e3
  refine ⟨u,r,?_⟩
  rcases l with l | ⟨k,c,e,z⟩
  ·exact .inl l
  ·exact .inr ⟨k,c,e,cellK x c e _ z⟩
 ·obtain ⟨v,z⟩:=I.cell x c e
  exact ⟨v,cellK x c e v z⟩
 ·obtain ⟨m,⟨o,_,_,ho,_⟩,_⟩:=I.loc
  exact free _ o (fun z=>(hch _ z).2.1 rfl) ho I.free
 ·obtain ⟨v,o,ho,hd⟩:=I.cell x c e
  exact free c o (fun z=>(hch c z).2.2.1 x c e rfl) ho (I.freeC x c e)
 ·obtain ⟨e,n,ne,nf,d⟩:=I.pin p hp
  have nch:p.1 ∉ ch:=fun z=>(hch p.1 z).2.2.2 p hp rfl
  exact ⟨keep p.1 p.2 ne nf nch e n,free p.1 p.2 nch e n,ne,nf,d⟩
theorem Inv.un {t':Nat} (I:Inv X pins σ H s) (u:Un X.fs [] H H' s.heap h') (hok:HOk X.prog X.w H' h'):Inv X pins σ H' { s with heap:=h',toks:=t' }:= by
 obtain ⟨m,⟨o,es,ep,ho,r⟩,_⟩:=id I.loc
 obtain ⟨sl,hL⟩:=u.any ho I.free (by simp)
 exact I.step (g':=s.gens) (d':=s.drawn) (ch:=[]) (fun _ z=>nomatch z) (fun b o _ hb _ e n=>u.keep b o e n hb (by simp)) (fun b o _ hb _ e n=>u.slot b o e n hb (by simp)) (fun b o _ e n=>u.free b o e n (by simp)) (fun b o _ e=>u.there b o e (by simp)) u.tups u.frzs u.tbls (fun m' hm=>by
  obtain ⟨o',es',ep',ho',r'⟩:=hm
  rw[ho] at ho';cases ho'
  exact ⟨_,es',ep',hL,r'⟩) hok I.bare
theorem Inv.call {g':Array GenState} {t':Nat} {d':Drawn} {ch:List Addr} (I:Inv X pins σ H s) (u:Un (frs X.stack) ch H H' s.heap h') (hok:HOk X.prog X.w H' h') (hg:AllBare g')
  (hch : ∀ b ∈ ch,(b ∈ X.ex\/X.s₀.heap.objs.size<=b)/\b≠X.env.locals/\(∀ x c,X.env.cells.lookup x=some c->c≠b) /\ ∀ p ∈ X.pn++pins,p.1≠b) :
  Inv X pins σ H' { s with heap:=h',gens:=g',drawn:=d',toks:=t' }:= by
 obtain ⟨m,⟨o,es,ep,ho,r⟩,_⟩:=id I.loc
 obtain ⟨sl,hL⟩:=u.any ho I.free fun z=>(hch _ z).2.1 rfl
 exact I.step (ch:=ch) hch (fun b o hL hb hc e n=>u.keep b o e n (fun z=>(List.mem_cons.mp (I.stkSub b z)).elim hL hb) hc) (fun b o _ _ hc e n=>u.any e n hc) (fun b o hc e n=>u.free b o e n hc) (fun b o hc e=>u.there b o e hc) u.tups u.frzs u.tbls (fun m' hm=>by
  obtain ⟨o',es',ep',ho',r'⟩:=hm
  rw[ho] at ho';cases ho'
  exact ⟨_,es',ep',hL,r'⟩) hok hg
theorem Inv.turned {t':Nat} {it:Addr} (I:Inv X pins σ H s) (k : ∀ b o,b≠it->s.heap.get? b=some o->h'.get? b=some o) (hn:H it=none) (hL:it≠X.env.locals)
  (h1:it ∈ X.ex\/X.s₀.heap.objs.size<=it) (h2 : ∀ x c,X.env.cells.lookup x=some c->c≠it) (h3 : ∀ p ∈ X.pn++pins,p.1≠it):Inv X pins σ H { s with heap:=h',toks:=t' }:= by
 have nit : ∀ b u,H b=some u->b≠it:=fun b u e z=>by rw[z,hn] at e;cases e
 refine I.step (g':=s.gens) (d':=s.drawn) (ch:=[it]) (fun b hb=>?_) (fun b o _ _ hc e _=>k b o (fun z=>hc (by simp [z])) e) (fun b o _ _ hc e _=>⟨o.slots,k b o (fun z=>hc (by simp [z])) e⟩) (fun _ _ _ _ n=>n)
  (fun b o hc e=>⟨o,k b o (fun z=>hc (by simp [z])) e⟩) (fun _ _ e=>e) (fun _ _ _ e=>e) (fun b ps e=>⟨#[],by rw[e];simp⟩) (fun m hm=>?_) (fun b u e=>?_) I.bare
 ·have e:b=it:=by simpa using hb
  subst e
  exact ⟨h1,hL,h2,h3⟩
 ·obtain ⟨o,es,ep,ho,r⟩:=hm
  exact ⟨o,es,ep,k _ o (Ne.symm hL) ho,r⟩
 ·refine (I.hok b u e).stay (fun c v hc q=>k c v ?_ q) (fun _ q=>q) fun _ _ q=>q
  rcases hc with z | z
  ·rw[z];exact nit b u e
  ·exact nit c _ z
theorem Inv.tok (I:Inv X pins σ H s) (t:Nat):Inv X pins σ H { s with toks:=t }:=I.un (h':=s.heap) (t':=t) Un.refl I.hok
theorem Inv.kept {t':Nat} (I:Inv X pins σ H s) (k : ∀ b u,s.heap.get? b=some u->h'.get? b=some u):Inv X pins σ H { s with heap:=h',toks:=t' }:=I.un (Un.kept k) (I.hok.kept k)
theorem Inv.laid {a:Addr} {o:HO} {t':Nat} (I:Inv X pins σ H s) (k : ∀ b u,s.heap.get? b=some u->h'.get? b=some u) (hp:s.heap.objs.size<=a) (new:A8 X.prog X.w (upd H a o) h' a o) :
  Inv X pins σ (upd H a o) { s with heap:=h',toks:=t' }:=I.un (Un.laid k hp (I.hok.fresh hp)) (I.hok.laid k hp new)
theorem Inv.write {x e:Addr} {o:HO} {t':Nat} (I:Inv X pins σ H s) (mu:Mut (H x)) (he:e=x\/H e=some (.own x)) (k : ∀ b u,b≠e->s.heap.get? b=some u->h'.get? b=some u) (heo : ∃ u,h'.get? e=some u)
  (new:A8 X.prog X.w (upd H x o) h' x o):Inv X pins σ (upd H x o) { s with heap:=h',toks:=t' }:=I.un (Un.write mu he k heo) (I.hok.write mu he k heo new)
theorem Inv.weak {σ':List (Option V)} (I:Inv X pins σ H s) (hl:σ'.length=σ.length) (w : ∀ (i:Nat) v,σ'[i]?=some (some v)->σ[i]?=some (some v)):Inv X pins σ' H s:=
 ⟨I.ok,I.os,I.bare,I.base,let ⟨m,hn,hl'⟩:=I.loc;⟨m,hn,fun i x v e1 e2 e3=>hl' i x v e1 (w i v e2) e3⟩,I.cell,I.free,I.freeC,I.pin,I.hok,hl.trans I.len⟩
theorem Inv.pins_of {pins':List (Addr × Obj)} (I:Inv X pins σ H s) (h : ∀ p ∈ pins',s.heap.get? p.1=some p.2/\H p.1=none/\p.1≠X.env.locals/\p.1 ∉ X.fs /\ ∀ v,p.2.data ≠ .cell v):Inv X pins' σ H s:=
 ⟨I.ok,I.os,I.bare,I.base,I.loc,I.cell,I.free,I.freeC,fun p hp=>(List.mem_append.mp hp).elim (fun z=>I.pin p (List.mem_append_left _ z)) (h p),I.hok,I.len⟩
theorem Kf {N:List Str} (hN:N.Nodup) {i j:Nat} {x:Str} (a:N[i]?=some x) (b:N[j]?=some x):i=j:= by
 obtain ⟨h1,e1⟩:=List.getElem?_eq_some_iff.mp a
 obtain ⟨h2,e2⟩:=List.getElem?_eq_some_iff.mp b
 exact (List.getElem_inj hN).mp (e1.trans e2.symm)
theorem FE {M:Model} {A:Around} {E:Value->Shared->Prop} {i:Nat} {x:Str} {v:V} {u:Value} {Q:Unit->Shared->Prop} (I:Inv X pins σ H s) (hN:X.N.Nodup) (hi:X.N[i]?=some x) (hx:Loc X.env.scope x) (r:Be v u)
  (h : ∀ s',Inv X pins (σ.set i (some v)) H s'->(∃ a,Heap.SameBut a s.heap s'.heap/\(a=X.env.locals\/X.env.cells.lookup x=some a))->Q () s') (hf:X.fn x=true\/X.env.scope.names.lookup x=some .local:=by first | exact .inl rfl | exact .inr rfl | assumption):wpAny M A (storeName X.env x u) Q E s:= by
 obtain ⟨m,hn,hl⟩:=id I.loc
 have hcls:(X.env.scope.kind == .class||(X.env.scope.kind == .module&&X.env.locals != X.env.globals))=false:=by rw[I.ok.kind];rfl
 have hiσ:i<σ.length:=by rw[I.len];exact (List.getElem?_eq_some_iff.mp hi).1
 have cne:=I.cne
 have tracked : ∀ {a:Addr} {h':Heap},(∃ o,s.heap.get? a=some o/\H a=none)->Heap.SameBut a s.heap h'->HOk X.prog X.w H h':=fun {a h'} ha hs b ob e=>by
  obtain ⟨_,_,hfree⟩:=ha
  refine (I.hok b ob e).stay (fun c w' hc q=>(hs.2 c ?_).trans q) (fun _ q=>q) fun _ _ q=>q
  rintro rfl
  rcases hc with rfl | hc
  ·rw[hfree] at e;cases e
  ·rw[hfree] at hc;cases hc
 rcases hx with hk | hk
 ·refine wpAny_storeName_local hk hn (fun h' hn' hs=>?_) hcls
  obtain ⟨oL,_,_,hoL,_⟩:=id hn
  refine h _ ⟨I.ok,I.os,I.bare,⟨fun b o e n hb hx=>?_,fun b o e n hb hx=>?_,I.base.free,fun b o e hx=>?_,I.base.tups,I.base.frzs,I.base.tbls⟩,⟨_,hn',fun j y v' e1 e2 e3=>?_⟩,fun y c e=>?_,I.free,I.freeC,fun p hp=>?_,tracked ⟨oL,hoL,I.free⟩ hs,by simpa using I.len⟩ ⟨_,hs,.inl rfl⟩
  ·exact (hs.2 b (Nat.ne_of_lt (Nat.lt_of_lt_of_le (Heap.lt_size e) I.ok.above))).trans (I.base.keep b o e n hb hx)
  ·obtain ⟨sl,e1⟩:=I.base.slot b o e n hb hx
   exact ⟨sl,(hs.2 b (Nat.ne_of_lt (Nat.lt_of_lt_of_le (Heap.lt_size e) I.ok.above))).trans e1⟩
  ·obtain ⟨o',e1⟩:=I.base.there b o e hx
   exact ⟨o',(hs.2 b (Nat.ne_of_lt (Nat.lt_of_lt_of_le (Heap.lt_size e) I.ok.above))).trans e1⟩
  ·by_cases hj:j=i
   ·subst hj
    rw[hi] at e1;cases e1
    rw[List.getElem?_set_self hiσ] at e2
    cases e2
    exact ⟨u,r,.inl ⟨hk,by simp⟩⟩
   ·rw[List.getElem?_set_ne (Ne.symm hj)] at e2
    obtain ⟨u',r',q⟩:=hl j y v' e1 e2 e3
    refine ⟨u',r',?_⟩
    rcases q with ⟨k,e⟩ | ⟨k,c,e,z⟩
    ·refine .inl ⟨k,?_⟩
     have:y≠x:=fun e=>hj (Kf hN e1 (e ▸ hi))
     simp [this,e]
    ·exact .inr ⟨k,c,e,z.sameBut hs (cne y c e)⟩
  ·obtain ⟨w',z⟩:=I.cell y c e
   exact ⟨w',z.sameBut hs (cne y c e)⟩
  ·obtain ⟨e,n,ne,nf,d⟩:=I.pin p hp
   exact ⟨(hs.2 p.1 ne).trans e,n,ne,nf,d⟩
 ·have hfn:X.fn x=true:= by
   rcases hf with z | z
   ·exact z
   ·rw[z] at hk;cases hk
  obtain ⟨c,hc⟩:=I.ok.has x (.inl hk)
  obtain ⟨w',z⟩:=I.cell x c hc
  refine wpAny_storeName_cell I.ok.kind hk hc z (fun h' hc' hs=>?_)
  obtain ⟨oc,hoc,hocd⟩:=id z
  refine h { s with heap:=h' } ⟨I.ok,I.os,I.bare,⟨fun b o e n hb hx=>?_,fun b o e n hb hx=>?_,I.base.free,fun b o e hx=>?_,I.base.tups,I.base.frzs,I.base.tbls⟩,⟨m,hn.sameBut hs (Ne.symm (cne x c hc)),fun j y v' e1 e2 e3=>?_⟩,fun y c' e=>?_,I.free,I.freeC,fun p hp=>?_,tracked ⟨oc,hoc,I.freeC x c hc⟩ hs,by simpa using I.len⟩ ⟨c,hs,.inr hc⟩
  ·exact (hs.2 b (Nat.ne_of_lt (Nat.lt_of_lt_of_le (Heap.lt_size e) (I.ok.cab x c hfn hc)))).trans (I.base.keep b o e n hb hx)
  ·obtain ⟨sl,e1⟩:=I.base.slot b o e n hb hx
   exact ⟨sl,(hs.2 b (Nat.ne_of_lt (Nat.lt_of_lt_of_le (Heap.lt_size e) (I.ok.cab x c hfn hc)))).trans e1⟩
  ·obtain ⟨o',e1⟩:=I.base.there b o e hx
   exact ⟨o',(hs.2 b (Nat.ne_of_lt (Nat.lt_of_lt_of_le (Heap.lt_size e) (I.ok.cab x c hfn hc)))).trans e1⟩
  ·by_cases hj:j=i
   ·subst hj
    rw[hi] at e1;cases e1
    rw[List.getElem?_set_self hiσ] at e2
    cases e2
    exact ⟨u,r,.inr ⟨.inl hk,c,hc,hc'⟩⟩
   ·rw[List.getElem?_set_ne (Ne.symm hj)] at e2
    obtain ⟨u',r',q⟩:=hl j y v' e1 e2 e3
    refine ⟨u',r',?_⟩
    rcases q with q | ⟨k,c',e,z'⟩
    ·exact .inl q
    ·refine .inr ⟨k,c',e,z'.sameBut hs ?_⟩
     rintro rfl
     exact hj (Kf hN e1 (I.ok.inj _ _ _ e hc ▸ hi))
  ·by_cases hcc:c'=c
   ·subst hcc;exact ⟨_,hc'⟩
   ·obtain ⟨w2,z2⟩:=I.cell y c' e
    exact ⟨w2,z2.sameBut hs hcc⟩
  ·obtain ⟨e,n,ne,nf,d⟩:=I.pin p hp
   refine ⟨(hs.2 p.1 ?_).trans e,n,ne,nf,d⟩
   intro q
   rw[q,hoc] at e
   have q':oc=p.2:=Option.some.inj e
   exact d w' (by rw[<- q'];exact hocd)
theorem Kk {M:Model} {A:Around} {E:Value->Shared->Prop} {i:Nat} {x:Str} {v:V} {u:Value} {Q:Unit->Shared->Prop} (I:Inv X pins σ H s) (hN:X.N.Nodup) (hi:X.N[i]?=some x) (hx:Loc X.env.scope x) (r:Be v u)
  (h : ∀ s',Inv X pins (σ.set i (some v)) H s'->Q () s') (hf:X.fn x=true\/X.env.scope.names.lookup x=some .local:=by first | exact .inl rfl | exact .inr rfl | assumption):wpAny M A (storeName X.env x u) Q E s:=
 FE I hN hi hx r (fun s' I' _=>h s' I') hf
theorem Inv.call' {s':Shared} {ch:List Addr} (I:Inv X pins σ H s) (ho:s'.os=s.os) (u:Un (frs X.stack) ch H H' s.heap s'.heap) (hok:HOk X.prog X.w H' s'.heap) (hg:AllBare s'.gens)
  (hch : ∀ b ∈ ch,(b ∈ X.ex\/X.s₀.heap.objs.size<=b)/\b≠X.env.locals/\(∀ x c,X.env.cells.lookup x=some c->c≠b) /\ ∀ p ∈ X.pn++pins,p.1≠b):Inv X pins σ H' s':= by
 obtain ⟨h',g',d',t',o'⟩:=s'
 have e:o'=s.os:=ho
 subst e
 exact I.call (g':=g') (t':=t') (d':=d') u hok hg hch
end
abbrev XK:=Value->Option Addr->Hp->Prop
abbrev St:=List (Option V)
abbrev VK:=V->Hp->Prop
abbrev TE:=St->Hp->VK->Prop
abbrev TT:=St->Hp->(Bool->Hp->Prop)->Prop
abbrev TA:=St->Hp->(List V->Hp->Prop)->Prop
structure IL where
 nx:St->Hp->Prop
 rt:VK
 bk:St->Hp->Prop:=fun _ _=>False
 ct:St->Hp->Prop:=fun _ _=>False
abbrev TS:=IL->St->Hp->Prop
def EP (X:Cx) (pins:List (Addr × Obj)) (σ:St) (Q:VK) (u:Value) (s':Shared):Prop:=∃ v H',Inv X pins σ H' s'/\Be v u/\Q v H'
def TP (X:Cx) (pins:List (Addr × Obj)) (σ:St) (Q:Bool->Hp->Prop) (b:Bool) (s':Shared):Prop:=∃ H',Inv X pins σ H' s'/\Q b H'
def AP (X:Cx) (pins:List (Addr × Obj)) (σ:St) (Q:List V->Hp->Prop) (us:List Value) (s':Shared):Prop:=∃ vs H',Inv X pins σ H' s'/\Bf vs us/\Q vs H'
def SP (X:Cx) (pins:List (Addr × Obj)) (D:IL) (f:Flow) (s':Shared):Prop:=
 match f with
 | .next=>∃ σ' H',Inv X pins σ' H' s'/\D.nx σ' H'
 | .brk=>∃ σ' H',Inv X pins σ' H' s'/\D.bk σ' H'
 | .cont=>∃ σ' H',Inv X pins σ' H' s'/\D.ct σ' H'
 | .ret u=>∃ v σ' H',Inv X pins σ' H' s'/\Be v u/\D.rt v H'
def PE (X:Cx) (e:Expr) (t:TE):Prop:=
 ∀ (pins:List (Addr × Obj)) (s:Shared) (σ:St) (H:Hp) (Q:VK),Inv X pins σ H s->t σ H Q->wpAny (model X.prog X.w) X.A (eval e X.env) (EP X pins σ Q) X.xe s
def PT (X:Cx) (e:Expr) (t:TT):Prop:=
 ∀ (pins:List (Addr × Obj)) (s:Shared) (σ:St) (H:Hp) (Q:Bool->Hp->Prop),Inv X pins σ H s->t σ H Q->wpAny (model X.prog X.w) X.A (isTrue e X.env (eval e X.env)) (TP X pins σ Q) X.xe s
def PW (X:Cx) (e:Expr) (t:TT):Prop:=
 ∀ (whole:Sem Value) (pins:List (Addr × Obj)) (s:Shared) (σ:St) (H:Hp) (Q:Bool->Hp->Prop),Inv X pins σ H s->t σ H Q->wpAny (model X.prog X.w) X.A (isTrue e X.env whole) (TP X pins σ Q) X.xe s
theorem PW.pt {X:Cx} {e:Expr} {t:TT} (h:PW X e t):PT X e t:=h _
def PA (X:Cx) (es:List Expr) (t:TA):Prop:=
 ∀ (pos:Pos) (pins:List (Addr × Obj)) (s:Shared) (σ:St) (H:Hp) (Q:List V->Hp->Prop),Inv X pins σ H s->t σ H Q->wpAny (model X.prog X.w) X.A (spliced (backTo pos (starEach es X.env))) (AP X pins σ Q) X.xe s
def PS (X:Cx) (st:Stmt) (t:TS):Prop:=
 ∀ (pins:List (Addr × Obj)) (s:Shared) (σ:St) (H:Hp) (D:IL),Inv X pins σ H s->t D σ H->wpAny (model X.prog X.w) X.A (exec st X.env) (SP X pins D) X.xe s
def PSs (X:Cx) (st:List Stmt) (t:TS):Prop:=
 ∀ (pins:List (Addr × Obj)) (s:Shared) (σ:St) (H:Hp) (D:IL),Inv X pins σ H s->t D σ H->wpAny (model X.prog X.w) X.A (execs st X.env) (SP X pins D) X.xe s
theorem thn {α:Type} {t:Sem α} {Q Q':α->Shared->Prop} {M:Model} {A:Around} {E:Value->Shared->Prop} {s:Shared} (h:wpAny M A t Q E s) (hQ : ∀ a s,Q a s->Q' a s):wpAny M A t Q' E s:=wpAny_mono h hQ fun _ _ x=>x
end L2
namespace L2
open PySem PySem.Spec PyProof.Rows
section
variable {X:Cx}
theorem bin {a b:Expr} {ta tb:TE} (ha:PE X a ta) (hb:PE X b tb) {pins:List (Addr × Obj)} {s:Shared} {σ:St} {H:Hp} {R:V->V->Hp->Prop} (I:Inv X pins σ H s) (h:ta σ H fun x H1=>tb σ H1 fun y H2=>R x y H2)
  {α:Type} {Q:α->Shared->Prop} {f:Value->Value->Sem α}
  (hf : ∀ v u s2 x y H2,Inv X pins σ H2 s2->Be x v->Be y u->R x y H2->wpAny (model X.prog X.w) X.A (f v u) Q X.xe s2) :
  wpAny (model X.prog X.w) X.A (eval a X.env) (fun v s₁=>wpAny (model X.prog X.w) X.A (eval b X.env) (fun u s₂=>wpAny (model X.prog X.w) X.A (f v u) Q X.xe s₂) X.xe s₁) X.xe s:= by
 refine thn (ha pins s σ H _ I h) fun v s1 ⟨x,H1,I1,r1,q1⟩=>?_
 refine thn (hb pins s1 σ H1 _ I1 q1) fun u s2 ⟨y,H2,I2,r2,q2⟩=>?_
 exact hf v u s2 x y H2 I2 r1 r2 q2
def Sv (i:Nat):TE:=fun σ H Q=>∃ v,σ[i]?=some (some v)/\Q v H
def tC (v:V):TE:=fun _ H Q=>Q v H
theorem QN {i : Nat} {x : Str} {pos : Pos} (hN : X.N[i]? = some x) (hv : Vis X.env.scope x) (hd : (x == ("__debug__" : Str)) = false:=by decide) (hcd : (x == ("__classdict__" : Str)) = false:=by decide) : PE X (.Name x pos) (Sv i):= by
 intro pins s σ H Q I h
 obtain ⟨v,e,h⟩:=h
 obtain ⟨m,hn,hl⟩:=I.loc
 obtain ⟨u,r,l⟩:=hl i x v hN e hv
 have fin:EP X pins σ Q u s:=⟨v,H,I,r,h⟩
 rcases l with ⟨hk,hm⟩ | ⟨hk,c,hc,hcell⟩
 ·exact wpAny_Name (wpAny_loadName_local I.ok.kind hk hn hm fin) hd
 ·rcases hk with hk | hk
  ·exact wpAny_Name (wpAny_loadName_cell I.ok.kind hk hc hcell fin) hd
  ·exact wpAny_Name (wpAny_loadName_free I.ok.kind hk hc hcell fin hcd) hd
theorem Ai {i j pos}:PE X (.Constant (.int i) j pos) (tC (.int i)):=fun _ _ _ H _ I h=>wpAny_Constant_int ⟨.int i,H,I.tok _,⟨_,rfl⟩,h⟩
theorem Ie {b j pos}:PE X (.Constant (.bool b) j pos) (tC (.bl b)):=fun _ _ _ H _ I h=>Constant_bool ⟨.bl b,H,I,rfl,h⟩
theorem Da {j pos}:PE X (.Constant .none j pos) (tC .non):=fun _ _ _ H _ I h=>Constant_none ⟨.non,H,I,rfl,h⟩
theorem Av {x j pos}:PE X (.Constant (.str x) j pos) (tC (.str x)):=fun _ _ _ H _ I h=>Calls.Constant_str ⟨.str x,H,I.tok _,⟨_,rfl⟩,h⟩
def Gl (X:Cx) (x:Str):Prop:=X.env.kindOf x=some .globalImplicit
theorem Cu {E:Value->Shared->Prop} {pins:List (Addr × Obj)} {s:Shared} {σ:St} {H:Hp} {x:Str} {u:Value} {pos:Pos} {Q:Value->Shared->Prop} (I:Inv X pins σ H s) (hg:Gl X x) (hm:X.mg x=some u) (h:Q u s)
  (hd : (x == ("__debug__" : Str)) = false:=by decide) : wpAny (model X.prog X.w) X.A (eval (.Name x pos) X.env) Q E s:=
 Calls.Name_function_global I.ok.kind hg (Calls.loadGlobal_global (by rw[I.ok.glob];exact I.mod.glob.keeps I.bk) hm h) hd
theorem Gq {E:Value->Shared->Prop} {pins:List (Addr × Obj)} {s:Shared} {σ:St} {H:Hp} {x:Str} {u:Value} {pos:Pos} {Q:Value->Shared->Prop} (I:Inv X pins σ H s) (hg:Gl X x) (hm:X.mg x=none) (hv:bootBuiltins x=some u) (h:Q u s)
  (hn : x ≠ "__name__":=by decide) (hd : (x == ("__debug__" : Str)) = false:=by decide) : wpAny (model X.prog X.w) X.A (eval (.Name x pos) X.env) Q E s:= by
 obtain ⟨mb,h1,h2⟩:=I.mod.blt
 exact Calls.Name_function_global I.ok.kind hg (Calls.loadGlobal_builtin (by rw[I.ok.glob];exact I.mod.glob.keeps I.bk) hm (by rw[I.ok.blt];exact h1.keeps I.bk) ((h2 x hn).trans hv) h) hd
theorem IX {x : Str} {v : V} {u : Value} {pos : Pos} (hg : Gl X x) (hm : X.mg x = some u) (r : Be v u) (hd : (x == ("__debug__" : Str)) = false:=by decide) : PE X (.Name x pos) (tC v):=
 fun _ _ _ H _ I h=>Cu I hg hm ⟨v,H,I,r,h⟩ hd
variable {a b:Expr} {ta tb:TE} {pos:Pos}
def PC (X:Cx) (op:CmpOp) (a b:Expr) (t:TE):Prop:=
 ∀ (pins:List (Addr × Obj)) (s:Shared) (σ:St) (H:Hp) (Q:VK),Inv X pins σ H s->t σ H Q ->
  wpAny (model X.prog X.w) X.A (eval a X.env) (fun v s₁=>wpAny (model X.prog X.w) X.A (eval b X.env) (fun u s₂=>wpAny (model X.prog X.w) X.A (compareOp op v u) (EP X pins σ Q) X.xe s₂) X.xe s₁) X.xe s
def tB (t:TE):TT:=fun σ H Q=>t σ H fun x H1=>∃ c,x = .bl c/\Q c H1
theorem GO {op:CmpOp} {t:TE} (h:PC X op a b t) (h1:behindInMarks op b=false:=by first | exact nobehind _ (by decide) (by decide) | rfl):PT X (.Compare a [op] [b] pos) (tB t):= by
 intro pins s σ H Q I hw
 refine wpAny_isTrue_Compare1 (thn (h pins s σ H _ I hw) fun v s1 h1=>thn h1 fun u s2 h2=>thn h2 fun c s3 ⟨x,H1,I1,r1,q1⟩=>?_) h1
 obtain ⟨d,rfl,q⟩:=q1
 cases r1
 exact wpAny_truthy_bool ⟨H1,I1,q⟩
theorem Oz {e:Expr} {t:TE} (h:PE X e t) (he : ∀ whole,isTrue e X.env whole=(do let v <- whole;standAt e.pos;holding [v] (truthy v)):=by intro _;rfl):PT X e (tB t):= by
 intro pins s σ H Q I hw
 refine isTrue_plain (thn (h pins s σ H _ I hw) fun v s1 ⟨x,H1,I1,r1,q1⟩=>?_) (he _)
 obtain ⟨d,rfl,q⟩:=q1
 cases r1
 exact wpAny_truthy_bool ⟨H1,I1,q⟩
variable {tA tB':TT} {rest:List Expr}
def SK (t u:TT):TT:=fun σ H Q=>t σ H fun c H1=>if c=true then u σ H1 Q else Q false H1
def tOr (t u:TT):TT:=fun σ H Q=>t σ H fun c H1=>if c=true then Q true H1 else u σ H1 Q
def Sz (t:TT):TT:=fun σ H Q=>t σ H fun c H1=>Q (!c) H1
theorem IM (ha:PT X a tA):PW X (.BoolOp .And [a] pos) tA:= by
 intro wh pins s σ H Q I h
 refine isTrue_and (thn (ha pins s σ H Q I h) fun c s1 e=>?_)
 cases c with
 | true=>exact isTrue_and_nil e
 | false=>exact e
theorem GL (ha:PT X a tA):PW X (.BoolOp .Or [a] pos) tA:= by
 intro wh pins s σ H Q I h
 refine isTrue_or (thn (ha pins s σ H Q I h) fun c s1 e=>?_)
 cases c with
 | false=>exact isTrue_or_nil e
 | true=>exact e
theorem L0 (ha:PT X a tA) (hb:PW X (.BoolOp .And (b::rest) pos) tB'):PW X (.BoolOp .And (a::b::rest) pos) (SK tA tB'):= by
 intro wh pins s σ H Q I h
 refine isTrue_and (thn (ha pins s σ H _ I h) fun c s1 ⟨H1,I1,q1⟩=>?_)
 cases c with
 | true=>exact hb wh pins s1 σ H1 Q I1 q1
 | false=>exact ⟨H1,I1,q1⟩
theorem HL (ha:PT X a tA) (hb:PW X (.BoolOp .Or (b::rest) pos) tB'):PW X (.BoolOp .Or (a::b::rest) pos) (tOr tA tB'):= by
 intro wh pins s σ H Q I h
 refine isTrue_or (thn (ha pins s σ H _ I h) fun c s1 ⟨H1,I1,q1⟩=>?_)
 cases c with
 | true=>exact ⟨H1,I1,q1⟩
 | false=>exact hb wh pins s1 σ H1 Q I1 q1
theorem EJ (ha:PT X a tA):PT X (.UnaryOp .Not a pos) (Sz tA):= by
 intro pins s σ H Q I h
 exact isTrue_not (ha pins s σ H (fun c H1=>Q (!c) H1) I h)
def tIf (t:TT) (ta tb:TE):TE:=fun σ H Q=>t σ H fun c H1=>if c=true then ta σ H1 Q else tb σ H1 Q
theorem D6 {c:Expr} (hc:PT X c tA) (ha:PE X a ta) (hb:PE X b tb):PE X (.IfExp c a b pos) (tIf tA ta tb):= by
 intro pins s σ H Q I h
 refine wpAny_IfExp (thn (hc pins s σ H _ I h) fun d s1 ⟨H1,I1,q1⟩=>?_)
 cases d with
 | true=>exact ha pins s1 σ H1 Q I1 q1
 | false=>exact hb pins s1 σ H1 Q I1 q1
end
end L2
namespace L2
open PySem PySem.Spec PyProof.Rows
def SqL (K:PySem.W.Frag) (H:Hp) (a:Addr) (xs:List V):Prop:=
 Rd H a (.lst xs) \/
  ∃ (o : Obj) (its : Array Value) (n : Nat),K.lookup a = some o /\ o.cls = .type "list" /\ o.dict = none /\ o.data = .seq its n /\ its.size <= sizeLine /\ Bf xs its.toList
def SqT (K:PySem.W.Frag) (H:Hp) (a:Addr) (xs:List V):Prop:=
 Rd H a (.tup xs) \/
  ∃ (o : Obj) (its : Array Value) (n : Nat),K.lookup a = some o /\ o.cls = .type "tuple" /\ o.data = .seq its n /\ its.size <= sizeLine /\ Bf xs its.toList
def SQ:Value->Option V
 | .none=>some .non
 | .bool b=>some (.bl b)
 | .int i _=>some (.int i)
 | .str x _=>some (.str x)
 | .bytes b _=>some (.byt b)
 | .float b _=>some (.flt b)
 | .ref a=>some (.ref a)
 | .type n=>some (.ty n)
 | _=>none
theorem Be.abs {x:V} {u:Value} (r:Be x u):SQ u=some x:= by
 cases x with
 | non=>cases r;rfl
 | bl _=>cases r;rfl
 | int _=>obtain ⟨t,rfl⟩:=r;rfl
 | str _=>obtain ⟨t,rfl⟩:=r;rfl
 | byt _=>obtain ⟨t,rfl⟩:=r;rfl
 | flt _=>obtain ⟨t,rfl⟩:=r;rfl
 | ref _=>cases r;rfl
 | ty _=>cases r;rfl
theorem Be.inj {x y:V} {u:Value} (r:Be x u) (q:Be y u):x=y:=Option.some.inj (r.abs.symm.trans q.abs)
theorem Bf.inj : ∀ {xs ys:List V} {us:List Value},Bf xs us->Bf ys us->xs=ys
 | _,_,_,.nil,.nil=>rfl
 | _,_,_,.cons r t,.cons r' t'=>by rw[r.inj r',Bf.inj t t']
section
variable {X:Cx} {pins:List (Addr × Obj)} {σ:St} {H:Hp} {s:Shared} {a:Addr} {xs ys:List V}
theorem SqL.of {K:PySem.W.Frag} (h:H a=some (.lst xs)):SqL K H a xs:=.inl (.inl h)
theorem SqT.of {K:PySem.W.Frag} (h:H a=some (.tup xs)):SqT K H a xs:=.inl (.inl h)
theorem Inv.list (I:Inv X pins σ H s) (h:SqL X.K H a xs) : ∃ its:List Value,Bf xs its/\PlainL s.heap a its.toArray/\xs.length<=sizeLine:= by
 rcases h with h | ⟨o,its,n,hk,hc,hd,hs,hz,r⟩
 ·obtain ⟨z,its,n,r,e⟩:=h.ok I.hok
  exact ⟨its,r,⟨_,n,e,rfl,rfl,rfl⟩,z⟩
 ·refine ⟨its.toList,r,⟨o,n,I.kIn a o hk,hc,hd,by simpa using hs⟩,?_⟩
  have e:=r.length
  simp only [Array.length_toList] at e
  omega
theorem Inv.tuple (I:Inv X pins σ H s) (h:SqT X.K H a xs) : ∃ its:List Value,Bf xs its/\IsTup s.heap a its.toArray/\xs.length<=sizeLine:= by
 rcases h with h | ⟨o,its,n,hk,hc,hs,hz,r⟩
 ·obtain ⟨z,its,r,p⟩:=h.ok I.hok
  exact ⟨its,r,p,z⟩
 ·refine ⟨its.toList,r,⟨o,I.kIn a o hk,hc,n,by simpa using hs⟩,?_⟩
  have e:=r.length
  simp only [Array.length_toList] at e
  omega
theorem Inv.list_inj (I:Inv X pins σ H s) (h:SqL X.K H a xs) (h':SqL X.K H a ys):xs=ys:= by
 obtain ⟨its,r,⟨o,n,e,_,_,d⟩,_⟩:=I.list h
 obtain ⟨its',r',⟨o',n',e',_,_,d'⟩,_⟩:=I.list h'
 rw[e] at e';cases e'
 rw[d] at d'
 injection d' with d1 _
 have:its=its':=by simpa using congrArg Array.toList d1
 subst this
 exact r.inj r'
theorem Inv.tuple_inj (I:Inv X pins σ H s) (h:SqT X.K H a xs) (h':SqT X.K H a ys):xs=ys:= by
 obtain ⟨its,r,⟨o,e,_,n,d⟩,_⟩:=I.tuple h
 obtain ⟨its',r',⟨o',e',_,n',d'⟩,_⟩:=I.tuple h'
 rw[e] at e';cases e'
 rw[d] at d'
 injection d' with d1 _
 have:its=its':=by simpa using congrArg Array.toList d1
 subst this
 exact r.inj r'
end
abbrev Cx.wish (X:Cx) (E:Value->Shared->Prop):Cx:={ X with xe:=E }
abbrev Cx.nox (X:Cx):Cx:=X.wish fun _ _=>False
theorem Cx.Ok.wish {X:Cx} (ok:X.Ok) (E:Value->Shared->Prop):(X.wish E).Ok:=
 ⟨ok.mod,ok.kind,ok.glob,ok.blt,ok.above,ok.inj,ok.has,ok.cab,ok.hd,ok.frames,ok.stk,ok.exf,ok.bs,ok.bsz,ok.noex,ok.exfs,ok.funs,ok.frf⟩
theorem Cx.Ok.unwish {X:Cx} {E:Value->Shared->Prop} (ok:(X.wish E).Ok):X.Ok:=
 ⟨ok.mod,ok.kind,ok.glob,ok.blt,ok.above,ok.inj,ok.has,ok.cab,ok.hd,ok.frames,ok.stk,ok.exf,ok.bs,ok.bsz,ok.noex,ok.exfs,ok.funs,ok.frf⟩
section
variable {X:Cx} {pins:List (Addr × Obj)} {σ:St} {H:Hp} {s:Shared} {E:Value->Shared->Prop}
theorem Inv.wish (I:Inv X pins σ H s) (E:Value->Shared->Prop):Inv (X.wish E) pins σ H s:=⟨I.ok.wish E,I.os,I.bare,I.base,I.loc,I.cell,I.free,I.freeC,I.pin,I.hok,I.len⟩
theorem Inv.unwish (I:Inv (X.wish E) pins σ H s):Inv X pins σ H s:=⟨I.ok.unwish,I.os,I.bare,I.base,I.loc,I.cell,I.free,I.freeC,I.pin,I.hok,I.len⟩
theorem SP.unwish {D:IL} {f:Flow} {s':Shared} (h:SP (X.wish E) pins D f s'):SP X pins D f s':= by
 cases f with
 | next=>obtain ⟨σ',H',I,q⟩:=h;exact ⟨σ',H',I.unwish,q⟩
 | brk=>obtain ⟨σ',H',I,q⟩:=h;exact ⟨σ',H',I.unwish,q⟩
 | cont=>obtain ⟨σ',H',I,q⟩:=h;exact ⟨σ',H',I.unwish,q⟩
 | ret u=>obtain ⟨v,σ',H',I,r,q⟩:=h;exact ⟨v,σ',H',I.unwish,r,q⟩
theorem PSs.nox {st:List Stmt} {t:TS} (h:PSs X.nox st t):PSs X st t:=fun pins s σ H D I hw=>
 wpAny_mono (h pins s σ H D (I.wish _) hw) (fun _ _ q=>q.unwish) fun _ _ z=>False.elim z
end
section
variable {X:Cx} {st:Stmt} {rest:List Stmt} {t u:TS} {e:Expr} {te:TE} {pos:Pos}
def PB:TS:=fun D σ H=>D.nx σ H
def P9 (t u:TS):TS:=fun D σ H=>t { D with nx:=u D } σ H
theorem Az:PSs X [] PB:=fun _ _ σ H _ I h=>wpAny_execs_nil ⟨σ,H,I,h⟩
theorem Ad (h1:PS X st t) (h2:PSs X rest u):PSs X (st::rest) (P9 t u):= by
 intro pins s σ H D I h
 refine wpAny_execs_cons (thn (h1 pins s σ H { D with nx:=u D } I h) fun f s1 q=>?_)
 cases f with
 | next=>
  obtain ⟨σ',H',I',q⟩:=q
  exact h2 pins s1 σ' H' D I' q
 | ret v=>exact q
 | brk=>exact q
 | cont=>exact q
theorem Ag (h1:PS X st t):PSs X [st] t:= by
 intro pins s σ H D I h
 refine wpAny_execs_cons (thn (h1 pins s σ H D I h) fun f s1 q=>?_)
 cases f with
 | next=>exact wpAny_execs_nil q
 | ret v=>exact q
 | brk=>exact q
 | cont=>exact q
def Q6:TS:=fun D σ H=>D.bk σ H
def R0:TS:=fun D σ H=>D.ct σ H
theorem Nu:PS X (.Break pos) Q6:=fun _ _ σ H _ I h=>wpAny_Break ⟨σ,H,I,h⟩
theorem Jk:PS X (.Continue pos) R0:=fun _ _ σ H _ I h=>wpAny_Continue ⟨σ,H,I,h⟩
theorem Inv.quiet {pins:List (Addr × Obj)} {σ:St} {H:Hp} {s:Shared} (I:Inv X pins σ H s):interactive X.env=false:=by simp [interactive,I.ok.kind]
def RP (te:TE):TS:=fun D σ H=>te σ H fun _ H1=>D.nx σ H1
theorem A1 (he:PE X e te) (hs:swapsWith e none pos.line X.env=pure false:=by rfl):PS X (.Expr e pos) (RP te):= by
 intro pins s σ H D I h
 exact wpAny_Expr_any (thn (he pins s σ H _ I h) fun v s1 ⟨x,H1,I1,r1,q1⟩=>⟨σ,H1,I1,q1⟩) I.quiet hs
def SA (te:TE):TS:=fun D σ H=>te σ H D.rt
theorem Aq (he:PE X e te):PS X (.Return (some e) pos) (SA te):= by
 intro pins s σ H D I h
 exact wpAny_Return_some (thn (he pins s σ H _ I h) fun v s1 ⟨x,H1,I1,r1,q1⟩=>⟨x,σ,H1,I1,r1,q1⟩)
def Rw:TS:=fun D _ H=>D.rt .non H
theorem PY:PS X (.Return none pos) Rw:=fun _ _ σ H _ I h=>wpAny_Return_none ⟨.non,σ,H,I,rfl,h⟩
def P8 (c:TT) (t u:TS):TS:=fun D σ H=>c σ H fun b H1=>if b=true then t D σ H1 else u D σ H1
theorem A2 {c:Expr} {a b:List Stmt} {tc:TT} (hc:PT X c tc) (ha:PSs X a t) (hb:PSs X b u):PS X (.If c a b pos) (P8 tc t u):= by
 intro pins s σ H D I h
 refine wpAny_If (thn (hc pins s σ H _ I h) fun d s1 ⟨H1,I1,q1⟩=>?_)
 cases d with
 | true=>exact ha pins s1 σ H1 D I1 q1
 | false=>exact hb pins s1 σ H1 D I1 q1
def Oy:TS:=fun _ _ _=>False
theorem NA:PS X st Oy:=fun _ _ _ _ _ _ h=>h.elim
theorem FA {sts:List Stmt}:PSs X sts Oy:=fun _ _ _ _ _ _ h=>h.elim
end
abbrev TG:=V->St->Hp->(St->Hp->Prop)->Prop
abbrev TGs:=List V->St->Hp->(St->Hp->Prop)->Prop
def PG (X:Cx) (target:Expr) (t:TG):Prop:=
 ∀ (pins:List (Addr × Obj)) (s:Shared) (σ:St) (H:Hp) (v:V) (u:Value) (Q:St->Hp->Prop),Inv X pins σ H s->Be v u->t v σ H Q ->
  wpAny (model X.prog X.w) X.A (assign target X.env u) (fun _ s'=>∃ σ' H',Inv X pins σ' H' s'/\Q σ' H') X.xe s
def PGs (X:Cx) (ts:List Expr) (t:TGs):Prop:=
 ∀ (pins:List (Addr × Obj)) (s:Shared) (σ:St) (H:Hp) (vs:List V) (us:List Value) (Q:St->Hp->Prop),Inv X pins σ H s->Bf vs us->t vs σ H Q ->
  wpAny (model X.prog X.w) X.A (assignInOrder ((assignEach ts X.env).map (·.2)) us) (fun _ s'=>∃ σ' H',Inv X pins σ' H' s'/\Q σ' H') X.xe s
section
variable {X:Cx} {pos:Pos}
def Go (i:Nat):TG:=fun v σ H Q=>Q (σ.set i (some v)) H
theorem An {i:Nat} {x:Str} (hN:X.N.Nodup) (hi:X.N[i]?=some x) (hx:Loc X.env.scope x) (hf:X.fn x=true\/X.env.scope.names.lookup x=some .local:=by first | exact .inl rfl | exact .inr rfl | assumption):PG X (.Name x pos) (Go i):= by
 intro pins s σ H v u Q I r h
 exact wpAny_assign_Name (Kk I hN hi hx r (fun s' I'=>⟨_,H,I',h⟩) hf)
def Sc:TGs:=fun vs σ H Q=>vs=[]/\Q σ H
def PP (t:TG) (u:TGs):TGs:=fun vs σ H Q=>∃ v r,vs=v::r/\t v σ H fun σ' H'=>u r σ' H' Q
theorem BE:PGs X [] Sc:= by
 intro pins s σ H vs us Q I r h
 obtain ⟨e,h⟩:=h
 subst e
 cases r
 exact assignInOrder_nil ⟨σ,H,I,h⟩
theorem Au {e:Expr} {es:List Expr} {t:TG} {u:TGs} (h1:PG X e t) (h2:PGs X es u)
  (hs:(assignEach (e::es) X.env).map (·.2)=assign e X.env::(assignEach es X.env).map (·.2):=by rfl):PGs X (e::es) (PP t u):= by
 intro pins s σ H vs us Q I r h
 obtain ⟨v,vr,e1,h⟩:=h
 subst e1
 cases r with
 | cons r rr=>
  rw[hs]
  refine assignInOrder_cons (thn (h1 pins s σ H _ _ _ I r h) fun _ s1 ⟨σ1,H1,I1,q1⟩=>?_)
  exact h2 pins s1 σ1 H1 _ _ Q I1 rr q1
def RL (K:PySem.W.Frag) (n:Nat) (t:TGs):TG:=fun v σ H Q=>∃ a xs,v = .ref a/\SqT K H a xs/\xs.length=n/\t xs σ H Q
theorem DK {es:List Expr} {k:Nat} {t:TGs} {n:Nat} (hc:X.calm=true) (h:PGs X es t)
  (hn:(assignEach es X.env).length=n:=by rfl) (hst:(assignEach es X.env).findIdx? (·.1)=none:=by rfl):PG X (.Tuple es k pos) (RL X.K n t):= by
 intro pins s σ H v u Q I r hw
 obtain ⟨a,xs,e1,hq,hl,hw⟩:=hw
 subst e1
 cases r
 obtain ⟨its,rv,ht,hz⟩:=I.tuple hq
 refine assign_Tuple_tuple (I.ok.hd hc) ht (by simp [hn,<- hl,rv.length]) hst fun h' hx=>?_
 have I1:Inv X pins σ H { s with heap:=h' }:=I.kept (t':=s.toks) fun b o e=>hx b o (Nat.ne_of_lt (Heap.lt_size e)) e
 exact h pins _ σ H xs _ Q I1 (by simpa using rv) hw
def R3 (te:TE) (g:TG):TS:=fun D σ H=>te σ H fun x H1=>g x σ H1 D.nx
theorem IJ {tg e:Expr} {te:TE} {g:TG} (he:PE X e te) (hg:PG X tg g) (hs:swapsWithSole [tg] e pos.line X.env=pure false:=by rfl) (hw:swappedStores [tg] e X.env=pure none:=by rfl)
  (h1:(assignEach [tg] X.env).map (·.2)=[assign tg X.env]:=by rfl):PS X (.Assign [tg] e pos) (R3 te g):= by
 intro pins s σ H D I h
 refine wpAny_Assign_stores (thn (he pins s σ H _ I h) fun v s1 ⟨x,H1,I1,r1,q1⟩=>?_) hs hw
 rw[h1]
 exact thn (hg pins s1 σ H1 x v _ I1 r1 q1) fun _ s2 q=>q
theorem AB {i:Nat} {x:Str} {e:Expr} {te:TE} {pos':Pos} (hN:X.N.Nodup) (hi:X.N[i]?=some x) (hx:Loc X.env.scope x) (he:PE X e te) (hs:swapsWith e (some (.Name x pos')) pos.line X.env=pure false:=by rfl) (hf:X.fn x=true\/X.env.scope.names.lookup x=some .local:=by first | exact .inl rfl | exact .inr rfl | assumption) :
  PS X (.Assign [.Name x pos'] e pos) (R3 te (Go i)):= by
 intro pins s σ H D I h
 refine wpAny_Assign_Name (thn (he pins s σ H _ I h) fun v s1 ⟨y,H1,I1,r1,q1⟩=>?_) hs
 exact Kk I1 hN hi hx r1 (fun s2 I2=>⟨_,H1,I2,q1⟩) hf
end
section
variable {X:Cx} {pos:Pos}
def QQ (c:TT) (tb:TS):TS:=fun D σ H=>∃ W:Nat->St->Hp->Prop,(∃ m,W m σ H) /\ ∀ m σ H,W m σ H ->
 c σ H fun b H1=>if b=true then ∃ N:St->Hp->Prop,(∀ σ' H',N σ' H' -> ∃ m',m'<m/\W m' σ' H')/\tb { D with nx:=N,ct:=N,bk:=D.nx } σ H1 else D.nx σ H1
theorem NR {c:Expr} {body:List Stmt} {tc:TT} {tb:TS} (hp:PassesOwn (model X.prog X.w) X.A X.env X.xe) (hc:PT X c tc) (hb:PSs X body tb):PS X (.While c body [] pos) (QQ tc tb):= by
 intro pins s σ H D I h
 obtain ⟨W,⟨m0,w0⟩,turn⟩:=h
 refine wpAny_While (codeAny_whileLoop (fun n s'=>∃ σ' H',Inv X pins σ' H' s'/\W n σ' H') ?_ m0 ⟨σ,H,I,w0⟩)
 rintro n s1 ⟨σ1,H1,I1,w1⟩
 refine wpAny_passesOwn hp (thn (hc pins s1 σ1 H1 _ I1 (turn n σ1 H1 w1)) fun b s2 ⟨H2,I2,q2⟩=>?_)
 cases b with
 | true=>
  obtain ⟨N,hN,q2⟩:=q2
  rw[if_pos rfl]
  refine wpAny_passesOwn hp (thn (hb pins s2 σ1 H2 _ I2 q2) fun f s3 q3=>?_)
  cases f with
  | next=>
   obtain ⟨σ3,H3,I3,n3⟩:=q3
   obtain ⟨m',hm,w3⟩:=hN σ3 H3 n3
   exact ⟨m',hm,σ3,H3,I3,w3⟩
  | cont=>
   obtain ⟨σ3,H3,I3,n3⟩:=q3
   obtain ⟨m',hm,w3⟩:=hN σ3 H3 n3
   exact ⟨m',hm,σ3,H3,I3,w3⟩
  | brk=>exact q3
  | ret v=>exact q3
 | false=>
  rw[if_neg Bool.false_ne_true]
  exact wpAny_execs_nil ⟨σ1,H2,I2,q2⟩
end
structure It where
 go:Nat->Hp->Prop
 yld:Nat->Hp->V->Hp->Prop
 stop:Nat->Hp->Prop
def ES (X:Cx) (pins:List (Addr × Obj)) (H:Hp) (b:Addr):Prop:=
 H b=none/\b≠X.env.locals/\b ∉ X.fs/\(b ∈ X.ex\/X.s₀.heap.objs.size<=b)/\(∀ x c,X.env.cells.lookup x=some c->c≠b) /\ ∀ p ∈ X.pn++pins,p.1≠b
theorem Inv.fpOk {X:Cx} {pins:List (Addr × Obj)} {σ:St} {H H':Hp} {s:Shared} {b:Addr} (I:Inv X pins σ H s) (hb:s.heap.objs.size<=b) (hn:H' b=none):ES X pins H' b:= by
 refine ⟨hn,Nat.ne_of_gt (Nat.lt_of_lt_of_le I.lt hb),I.nofs hb,.inr (Nat.le_trans I.sz hb),fun x c e z=>?_,fun p hp z=>?_⟩
 ·obtain ⟨v,q⟩:=I.cell x c e
  exact absurd (Nat.lt_of_lt_of_le q.lt (by rw[z];exact hb)) (Nat.lt_irrefl _)
 ·exact absurd (Nat.lt_of_lt_of_le (Heap.lt_size (I.pin p hp).1) (by rw[z];exact hb)) (Nat.lt_irrefl _)
structure MA (P:Program) (w:World) (K:PySem.W.Frag) (tg:Expr) (J:It) (fp:List Addr) (it:Addr) (tn:Nat->Heap->Prop):Prop where
 mem:it ∈ fp
 obj : ∀ i h,tn i h -> ∀ b ∈ fp,∃ o,h.get? b=some o /\ ∀ v,o.data ≠ .cell v
 keep : ∀ i h h',tn i h->(∀ b ∈ fp,∀ o,h.get? b=some o->h'.get? b=some o)->tn i h'
 item : ∀ (X:Cx),X.prog=P->X.w=w->X.K=K->X.calm=true -> ∀ (i:Nat) (pins:List (Addr × Obj)) (s:Shared) (σ:St) (H:Hp) (E:Value->Shared->Prop),Inv X pins σ H s->(∀ b ∈ fp,ES X pins H b)->tn i s.heap->J.go i H ->
  wpAny (model P w) X.A (pyNext (.ref it)) (fun r s1=>∃ u,r=some u /\
   wpAny (model P w) X.A (letOwnedTupleGo tg (.ref it) u) (fun _ s2=>∃ x H',Inv X pins σ H' s2/\Be x u/\J.yld i H x H'/\tn (i+1) s2.heap /\ ∀ b ∈ fp,H' b=none) E s1) E s
 done : ∀ (X:Cx),X.prog=P->X.w=w->X.K=K->X.calm=true -> ∀ (i:Nat) (pins:List (Addr × Obj)) (s:Shared) (σ:St) (H:Hp) (E:Value->Shared->Prop),Inv X pins σ H s->(∀ b ∈ fp,ES X pins H b)->tn i s.heap->J.stop i H ->
  wpAny (model P w) X.A (pyNext (.ref it)) (fun r s1=>r=none/\Inv X pins σ H s1) E s
 self : ∀ (A:Around) (i:Nat) (s:Shared) (Q:Value->Shared->Prop) (E:Value->Shared->Prop),tn i s.heap->Q (.ref it) s->wpAny (model P w) A (pyIter (.ref it)) Q E s
abbrev TI:=St->Hp->(It->Hp->Prop)->Prop
def PIE (X:Cx) (pins:List (Addr × Obj)) (σ:St) (tg:Expr) (R:It->Hp->Prop) (itv:Value) (s2:Shared):Prop:=
 ∃ (it:Addr) (fp:List Addr) (tn:Nat->Heap->Prop) (J:It) (H':Hp),itv = .ref it/\Inv X pins σ H' s2/\MA X.prog X.w X.K tg J fp it tn/\tn 0 s2.heap/\(∀ b ∈ fp,ES X pins H' b)/\R J H'
def PI (X:Cx) (tg iter:Expr) (wi:TI):Prop:=
 ∀ (pins:List (Addr × Obj)) (s:Shared) (σ:St) (H:Hp) (R:It->Hp->Prop),Inv X pins σ H s->wi σ H R ->
  wpAny (model X.prog X.w) X.A (eval iter X.env) (fun v s1=>wpAny (model X.prog X.w) X.A (pyIter v) (PIE X pins σ tg R) X.xe s1) X.xe s
theorem PK {M:Model} {A:Around} {E:Value->Shared->Prop} {s:Shared} {tg:Expr} {it:Addr} {u:Value} {o:Obj} {n:String} {vs:Array Value} {Q:Unit->Shared->Prop} (ho:s.heap.get? it=some o) (hc:o.cls = .type n) (hd:o.data = .fields vs)
    (hn : ["enumerate","zip","dict_itemiterator","dict_reverseitemiterator","odict_iterator","itertools.zip_longest","itertools.pairwise"].contains n = false) (hQ : Q () s) : wpAny M A (letOwnedTupleGo tg (.ref it) u) Q E s:= by
  unfold letOwnedTupleGo
  cases tg <;> first
    | exact wpAny_pure hQ
    | (cases u <;> first
        | exact wpAny_pure hQ
        | (refine wpAny_bind (wpAny_load ho ?_)
           rw[hc,hd]
           show wpAny M A (if (["enumerate","zip","dict_itemiterator","dict_reverseitemiterator","odict_iterator","itertools.zip_longest","itertools.pairwise"].contains n && vs[0]? == some (rawInt _)) = true then _ else _) Q E s
           rw[if_neg (by intro h;rw[hn,Bool.false_and] at h;cases h)]
           exact wpAny_pure hQ))
def Itl (K:PySem.W.Frag) (a:Addr):It:=
 ⟨fun i H=>∃ xs x,SqL K H a xs/\xs[i]?=some x,fun i H x H'=>H'=H /\ ∀ xs,SqL K H a xs->xs[i]?=some x,fun i H=>∃ xs,SqL K H a xs/\xs.length<=i⟩
def Itr (lo:Int) (n:Nat):It:=⟨fun i _=>i<n,fun i H x H'=>H'=H/\x = .int (lo+i),fun i _=>n<=i⟩
theorem LQ {P:Program} {w:World} {K:PySem.W.Frag} {tg:Expr} (a it:Addr):MA P w K tg (Itl K a) [it] it (fun i h=>h.IsListIter it a i) where
 mem:=by simp
 obj:=fun i h st b hb=>by
  have e:b=it:=by simpa using hb
  subst e
  obtain ⟨o,e,c,d⟩:=st
  exact ⟨o,e,fun v z=>by rw[d] at z;cases z⟩
 keep:=fun i h h' st k=>st.at fun o e=>k it (by simp) o e
 item:= by
  intro X hP hw hK hc i pins s σ H E I hf st hg
  subst hP hw hK
  obtain ⟨xs,x,hq,hx⟩:=hg
  obtain ⟨its,rv,p,hz⟩:=I.list hq
  obtain ⟨u,hu,ru⟩:=rv.get hx
  obtain ⟨f0,f1,f2,f3,f4,f5⟩:=hf it (by simp)
  refine wpAny_pyNext_list_item st p.isList (x:=u) (by simpa using hu) fun h' st' sb=>?_
  have I1:Inv X pins σ H { s with heap:=h' }:=I.turned (t':=s.toks) (fun b o hb e=>(sb.2 b hb).trans e) f0 f1 f3 f4 f5
  obtain ⟨o,e,c,d⟩:=id st'
  exact ⟨u,rfl,PK (s:={ s with heap:=h' }) e c d (by decide) ⟨x,H,I1,ru,⟨rfl,fun ys hy=>by rw[I.list_inj hy hq];exact hx⟩,st',fun b hb=>(hf b hb).1⟩⟩
 done:= by
  intro X hP hw hK hc i pins s σ H E I hf st hg
  subst hP hw hK
  obtain ⟨xs,hq,hx⟩:=hg
  obtain ⟨its,rv,p,hz⟩:=I.list hq
  obtain ⟨f0,f1,f2,f3,f4,f5⟩:=hf it (by simp)
  have hl:=rv.length
  exact wpAny_pyNext_list_end (I.ok.hd hc) st p.isList (by simp;omega) fun h' eb=>⟨rfl,I.turned (t':=s.toks) (fun b o hb e=>eb b o hb e) f0 f1 f3 f4 f5⟩
 self:=fun _ _ _ _ _ st h=>wpAny_pyIter_listiter st h
theorem KW {P:Program} {w:World} {K:PySem.W.Frag} {tg:Expr} (it:Addr) (lo:Int) (n:Nat):MA P w K tg (Itr lo n) [it] it (fun i h=>IsRangeIter h it (lo+(i:Nat)*1) ((n:Int)-(i:Nat)) 1) where
 mem:=by simp
 obj:=fun i h st b hb=>by
  have e:b=it:=by simpa using hb
  subst e
  exact ⟨_,st,fun v z=>by
   have z':Data.fields _=Data.cell v:=z
   cases z'⟩
 keep:=fun i h h' st k=>k it (by simp) _ st
 item:= by
  intro X hP hw hK hc i pins s σ H E I hf st hg
  subst hP hw hK
  obtain ⟨f0,f1,f2,f3,f4,f5⟩:=hf it (by simp)
  have W:=Walks.range (prog:=X.prog) (w:=X.w) (I.ok.hd hc) it lo 1 n
  refine W.item i s _ _ hg st fun v h' tk hv st' kk=>?_
  obtain ⟨t,rfl⟩:=hv
  have I1:Inv X pins σ H { s with heap:=h',toks:=tk }:=I.turned (fun b o hb e=>kk b o (by simpa using hb) e) f0 f1 f3 f4 f5
  refine ⟨_,rfl,PK (s:={ s with heap:=h',toks:=tk }) (n:="range_iterator") st' rfl rfl (by decide) ⟨.int (lo + i),H,I1,⟨t,?_⟩,⟨rfl,rfl⟩,st',fun b hb=>(hf b hb).1⟩⟩
  rw[Int.mul_one]
 done:= by
  intro X hP hw hK hc i pins s σ H E I hf st hg
  subst hP hw hK
  obtain ⟨f0,f1,f2,f3,f4,f5⟩:=hf it (by simp)
  exact wpAny_pyNext_range_end (I.ok.hd hc) st (by have:n<=i:=hg;omega) fun h' eb=>⟨rfl,I.turned (t':=s.toks) (fun b o hb e=>eb b o hb e) f0 f1 f3 f4 f5⟩
 self:=fun _ _ _ _ _ st h=>wpAny_pyIter_rangeiter st h
end L2
namespace L2
open PySem PySem.Spec PyProof.Rows
section
variable {X:Cx} {tg:Expr}
def Qd (K:PySem.W.Frag) (tl:TE):TI:=fun σ H R=>tl σ H fun x H1=>∃ a,x = .ref a/\(∃ xs,SqL K H1 a xs)/\R (Itl K a) H1
theorem Py {l:Expr} {tl:TE} (hl:PE X l tl):PI X tg l (Qd X.K tl):= by
 intro pins s σ H R I h
 refine thn (hl pins s σ H _ I h) fun v s1 ⟨x,H1,I1,r1,q1⟩=>?_
 obtain ⟨a,e,⟨xs,hq⟩,q⟩:=q1
 subst e
 cases r1
 obtain ⟨its,rv,p,hz⟩:=I1.list hq
 refine wpAny_pyIter_list p.isList ?_
 refine ⟨s1.heap.objs.size,[s1.heap.objs.size],_,_,H1,rfl,I1.kept (t':=s1.toks) fun b o e=>Heap.get?_push_of_some _ e,LQ a _,⟨_,Heap.get?_push_size _ rfl,rfl,rfl⟩,fun b hb=>?_,q⟩
 have e:b=s1.heap.objs.size:=by simpa using hb
 subst e
 exact I1.fpOk (Nat.le_refl _) (I1.hok.fresh (Nat.le_refl _))
theorem JP {pins:List (Addr × Obj)} {σ:St} {H:Hp} {s:Shared} {R:It->Hp->Prop} {E:Value->Shared->Prop} {lo hi:Int} {t u v:Tok} {tk:Nat} (I:Inv X pins σ H s) (h1 : -(2 ^ 62)<=lo) (h2:lo<2 ^ 62) (h3 : -(2 ^ 62)<=hi) (h4:hi<2 ^ 62)
  (q : R (Itr lo (hi - lo).toNat) H) : wpAny (model X.prog X.w) X.A (pyIter (.ref s.heap.objs.size)) (PIE X pins σ tg R) E { s with heap:=s.heap.push { cls:=.type "range",data:=.fields #[.int lo t,.int hi u,.int 1 v] },toks:=tk }:= by
 refine wpAny_pyIter_range (IsRange.new ..) (small_one h1 h2 h3 h4) ?_
 have I1 : Inv X pins σ H { s with heap:=s.heap.push { cls:=.type "range",data:=.fields #[.int lo t,.int hi u,.int 1 v] },toks:=tk }:=I.kept fun b o e=>Heap.get?_push_of_some _ e
 refine ⟨(s.heap.push { cls:=.type "range",data:=.fields #[.int lo t,.int hi u,.int 1 v] }).objs.size,[(s.heap.push { cls:=.type "range",data:=.fields #[.int lo t,.int hi u,.int 1 v] }).objs.size],_,_,H,rfl,
  I1.kept (t':=tk) fun b o e=>Heap.get?_push_of_some _ e,KW _ lo (hi-lo).toNat,?_,fun b hb=>?_,q⟩
 ·have e1:lo+((0:Nat):Int)*1=lo:=by simp
  have e2:(((hi-lo).toNat:Nat):Int)-((0:Nat):Int)=Builtin.Range.rangeSize lo hi 1:=by rw[rangeSize_one];split <;> omega
  show IsRangeIter _ _ (lo+((0:Nat):Int)*1) ((((hi-lo).toNat:Nat):Int)-((0:Nat):Int)) 1
  rw[e1,e2]
  exact Heap.get?_push_size _ rfl
 ·have e : b = (s.heap.push { cls:=.type "range",data:=.fields #[.int lo t,.int hi u,.int 1 v] }).objs.size:=by simpa using hb
  subst e
  exact I1.fpOk (Nat.le_refl _) (I1.hok.fresh (Nat.le_refl _))
def RS (ta:TA):TI:=fun σ H R=>ta σ H fun vs H1=>∃ j:Int,vs=[.int j] /\ -(2 ^ 62)<=j/\j<2 ^ 62/\R (Itr 0 j.toNat) H1
def RB (ta:TA):TI:=fun σ H R=>ta σ H fun vs H1=>∃ i j:Int,vs=[.int i,.int j]/\(-(2 ^ 62)<=i/\i<2 ^ 62 /\ -(2 ^ 62)<=j/\j<2 ^ 62)/\R (Itr i (j-i).toNat) H1
theorem Fy {a : Expr} {ta : TA} {p pos : Pos} (hg : Gl X "range") (hm : X.mg "range" = none) (ha : PA X [a] ta) (hs : starEach [a] X.env = [(false,eval a X.env)]:=by rfl) : PI X tg (.Call (.Name "range" p) [a] [] pos) (RS ta):= by
 intro pins s σ H R I h
 refine Call_ (Gq I hg hm boot_range (PyProof.Rows.callWith_type1 (thn (ha pos pins s σ H _ I h) fun us s1 ⟨vs,H1,I1,r1,q1⟩=>?_) hs rfl))
 obtain ⟨j,e,q1,q2,q⟩:=q1
 subst e
 cases r1 with
 | cons r rr=>
  cases rr
  obtain ⟨t,rfl⟩:=r
  exact call_range_1 (JP I1 (by omega) (by omega) q1 q2 (by simpa using q))
theorem M0 {a b : Expr} {ta : TA} {p pos : Pos} (hg : Gl X "range") (hm : X.mg "range" = none) (ha : PA X [a,b] ta) (hs : starEach [a,b] X.env = [(false,eval a X.env),(false,eval b X.env)]:=by rfl) (hs2 : starEach [b] X.env = [(false,eval b X.env)]:=by rfl) :
  PI X tg (.Call (.Name "range" p) [a,b] [] pos) (RB ta):= by
 intro pins s σ H R I h
 refine Call_ (Gq I hg hm boot_range (PyProof.Rows.callWith_type1 (thn (ha pos pins s σ H _ I h) fun us s1 ⟨vs,H1,I1,r1,q1⟩=>?_) (by rw[hs,hs2]) (by rw[hs2];rfl)))
 obtain ⟨i,j,e,⟨q1,q2,q3,q4⟩,q⟩:=q1
 subst e
 cases r1 with
 | cons r rr=>
  cases rr with
  | cons r' rr=>
   cases rr
   obtain ⟨t,rfl⟩:=r
   obtain ⟨t',rfl⟩:=r'
   exact call_range_2 (JP I1 q1 q2 q3 q4 q)
def ST (wi:TI) (g:TG) (tb:TS):TS:=fun D σ H=>wi σ H fun J H1=>∃ W:Nat->Nat->St->Hp->Prop,(∃ m,W 0 m σ H1) /\ ∀ i m σ H,W i m σ H ->
 (J.stop i H/\D.nx σ H)\/(J.go i H /\ ∃ N:St->Hp->Prop,(∀ σ' H',N σ' H' -> ∃ m',m'<m/\W (i+1) m' σ' H') /\ ∀ x H',J.yld i H x H'->g x σ H' fun σ2 H2=>tb { D with nx:=N,ct:=N,bk:=D.nx } σ2 H2)
def Ee (fp:List Addr) (h:Heap):List (Addr × Obj):=fp.filterMap fun b=>(h.get? b).map fun o=>(b,o)
theorem Bt {fp:List Addr} {h:Heap} {b:Addr} {o:Obj} (hb:b ∈ fp) (e:h.get? b=some o):(b,o) ∈ Ee fp h:=List.mem_filterMap.mpr ⟨b,hb,by rw[e];rfl⟩
theorem IG {fp:List Addr} {h:Heap} {p:Addr × Obj} (hp:p ∈ Ee fp h):p.1 ∈ fp/\h.get? p.1=some p.2:= by
 obtain ⟨b,hb,e⟩:=List.mem_filterMap.mp hp
 cases q:h.get? b with
 | none=>rw[q] at e;cases e
 | some o=>
  rw[q] at e
  have e':(b,o)=p:=Option.some.inj e
  subst e'
  exact ⟨hb,q⟩
theorem Inv.pinned {pins:List (Addr × Obj)} {σ:St} {H:Hp} {s:Shared} {fp:List Addr} (I:Inv X pins σ H s) (hf : ∀ b ∈ fp,ES X pins H b) (ho : ∀ b ∈ fp,∃ o,s.heap.get? b=some o /\ ∀ v,o.data ≠ .cell v):Inv X (pins++Ee fp s.heap) σ H s:=
 I.pins_of fun p hp=>(List.mem_append.mp hp).elim (fun z=>I.pin p (List.mem_append_right _ z)) fun z=>by
  obtain ⟨hb,e⟩:=IG z
  obtain ⟨f0,f1,f2,_⟩:=hf p.1 hb
  obtain ⟨o,e',d⟩:=ho p.1 hb
  rw[e] at e';cases e'
  exact ⟨e,f0,f1,f2,d⟩
theorem Inv.unpinned {pins pl:List (Addr × Obj)} {σ:St} {H:Hp} {s:Shared} (I:Inv X (pins++pl) σ H s):Inv X pins σ H s:=I.pins_of fun p hp=>I.pin p (List.mem_append_right _ (List.mem_append_left _ hp))
theorem BZ {iter:Expr} {body:List Stmt} {wi:TI} {g:TG} {tb:TS} {pos:Pos} (hp:PassesOwn (model X.prog X.w) X.A X.env X.xe) (hc:X.calm=true) (hi:PI X tg iter wi) (hg:PG X tg g) (hb:PSs X body tb)
  (hs : ∀ x,foldedSetIterable iter X.env x=pure x:=by intro _;rfl):PS X (.For tg iter body [] pos) (ST wi g tb):= by
 intro pins s σ H D I h
 refine wpAny_For (thn (hi pins s σ H _ I h) fun v s1 h1=>thn h1 fun itv s2 h2=>?_) hs
 obtain ⟨it,fp,tn,J,H2,e,I2,T,st2,f2,W,⟨m0,w0⟩,turn⟩:=h2
 subst e
 have stat : ∀ {H':Hp},(∀ b ∈ fp,H' b=none) -> ∀ b ∈ fp,ES X pins H' b:=fun hn b hb=>⟨hn b hb,(f2 b hb).2⟩
 refine codeAny_forLoop_any (fun n s'=>∃ i σ' H',Inv X pins σ' H' s'/\tn i s'.heap/\(∀ b ∈ fp,H' b=none)/\W i n σ' H') ?_ m0 ⟨0,σ,H2,I2,st2,fun b hb=>(f2 b hb).1,w0⟩
 rintro n s3 ⟨i,σ3,H3,I3,st3,fr3,w3⟩
 rcases turn i n σ3 H3 w3 with ⟨stop,qn⟩ | ⟨go,N,hN,step⟩
 ·refine wpAny_passesOwn hp (thn (T.done X rfl rfl rfl hc i pins s3 σ3 H3 X.xe I3 (stat fr3) st3 stop) fun r s4 ⟨hr,I4⟩=>?_)
  subst hr
  exact wpAny_execs_nil ⟨σ3,H3,I4,qn⟩
 ·refine wpAny_passesOwn hp (thn (T.item X rfl rfl rfl hc i pins s3 σ3 H3 X.xe I3 (stat fr3) st3 go) fun r s4 ⟨u,hr,h4⟩=>?_)
  subst hr
  refine wpAny_passesOwn hp (thn h4 fun _ s5 ⟨x,H5,I5,r5,y5,st5,fr5⟩=>?_)
  have I5':=I5.pinned (stat fr5) (T.obj _ _ st5)
  refine wpAny_passesOwn hp (thn (hg _ s5 σ3 H5 x u _ I5' r5 (step x H5 y5)) fun _ s6 ⟨σ6,H6,I6,q6⟩=>?_)
  refine wpAny_passesOwn hp (thn (hb _ s6 σ6 H6 _ I6 q6) fun f s7 q7=>?_)
  have again : ∀ {σ7:St} {H7:Hp},Inv X (pins++Ee fp s5.heap) σ7 H7 s7->N σ7 H7 -> ∃ m,m<n /\ ∃ i σ' H',Inv X pins σ' H' s7/\tn i s7.heap/\(∀ b ∈ fp,H' b=none)/\W i m σ' H':=fun {σ7 H7} I7 n7=>by
   obtain ⟨m',hm,w7⟩:=hN σ7 H7 n7
   refine ⟨m',hm,i+1,σ7,H7,I7.unpinned,T.keep _ _ _ st5 fun b hb o e=>(I7.pin (b,o) (List.mem_append_right _ (List.mem_append_right _ (Bt hb e)))).1,fun b hb=>?_,w7⟩
   obtain ⟨o,e,d⟩:=T.obj _ _ st5 b hb
   exact (I7.pin (b,o) (List.mem_append_right _ (List.mem_append_right _ (Bt hb e)))).2.1
  cases f with
  | next=>obtain ⟨σ7,H7,I7,n7⟩:=q7;exact again I7 n7
  | cont=>obtain ⟨σ7,H7,I7,n7⟩:=q7;exact again I7 n7
  | brk=>obtain ⟨σ7,H7,I7,q7⟩:=q7;exact ⟨σ7,H7,I7.unpinned,q7⟩
  | ret v=>obtain ⟨x7,σ7,H7,I7,r7,q7⟩:=q7;exact ⟨x7,σ7,H7,I7.unpinned,r7,q7⟩
end
theorem Bq {K:PySem.W.Frag} {a:Addr} {xs:List V} {g:TG} {tb:TS} {D:IL} {σ:St} {H:Hp} (Pv:Nat->St->Hp->Prop) (h0:Pv 0 σ H) (hl : ∀ i σ H,i<=xs.length->Pv i σ H->SqL K H a xs)
  (hs : ∀ i x σ H,xs[i]?=some x->Pv i σ H->g x σ H fun σ2 H2=>tb { D with nx:=Pv (i+1),ct:=Pv (i+1),bk:=D.nx } σ2 H2) (hd : ∀ σ H,Pv xs.length σ H->D.nx σ H) :
  ∃ W:Nat->Nat->St->Hp->Prop,(∃ m,W 0 m σ H) /\ ∀ i m σ H,W i m σ H ->
   ((Itl K a).stop i H/\D.nx σ H)\/((Itl K a).go i H /\ ∃ N:St->Hp->Prop,(∀ σ' H',N σ' H' -> ∃ m',m'<m/\W (i+1) m' σ' H') /\ ∀ x H',(Itl K a).yld i H x H'->g x σ H' fun σ2 H2=>tb { D with nx:=N,ct:=N,bk:=D.nx } σ2 H2):= by
 refine ⟨fun i m σ H=>m=xs.length-i/\i<=xs.length/\Pv i σ H,⟨xs.length,by simp,Nat.zero_le _,h0⟩,?_⟩
 rintro i m σ H ⟨rfl,hi,p⟩
 have q:=hl i σ H hi p
 by_cases hlt:i<xs.length
 ·refine .inr ⟨⟨xs,xs[i],q,by simp [hlt]⟩,Pv (i+1),fun σ' H' p'=>⟨xs.length-(i+1),by omega,rfl,hlt,p'⟩,fun x H' y=>?_⟩
  obtain ⟨e,y⟩:=y
  subst e
  exact hs i x σ _ (y xs q) p
 ·have e:i=xs.length:=by omega
  subst e
  exact .inl ⟨⟨xs,q,Nat.le_refl _⟩,hd σ H p⟩
theorem Ff {lo:Int} {n:Nat} {g:TG} {tb:TS} {D:IL} {σ:St} {H:Hp} (Pv:Nat->St->Hp->Prop) (h0:Pv 0 σ H)
  (hs : ∀ i σ H,i<n->Pv i σ H->g (.int (lo+i)) σ H fun σ2 H2=>tb { D with nx:=Pv (i+1),ct:=Pv (i+1),bk:=D.nx } σ2 H2) (hd : ∀ σ H,Pv n σ H->D.nx σ H) :
  ∃ W:Nat->Nat->St->Hp->Prop,(∃ m,W 0 m σ H) /\ ∀ i m σ H,W i m σ H ->
   ((Itr lo n).stop i H/\D.nx σ H)\/((Itr lo n).go i H /\ ∃ N:St->Hp->Prop,(∀ σ' H',N σ' H' -> ∃ m',m'<m/\W (i+1) m' σ' H') /\ ∀ x H',(Itr lo n).yld i H x H'->g x σ H' fun σ2 H2=>tb { D with nx:=N,ct:=N,bk:=D.nx } σ2 H2):= by
 refine ⟨fun i m σ H=>m=n-i/\i<=n/\Pv i σ H,⟨n,by simp,Nat.zero_le _,h0⟩,?_⟩
 rintro i m σ H ⟨rfl,hi,p⟩
 by_cases hlt:i<n
 ·refine .inr ⟨hlt,Pv (i+1),fun σ' H' p'=>⟨n-(i+1),by omega,rfl,hlt,p'⟩,fun x H' y=>?_⟩
  obtain ⟨e,y⟩:=y
  subst e y
  exact hs i σ _ hlt p
 ·have e:i=n:=by omega
  subst e
  exact .inl ⟨Nat.le_refl _,hd σ H p⟩
end L2
namespace L2
open PySem PySem.Spec PyProof.Rows
abbrev R2:=V->V->Hp->VK->Prop
def OpR (X:Cx) (f:Value->Value->Sem Value) (r:R2):Prop:=
 ∀ (pins:List (Addr × Obj)) (s:Shared) (σ:St) (H:Hp) (x y:V) (v u:Value) (Q:VK),Inv X pins σ H s->Be x v->Be y u->r x y H Q ->
  wpAny (model X.prog X.w) X.A (f v u) (EP X pins σ Q) X.xe s
def UnR (X:Cx) (f:Value->Sem Value) (r:V->Hp->VK->Prop):Prop:=
 ∀ (pins:List (Addr × Obj)) (s:Shared) (σ:St) (H:Hp) (x:V) (v:Value) (Q:VK),Inv X pins σ H s->Be x v->r x H Q ->
  wpAny (model X.prog X.w) X.A (f v) (EP X pins σ Q) X.xe s
def BW (X:Cx) (f:Value) (r:List V->Hp->VK->Prop):Prop:=
 ∀ (pins:List (Addr × Obj)) (s:Shared) (σ:St) (H:Hp) (xs:List V) (us:List Value) (Q:VK),Inv X pins σ H s->Bf xs us->r xs H Q ->
  wpAny (model X.prog X.w) X.A (call f us) (EP X pins σ Q) X.xe s
def SB (X:Cx) (r:V->Hp->(Bool->Hp->Prop)->Prop):Prop:=
 ∀ (pins:List (Addr × Obj)) (s:Shared) (σ:St) (H:Hp) (x:V) (v:Value) (Q:Bool->Hp->Prop),Inv X pins σ H s->Be x v->r x H Q ->
  wpAny (model X.prog X.w) X.A (truthy v) (TP X pins σ Q) X.xe s
def tOp (r:R2) (ta tb:TE):TE:=fun σ H Q=>ta σ H fun x H1=>tb σ H1 fun y H2=>r x y H2 Q
def tUn (r:V->Hp->VK->Prop) (ta:TE):TE:=fun σ H Q=>ta σ H fun x H1=>r x H1 Q
def rI (C:Int->Int->Prop) (g:Int->Int->V):R2:=fun x y H Q=>∃ i j,x = .int i/\y = .int j/\C i j/\Q (g i j) H
def rI0 (g:Int->Int->V):R2:=fun x y H Q=>∃ i j,x = .int i/\y = .int j/\Q (g i j) H
def rU (g:Int->V):V->Hp->VK->Prop:=fun x H Q=>∃ i,x = .int i/\Q (g i) H
section
variable {X:Cx} {a b c:Expr} {ta tb tc:TE} {pos:Pos}
theorem RM (ha:PE X a ta) (hb:PE X b tb) {pins:List (Addr × Obj)} {s:Shared} {σ:St} {H:Hp} {R:V->V->Hp->Prop} (I:Inv X pins σ H s)
  (h:ta σ H fun x H1=>tb σ H1 fun y H2=>R x y H2) {Q:Value->Shared->Prop} {f:Value->Value->Sem Value}
  (hf : ∀ v u s2 x y H2,Inv X pins σ H2 s2->Be x v->Be y u->R x y H2->wpAny (model X.prog X.w) X.A (f v u) Q X.xe s2) :
  wpAny (model X.prog X.w) X.A (eval a X.env) (fun v s₁=>wpAny (model X.prog X.w) X.A (eval b X.env) (fun u s₂=>wpAny (model X.prog X.w) X.A (f v u) Q X.xe s₂) X.xe s₁) X.xe s:= by
 refine thn (ha pins s σ H _ I h) fun v s1 ⟨x,H1,I1,r1,q1⟩=>?_
 refine thn (hb pins s1 σ H1 _ I1 q1) fun u s2 ⟨y,H2,I2,r2,q2⟩=>?_
 exact hf v u s2 x y H2 I2 r1 r2 q2
theorem Ax {op:Operator} {r:R2} (ho:OpR X (binaryOp op) r) (ha:PE X a ta) (hb:PE X b tb):PE X (.BinOp a op b pos) (tOp r ta tb):= by
 intro pins s σ H Q I h
 exact wpAny_BinOp (RM ha hb I h fun v u s2 x y H2 I2 rx ry q=>ho pins s2 σ H2 x y v u Q I2 rx ry q)
theorem KN {op:UnaryOp} {r:V->Hp->VK->Prop} (ho:UnR X (unaryOp op) r) (ha:PE X a ta):PE X (.UnaryOp op a pos) (tUn r ta):= by
 intro pins s σ H Q I h
 exact UnaryOp_ (thn (ha pins s σ H _ I h) fun v s1 ⟨x,H1,I1,r1,q1⟩=>ho pins s1 σ H1 x v Q I1 r1 q1)
theorem opI {f:Value->Value->Sem Value} {C:Int->Int->Prop} {g:Int->Int->Int}
  (rule : ∀ (i j:Int) (t u:Tok) (s:Shared) (Q:Value->Shared->Prop) (E:Value->Shared->Prop),C i j->Q (.int (g i j) s.toks) { s with toks:=s.toks+1 }->wpAny (model X.prog X.w) X.A (f (.int i t) (.int j u)) Q E s) :
  OpR X f (rI C fun i j=>.int (g i j)):= by
 intro pins s σ H x y v u Q I rx ry h
 obtain ⟨i,j,rfl,rfl,hc,q⟩:=h
 obtain ⟨t,rfl⟩:=rx
 obtain ⟨t',rfl⟩:=ry
 exact rule i j t t' s _ _ hc ⟨.int (g i j),H,I.tok _,⟨_,rfl⟩,q⟩
theorem Sr {f:Value->Value->Sem Value} {g:Int->Int->Int}
  (rule : ∀ (i j:Int) (t u:Tok) (s:Shared) (Q:Value->Shared->Prop) (E:Value->Shared->Prop),Q (.int (g i j) s.toks) { s with toks:=s.toks+1 }->wpAny (model X.prog X.w) X.A (f (.int i t) (.int j u)) Q E s) :
  OpR X f (rI0 fun i j=>.int (g i j)):= by
 intro pins s σ H x y v u Q I rx ry h
 obtain ⟨i,j,rfl,rfl,q⟩:=h
 obtain ⟨t,rfl⟩:=rx
 obtain ⟨t',rfl⟩:=ry
 exact rule i j t t' s _ _ ⟨.int (g i j),H,I.tok _,⟨_,rfl⟩,q⟩
theorem Rc {f:Value->Value->Sem Value} {g:Int->Int->Bool}
  (rule : ∀ (i j:Int) (t u:Tok) (s:Shared) (Q:Value->Shared->Prop) (E:Value->Shared->Prop),Q (.bool (g i j)) s->wpAny (model X.prog X.w) X.A (f (.int i t) (.int j u)) Q E s) :
  OpR X f (rI0 fun i j=>.bl (g i j)):= by
 intro pins s σ H x y v u Q I rx ry h
 obtain ⟨i,j,rfl,rfl,q⟩:=h
 obtain ⟨t,rfl⟩:=rx
 obtain ⟨t',rfl⟩:=ry
 exact rule i j t t' s _ _ ⟨.bl (g i j),H,I,rfl,q⟩
def SD (i j:Int):Prop:=0<=j/\j<=1000000/\i.natAbs<2 ^ 64
def Rb (i j:Int):Prop:=(-(2 ^ 64)<i/\i<2 ^ 64)\/(-(2 ^ 64)<j/\j<2 ^ 64)
theorem Rb.ok {i j:Int} (h:Rb i j):IntMulOk i j:= by
 rcases h with ⟨h1,h2⟩ | ⟨h1,h2⟩
 ·exact .of_left (intBits_le_64 h1 h2)
 ·exact .of_right (intBits_le_64 h1 h2)
theorem BD:OpR X (binaryOp .Add) (rI0 fun i j=>.int (i+j)):=Sr fun _ _ _ _ _ _ _ q=>add_int q
theorem ER:OpR X (binaryOp .Sub) (rI0 fun i j=>.int (i-j)):=Sr fun _ _ _ _ _ _ _ q=>sub_int q
theorem Ca:OpR X (binaryOp .Mod) (rI (fun _ j=>0<j) fun i j=>.int (i % j)):=opI fun i j _ _ _ _ _ hc q=>by
 have h1:(0:Int)<j:=hc
 exact mod_int' (by omega) (by rw[Int.fmod_eq_emod_of_nonneg i (by omega)];exact q)
theorem EN:OpR X (binaryOp .Pow) (rI SD fun i j=>.int (i ^ j.toNat)):=opI fun _ _ _ _ _ _ _ hc q=>pow_int_small hc.1 hc.2.1 hc.2.2 q
theorem unI {f:Value->Sem Value} {g:Int->Int}
  (rule : ∀ (i:Int) (t:Tok) (s:Shared) (Q:Value->Shared->Prop) (E:Value->Shared->Prop),Q (.int (g i) s.toks) { s with toks:=s.toks+1 }->wpAny (model X.prog X.w) X.A (f (.int i t)) Q E s) :
  UnR X f (rU fun i=>.int (g i)):= by
 intro pins s σ H x v Q I rx h
 obtain ⟨i,rfl,q⟩:=h
 obtain ⟨t,rfl⟩:=rx
 exact rule i t s _ _ ⟨.int (g i),H,I.tok _,⟨_,rfl⟩,q⟩
theorem Gx:UnR X (unaryOp .USub) (rU fun i=>.int (-i)):=unI fun _ _ _ _ _ q=>neg_int q
end
def R9:V->V->Bool
 | .non,.non=>true | .non,.int _=>true | .int _,.non=>true | .non,.bl _=>true | .bl _,.non=>true | .non,.str _=>true | .str _,.non=>true
 | .int _,.int _=>true | .bl _,.bl _=>true | .str _,.str _=>true | .byt _,.byt _=>true
 | .int _,.str _=>true | .str _,.int _=>true | .bl _,.str _=>true | .str _,.bl _=>true
 | _,_=>false
def rEq:R2:=fun x y H Q=>R9 x y=true/\Q (.bl (decide (x=y))) H
def rNe:R2:=fun x y H Q=>R9 x y=true/\Q (.bl (!decide (x=y))) H
theorem LJ {i j:Int}:decide (V.int i=V.int j)=(i==j):= by
 rw[Bool.eq_iff_iff]
 simp
theorem Ol {i j:Bool}:decide (V.bl i=V.bl j)=(i==j):= by
 rw[Bool.eq_iff_iff]
 simp
theorem Ml {i j:Str}:decide (V.str i=V.str j)=(i==j):= by
 rw[Bool.eq_iff_iff]
 simp
theorem Me {i j:Array UInt8}:decide (V.byt i=V.byt j)=(i.toList==j.toList):= by
 rw[Bool.eq_iff_iff]
 cases i
 cases j
 simp
section
variable {X:Cx} {a b c:Expr} {ta tb tc:TE} {pos:Pos}
theorem AO {pins:List (Addr × Obj)} {σ:St} {H:Hp} {s:Shared} {Q:VK} {k k':Bool} (I:Inv X pins σ H s) (q:Q (.bl k) H) (e:k=k'):EP X pins σ Q (.bool k') s:= by
 subst e
 exact ⟨.bl k,H,I,rfl,q⟩
theorem Cq:OpR X (compareOp .Eq) rEq:= by
 intro pins s σ H x y v u Q I rx ry h
 obtain ⟨hs,q⟩:=h
 cases x with
 | non=>
  cases rx
  cases y with
  | non=>cases ry;exact PySem.EqNone.eq_none_none (AO I q (by simp))
  | bl j=>cases ry;exact PySem.EqNone.eq_none_bool (AO I q (by simp))
  | int j=>obtain ⟨t',rfl⟩:=ry;exact PySem.EqNone.eq_none_int (AO I q (by simp))
  | str j=>obtain ⟨t',rfl⟩:=ry;exact PySem.EqNone.eq_none_str (AO I q (by simp))
  | _=>exact absurd (show false=true from hs) Bool.false_ne_true
 | bl i=>
  cases rx
  cases y with
  | non=>cases ry;exact PySem.EqNone.eq_bool_none (AO I q (by simp))
  | bl j=>cases ry;exact eq_bool (AO I q Ol)
  | str j=>obtain ⟨t',rfl⟩:=ry;exact PySem.EqMixed.eq_bool_str (AO I q (by simp))
  | _=>exact absurd (show false=true from hs) Bool.false_ne_true
 | int i=>
  obtain ⟨t,rfl⟩:=rx
  cases y with
  | non=>cases ry;exact PySem.EqNone.eq_int_none (AO I q (by simp))
  | int j=>obtain ⟨t',rfl⟩:=ry;exact eq_int (AO I q LJ)
  | str j=>obtain ⟨t',rfl⟩:=ry;exact PySem.EqMixed.eq_int_str (AO I q (by simp))
  | _=>exact absurd (show false=true from hs) Bool.false_ne_true
 | str i=>
  obtain ⟨t,rfl⟩:=rx
  cases y with
  | non=>cases ry;exact PySem.EqNone.eq_str_none (AO I q (by simp))
  | bl j=>cases ry;exact PySem.EqMixed.eq_str_bool (AO I q (by simp))
  | int j=>obtain ⟨t',rfl⟩:=ry;exact PySem.EqMixed.eq_str_int (AO I q (by simp))
  | str j=>obtain ⟨t',rfl⟩:=ry;exact eq_str (AO I q Ml)
  | _=>exact absurd (show false=true from hs) Bool.false_ne_true
 | byt i=>
  obtain ⟨t,rfl⟩:=rx
  cases y with
  | byt j=>obtain ⟨t',rfl⟩:=ry;exact PySem.W.eq_bytes (AO I q Me)
  | _=>exact absurd (show false=true from hs) Bool.false_ne_true
 | _=>cases y <;> exact absurd (show false=true from hs) Bool.false_ne_true
theorem MN:OpR X (compareOp .NotEq) rNe:= by
 intro pins s σ H x y v u Q I rx ry h
 obtain ⟨hs,q⟩:=h
 cases x with
 | non=>
  cases rx
  cases y with
  | non=>cases ry;exact PySem.EqNone.ne_none_none (AO I q (by simp))
  | bl j=>cases ry;exact PySem.EqNone.ne_none_bool (AO I q (by simp))
  | int j=>obtain ⟨t',rfl⟩:=ry;exact PySem.EqNone.ne_none_int (AO I q (by simp))
  | str j=>obtain ⟨t',rfl⟩:=ry;exact PySem.EqNone.ne_none_str (AO I q (by simp))
  | _=>exact absurd (show false=true from hs) Bool.false_ne_true
 | bl i=>
  cases rx
  cases y with
  | non=>cases ry;exact PySem.EqNone.ne_bool_none (AO I q (by simp))
  | bl j=>cases ry;exact ne_bool (AO I q (congrArg not Ol))
  | str j=>obtain ⟨t',rfl⟩:=ry;exact PySem.EqMixed.ne_bool_str (AO I q (by simp))
  | _=>exact absurd (show false=true from hs) Bool.false_ne_true
 | int i=>
  obtain ⟨t,rfl⟩:=rx
  cases y with
  | non=>cases ry;exact PySem.EqNone.ne_int_none (AO I q (by simp))
  | int j=>obtain ⟨t',rfl⟩:=ry;exact ne_int (AO I q (congrArg not LJ))
  | str j=>obtain ⟨t',rfl⟩:=ry;exact PySem.EqMixed.ne_int_str (AO I q (by simp))
  | _=>exact absurd (show false=true from hs) Bool.false_ne_true
 | str i=>
  obtain ⟨t,rfl⟩:=rx
  cases y with
  | non=>cases ry;exact PySem.EqNone.ne_str_none (AO I q (by simp))
  | bl j=>cases ry;exact PySem.EqMixed.ne_str_bool (AO I q (by simp))
  | int j=>obtain ⟨t',rfl⟩:=ry;exact PySem.EqMixed.ne_str_int (AO I q (by simp))
  | str j=>obtain ⟨t',rfl⟩:=ry;exact ne_str (AO I q (congrArg not Ml))
  | _=>exact absurd (show false=true from hs) Bool.false_ne_true
 | byt i=>
  obtain ⟨t,rfl⟩:=rx
  cases y with
  | byt j=>obtain ⟨t',rfl⟩:=ry;exact PySem.W.ne_bytes (AO I q (congrArg not Me))
  | _=>exact absurd (show false=true from hs) Bool.false_ne_true
 | _=>cases y <;> exact absurd (show false=true from hs) Bool.false_ne_true
theorem Lc:OpR X (compareOp .Lt) (rI0 fun i j=>.bl (decide (i<j))):=Rc fun _ _ _ _ _ _ _ q=>lt_int q
theorem D7:OpR X (compareOp .LtE) (rI0 fun i j=>.bl (decide (i<=j))):=Rc fun _ _ _ _ _ _ _ q=>le_int q
theorem OX:OpR X (compareOp .Gt) (rI0 fun i j=>.bl (decide (j<i))):=Rc fun _ _ _ _ _ _ _ q=>gt_int q
theorem QB:OpR X (compareOp .GtE) (rI0 fun i j=>.bl (decide (j<=i))):=Rc fun _ _ _ _ _ _ _ q=>ge_int q
theorem Q2:OpR X (compareOp .Is) (fun x y H Q=>y = .non/\Q (.bl (decide (x = .non))) H):= by
 intro pins s σ H x y v u Q I rx ry h
 obtain ⟨rfl,q⟩:=h
 cases ry
 refine is_none_gen (AO I q ?_)
 cases x <;> first
  | (cases rx;rfl)
  | (obtain ⟨t,rfl⟩:=rx;rfl)
theorem Ep:OpR X (compareOp .IsNot) (fun x y H Q=>y = .non/\Q (.bl (!decide (x = .non))) H):= by
 intro pins s σ H x y v u Q I rx ry h
 obtain ⟨rfl,q⟩:=h
 cases ry
 refine isnot_none_gen (AO I q ?_)
 cases x <;> first
  | (cases rx;rfl)
  | (obtain ⟨t,rfl⟩:=rx;rfl)
theorem AA (b:Expr) {op:CmpOp} (h:op ≠ .In:=by decide) (h2:op ≠ .NotIn:=by decide):behindInMarks op b=false:= by
 have e1:(op==CmpOp.In)=false:=by cases op <;> first | rfl | exact absurd rfl h
 have e2:(op==CmpOp.NotIn)=false:=by cases op <;> first | rfl | exact absurd rfl h2
 cases b <;> simp [behindInMarks,e1,e2]
theorem OD {op:CmpOp} {r:R2} (ho:OpR X (compareOp op) r) (ha:PE X a ta) (hb:PE X b tb) (hm:behindInMarks op b=false):PE X (.Compare a [op] [b] pos) (tOp r ta tb):= by
 intro pins s σ H Q I h
 exact wpAny_Compare1 (RM ha hb I h fun v u s2 x y H2 I2 rx ry q=>ho pins s2 σ H2 x y v u Q I2 rx ry q) hm
def Mo (t:TE):TT:=fun σ H Q=>t σ H fun x H'=>∃ k,x = .bl k/\Q k H'
theorem Ao {op:CmpOp} {r:R2} (ho:OpR X (compareOp op) r) (ha:PE X a ta) (hb:PE X b tb) (hm:behindInMarks op b=false):PT X (.Compare a [op] [b] pos) (Mo (tOp r ta tb)):= by
 intro pins s σ H Q I h
 refine wpAny_isTrue_Compare1 (thn (ha pins s σ H _ I h) fun v s1 ⟨x,H1,I1,r1,q1⟩=>thn (hb pins s1 σ H1 _ I1 q1) fun u s2 ⟨y,H2,I2,r2,q2⟩=>
  thn (ho pins s2 σ H2 x y v u _ I2 r1 r2 q2) fun c s3 ⟨z,H3,I3,r3,k,e,q3⟩=>?_) hm
 subst e
 cases r3
 exact wpAny_truthy_bool ⟨H3,I3,q3⟩
def Ke (r r':R2) (ta tb tc:TE):TE:=fun σ H Q=>ta σ H fun x H1=>tb σ H1 fun y H2=>r x y H2 fun z H3=>∃ k,z = .bl k /\
 (if k=true then tc σ H3 fun w' H4=>r' y w' H4 Q else Q (.bl false) H3)
theorem CH {op op':CmpOp} {r r':R2} (ho:OpR X (compareOp op) r) (ho':OpR X (compareOp op') r') (ha:PE X a ta) (hb:PE X b tb) (hc:PE X c tc)
  (hm:lastMarks [op,op'] [b,c]=false:=by with_unfolding_all rfl):PT X (.Compare a [op,op'] [b,c] pos) (Mo (Ke r r' ta tb tc)):= by
 intro pins s σ H Q I h
 refine isTrue_chain (thn (ha pins s σ H _ I h) fun v s1 ⟨x,H1,I1,r1,q1⟩=>test_link (thn (hb pins s1 σ H1 _ I1 q1) fun u s2 ⟨y,H2,I2,r2,q2⟩=>
  thn (ho pins s2 σ H2 x y v u _ I2 r1 r2 q2) fun d s3 ⟨z,H3,I3,r3,k,e,q3⟩=>?_)) hm
 subst e
 cases r3
 refine wpAny_truthy_bool ?_
 cases k with
 | false=>
  obtain ⟨k',e',q'⟩:=q3
  cases e'
  exact ite_ff ⟨H3,I3,q'⟩
 | true=>
  refine ite_tt (test_last (thn (hc pins s3 σ H3 _ I3 q3) fun w' s4 ⟨z',H4,I4,r4,q4⟩=>thn (ho' pins s4 σ H4 y z' u w' _ I4 r2 r4 q4) fun d' s5 ⟨z2,H5,I5,r5,k2,e2,q5⟩=>?_))
  subst e2
  cases r5
  exact wpAny_truthy_bool ⟨H5,I5,q5⟩
def Sj (K:PySem.W.Frag) (x:V) (H:Hp) (k:Bool):Prop:=
 match x with
 | .non=>k=false
 | .bl b=>k=b
 | .int i=>k=(i != 0)
 | .str y=>y.length<=sizeLine/\k=((y.length:Int) != 0)
 | .byt y=>y.size<=sizeLine/\k=((y.size:Int) != 0)
 | .ref p=>(∃ xs,SqL K H p xs/\k = !xs.isEmpty)\/(∃ xs,SqT K H p xs/\k = !xs.isEmpty) \/ ∃ kvs,H p=some (.dK kvs)/\k = !kvs.isEmpty
 | _=>False
theorem Kw {κ:Type} {kvs:List (κ × V)} {vs:List (κ × Value)} (r:KV kvs vs):(!vs.isEmpty) = !kvs.isEmpty:= by
 cases r <;> rfl
theorem GB {xs:List V} {its:List Value} (r:Bf xs its):(!its.toArray.isEmpty) = !xs.isEmpty:= by
 cases r <;> simp
theorem Kh:(sizeLine:Nat)<2 ^ 63:=by rw[sizeLine_eq];decide
theorem Qs:SB X (fun x H Q=>∃ k,Sj X.K x H k/\Q k H):= by
 intro pins s σ H x v Q I rx h
 obtain ⟨k,e,q⟩:=h
 have hl:=Kh
 have hs:sizeLine=16777216:=sizeLine_eq
 cases x with
 | non=>
  cases rx
  have e':k=false:=e
  subst e'
  exact truthy_none ⟨H,I,q⟩
 | bl b=>
  cases rx
  have e':k=b:=e
  subst e'
  exact wpAny_truthy_bool ⟨H,I,q⟩
 | int i=>
  obtain ⟨t,rfl⟩:=rx
  have e':k=(i != 0):=e
  subst e'
  exact PySem.P.truthy_int ⟨H,I,q⟩
 | str y=>
  obtain ⟨t,rfl⟩:=rx
  obtain ⟨hy,e'⟩:y.length<=sizeLine/\k=((y.length:Int) != 0):=e
  subst e'
  exact PySem.P.truthy_str (by omega) ⟨H,I.tok _,q⟩
 | byt y=>
  obtain ⟨t,rfl⟩:=rx
  obtain ⟨hy,e'⟩:y.size<=sizeLine/\k=((y.size:Int) != 0):=e
  subst e'
  exact PySem.W.truthy_bytes (by omega) ⟨H,I.tok _,q⟩
 | ref p=>
  cases rx
  have e':(∃ xs,SqL X.K H p xs/\k = !xs.isEmpty)\/(∃ xs,SqT X.K H p xs/\k = !xs.isEmpty) \/ ∃ kvs,H p=some (.dK kvs)/\k = !kvs.isEmpty:=e
  rcases e' with ⟨xs,hx,e'⟩ | ⟨xs,hx,e'⟩ | ⟨kvs,hx,e'⟩
  ·subst e'
   obtain ⟨its,r,pl,hz⟩:=I.list hx
   have hlen:=r.length
   exact wpAny_truthy_list pl.isList (by simp only [List.size_toArray];omega) ⟨H,I.tok _,by rw[GB r];exact q⟩
  ·subst e'
   obtain ⟨its,r,pl,hz⟩:=I.tuple hx
   have hlen:=r.length
   exact truthy_tuple pl (by simp only [List.size_toArray];omega) ⟨H,I.tok _,by rw[GB r];exact q⟩
  ·subst e'
   obtain ⟨hz,hS,vs,r,m⟩:kvs.length<=sizeLine/\(p==sysModules)=false /\ ∃ vs,KV kvs vs/\s.heap.DictOf (Bb X.prog X.w) p vs:=I.hok p _ hx
   have hlen:kvs.length=vs.length:=Paired.length r
   exact wpAny_truthy_dict hS m (by omega) ⟨H,I.tok _,by rw[Kw r];exact q⟩
 | _=>exact (show False from e).elim
theorem Nc (ha:PE X a ta) (he : ∀ whole,isTrue a X.env whole=(do let v <- whole;standAt a.pos;holding [v] (truthy v))) :
  PT X a (fun σ H Q=>ta σ H fun x H'=>∃ k,Sj X.K x H' k/\Q k H'):= by
 intro pins s σ H Q I h
 exact isTrue_plain (thn (ha pins s σ H _ I h) fun v s1 ⟨x,H1,I1,r1,q1⟩=>Qs pins s1 σ H1 x v Q I1 r1 q1) (he _)
theorem DE {x:V} {us:List Value} (r:Bf [x] us) : ∃ u,us=[u]/\Be x u:= by
 cases r with
 | cons r1 r2=>cases r2;exact ⟨_,rfl,r1⟩
theorem QR {x y:V} {us:List Value} (r:Bf [x,y] us) : ∃ u w',us=[u,w']/\Be x u/\Be y w':= by
 cases r with
 | cons r1 r2=>
  cases r2 with
  | cons r3 r4=>cases r4;exact ⟨_,_,rfl,r1,r3⟩
theorem Mt (hc : X.calm = true) : BW X (.builtin "max") (fun xs H Q=>∃ i j,xs = [.int i,.int j] /\ Q (.int (if j > i then j else i)) H):= by
 intro pins s σ H xs us Q I r h
 obtain ⟨i,j,rfl,q⟩:=h
 obtain ⟨u,w',rfl,⟨t,rfl⟩,⟨t',rfl⟩⟩:=QR r
 refine max_two_ints (I.ok.hd hc) fun h' tk k=>⟨_,H,I.kept k,?_,q⟩
 by_cases hj:j > i
 ·rw[if_pos hj,if_pos hj];exact ⟨_,rfl⟩
 ·rw[if_neg hj,if_neg hj];exact ⟨_,rfl⟩
theorem Lq (hc : X.calm = true) : BW X (.builtin "min") (fun xs H Q=>∃ i j,xs = [.int i,.int j] /\ Q (.int (if j < i then j else i)) H):= by
 intro pins s σ H xs us Q I r h
 obtain ⟨i,j,rfl,q⟩:=h
 obtain ⟨u,w',rfl,⟨t,rfl⟩,⟨t',rfl⟩⟩:=QR r
 refine min_two_ints (I.ok.hd hc) fun h' tk k=>⟨_,H,I.kept k,?_,q⟩
 by_cases hj:j<i
 ·rw[if_pos hj,if_pos hj];exact ⟨_,rfl⟩
 ·rw[if_neg hj,if_neg hj];exact ⟨_,rfl⟩
end
end L2
namespace L2
open PySem PySem.Spec PyProof.Rows
structure OF (h:Heap) (x dx C:Addr) (mA:Str->Option Value):Prop where
 obj:h.get? x=some (PySem.W.instObj C dx)
 ns:h.Ns1 dx mA
 ne:dx≠x
theorem MZ {h:Heap} {dx:Addr} {mA:Str->Option Value} (n:h.Ns1 dx mA) : ∃ od,h.get? dx=some od /\ ∀ name,PySem.W.lookIn name od=some (mA name):= by
 obtain ⟨o,es,ep,ho,hd,hk,_,hm⟩:=n
 refine ⟨o,ho,fun name=>?_⟩
 have e:=hm name
 unfold nsFind findBy at e
 rw[<- Array.find?_toList] at e
 unfold PySem.W.lookIn
 rw[hd]
 dsimp only
 split
 ·rename_i y q
  rw[q] at e
  exact congrArg some e
 ·rename_i q
  rw[q] at e
  have a:es.toList.any (·.refKey)=false:= by
   rw[List.any_eq_false]
   intro y hy
   obtain ⟨z,t,hkey⟩:=hk y (Array.mem_toList_iff.mp hy)
   simp [DictEntry.refKey,hkey]
  have a' : ¬ es.toList.any (·.refKey)=true:=by rw[a];exact Bool.false_ne_true
  rw[if_neg a']
  exact congrArg some e
theorem OF.look {h:Heap} {x dx C:Addr} {mA:Str->Option Value} (I:OF h x dx C mA) : ∃ od,PySem.W.InstAt h x (PySem.W.instObj C dx) C (some od) /\ ∀ name,PySem.W.lookIn name od=some (mA name):=
 let ⟨od,ho,hl⟩:=MZ I.ns
 ⟨od,⟨I.obj,rfl,rfl,ho⟩,hl⟩
section
variable {prog:Program} {w:World} {A:Around} {E:Value->Shared->Prop} {s:Shared} {K:PySem.W.Frag} {x dx C f:Addr} {mA:Str->Option Value} {name:Str} {v:Value}
theorem OO {expr:Bool} {Q:Value->Shared->Prop} (X:K.In s.heap) (I:OF s.heap x dx C mA) (hg:PySem.W.plainGet K C name=true) (hh:PySem.W.hasDictIn K C=true)
  (ha:PySem.W.findIn K (.ref C) name=some none) (hv:mA name=some v) (hv':PySem.W.handedIn v=true) (h:Q v { s with toks:=s.toks+1 }) :
  wpAny (model prog w) A (getAttr (.ref x) name expr) Q E s:= by
 obtain ⟨od,J,hl⟩:=I.look
 exact PySem.W.get_value X J (PySem.W.plainGet_of hg).1 (PySem.W.findObj_own hh ha rfl (by rw[hl,hv])) hv' h
theorem Og {pl:Sem Bool} {Q:Value × List Value->Shared->Prop} (X:K.In s.heap) (I:OF s.heap x dx C mA) (hg:PySem.W.plainGet K C name=true)
  (hf:PySem.W.findIn K (.ref C) name=some (some (.ref f))) (ht:PySem.W.isFn K (.ref f)=true) (hv:mA name=none) (h:Q (.ref f,[.ref x]) s) :
  wpAny (model prog w) A (getMethod (.ref x) name pl) Q E s:= by
 obtain ⟨od,J,hl⟩:=I.look
 exact PySem.W.method_fn X J (PySem.W.plainGet_of hg).1 (PySem.W.plainGet_of hg).2 hf (beq_iff_eq.mp ht) (by show (PySem.W.lookIn name od).map (·.isSome)=some false;rw[hl,hv];rfl) h
theorem Pm {ns:List Str} {Q:Unit->Shared->Prop} (X:K.In s.heap) (I:OF s.heap x dx C mA)
  (hs : PySem.W.findIn K (.ref C) "__setattr__" = some (some (.builtin "object.__setattr__"))) (hp : PySem.W.plainOver K C = true) (ht : PySem.W.takerIn K C name = some none) (hh : PySem.W.hasDictIn K C = true)
  (hw:PySem.Within mA ns) (hsz:ns.length<=sizeLine)
  (h : ∀ h',OF h' x dx C (fun y=>if y=name then some v else mA y)->Heap.SameBut dx s.heap h'->Q () { s with heap:=h',toks:=s.toks+2 }) :
  wpAny (model prog w) A (setAttr (.ref x) name v) Q E s:= by
 obtain ⟨od,J,hl⟩:=I.look
 refine PySem.W.set_plain X J hs (PySem.W.osa_open (s:={ s with toks:=s.toks+1 }) (r:=none) X J hp ht fun b=>?_)
 obtain ⟨cd,hc,hd'⟩:=PySem.W.any_some hh
 have hx:s.heap.get? x=some ⟨.ref C,some dx,.plain,#[]⟩:=I.obj
 refine wpAny_bind (wpAny_pure (wpAny_bind (wpAny_bind (wpAny_loadPart hx (wpAny_bind (PySem.W.Looks.here (s:={ s with toks:=s.toks+1 }) (PySem.W.looks_clsIn X hc) ?_))))))
 rw[hd']
 refine wpAny_pure (a:=some dx) (wpAny_bind (wpAny_pure (wpAny_bind ?_)))
 refine wpAny_nsSet1 (s:={ s with toks:=s.toks+1 }) I.ns fun h' hn2 hs2=>?_
 obtain ⟨oD,esD,epD,hoD,hdD,hcD⟩:=hn2.count (PySem.Within.cons name v hw)
 refine wpAny_bind (wpAny_lookBehind hoD (by rw[hdD];exact pastItsLine_dict (Nat.le_trans hcD (by rw[List.length_cons];omega))) ?_)
 exact wpAny_pure (h _ ⟨(hs2.2 _ (Ne.symm I.ne)).trans I.obj,hn2,I.ne⟩ hs2)
theorem NK {R:Result->Shared->Prop} {vs:List Value} {kw:List (Str × Value)} (X:K.In s.heap) (hm:PySem.W.makesIn K C=true)
  (hi : PySem.W.findIn K (.ref C) "__init__" = some (some (.ref f))) (hf : PySem.W.typeIn K (.ref f) = some (.type "function"))
  (h : codeAny (model prog w) (A.under (.builtin "type.__call__" ⟨.ref C :: vs,kw⟩)) (.call (.ref f) ⟨.ref (s.heap.objs.size + 1) :: vs,kw⟩) (PySem.W.InitBack (s.heap.objs.size + 1) R)
   { s with heap:=(s.heap.push PySem.W.emptyDict).push (PySem.W.instObj C s.heap.objs.size) }) :
  codeAny (model prog w) A (.call (.ref C) ⟨vs,kw⟩) R s:= by
 obtain ⟨hh,g,d,t,os⟩:=s
 exact PySem.W.make_core (PySem.W.makes_of X hm) (PySem.W.looks_findIn X hi) (fun self=>PySem.W.bind_fn X self hf) (.inl rfl) h
end
def CL (f:Str) (v:V):List (Str × V)->List (Str × V)
 | []=>[(f,v)]
 | (g,x)::r=>if g=f then (g,v)::r else (g,x)::CL f v r
theorem BM (f g:Str) (v:V) : ∀ fs:List (Str × V),(CL f v fs).lookup g=if g=f then some v else fs.lookup g
 | []=>by
  show List.lookup g [(f,v)]=_
  by_cases h:g=f
  ·have hb:(g==f)=true:=beq_iff_eq.mpr h
   simp only [List.lookup,hb,if_pos h]
  ·have hb:(g==f)=false:=beq_eq_false_iff_ne.mpr h
   simp only [List.lookup,hb,if_neg h]
 | (k,x)::r=>by
  have ih:=BM f g v r
  rw[show CL f v ((k,x)::r)=(if k=f then (k,v)::r else (k,x)::CL f v r) from rfl]
  by_cases hk:k=f
  ·rw[if_pos hk]
   by_cases h:g=k
   ·have hb:(g==k)=true:=beq_iff_eq.mpr h
    simp only [List.lookup,hb,if_pos (h.trans hk)]
   ·have hb:(g==k)=false:=beq_eq_false_iff_ne.mpr h
    simp only [List.lookup,hb,if_neg (fun e:g=f=>h (e.trans hk.symm))]
  ·rw[if_neg hk]
   by_cases h:g=k
   ·have hb:(g==k)=true:=beq_iff_eq.mpr h
    simp only [List.lookup,hb,if_neg (fun e:g=f=>hk (h.symm.trans e))]
   ·have hb:(g==k)=false:=beq_eq_false_iff_ne.mpr h
    simp only [List.lookup,hb]
    exact ih
theorem FK (f:Str) (v:V) : ∀ fs:List (Str × V),f ∈ (CL f v fs).map (·.1) /\ ∀ g,g ∈ fs.map (·.1)->g ∈ (CL f v fs).map (·.1)
 | []=>⟨by simp [CL],fun g h=>by simp at h⟩
 | (k,x)::r=>by
  obtain ⟨i1,i2⟩:=FK f v r
  rw[show CL f v ((k,x)::r)=(if k=f then (k,v)::r else (k,x)::CL f v r) from rfl]
  by_cases hk:k=f
  ·rw[if_pos hk]
   subst hk
   exact ⟨by simp,fun g h=>by simpa using h⟩
  ·rw[if_neg hk]
   refine ⟨?_,fun g h=>?_⟩
   ·rw[List.map_cons]
    exact List.mem_cons_of_mem _ i1
   ·rw[List.map_cons] at h ⊢
    rcases List.mem_cons.mp h with e | e
    ·exact List.mem_cons.mpr (.inl e)
    ·exact List.mem_cons_of_mem _ (i2 g e)
theorem BP (f:Str) (v:V) : ∀ fs:List (Str × V),(CL f v fs).length<=fs.length+1
 | []=>by simp [CL]
 | (k,x)::r=>by
  have ih:=BP f v r
  rw[show CL f v ((k,x)::r)=(if k=f then (k,v)::r else (k,x)::CL f v r) from rfl]
  by_cases hk:k=f
  ·rw[if_pos hk,List.length_cons,List.length_cons];omega
  ·rw[if_neg hk,List.length_cons,List.length_cons];omega
theorem IK.some_of {v:V} {o:Option Value} (r:IK (some v) o) : ∃ u,o=some u/\Be v u:= by
 cases o with
 | none=>exact (show False from r).elim
 | some u=>exact ⟨u,rfl,r⟩
theorem IK.none_of {o:Option Value} (r:IK none o):o=none:= by
 cases o with
 | none=>rfl
 | some u=>exact (show False from r).elim
theorem LU {v:V} {u:Value} (r:Be v u):PySem.W.handedIn u=true:= by
 cases v with
 | non=>cases (show u=Value.none from r);rfl
 | bl b=>cases (show u=Value.bool b from r);rfl
 | int i=>obtain ⟨t,e⟩:=(show ∃ t,u=Value.int i t from r);cases e;rfl
 | str x=>obtain ⟨t,e⟩:=(show ∃ t,u=Value.str x t from r);cases e;rfl
 | byt b=>obtain ⟨t,e⟩:=(show ∃ t,u=Value.bytes b t from r);cases e;rfl
 | flt b=>obtain ⟨t,e⟩:=(show ∃ t,u=Value.float b t from r);cases e;rfl
 | ref a=>cases (show u=Value.ref a from r);rfl
 | ty n=>cases (show u=Value.type n from r);rfl
section
variable {P:Program} {w:World} {H H':Hp} {h h':Heap} {a C dx:Addr} {fs fs':List (Str × V)}
theorem Jg (hok:HOk P w H h) (e:H a=some (.ins C dx fs)) : ∃ mA,OF h a dx C mA/\(∀ f,IK (fs.lookup f) (mA f))/\PySem.Within mA (fs.map (·.1))/\fs.length<=1000/\H dx=some (.own a):= by
 obtain ⟨d,z,ne,ob,mA,n,r,q⟩:=(show A8 P w H h a (.ins C dx fs) from hok a _ e)
 exact ⟨mA,⟨ob,n,ne⟩,r,q,z,d⟩
end
structure Cls (K:PySem.W.Frag) (C:Addr):Prop where
 pg:PySem.W.plainGet K C Str.empty=true
 hd:PySem.W.hasDictIn K C=true
 po:PySem.W.plainOver K C=true
 sa : PySem.W.findIn K (.ref C) "__setattr__" = some (some (.builtin "object.__setattr__"))
theorem Cls.get {K:PySem.W.Frag} {C:Addr} (c:Cls K C) (f:Str):PySem.W.plainGet K C f=true:=c.pg
def AH (K:PySem.W.Frag) (C:Addr) (f:Str):Prop:=PySem.W.findIn K (.ref C) f=some none
theorem AH.taker {K:PySem.W.Frag} {C:Addr} {f:Str} (n:AH K C f):PySem.W.takerIn K C f=some none:= by
 unfold PySem.W.takerIn
 rw[show PySem.W.findIn K (.ref C) f=some none from n]
 rfl
structure P7 (K:PySem.W.Frag) (C:Addr) (m:Str) (f:Addr):Prop where
 at_:PySem.W.findIn K (.ref C) m=some (some (.ref f))
 fn:PySem.W.isFn K (.ref f)=true
 kp:PySem.W.keepIn K (.ref f)=true
section
variable {X:Cx} {pins:List (Addr × Obj)} {σ:St} {H:Hp} {s:Shared} {a C dx:Addr} {fs:List (Str × V)} {f:Str} {v:V} {A:Around} {E:Value->Shared->Prop}
theorem KP {b:Bool} {Q:Value->Shared->Prop} (I:Inv X pins σ H s) (e:H a=some (.ins C dx fs)) (c:Cls X.K C) (n:AH X.K C f) (l:fs.lookup f=some v)
  (h : ∀ u s',Inv X pins σ H s'->Be v u->Q u s'):wpAny (model X.prog X.w) A (getAttr (.ref a) f b) Q E s:= by
 obtain ⟨mA,O,r,_,_,_⟩:=Jg I.hok e
 obtain ⟨u,hu,ru⟩:=IK.some_of (v:=v) (o:=mA f) (by rw[<- l];exact r f)
 exact OO I.kIn O (c.get f) c.hd n hu (LU ru) (h u _ (I.tok _) ru)
theorem Ey {m:Str} {g:Addr} {pl:Sem Bool} {Q:Value × List Value->Shared->Prop} (I:Inv X pins σ H s) (e:H a=some (.ins C dx fs)) (c:Cls X.K C) (k:P7 X.K C m g) (l:fs.lookup m=none)
  (h:Q (.ref g,[.ref a]) s):wpAny (model X.prog X.w) A (getMethod (.ref a) m pl) Q E s:= by
 obtain ⟨mA,O,r,_,_,_⟩:=Jg I.hok e
 have hn:mA m=none:=IK.none_of (by rw[<- l];exact r m)
 exact Og I.kIn O (c.get m) k.at_ k.fn hn h
theorem KA {y:V} {u:Value} {Q:Unit->Shared->Prop} (I:Inv X pins σ H s) (e:H a=some (.ins C dx fs)) (c:Cls X.K C) (n:AH X.K C f) (hl:fs.length<1000) (ry:Be y u)
  (h : ∀ s',Inv X pins σ (upd H a (.ins C dx (CL f y fs))) s'->Q () s'):wpAny (model X.prog X.w) A (setAttr (.ref a) f u) Q E s:= by
 obtain ⟨mA,O,r,wi,_,ho⟩:=Jg I.hok e
 have hz:(fs.map (·.1)).length<=sizeLine:=by rw[List.length_map,sizeLine_eq];omega
 refine Pm I.kIn O c.sa c.po n.taker c.hd wi hz fun h' O' sb=>h _ ?_
 have hd : ∃ o,h'.get? dx=some o:=let ⟨o,_,_,e',_⟩:=O'.ns;⟨o,e'⟩
 refine I.write (x:=a) (e:=dx) (by rw[e];exact True.intro) (.inr ho) (fun b q hb z=>(sb.2 b hb).trans z) hd ?_
 refine ⟨by rw[Af O.ne];exact ho,?_,O.ne,O'.obj,_,O'.ns,fun g=>?_,fun g hg=>?_⟩
 ·have:=BP f y fs;omega
 ·show IK ((CL f y fs).lookup g) (if g=f then some u else mA g)
  rw[BM]
  by_cases q:g=f
  ·rw[if_pos q,if_pos q];exact ry
  ·rw[if_neg q,if_neg q];exact r g
 ·by_cases q:g=f
  ·rw[q];exact (FK f y fs).1
  ·refine (FK f y fs).2 g (wi g fun z=>hg ?_)
   show (if g=f then some u else mA g)=none
   rw[if_neg q];exact z
theorem Inv.made (I:Inv X pins σ H s):Inv X pins σ (upd (upd H s.heap.objs.size (.own (s.heap.objs.size+1))) (s.heap.objs.size+1) (.ins C s.heap.objs.size []))
  { s with heap:=(s.heap.push PySem.W.emptyDict).push (PySem.W.instObj C s.heap.objs.size) }:= by
 have e1:(s.heap.push PySem.W.emptyDict).get? s.heap.objs.size=some PySem.W.emptyDict:=Heap.get?_push_size s.heap rfl
 have e2:((s.heap.push PySem.W.emptyDict).push (PySem.W.instObj C s.heap.objs.size)).get? (s.heap.objs.size+1)=some (PySem.W.instObj C s.heap.objs.size):= by
  have:=Heap.get?_push_size (s.heap.push PySem.W.emptyDict) (o:=PySem.W.instObj C s.heap.objs.size) rfl
  rwa [Heap.size_push] at this
 have e3:(s.heap.push PySem.W.emptyDict).Ns s.heap.objs.size (fun _=>none):=⟨PySem.W.emptyDict,#[],_,e1,rfl,(fun e he=>absurd he (by simp)),fun _=>rfl⟩
 have I1:=I.laid (a:=s.heap.objs.size) (o:=.own (s.heap.objs.size+1)) (h':=s.heap.push PySem.W.emptyDict) (t':=s.toks) (fun b u q=>Heap.get?_push_of_some _ q) (Nat.le_refl _) ⟨_,e1⟩
 refine I1.laid (a:=s.heap.objs.size+1) (o:=.ins C s.heap.objs.size []) (t':=s.toks) (fun b u q=>Heap.get?_push_of_some _ q) (Nat.le_of_eq (Heap.size_push _ _)) ?_
 have ne:s.heap.objs.size≠s.heap.objs.size+1:=Nat.ne_of_lt (Nat.lt_succ_self _)
 refine ⟨by rw[Af ne,Ab],Nat.zero_le _,ne,e2,fun _=>none,(Heap.Ns1.of_empty e3).at fun o q=>Heap.get?_push_of_some _ q,fun _=>True.intro,fun y hy=>absurd rfl hy⟩
theorem Pc {prog:Program} {w:World} {env:Env} {e:Expr} {f:Str} {pos:Pos} {s:Shared} {Q:Value->Shared->Prop} (hb:attributeBase e f env (eval e env)=eval e env)
  (h:wpAny (model prog w) A (eval e env) (fun o s₁=>wpAny (model prog w) A (getAttr o f true) Q E s₁) E s):wpAny (model prog w) A (eval (.Attribute e f pos) env) Q E s:=
 Attribute_any_ h (by rw[arm_eval_Attribute,hb])
end
def Sl (K:PySem.W.Frag) (ta:TE) (f:Str):TE:=fun σ H Q=>ta σ H fun x H1=>∃ a C dx fs v,x = .ref a/\H1 a=some (.ins C dx fs)/\Cls K C/\AH K C f/\fs.lookup f=some v/\Q v H1
def SN (K:PySem.W.Frag) (ta tv:TE) (f:Str):TS:=fun D σ H=>tv σ H fun y H1=>ta σ H1 fun x H2=>∃ a C dx fs,x = .ref a/\H2 a=some (.ins C dx fs)/\Cls K C/\AH K C f/\fs.length<1000 /\
 D.nx σ (upd H2 a (.ins C dx (CL f y fs)))
section
variable {X:Cx} {o e value:Expr} {f:Str} {pos pos' tpos:Pos} {ta tv:TE}
theorem AQ (he:PE X e ta) (hb:attributeBase e f X.env (eval e X.env)=eval e X.env):PE X (.Attribute e f pos) (Sl X.K ta f):= by
 intro pins s σ H Q I h
 refine Pc hb (thn (he pins s σ H _ I h) fun u s1 ⟨x,H1,I1,rx,a,C,dx,fs,v,ex,ea,c,n,l,q⟩=>?_)
 subst ex
 obtain rfl:u=Value.ref a:=rx
 exact KP I1 ea c n l fun u' s2 I2 ru=>⟨v,H1,I2,ru,q⟩
theorem Ea (ha:PE X o ta) (hv:PE X value tv) (hs:swapsWith value (some (.Attribute o f pos')) pos.line X.env=pure false):PS X (.Assign [.Attribute o f pos'] value pos) (SN X.K ta tv f):= by
 intro pins s σ H D I h
 refine plainObj_wpAny_Assign_Attribute (thn (hv pins s σ H _ I h) fun u s1 ⟨y,H1,I1,ry,q⟩=>thn (ha pins s1 σ H1 _ I1 q) fun ov s2 ⟨x,H2,I2,rx,a,C,dx,fs,ex,ea,c,n,l,q2⟩=>?_) hs
 subst ex
 obtain rfl:ov=Value.ref a:=rx
 exact KA I2 ea c n l ry fun s3 I3=>⟨σ,_,I3,q2⟩
theorem OH {pl:Sem Bool} {m:Str} {apos:Pos} {args:List Expr} {pins:List (Addr × Obj)} {s:Shared} {σ:St} {H:Hp} {Q:Value->Shared->Prop} {te:TE} (he:PE X e te) (I:Inv X pins σ H s)
  (h:te σ H fun x H1=>∃ a C dx fs g,x = .ref a/\H1 a=some (.ins C dx fs)/\Cls X.K C/\P7 X.K C m g/\fs.lookup m=none /\
   ∀ s1,Inv X pins σ H1 s1->wpAny (model X.prog X.w) X.A (callWith pos (.ref g) [.ref a] (backTo pos (starEach args X.env)) (backToKw pos (keywordEach [] X.env))) Q X.xe s1)
  (ht:eval (.Call (.Attribute e m apos) args [] pos) X.env=(do
   let ov <- eval e X.env
   standAt apos.atName
   let (f,first) <- holding [ov] (getMethod ov m pl)
   callWith pos f first (backTo pos (starEach args X.env)) (backToKw pos (keywordEach [] X.env)))) :
  wpAny (model X.prog X.w) X.A (eval (.Call (.Attribute e m apos) args [] pos) X.env) Q X.xe s:= by
 refine PySem.W.methodCall_KW (pl:=pl) (thn (he pins s σ H _ I h) fun u s1 ⟨x,H1,I1,rx,a,C,dx,fs,g,ex,ea,c,k,l,q⟩=>?_) ht
 subst ex
 obtain rfl:u=Value.ref a:=rx
 exact Ey I1 ea c k l (q s1 I1)
end
end L2
namespace L2
open PySem PySem.Spec PyProof.Rows
structure Cw (k:Nat) (A:Around):Prop where
 hd:A.handled=none
 dp:A.depth+3*k+5<recursionLimit
 un:A.units+16*k+200<cLine
theorem Cw.mono {j k:Nat} {A:Around} (r:Cw k A) (h:j<=k):Cw j A:=⟨r.hd,by have:=r.dp;omega,by have:=r.un;omega⟩
theorem Cw.deeper {k:Nat} {A:Around} (r:Cw (k+1) A) (env:Env):Cw k (A.deeper env):=
 ⟨r.hd,by have:=r.dp;show A.depth+1+3*k+5<_;omega,by have:=r.un;show A.units+3+16*k+200<_;omega⟩
theorem Cw.in1 {k:Nat} {A:Around} (r:Cw (k+1) A):Cw k A.in1:=
 ⟨r.hd,by have:=r.dp;show A.depth+3*k+5<_;omega,by have:=r.un;show A.units+1+16*k+200<_;omega⟩
theorem Kz {A : Around} {C : Addr} {us : List Value} {kw : List (Str × Value)} : (A.under (.builtin "type.__call__" ⟨.ref C :: us,kw⟩)).depth = A.depth + 1:= by
 first | rfl | simp [Around.under,Code.weight,Code.isCreation,Code.isGuard,Code.isCaller,Code.frames,Code.isFrame,guardIds]
theorem Kt {A : Around} {C : Addr} {us : List Value} {kw : List (Str × Value)} : (A.under (.builtin "type.__call__" ⟨.ref C :: us,kw⟩)).units = A.units + 1:= by
 first | rfl | simp [Around.under,Code.cUnits,Code.frames,Code.isFrame]
theorem Cw.make {k : Nat} {A : Around} (r : Cw (k + 1) A) (C : Addr) (us : List Value) (kw : List (Str × Value)) : Cw k (A.under (.builtin "type.__call__" ⟨.ref C :: us,kw⟩)):=
 ⟨r.hd,by have:=r.dp;rw[Kz];omega,by have:=r.un;rw[Kt];omega⟩
theorem Cw.depth {k:Nat} {A:Around} (r:Cw k A):A.depth<recursionLimit:=by have:=r.dp;omega
theorem Cw.units {k:Nat} {A:Around} (r:Cw k A):A.units+64<cLine:=by have:=r.un;omega
theorem Cw.units0 {k:Nat} {A:Around} (r:Cw k A):A.units<cLine:=by have:=r.un;omega
def Qo:TA:=fun _ H Q=>Q [] H
def LV (ta:TE) (tr:TA):TA:=fun σ H Q=>ta σ H fun x H1=>tr σ H1 fun xs H2=>Q (x::xs) H2
section
variable {X:Cx} {e:Expr} {es:List Expr} {te:TE} {t:TA} {pos:Pos}
theorem Ac:PA X [] Qo:=fun _ _ _ _ H Q I h=>Calls.spliced_nil ⟨[],H,I,.nil,h⟩
theorem Aa (ha:PE X e te) (hr:PA X es t) (hs:starEach (e::es) X.env=(false,eval e X.env)::starEach es X.env:=by rfl):PA X (e::es) (LV te t):= by
 intro pos pins s σ H Q I h
 rw[hs]
 show wpAny _ _ (spliced ((false,eval e X.env)::backTo pos (starEach es X.env))) _ _ s
 refine Calls.spliced_cons (thn (ha pins s σ H _ I h) fun u s1 ⟨x,H1,I1,r1,q1⟩=>?_)
 exact thn (hr pos pins s1 σ H1 _ I1 q1) fun us s2 ⟨xs,H2,I2,r2,q2⟩=>⟨x::xs,H2,I2,.cons r1 r2,q2⟩
def Rs (t:TA):TE:=fun σ H Q=>t σ H fun xs H1=>xs.length<=sizeLine /\ ∀ p,H1 p=none->Q (.ref p) (upd H1 p (.tup xs))
def SR (t:TA):TE:=fun σ H Q=>t σ H fun xs H1=>xs.length<=sizeLine /\ ∀ p,H1 p=none->Q (.ref p) (upd H1 p (.lst xs))
theorem AD {x1} (h:PA X es t):PE X (.Tuple es x1 pos) (Rs t):= by
 intro pins s σ H Q I hq
 refine wpAny_Tuple_spliced (thn (h pos pins s σ H _ I hq) fun us s1 ⟨xs,H1,I1,r,z,q⟩=>⟨by rw[<- r.length];exact z,?_⟩)
 have hf:H1 s1.heap.objs.size=none:=I1.hok.fresh (Nat.le_refl _)
 refine ⟨.ref s1.heap.objs.size,upd H1 s1.heap.objs.size (.tup xs),I1.laid (t':=s1.toks) (fun b u e=>Heap.get?_push_of_some _ e) (Nat.le_refl _) ?_,rfl,q _ hf⟩
 exact ⟨z,us,r,⟨_,Heap.get?_push_size _ rfl,rfl,_,rfl⟩⟩
theorem AI (h:PA X es t):PE X (.List es pos) (SR t):= by
 intro pins s σ H Q I hq
 refine wpAny_List_spliced (thn (h pos pins s σ H _ I hq) fun us s1 ⟨xs,H1,I1,r,z,q⟩=>⟨by rw[<- r.length];exact z,?_⟩)
 have hf:H1 s1.heap.objs.size=none:=I1.hok.fresh (Nat.le_refl _)
 refine ⟨.ref s1.heap.objs.size,upd H1 s1.heap.objs.size (.lst xs),I1.laid (t':=s1.toks) (fun b u e=>Heap.get?_push_of_some _ e) (Nat.le_refl _) ?_,rfl,q _ hf⟩
 exact ⟨z,us,0,r,Heap.get?_push_size _ rfl⟩
end
abbrev Sp:=List V->Hp->VK->XK->Prop
abbrev CXT:=List Env->Hp->Shared->XK->Value->Shared->Prop
structure PJ (P:Program) (w:World) (K:PySem.W.Frag) (mg:Str->Option Value) (base:Heap) (A:Around) (outer:List Env) (s:Shared) (H:Hp):Prop where
 frames:A.frames=some outer
 mod:Mod K mg base
 bs : ∀ b o,base.get? b=some o->s.heap.get? b=some o/\H b=none
 bsz:base.objs.size<=s.heap.objs.size
 funs:s.heap.FunFrames base outer
 frf : ∀ b ∈ frs outer,H b=none
 hok:HOk P w H s.heap
 bare:AllBare s.gens
def CE (outer:List Env) (P:Program) (w:World) (H:Hp) (s:Shared) (Q:VK) (u:Value) (s':Shared):Prop:=
 ∃ v H',s'.os=s.os/\AllBare s'.gens/\Un (frs outer) [] H H' s.heap s'.heap/\HOk P w H' s'.heap/\Be v u/\Q v H'
def CR (CX:CXT) (outer:List Env) (P:Program) (w:World) (H:Hp) (s:Shared) (Q:VK) (E:XK) (r:Result) (s':Shared):Prop:=
 match r with
 | .ok (.ret u)=>CE outer P w H s Q u s'
 | .ok _=>False
 | .error e=>CX outer H s E e s'
structure Bv (P:Program) (w:World) (K:PySem.W.Frag) (mg:Str->Option Value) (base:Heap) (CX:CXT) (k:Nat) (f:Addr) (fd:FuncData) (ps:List Str) (sp:Sp):Prop where
 len : ∀ vs H Q E,sp vs H Q E->vs.length=ps.length
 run : ∀ (A:Around) (outer:List Env) (s:Shared) (H:Hp) (args:Args) (us:List Value) (vs:List V) (Q:VK) (E:XK),Cw k A->PJ P w K mg base A outer s H->BindsTo s fd args (ps.zip us)->Bf vs us->sp vs H Q E ->
  codeAny (model P w) A (.call (.ref f) args) (CR CX outer P w H s Q E) s
theorem PJ.make {P:Program} {w:World} {K:PySem.W.Frag} {mg:Str->Option Value} {base:Heap} {A:Around} {outer:List Env} {s:Shared} {H:Hp} (e:PJ P w K mg base A outer s H) (C:Addr) (us:List Value) (kw:List (Str × Value)) :
  PJ P w K mg base (A.under (.builtin "type.__call__" ⟨.ref C :: us,kw⟩)) outer s H:=⟨by first | exact e.frames | (simpa [Around.under,Code.envs,Code.isFrame,pushEnvs] using e.frames),e.mod,e.bs,e.bsz,e.funs,e.frf,e.hok,e.bare⟩
section
variable {X:Cx} {pins:List (Addr × Obj)} {σ:St} {H:Hp} {s s':Shared}
theorem Inv.env0 (I:Inv X pins σ H s):PJ X.prog X.w X.K X.mg X.base X.A X.stack s H:=
 ⟨I.ok.frames,I.ok.mod,I.bs,Nat.le_trans I.ok.bsz I.sz,I.stack,I.stkFree,I.hok,I.bare⟩
theorem Inv.after {Q:VK} {u:Value} (I:Inv X pins σ H s) (h:CE X.stack X.prog X.w H s Q u s'):EP X pins σ Q u s':= by
 obtain ⟨v,H',os,bare,un,hok,r,q⟩:=h
 obtain ⟨hh,g,d,t,os'⟩:=s'
 obtain rfl:os'=s.os:=os
 exact ⟨v,H',I.call (h':=hh) (g':=g) (d':=d) (t':=t) (ch:=[]) un hok bare (fun b z=>absurd z (by simp)),r,q⟩
end
def PF (sp:Sp) (dvs:List V) (E:XK) (t:TA):TE:=fun σ H Q=>t σ H fun vs H1=>sp (vs++dvs) H1 Q E
def L1 (C:Addr) (m:Str) (sp:Sp) (dvs:List V) (E:XK) (ta:TE) (t:TA):TE:=fun σ H Q=>ta σ H fun x H1=>∃ a dx fs,x = .ref a/\H1 a=some (.ins C dx fs)/\fs.lookup m=none /\
 t σ H1 fun vs H2=>sp (x::(vs++dvs)) H2 Q E
def Pk (C:Addr) (sp:Sp) (dvs:List V) (E:XK) (t:TA):TE:=fun σ H Q=>t σ H fun vs H1=>∀ x dx,H1 x=none->H1 dx=none->dx≠x ->
 sp (.ref x::(vs++dvs)) (upd (upd H1 dx (.own x)) x (.ins C dx [])) (fun v H2=>v = .non/\Q (.ref x) H2) E
def DD (K:PySem.W.Frag) (fd:FuncData) (ps:List Str) (ds:List Value):Prop:=
 ∀ (s:Shared) (us:List Value),K.In s.heap->(us++ds).length=ps.length->BindsTo s fd ⟨us,[]⟩ (ps.zip (us++ds))
theorem DD.all {K:PySem.W.Frag} {fd:FuncData} {ps:List Str} (h : ∀ us:List Value,us.length=ps.length->bindArgs fd ⟨us,[]⟩=pure (ps.zip us)):DD K fd ps []:=fun s us _ hl=>by
 rw[List.append_nil] at hl ⊢
 exact .of_eq (h us hl)
def Cf (CX:CXT) (X:Cx) (E:XK):Prop:=∀ (pins:List (Addr × Obj)) (σ:St) (H:Hp) (s:Shared) (e:Value) (s':Shared),Inv X pins σ H s->CX X.stack H s E e s'->X.xe e s'
section
variable {X:Cx} {CX:CXT} {k:Nat} {f C:Addr} {fd:FuncData} {ps:List Str} {sp:Sp} {dvs:List V} {ds:List Value} {E:XK} {x m:Str} {p pos apos:Pos} {e o:Expr} {es:List Expr} {ta:TE} {t:TA}
theorem Lo {pins:List (Addr × Obj)} {σ:St} {H:Hp} {s:Shared} {Q:VK} {us:List Value} {vs:List V} (F:Bv X.prog X.w X.K X.mg X.base CX k f fd ps sp) (hr:Cw k X.A) (hb:DD X.K fd ps ds) (hd:Bf dvs ds) (hx:Cf CX X E)
  (I:Inv X pins σ H s) (r:Bf vs us) (h:sp (vs++dvs) H Q E):wpAny (model X.prog X.w) X.A (call (.ref f) us) (EP X pins σ Q) X.xe s:= by
 have r2:Bf (vs++dvs) (us++ds):=r.append hd
 have hl:(us++ds).length=ps.length:=by rw[<- r2.length];exact F.len _ _ _ _ h
 refine wpAny_call (codeAny_mono (F.run X.A X.stack s H ⟨us,[]⟩ (us++ds) (vs++dvs) Q E hr I.env0 (hb s us I.kIn hl) r2 h) fun r s' hq=>?_)
 cases r with
 | error e=>exact hx pins σ H s e s' I hq
 | ok fl=>
  cases fl with
  | ret u=>exact I.after hq
  | next=>exact False.elim hq
  | brk=>exact False.elim hq
  | cont=>exact False.elim hq
theorem Lu (F:Bv X.prog X.w X.K X.mg X.base CX k f fd ps sp) (hr:Cw k X.A) (hg:Gl X x) (hm:X.mg x=some (.ref f)) (hk:PySem.W.keepIn X.K (.ref f)=true) (hb:DD X.K fd ps ds) (hd:Bf dvs ds) (hx:Cf CX X E)
  (ha : PA X (e :: es) t) (hdb : (x == ("__debug__" : Str)) = false:=by decide) (he : starEach (e :: es) X.env = (false,eval e X.env) :: starEach es X.env:=by rfl) (hpl : (backTo pos (starEach es X.env)).any (·.1) = false:=by rfl) :
  PE X (.Call (.Name x p) (e::es) [] pos) (PF sp dvs E t):= by
 intro pins s σ H Q I h
 refine wpAny_Call_Name_kw (Cu I hg hm ?_ hdb)
 refine PySem.W.callWith_K (h₀:=X.base) I.ok.mod.kin hk (thn (ha pos pins s σ H _ I h) fun us s1 ⟨vs,H1,I1,r,q⟩=>⟨I1.kIn,?_⟩) he hpl
 exact Lo F hr hb hd hx I1 r q
theorem LL {pl:Sem Bool} (he:PE X o ta) (c:Cls X.K C) (hm:P7 X.K C m f) (F:Bv X.prog X.w X.K X.mg X.base CX k f fd ps sp) (hr:Cw k X.A) (hb:DD X.K fd ps ds) (hd:Bf dvs ds) (hx:Cf CX X E) (ha:PA X (e::es) t)
  (hst:starEach (e::es) X.env=(false,eval e X.env)::starEach es X.env:=by rfl) (hpl:(backTo pos (starEach es X.env)).any (·.1)=false:=by rfl)
  (ht:eval (.Call (.Attribute o m apos) (e::es) [] pos) X.env=(do
   let ov <- eval o X.env
   standAt apos.atName
   let (f,first) <- holding [ov] (getMethod ov m pl)
   callWith pos f first (backTo pos (starEach (e::es) X.env)) (backToKw pos (keywordEach [] X.env))):=by rfl) :
  PE X (.Call (.Attribute o m apos) (e::es) [] pos) (L1 C m sp dvs E ta t):= by
 intro pins s σ H Q I h
 refine PySem.W.methodCall_KW (pl:=pl) (thn (he pins s σ H _ I h) fun u s1 ⟨x,H1,I1,rx,a,dx,fs,ex,ea,l,q⟩=>?_) ht
 subst ex
 obtain rfl:u=Value.ref a:=rx
 refine Ey I1 ea c hm l ?_
 refine PySem.W.callWith_K (first:=[.ref a]) (h₀:=X.base) I.ok.mod.kin hm.kp (thn (ha pos pins s1 σ H1 _ I1 q) fun us s2 ⟨vs,H2,I2,r,q2⟩=>⟨I2.kIn,?_⟩) hst hpl
 exact Lo (us:=.ref a::us) (vs:=.ref a::vs) F hr hb hd hx I2 (.cons rfl r) q2
theorem NM {pl:Sem Bool} (he:PE X o ta) (c:Cls X.K C) (hm:P7 X.K C m f) (F:Bv X.prog X.w X.K X.mg X.base CX k f fd ps sp) (hr:Cw k X.A) (hb:DD X.K fd ps ds) (hd:Bf dvs ds) (hx:Cf CX X E)
  (ht:eval (.Call (.Attribute o m apos) [] [] pos) X.env=(do
   let ov <- eval o X.env
   standAt apos.atName
   let (f,first) <- holding [ov] (getMethod ov m pl)
   callWith pos f first (backTo pos (starEach [] X.env)) (backToKw pos (keywordEach [] X.env))):=by rfl) :
  PE X (.Call (.Attribute o m apos) [] [] pos) (L1 C m sp dvs E ta Qo):= by
 intro pins s σ H Q I h
 refine PySem.W.methodCall_KW (pl:=pl) (thn (he pins s σ H _ I h) fun u s1 ⟨x,H1,I1,rx,a,dx,fs,ex,ea,l,q⟩=>?_) ht
 subst ex
 obtain rfl:u=Value.ref a:=rx
 refine Ey I1 ea c hm l ?_
 exact PySem.W.callWith_K0 (first:=[.ref a]) I1.kIn hm.kp (Lo (us:=[.ref a]) (vs:=[.ref a]) F hr hb hd hx I1 (.cons rfl .nil) q)
structure Mk (K:PySem.W.Frag) (C f:Addr):Prop where
 makes:PySem.W.makesIn K C=true
 init : PySem.W.findIn K (.ref C) "__init__" = some (some (.ref f))
 fn:PySem.W.isFn K (.ref f)=true
 kp:PySem.W.keepIn K (.ref C)=true
theorem Nq {pins:List (Addr × Obj)} {σ:St} {H:Hp} {s:Shared} {Q:VK} {us:List Value} {vs:List V} (M:Mk X.K C f) (F:Bv X.prog X.w X.K X.mg X.base CX k f fd ps sp) (hr:Cw (k+1) X.A) (hb:DD X.K fd ps ds) (hd:Bf dvs ds)
  (hx:Cf CX X E) (I:Inv X pins σ H s) (r:Bf vs us)
  (h : ∀ x dx,H x=none->H dx=none->dx≠x->sp (.ref x::(vs++dvs)) (upd (upd H dx (.own x)) x (.ins C dx [])) (fun v H2=>v = .non/\Q (.ref x) H2) E) :
  wpAny (model X.prog X.w) X.A (call (.ref C) us) (EP X pins σ Q) X.xe s:= by
 have hq:=h (s.heap.objs.size+1) s.heap.objs.size (I.hok.fresh (Nat.le_succ _)) (I.hok.fresh (Nat.le_refl _)) (Nat.ne_of_lt (Nat.lt_succ_self _))
 have I2:=Inv.made (C:=C) I
 have r2:Bf (V.ref (s.heap.objs.size+1)::(vs++dvs)) (Value.ref (s.heap.objs.size+1)::(us++ds)):=.cons rfl (r.append hd)
 have hl:(Value.ref (s.heap.objs.size+1)::us++ds).length=ps.length:= by
  have e:=r2.length
  rw[F.len _ _ _ _ hq] at e
  exact e.symm
 refine wpAny_call (NK (f:=f) I.kIn M.makes M.init (beq_iff_eq.mp M.fn) (codeAny_mono (F.run _ X.stack _ _ ⟨Value.ref (s.heap.objs.size+1)::us,[]⟩ (Value.ref (s.heap.objs.size+1)::(us++ds)) _ _ E (hr.make C us [])
  (I2.env0.make C us []) (hb _ (Value.ref (s.heap.objs.size+1)::us) I2.kIn hl) r2 hq) fun r s' hq'=>?_))
 cases r with
 | error e=>exact hx pins σ _ _ e s' I2 hq'
 | ok fl=>
  cases fl with
  | ret u=>
   obtain ⟨v,H',I3,rv,ev,q3⟩:=I2.after hq'
   subst ev
   exact ⟨rv,⟨V.ref (s.heap.objs.size+1),H',I3,rfl,q3⟩⟩
  | next=>exact False.elim hq'
  | brk=>exact False.elim hq'
  | cont=>exact False.elim hq'
theorem Mi (M:Mk X.K C f) (F:Bv X.prog X.w X.K X.mg X.base CX k f fd ps sp) (hr:Cw (k+1) X.A) (hg:Gl X x) (hm:X.mg x=some (.ref C)) (hb:DD X.K fd ps ds) (hd:Bf dvs ds) (hx:Cf CX X E)
  (ha : PA X (e :: es) t) (hdb : (x == ("__debug__" : Str)) = false:=by decide) (he : starEach (e :: es) X.env = (false,eval e X.env) :: starEach es X.env:=by rfl) (hpl : (backTo pos (starEach es X.env)).any (·.1) = false:=by rfl) :
  PE X (.Call (.Name x p) (e::es) [] pos) (Pk C sp dvs E t):= by
 intro pins s σ H Q I h
 refine wpAny_Call_Name_kw (Cu I hg hm ?_ hdb)
 refine PySem.W.callWith_K (h₀:=X.base) I.ok.mod.kin M.kp (thn (ha pos pins s σ H _ I h) fun us s1 ⟨vs,H1,I1,r,q⟩=>⟨I1.kIn,?_⟩) he hpl
 exact Nq M F hr hb hd hx I1 r q
end
structure Ap (N P:List Str) (sc:Scope):Prop where
 kind:sc.kind = .function
 co:sc.isCoroutine=false
 gen:sc.isGenerator=false
 nd:N.Nodup
 pre:N.take P.length=P
 par : ∀ x ∈ P,sc.names.lookup x=some .local\/sc.names.lookup x=some .cell
 nofree : ∀ y ∈ sc.names,y.2 ≠ .free
theorem HW {kindOf:Str->Option NameKind} {x:Str} : ∀ {binds:List (Str × Value)} {m:Str->Option Value},(∀ v,(x,v) ∉ binds)->bindL kindOf binds m x=m x
 | [],_,_=>rfl
 | (n,v)::r,m,h=>by
  unfold bindL
  rw[HW fun w hw=>h w (List.mem_cons_of_mem _ hw)]
  split
  ·have:x≠n:=by rintro rfl;exact h v List.mem_cons_self
   simp [this]
  ·rfl
theorem HN {kindOf:Str->Option NameKind} {x:Str} : ∀ {binds:List (Str × Value)} {m:Str->Option Value},(∀ v,(x,v) ∉ binds)->bindC kindOf binds m x=m x
 | [],_,_=>rfl
 | (n,v)::r,m,h=>by
  unfold bindC
  rw[HN fun w hw=>h w (List.mem_cons_of_mem _ hw)]
  split
  ·rfl
  ·have:x≠n:=by rintro rfl;exact h v List.mem_cons_self
   simp [this]
theorem HI {kindOf:Str->Option NameKind} {x:Str} {v:Value} : ∀ {P:List Str} {vs:List Value} {i:Nat} {m:Str->Option Value},P.Nodup->P[i]?=some x->vs[i]?=some v->kindOf x=some .local ->
  bindL kindOf (P.zip vs) m x=some v
 | [],_,_,_,_,h,_,_=>by simp at h
 | _::_,[],_,_,_,_,h,_=>by simp at h
 | p::P,w::vs,0,m,nd,h1,h2,hk=>by
  simp at h1 h2;subst h1;subst h2
  show bindL kindOf ((p,w)::P.zip vs) m p=_
  unfold bindL
  rw[HW fun v hv=>(List.nodup_cons.mp nd).1 (List.of_mem_zip hv).1,if_pos hk]
  simp
 | p::P,w::vs,i+1,m,nd,h1,h2,hk=>by
  show bindL kindOf ((p,w)::P.zip vs) m x=_
  unfold bindL
  exact HI (i:=i) (List.nodup_cons.mp nd).2 (by simpa using h1) (by simpa using h2) hk
theorem Ix {kindOf:Str->Option NameKind} {x:Str} {v:Value} : ∀ {P:List Str} {vs:List Value} {i:Nat} {m:Str->Option Value},P.Nodup->P[i]?=some x->vs[i]?=some v->kindOf x≠some .local ->
  bindC kindOf (P.zip vs) m x=some v
 | [],_,_,_,_,h,_,_=>by simp at h
 | _::_,[],_,_,_,_,h,_=>by simp at h
 | p::P,w::vs,0,m,nd,h1,h2,hk=>by
  simp at h1 h2;subst h1;subst h2
  show bindC kindOf ((p,w)::P.zip vs) m p=_
  unfold bindC
  rw[HN fun v hv=>(List.nodup_cons.mp nd).1 (List.of_mem_zip hv).1,if_neg hk]
  simp
 | p::P,w::vs,i+1,m,nd,h1,h2,hk=>by
  show bindC kindOf ((p,w)::P.zip vs) m x=_
  unfold bindC
  exact Ix (i:=i) (List.nodup_cons.mp nd).2 (by simpa using h1) (by simpa using h2) hk
def FH (N:List Str) (vs:List V):St:=vs.map some++List.replicate (N.length-vs.length) none
def M4 (CX:CXT) (P:Program) (w:World) (K:PySem.W.Frag) (mg:Str->Option Value) (base:Heap) (N:List Str) (qual:Str) (scope:Scope) (f:Addr) (cd:Value) (A:Around) (outer:List Env) (s:Shared) (H:Hp) (E:XK):Cx where
 prog:=P
 w:=w
 K:=K
 mg:=mg
 base:=base
 A:=A.deeper (envOfC qual scope s.heap.objs.size f cd)
 N:=N
 s₀:=s
 H₀:=H
 env:=envOfC qual scope s.heap.objs.size f cd
 outer:=outer
 stack:=envOfC qual scope s.heap.objs.size f cd::outer
 ex:=[]
 calm:=true
 fn:=fun _=>true
 pn:=[]
 xe:=fun e s'=>wpAny (model P w) (A.deeper (envOfC qual scope s.heap.objs.size f cd)) (leaving (envOfC qual scope s.heap.objs.size f cd) e) (fun _ s''=>CX outer H s E e s'') (fun e' s''=>CX outer H s E e' s'') s'
theorem JN {sc:Scope} {n:Nat} {x:Str} (h:sc.names.lookup x=some .cell) : ∃ c,(cellsFrom n sc.names []).lookup x=some c:= by
 have q:=PySem.W.cellsFrom_some sc.names n [] (.inl h)
 exact Option.isSome_iff_exists.mp q
theorem LE {CX:CXT} {P:Program} {w:World} {K:PySem.W.Frag} {mg:Str->Option Value} {base:Heap} {N ps:List Str} {qual:Str} {scope:Scope} {f:Addr} {cd:Value} {A:Around} {outer:List Env} {s s1:Shared} {H:Hp} {E:XK} {us:List Value} {vs:List V}
  (S:Ap N ps scope) (hd:A.handled=none) (e0:PJ P w K mg base A outer s H) (hl:vs.length=ps.length) (r:Bf vs us)
  (x:InCallC s s.heap.objs.size (bindL (envOfC qual scope s.heap.objs.size f cd).kindOf (ps.zip us) fun _=>none) (cellsFrom (s.heap.objs.size+1) scope.names []) (bindC (envOfC qual scope s.heap.objs.size f cd).kindOf (ps.zip us) fun _=>none) s1) :
  Inv (M4 CX P w K mg base N qual scope f cd A outer s H E) [] (FH N vs) H s1:= by
 have hpl:ps.length<=N.length:=by have:=congrArg List.length S.pre;rw[List.length_take] at this;omega
 obtain ⟨h1,tk,rfl,hk⟩:=x.done
 have noA : ∀ b:Addr,b ∉ (M4 CX P w K mg base N qual scope f cd A outer s H E).ex:=fun b z=>absurd (show b ∈ ([]:List Addr) from z) (by simp)
 refine ⟨⟨e0.mod,S.kind,rfl,rfl,Nat.le_refl _,fun y z c h1 h2=>?_,fun y hy=>?_,fun y c _ h=>?_,fun _=>hd,Around.frames_deeper e0.frames,.inr ⟨rfl,rfl⟩,fun b z=>absurd z (noA b),e0.bs,e0.bsz,fun b _ _=>noA b,fun b z=>absurd z (noA b),e0.funs,e0.frf⟩,
  rfl,e0.bare,Un.kept hk,⟨_,x.toInCall.ns,fun i y v h1 h2 h3=>?_⟩,fun y c h=>⟨_,x.cell y c h⟩,e0.hok.fresh (Nat.le_refl _),fun y c h=>?_,fun p hp=>absurd (show p ∈ ([]:List (Addr × Obj)) from hp) (by simp),e0.hok.kept hk,?_⟩
 ·exact name_of_addr x.apart (PySem.mem_of_lookup h1) (PySem.mem_of_lookup h2)
 ·have hy:scope.names.lookup y=some .cell\/scope.names.lookup y=some .free:=hy
  rcases hy with hy | hy
  ·exact JN hy
  ·exact absurd rfl (S.nofree _ (PySem.mem_of_lookup hy))
 ·exact Nat.le_of_lt (x.above y c (PySem.mem_of_lookup h))
 ·have hi:i<vs.length:= by
   unfold FH at h2
   by_cases hi:i<vs.length
   ·exact hi
   ·rw[List.getElem?_append_right (by simpa using hi)] at h2
    rw[List.getElem?_replicate] at h2
    split at h2 <;> cases h2
  have ha:vs[i]?=some v:= by
   unfold FH at h2
   rw[List.getElem?_append_left (by simpa using hi),List.getElem?_map] at h2
   cases e:vs[i]? with
   | none=>rw[e] at h2;cases h2
   | some a=>rw[e] at h2;cases h2;rfl
  obtain ⟨u,hu,rv⟩:=r.get ha
  have hp:ps[i]?=some y:= by
   rw[<- S.pre,List.getElem?_take_of_lt (by omega)];exact h1
  have ndP:ps.Nodup:=by rw[<- S.pre];exact S.nd.sublist (List.take_sublist _ _)
  refine ⟨u,rv,?_⟩
  rcases S.par y (List.mem_of_getElem? hp) with k | k
  ·exact .inl ⟨k,HI ndP hp hu k⟩
  ·obtain ⟨c,e⟩:=JN (n:=s.heap.objs.size+1) k
   refine .inr ⟨.inl k,c,e,?_⟩
   have q:=x.cell y c e
   rw[Ix ndP hp hu (by show scope.names.lookup y≠_;rw[k];decide)] at q
   exact q
 ·exact e0.hok.fresh (Nat.le_of_lt (x.above y c (PySem.mem_of_lookup h)))
 ·unfold FH
  show _=N.length
  rw[List.length_append,List.length_map,List.length_replicate]
  omega
theorem Nk {CX:CXT} {P:Program} {w:World} {K:PySem.W.Frag} {mg:Str->Option Value} {base:Heap} {k:Nat} {f:Addr} {name qual:Str} {params:Arguments} {body:List Stmt} {scope:Scope} {dV kV doc pm cdv ct oc:Value} {an od:Option Addr}
  {osl:Array (Option Value)} {N ps:List Str} {sp:Sp} (lk:K.lookup f=some ⟨oc,od,.func (PySem.W.fnOf name qual params body scope dV kV doc pm an cdv ct),osl⟩) (hcd:PySem.W.codeIn K cdv qual=true) (S:Ap N ps scope)
  (len : ∀ vs H Q E,sp vs H Q E->vs.length=ps.length)
  (hbody : ∀ (A:Around) (outer:List Env) (s:Shared) (H:Hp) (vs:List V) (Q:VK) (E:XK),Cw k (A.deeper (envOfC qual scope s.heap.objs.size f cdv))->sp vs H Q E ->
   ∃ t,PSs (M4 CX P w K mg base N qual scope f cdv A outer s H E) body t/\t { nx:=fun _ H'=>Q .non H',rt:=Q } (FH N vs) H) :
  Bv P w K mg base CX (k+1) f (PySem.W.fnOf name qual params body scope dV kV doc pm an cdv ct) ps sp:= by
 refine ⟨len,fun A outer s H args us vs Q E hr e0 hb r hsp=>?_⟩
 have hl:=len _ _ _ _ hsp
 have KX:K.In s.heap:=e0.mod.kin.keeps fun b o e=>(e0.bs b o e).1
 have lim:s.heap.NoLimit:=e0.mod.nolimit.keeps fun b o e=>(e0.bs b o e).1
 have hkind : ∀ y ∈ ps.zip us,scope.names.lookup y.1=some .local\/(scope.names.lookup y.1=some .cell/\((cellsFrom (s.heap.objs.size+1) scope.names []).lookup y.1).isSome=true):=fun ⟨n,v⟩ hy=>by
  rcases S.par n (List.of_mem_zip hy).1 with q | q
  ·exact .inl q
  ·exact .inr ⟨q,PySem.W.cellsFrom_some _ _ _ (.inl q)⟩
 refine codeAny_call_function hr.depth (KX _ _ lk) rfl S.co S.gen rfl (PySem.W.codeRec_of KX hcd) (hb _ _ _ _ ?_)
 refine wpAny_newFunctionEnv_cells S.kind hkind fun env he s1 x=>?_
 subst he
 refine ⟨lim.keeps x.toInCall.keep,codeAny_func ?_⟩
 obtain ⟨t,ht,hq⟩:=hbody A outer s H vs Q E (hr.deeper _) hsp
 have I:Inv (M4 CX P w K mg base N qual scope f cdv A outer s H E) [] (FH N vs) H s1:=LE S hr.hd e0 hl r x
 refine wpAny_mono (ht [] s1 (FH N vs) H _ I hq) (fun fl s' hs=>?_) fun e s' hs=>hs
 have fin : ∀ {σ':St} {H':Hp} {v:V} {u:Value},Inv (M4 CX P w K mg base N qual scope f cdv A outer s H E) [] σ' H' s'->Be v u->Q v H'->CE outer P w H s Q u s':=
  fun {σ' H' v u} J rv q=>⟨v,H',J.os,J.bare,J.base,J.hok,rv,q⟩
 cases fl with
 | ret u=>
  obtain ⟨v,σ',H',J,rv,q⟩:=hs
  exact fin J rv q
 | next=>
  obtain ⟨σ',H',J,q⟩:=hs
  exact fin (v:=V.non) (u:=Value.none) J rfl q
 | brk=>
  obtain ⟨_,_,_,q⟩:=hs
  exact False.elim q
 | cont=>
  obtain ⟨_,_,_,q⟩:=hs
  exact False.elim q
end L2
namespace L2
open PySem PySem.Spec PyProof.Rows
section
variable {X:Cx} {x:Str} {p pos:Pos} {e:Expr} {es:List Expr} {t:TA} {id T:String} {r:List V->Hp->VK->Prop}
def tCB (r:List V->Hp->VK->Prop) (t:TA):TE:=fun σ H Q=>t σ H fun vs H1=>r vs H1 Q
theorem As (hc : BW X (.builtin id) r) (hg : Gl X x) (hm : X.mg x = none) (hv : bootBuiltins x = some (.builtin id)) (ha : PA X (e :: es) t) (hn : x ≠ "__name__":=by decide) (hdb : (x == ("__debug__" : Str)) = false:=by decide)
  (he:starEach (e::es) X.env=(false,eval e X.env)::starEach es X.env:=by rfl) (hpl:(backTo pos (starEach es X.env)).any (·.1)=false:=by rfl):PE X (.Call (.Name x p) (e::es) [] pos) (tCB r t):= by
 intro pins s σ H Q I h
 refine wpAny_Call_Name_kw (Gq I hg hm hv ?_ hn hdb)
 exact PyProof.Rows.callWith_builtin1 (thn (ha pos pins s σ H _ I h) fun us s1 ⟨vs,H1,I1,r1,q1⟩=>hc pins s1 σ H1 vs us Q I1 r1 q1) he hpl
theorem BU (hc : BW X (.type T) r) (hg : Gl X x) (hm : X.mg x = none) (hv : bootBuiltins x = some (.type T)) (ha : PA X (e :: es) t) (hn : x ≠ "__name__":=by decide) (hdb : (x == ("__debug__" : Str)) = false:=by decide)
  (he:starEach (e::es) X.env=(false,eval e X.env)::starEach es X.env:=by rfl) (hpl:(backTo pos (starEach es X.env)).any (·.1)=false:=by rfl):PE X (.Call (.Name x p) (e::es) [] pos) (tCB r t):= by
 intro pins s σ H Q I h
 refine wpAny_Call_Name_kw (Gq I hg hm hv ?_ hn hdb)
 exact PyProof.Rows.callWith_type1 (thn (ha pos pins s σ H _ I h) fun us s1 ⟨vs,H1,I1,r1,q1⟩=>hc pins s1 σ H1 vs us Q I1 r1 q1) he hpl
end
end L2
namespace HT
open PySem PyProof.Rows
section
variable {prog:Program} {w:World} {A:Around} {E:Value->Shared->Prop} {s:Shared}
def sIx (n d:Nat):Option Int->Nat
 | none=>d
 | some v=>if v<0 then (v+(n:Int)).toNat else min v.toNat n
theorem sIx_none (n d:Nat):sIx n d none=d:=rfl
theorem sIx_nat (n d k:Nat):sIx n d (some (k:Int))=min k n:= by
 show (if (k:Int)<0 then ((k:Int)+(n:Int)).toNat else min (k:Int).toNat n)=min k n
 rw[if_neg (by omega),Int.toNat_natCast]
theorem Qq (n d:Nat) (hd:d<=n) (o:Option Int):sIx n d o<=n:= by
 cases o with
 | none=>exact hd
 | some v=>
  show (if v<0 then (v+(n:Int)).toNat else min v.toNat n)<=n
  by_cases hv:v<0
  ·rw[if_pos hv];omega
  ·rw[if_neg hv];exact Nat.min_le_right _ _
theorem LC (v:Int) (n d:Nat):(if v<0 then max (v+(n:Int)) 0 else min v (n:Int))=((sIx n d (some v):Nat):Int):= by
 show (if v<0 then max (v+(n:Int)) 0 else min v (n:Int))=(((if v<0 then (v+(n:Int)).toNat else min v.toNat n):Nat):Int)
 by_cases hv:v<0
 ·simp only [if_pos hv];omega
 ·simp only [if_neg hv];omega
theorem KJ (lo hi:Option Int) (n:Nat):Builtin.Slice.sliceAdjust lo hi 1 (n:Int)=(((sIx n 0 lo:Nat):Int),((sIx n n hi:Nat):Int)):= by
 have h1 : ¬ ((1:Int)<0):=by omega
 unfold Builtin.Slice.sliceAdjust
 simp only [h1,if_false]
 refine Prod.ext ?_ ?_
 ·cases lo with
  | none=>rfl
  | some v=>exact LC v n 0
 ·cases hi with
  | none=>rfl
  | some v=>exact LC v n n
theorem KK (i j:Nat):Builtin.Slice.slicePlaces (i:Int) (j:Int) 1=j-i:= by
 unfold Builtin.Slice.slicePlaces
 have h1:(1:Int) > 0:=by omega
 simp only [h1,if_true,Int.ediv_one]
 split <;> omega
theorem Gu {v:Value} {o:Option Int} {Q:Option Int->Shared->Prop} (p:IsPart v o) (h:Q o s):wpAny (model prog w) A (Builtin.Slice.slicePartIndex v) Q E s:= by
 cases p with
 | none=>exact slicePart_none h
 | int i t=>exact slicePart_int h
theorem sliceApplied_gen {sl:Addr} {vl vu:Value} {lo hi:Option Int} {n:Nat} {Q:Int × Int × Nat->Shared->Prop} (hs:s.heap.IsSliceOf sl vl vu .none) (pl:IsPart vl lo) (pu:IsPart vu hi)
  (h:Q (((sIx n 0 lo:Nat):Int),1,sIx n n hi-sIx n 0 lo) s):wpAny (model prog w) A (Builtin.Slice.sliceApplied (.ref sl) (pure (n:Int))) Q E s:= by
 obtain ⟨os,hos,hcs,hds⟩:=id hs
 unfold Builtin.Slice.sliceApplied Builtin.Slice.sliceFields
 refine wpAny_bind (wpAny_bind (wpAny_field hos hds (x:=vl) rfl (wpAny_bind (wpAny_field hos hds (x:=vu) rfl (wpAny_bind (wpAny_field hos hds (x:=.none) rfl (wpAny_pure ?_)))))))
 refine wpAny_bind (slicePart_none ?_)
 show wpAny _ _ (if ((1:Int)==0)=true then _ else _) _ _ s
 rw[if_neg (by decide)]
 refine wpAny_bind (Gu pl (wpAny_bind (Gu pu (wpAny_bind (wpAny_pure ?_)))))
 show wpAny _ _ (match Builtin.Slice.sliceAdjust lo hi 1 (n:Int) with | (lo,hi)=>pure (lo,(1:Int),Builtin.Slice.slicePlaces lo hi 1)) _ _ s
 rw[KJ lo hi n]
 show wpAny _ _ (pure (((sIx n 0 lo:Nat):Int),(1:Int),Builtin.Slice.slicePlaces ((sIx n 0 lo:Nat):Int) ((sIx n n hi:Nat):Int) 1)) _ _ s
 rw[KK]
 exact wpAny_pure h
theorem Nj (xs:Array Value) (i k:Nat):((List.range k).filterMap fun (m:Nat)=>xs[((i:Int)+(m:Int)*1).toNat]?).toArray=((xs.toList.drop i).take k).toArray:= by
 have e:(fun (m:Nat)=>xs[((i:Int)+(m:Int)*1).toNat]?)=fun m=>xs[i+m]?:= by
  funext m
  have:((i:Int)+(m:Int)*1).toNat=i+m:=by omega
  rw[this]
 rw[e]
 have:=pick_run xs i k
 rw[List.filterMap_map] at this
 have e2:((fun x=>xs[x]?)∘fun x=>i+x)=fun m=>xs[i+m]?:=rfl
 rw[e2] at this
 rw[this]
theorem getItem_tuple_cut {t sl:Addr} {items:Array Value} {vl vu:Value} {lo hi:Option Int} {Q:Value->Shared->Prop} (ht:IsTup s.heap t items) (hs:s.heap.IsSliceOf sl vl vu .none) (pl:IsPart vl lo) (pu:IsPart vu hi)
  (hw : ¬ (sIx items.size 0 lo=0/\sIx items.size items.size hi=items.size))
  (h : Q (.ref s.heap.objs.size) { s with heap:=s.heap.push { cls:=.type "tuple",data:=.seq ((items.toList.drop (sIx items.size 0 lo)).take (sIx items.size items.size hi - sIx items.size 0 lo)).toArray } })
  (hsz:items.size<=sizeLine):wpAny (model prog w) A (getItem (.ref t) (.ref sl)) Q E s:= by
 have htake:sizeOk (.seq ((items.toList.drop (sIx items.size 0 lo)).take (sIx items.size items.size hi-sIx items.size 0 lo)).toArray):= by
  show ((items.toList.drop (sIx items.size 0 lo)).take (sIx items.size items.size hi-sIx items.size 0 lo)).toArray.size<=sizeLine
  rw[List.size_toArray,List.length_take,List.length_drop,Array.length_toList]
  omega
 have hj:sIx items.size items.size hi<=items.size:=Qq _ _ (Nat.le_refl _) hi
 obtain ⟨os,hos,hcs,hds⟩:=id hs
 have hTs : s.TypeIs (.ref sl) "slice":=⟨os,hos,hcs⟩
 unfold getItem
 try with_reducible refine wpAny_holding ?_
 first | refine wpAny_bind (wpAny_pure ?_) | skip
 refine wpAny_bind (wpAny_sequenceKey ht.typeIs (by decide) ?_)
 refine wpAny_bind (wpAny_callSpecial?_slot (name:=Str.ofString "__getitem__") ht.typeIs PyProof.Rows.slot_tuple_getitem
  (wpAny_call_entry PyProof.Rows.slot_tuple_getitem ht.typeIs entry_tuple_getitem ?_ (args_tuple_getitem _ _)))
 show wpAny _ _ (Builtin.Tuple.tupleItemsOf (.ref t) >>= _) _ _ s
 refine wpAny_bind (tupleItemsOf_ ht ?_)
 refine wpAny_bind (wpAny_typeOf hTs ?_)
 rw[if_pos (by decide)]
 refine wpAny_bind (sliceApplied_gen hs pl pu ?_)
 have hno : ¬ ((((sIx items.size 0 lo:Nat):Int)==0&&(1:Int)==1&&(sIx items.size items.size hi-sIx items.size 0 lo)==items.size)=true):= by
  intro q
  rw[Bool.and_eq_true,Bool.and_eq_true] at q
  have q1:((sIx items.size 0 lo:Nat):Int)=0:=eq_of_beq q.1.1
  have q2:sIx items.size items.size hi-sIx items.size 0 lo=items.size:=eq_of_beq q.2
  exact hw ⟨by omega,by omega⟩
 show wpAny _ _ (if (((sIx items.size 0 lo:Nat):Int)==0&&(1:Int)==1&&(sIx items.size items.size hi-sIx items.size 0 lo)==items.size)=true then _ else _) _ _ s
 rw[if_neg hno,Nj]
 first
  | exact wpAny_bind (m:=Builtin.Tuple.tupleExact _) (wpAny_newObj_type (wpAny_pure ⟨_,rfl,wpAny_pure h⟩) htake)
  | exact wpAny_bind (m:=Builtin.Tuple.tupleExact _) (wpAny_newObj_type (wpAny_bind (wpAny_pure (wpAny_pure ⟨_,rfl,wpAny_pure h⟩))) htake)
  | exact wpAny_bind (wpAny_bind (m:=Builtin.Tuple.tupleExact _) (wpAny_newObj_type (wpAny_pure (wpAny_pure ⟨_,rfl,wpAny_pure h⟩)) htake))
  | exact wpAny_bind (wpAny_bind (m:=Builtin.Tuple.tupleExact _) (wpAny_newObj_type (wpAny_pure ⟨_,rfl,wpAny_pure h⟩) htake))
end
end HT
namespace L2
open PySem PySem.Spec PyProof.Rows
abbrev TO:=St->Hp->(Option Int->Hp->Prop)->Prop
def PO (X:Cx) (e:Option Expr) (t:TO):Prop:=
 ∀ (pins:List (Addr × Obj)) (s:Shared) (σ:St) (H:Hp) (Q:Option Int->Hp->Prop),Inv X pins σ H s->t σ H Q ->
  wpAny (model X.prog X.w) X.A (evalPart e X.env) (fun u s'=>∃ o H',Inv X pins σ H' s'/\IsPart u o/\Q o H') X.xe s
def PL:TO:=fun _ H Q=>Q none H
def RZ (t:TE):TO:=fun σ H Q=>t σ H fun x H1=>∃ i,x = .int i/\Q (some i) H1
theorem KS {ns:List Int} : ∀ {us:List Value},Bf (ns.map V.int) us->IntsAre us ns:= by
 induction ns with
 | nil=>intro us r;rw[List.map_nil] at r;cases r;exact .nil
 | cons n ns ih=>
  intro us r
  rw[List.map_cons] at r
  cases r with
  | cons r1 r2=>
   obtain ⟨t,e⟩:=r1
   subst e
   exact .cons n t (ih r2)
section
variable {X:Cx} {e:Expr} {te:TE} {lo hi:Option Expr} {tl th:TO} {pos p2:Pos}
theorem Dm:PO X none PL:= by
 intro pins s σ H Q I h
 rw[evalPart_none]
 exact wpAny_pure ⟨none,H,I,.none,h⟩
theorem Dp (h:PE X e te):PO X (some e) (RZ te):= by
 intro pins s σ H Q I hw
 rw[evalPart_some]
 refine thn (h pins s σ H _ I hw) fun u s1 ⟨x,H1,I1,r1,q1⟩=>?_
 obtain ⟨i,rfl,q⟩:=q1
 obtain ⟨t,rfl⟩:=r1
 exact ⟨some i,H1,I1,.int i t,q⟩
def SlR (X:Cx) (r:V->Option Int->Option Int->Hp->VK->Prop):Prop:=
 ∀ (pins:List (Addr × Obj)) (s:Shared) (σ:St) (H:Hp) (x:V) (v vl vu:Value) (lo hi:Option Int) (sl:Addr) (Q:VK),Inv X pins σ H s->Be x v->s.heap.IsSliceOf sl vl vu .none->IsPart vl lo->IsPart vu hi->r x lo hi H Q ->
  ∃ T id,typeLookup (.type T) "__getitem__" = pure (some (.builtin id)) /\ s.TypeIs v T /\ wpAny (model X.prog X.w) X.A (getItem v (.ref sl)) (EP X pins σ Q) X.xe s
def tSl (r:V->Option Int->Option Int->Hp->VK->Prop) (te:TE) (tl th:TO):TE:=fun σ H Q=>te σ H fun x H1=>tl σ H1 fun l H2=>th σ H2 fun u H3=>r x l u H3 Q
theorem Cm {r:V->Option Int->Option Int->Hp->VK->Prop} (hr:SlR X r) (he:PE X e te) (hl:PO X lo tl) (hu:PO X hi th):PE X (.Subscript e (.Slice lo hi none p2) pos) (tSl r te tl th):= by
 intro pins s σ H Q I h
 refine Subscript_ (thn (he pins s σ H _ I h) fun v s1 ⟨x,H1,I1,r1,q1⟩=>?_)
 refine wpAny_Slice (thn (hl pins s1 σ H1 _ I1 q1) fun vl s2 ⟨l,H2,I2,pl,q2⟩=>thn (hu pins s2 σ H2 _ I2 q2) fun vu s3 ⟨u,H3,I3,pu,q3⟩=>?_)
 rw[evalPart_none]
 refine wpAny_pure ?_
 have I4 : Inv X pins σ H3 { s3 with heap:=s3.heap.push { cls:=.type "slice",data:=.fields #[vl,vu,.none] } }:=I3.kept (t':=s3.toks) fun b ob q=>Heap.get?_push_of_some _ q
 obtain ⟨T,id,hT,ht,hg⟩:=hr pins { s3 with heap:=s3.heap.push { cls:=.type "slice",data:=.fields #[vl,vu,.none] } } σ H3 x v vl vu l u s3.heap.objs.size Q I4 r1 (Heap.IsSliceOf.new ..) pl pu q3
 show wpAny (model X.prog X.w) X.A (subscriptTail e (.Slice lo hi none p2) v (.ref s3.heap.objs.size)) (EP X pins σ Q) X.xe { s3 with heap:=s3.heap.push { cls:=.type "slice",data:=.fields #[vl,vu,.none] } }
 exact tail_any (ops:=[.ref s3.heap.objs.size,v]) ht hT hg (by with_unfolding_all rfl)
def Fd (xs:List V) (lo hi:Option Int):List V:=(xs.drop (HT.sIx xs.length 0 lo)).take (HT.sIx xs.length xs.length hi-HT.sIx xs.length 0 lo)
theorem FN (xs:List V) (lo hi:Option Int):(Fd xs lo hi).length<=xs.length:= by
 unfold Fd
 rw[List.length_take,List.length_drop]
 omega
def SE (K:PySem.W.Frag):V->Option Int->Option Int->Hp->VK->Prop:=fun x lo hi H Q=>∃ a xs,x = .ref a/\SqT K H a xs /\
 ¬ (HT.sIx xs.length 0 lo=0/\HT.sIx xs.length xs.length hi=xs.length) /\ ∀ p,H p=none->Q (.ref p) (upd H p (.tup (Fd xs lo hi)))
theorem Q8:SlR X (SE X.K):= by
 intro pins s σ H x v vl vu lo hi sl Q I rx hs pl pu h
 obtain ⟨a,xs,rfl,hx,hw,q⟩:=h
 cases rx
 obtain ⟨its,r,ht,hz⟩:=I.tuple hx
 have hlen:its.toArray.size=xs.length:=by rw[List.size_toArray];exact r.length.symm
 refine ⟨"tuple",_,PyProof.Rows.slot_tuple_getitem.lookup,ht.typeIs,?_⟩
 refine HT.getItem_tuple_cut ht hs pl pu (by rw[hlen];exact hw) ?_ (by rw[hlen];exact hz)
 rw[hlen]
 refine ⟨.ref s.heap.objs.size,_,I.laid (t':=s.toks) (o:=.tup (Fd xs lo hi)) (fun b ob q=>Heap.get?_push_of_some _ q) (Nat.le_refl _) ?_,rfl,q _ (I.hok.fresh (Nat.le_refl _))⟩
 exact ⟨Nat.le_trans (FN xs lo hi) hz,_,(r.drop (HT.sIx xs.length 0 lo)).take (HT.sIx xs.length xs.length hi-HT.sIx xs.length 0 lo),IsTup.new _ _⟩
end
end L2
namespace L2
open PySem PySem.Spec PyProof.Rows
def ixN (n:Nat) (i:Int):Option Nat:=if 0<=i then (if i<n then some i.toNat else none) else if -(n:Int)<=i then some (i+n).toNat else none
def atI {α:Type} (xs:List α) (i:Int):Option α:=(ixN xs.length i).bind fun j=>xs[j]?
theorem PV {n:Nat} {i:Int} {j:Nat} (h:ixN n i=some j):seqIndex? i n=some j/\j<n /\ -(n:Int)<=i/\i<n:= by
 unfold ixN at h
 by_cases h0:0<=i
 ·rw[if_pos h0] at h
  by_cases h1:i<n
  ·rw[if_pos h1] at h
   have e:i.toNat=j:=Option.some.inj h
   exact ⟨by rw[seqIndex_of h0 h1,e],by omega,by omega,h1⟩
  ·rw[if_neg h1] at h;cases h
 ·rw[if_neg h0] at h
  by_cases h1 : -(n:Int)<=i
  ·rw[if_pos h1] at h
   have e:(i+n).toNat=j:=Option.some.inj h
   exact ⟨by rw[seqIndex_neg (by omega) h1,e],by omega,h1,by omega⟩
  ·rw[if_neg h1] at h;cases h
theorem LK {α:Type} {xs:List α} {i:Int} {v:α} (h:atI xs i=some v) : ∃ j,seqIndex? i xs.length=some j/\xs[j]?=some v/\j<xs.length /\ -(xs.length:Int)<=i/\i<xs.length:= by
 unfold atI at h
 cases e:ixN xs.length i with
 | none=>rw[e] at h;cases h
 | some j=>
  rw[e] at h
  obtain ⟨h1,h2,h3,h4⟩:=PV e
  exact ⟨j,h1,h,h2,h3,h4⟩
theorem Es {α:Type} {xs:List α} {j:Nat} {v:α} (h:xs[j]?=some v):atI xs (j:Int)=some v:= by
 have hj:j<xs.length:=(List.getElem?_eq_some_iff.mp h).1
 have e:ixN xs.length (j:Int)=some j:= by
  unfold ixN
  rw[if_pos (by omega),if_pos (by omega)];simp
 unfold atI;rw[e];exact h
def O5 (b:Expr):Prop:=∀ o i,subscripted b false o i=operate [o,i] (getItem o i)
def IxR (X:Cx) (r:R2):Prop:=
 ∀ (value slice:Expr) (pins:List (Addr × Obj)) (s:Shared) (σ:St) (H:Hp) (x y:V) (v u:Value) (Q:VK),Inv X pins σ H s->Be x v->Be y u->r x y H Q ->
  subscripted slice false v u=operate [v,u] (getItem v u)->wpAny (model X.prog X.w) X.A (subscriptTail value slice v u) (EP X pins σ Q) X.xe s
def MtR (X:Cx) (id:String) (r:V->List V->Hp->VK->Prop):Prop:=
 ∀ (pins:List (Addr × Obj)) (s:Shared) (σ:St) (H:Hp) (x:V) (xs:List V) (v:Value) (us:List Value) (Q:VK),Inv X pins σ H s->Be x v->Bf xs us->r x xs H Q ->
  wpAny (model X.prog X.w) X.A (call (.builtin id) (v::us)) (EP X pins σ Q) X.xe s
section
variable {X:Cx} {a b:Expr} {ta tb:TE} {pos:Pos}
theorem AG {r:R2} (hr:IxR X r) (ha:PE X a ta) (hb:PE X b tb) (hs:O5 b):PE X (.Subscript a b pos) (tOp r ta tb):= by
 intro pins s σ H Q I h
 exact Subscript_ (RM ha hb I h fun v u s2 x y H2 I2 rx ry q=>hr a b pins s2 σ H2 x y v u Q I2 rx ry q (hs _ _))
def Sg (K:PySem.W.Frag):R2:=fun x y H Q=>∃ p xs i v,x = .ref p/\y = .int i/\SqL K H p xs/\atI xs i=some v/\Q v H
def Sq (K:PySem.W.Frag):R2:=fun x y H Q=>∃ p xs i v,x = .ref p/\y = .int i/\SqT K H p xs/\atI xs i=some v/\Q v H
theorem Pt:IxR X (Sg X.K):= by
 intro value slice pins s σ H x y v u Q I rx ry h hs
 obtain ⟨p,xs,i,z,rfl,rfl,hq,he,q⟩:=h
 cases rx
 obtain ⟨t,rfl⟩:=ry
 obtain ⟨its,r,pl,hz⟩:=I.list hq
 obtain ⟨j,h1,h2,h3,h4,h5⟩:=LK he
 obtain ⟨w,ew,rw'⟩:=r.get h2
 have hl:=r.length
 have hn:=Kh
 have fin:EP X pins σ Q w s:=⟨z,H,I,rw',q⟩
 by_cases h0:0<=i
 ·have hj:i.toNat=j:= by
   rw[seqIndex_of h0 h5] at h1
   exact Option.some.inj h1
  exact item_listR pl.isList h0 (by omega) (by rw[hj];simpa using ew) fin hs
 ·have hj:(i+(its.toArray.size:Int)).toNat=j:= by
   rw[seqIndex_neg (by omega) h4] at h1
   rw[List.size_toArray,<- hl]
   exact Option.some.inj h1
  exact subscriptTail_builtinR (x:=w) pl.isList.typeIs slot_list_getitem.lookup
   (wpAny_getItem_list_neg (Q:=fun r s'=>r=w/\EP X pins σ Q r s') pl.isList (by omega) (by rw[List.size_toArray] <;> omega) (by omega) (by rw[hj];simpa using ew) ⟨rfl,fin⟩) hs
theorem Qy:IxR X (Sq X.K):= by
 intro value slice pins s σ H x y v u Q I rx ry h hs
 obtain ⟨p,xs,i,z,rfl,rfl,hq,he,q⟩:=h
 cases rx
 obtain ⟨t,rfl⟩:=ry
 obtain ⟨its,r,pl,hz⟩:=I.tuple hq
 obtain ⟨j,h1,h2,h3,h4,h5⟩:=LK he
 obtain ⟨w,ew,rw'⟩:=r.get h2
 have hl:=r.length
 have hn:=Kh
 have fin:EP X pins σ Q w s:=⟨z,H,I,rw',q⟩
 exact subscriptTail_builtinR (x:=w) pl.typeIs slot_tuple_getitem.lookup
  (getItem_tuple (j:=j) (Q:=fun r s'=>r=w/\EP X pins σ Q r s') pl (by omega) (by omega) (by rw[List.size_toArray,<- hl];exact h1) (by simpa using ew) ⟨rfl,fin⟩) hs
theorem HF (lo hi:Option Int) (n:Nat):(sliceBounds lo hi none n).1=((HT.sIx n 0 lo:Nat):Int)/\(sliceBounds lo hi none n).2.1=((HT.sIx n n hi:Nat):Int)/\(sliceBounds lo hi none n).2.2=1:= by
 refine ⟨?_,?_,rfl⟩
 ·cases lo with
  | none=>simp [sliceBounds,HT.sIx]
  | some i=>
   simp only [sliceBounds,HT.sIx,Option.getD_none,show (1:Int) > 0 by decide,if_true]
   by_cases h:i<0
   ·simp only [h,if_true] <;> omega
   ·simp only [h,if_false] <;> omega
 ·cases hi with
  | none=>simp [sliceBounds,HT.sIx]
  | some i=>
   simp only [sliceBounds,HT.sIx,Option.getD_none,show (1:Int) > 0 by decide,if_true]
   by_cases h:i<0
   ·simp only [h,if_true] <;> omega
   ·simp only [h,if_false] <;> omega
theorem GV (its:List Value) (lo hi:Option Int):slicePick its.toArray lo hi none=((its.drop (HT.sIx its.length 0 lo)).take (HT.sIx its.length its.length hi-HT.sIx its.length 0 lo)).toArray:= by
 obtain ⟨h1,h2,h3⟩:=HF lo hi its.toArray.size
 unfold slicePick
 rw[h1,h2,h3]
 simp only [sliceRange_one,pick_run,List.size_toArray] <;> rfl
def Sm (K:PySem.W.Frag):V->Option Int->Option Int->Hp->VK->Prop:=fun x lo hi H Q=>∃ a xs,x = .ref a/\SqL K H a xs /\ ∀ p,H p=none->Q (.ref p) (upd H p (.lst (Fd xs lo hi)))
theorem Pp:SlR X (Sm X.K):= by
 intro pins s σ H x v vl vu lo hi sl Q I rx hs pl pu h
 obtain ⟨a,xs,rfl,hx,q⟩:=h
 cases rx
 obtain ⟨its,r,ht,hz⟩:=I.list hx
 have hlen:=r.length
 refine ⟨"list",_,slot_list_getitem.lookup,ht.isList.typeIs,?_⟩
 refine wpAny_getItem_list_slice ht.isList hs pl pu .none (by simp) ?_ (by rw[List.size_toArray] <;> omega)
 rw[GV,<- hlen]
 refine ⟨.ref s.heap.objs.size,_,I.laid (t':=s.toks) (o:=.lst (Fd xs lo hi)) (fun b ob q=>Heap.get?_push_of_some _ q) (Nat.le_refl _) ?_,rfl,q _ (I.hok.fresh (Nat.le_refl _))⟩
 exact ⟨Nat.le_trans (FN xs lo hi) hz,_,0,(r.drop (HT.sIx xs.length 0 lo)).take (HT.sIx xs.length xs.length hi-HT.sIx xs.length 0 lo),Heap.get?_push_size _ rfl⟩
def D8:V->Bool
 | .non=>true
 | .bl _=>true
 | .int _=>true
 | .str _=>true
 | _=>false
def eqV:V->V->Bool
 | .non,.non=>true
 | .bl a,.bl b=>a==b
 | .bl a,.int b=>(if a then 1 else 0)==b
 | .int a,.bl b=>a==(if b then 1 else 0)
 | .int a,.int b=>a==b
 | .str a,.str b=>a==b
 | _,_=>false
theorem Os {A:Around} {s:Shared} {y x:V} {u v:Value} (ry:Be y u) (rx:Be x v) (fy:D8 y=true) (fx:D8 x=true):SeqAt.EqAt A s u v (eqV y x):= by
 cases y with
 | non=>
  cases ry
  cases x with
  | non=>cases rx;exact SeqAt.EqAt.same _
  | bl b=>cases rx;exact SeqAt.EqAt.none_bool b
  | int b=>obtain ⟨t,rfl⟩:=rx;exact SeqAt.EqAt.none_int b t
  | str b=>obtain ⟨t,rfl⟩:=rx;exact SeqAt.EqAt.none_str b t
  | _=>exact absurd (show false=true from fx) Bool.false_ne_true
 | bl a=>
  cases ry
  cases x with
  | non=>cases rx;exact SeqAt.EqAt.bool_none a
  | bl b=>cases rx;exact SeqAt.EqAt.bool_bool a b
  | int b=>obtain ⟨t,rfl⟩:=rx;exact SeqAt.EqAt.bool_int a b t
  | str b=>obtain ⟨t,rfl⟩:=rx;exact SeqAt.EqAt.bool_str a b t
  | _=>exact absurd (show false=true from fx) Bool.false_ne_true
 | int a=>
  obtain ⟨t',rfl⟩:=ry
  cases x with
  | non=>cases rx;exact SeqAt.EqAt.int_none a t'
  | bl b=>cases rx;exact SeqAt.EqAt.int_bool a t' b
  | int b=>obtain ⟨t,rfl⟩:=rx;exact SeqAt.EqAt.int_int a t' b t
  | str b=>obtain ⟨t,rfl⟩:=rx;exact SeqAt.EqAt.int_str a t' b t
  | _=>exact absurd (show false=true from fx) Bool.false_ne_true
 | str a=>
  obtain ⟨t',rfl⟩:=ry
  cases x with
  | non=>cases rx;exact SeqAt.EqAt.str_none a t'
  | bl b=>cases rx;exact SeqAt.EqAt.str_bool a t' b
  | int b=>obtain ⟨t,rfl⟩:=rx;exact SeqAt.EqAt.str_int a t' b t
  | str b=>obtain ⟨t,rfl⟩:=rx;exact SeqAt.EqAt.str_str a t' b t
  | _=>exact absurd (show false=true from fx) Bool.false_ne_true
 | _=>exact absurd (show false=true from fy) Bool.false_ne_true
def eqU (x:V) (u:Value):Bool:=match u with
 | .none=>eqV .non x
 | .bool b=>eqV (.bl b) x
 | .int i _=>eqV (.int i) x
 | .str z _=>eqV (.str z) x
 | _=>false
theorem Ox {x y:V} {u:Value} (r:Be y u) (f:D8 y=true):eqU x u=eqV y x:= by
 cases y with
 | non=>cases r;rfl
 | bl b=>cases r;rfl
 | int i=>obtain ⟨t,rfl⟩:=r;rfl
 | str z=>obtain ⟨t,rfl⟩:=r;rfl
 | _=>exact absurd (show false=true from f) Bool.false_ne_true
theorem Fu {x:V} : ∀ {xs:List V} {us:List Value},Bf xs us->xs.all D8=true->us.any (eqU x)=xs.any fun y=>eqV y x
 | _,_,.nil,_=>rfl
 | y::xs,u::us,.cons r t,f=>by
  rw[List.all_cons,Bool.and_eq_true] at f
  rw[List.any_cons,List.any_cons,Ox r f.1,Fu t f.2]
theorem DW {A:Around} {s:Shared} {x:V} {v:Value} (rx:Be x v) (fx:D8 x=true) : ∀ {xs:List V} {us:List Value},Bf xs us->xs.all D8=true -> ∀ u ∈ us,SeqAt.EqAt A s u v (eqU x u)
 | _,_,.nil,_=>fun u hu=>by cases hu
 | y::xs,u::us,.cons r t,f=>fun u' hu=>by
  rw[List.all_cons,Bool.and_eq_true] at f
  rcases List.mem_cons.mp hu with rfl | hu
  ·rw[Ox r f.1];exact Os r rx f.1 fx
  ·exact DW rx fx t f.2 u' hu
def inV (x:V) (xs:List V):Bool:=xs.any fun y=>eqV y x
def rIn (K:PySem.W.Frag) (neg:Bool):R2:=fun x y H Q=>∃ p xs,y = .ref p/\(SqL K H p xs\/SqT K H p xs)/\D8 x=true/\xs.all D8=true/\Q (.bl (if neg then !inV x xs else inV x xs)) H
theorem Mv:OpR X (compareOp .In) (rIn X.K false):= by
 intro pins s σ H x y v u Q I rx ry h
 obtain ⟨p,xs,rfl,hq,fx,fs,q⟩:=h
 cases ry
 rcases hq with hq | hq
 ·obtain ⟨its,r,pl,hz⟩:=I.list hq
  refine SeqAt.in_listAt (eqU x) pl.isList (fun w hw=>DW rx fx r fs w (by simpa using hw)) ⟨.bl _,H,I,rfl,?_⟩
  rw[show its.toArray.any (eqU x)=its.any (eqU x) by simp,Fu r fs]
  exact q
 ·obtain ⟨its,r,pl,hz⟩:=I.tuple hq
  refine SeqAt.in_tupleAt (eqU x) pl (fun w hw=>DW rx fx r fs w (by simpa using hw)) ⟨.bl _,H,I,rfl,?_⟩
  rw[show its.toArray.any (eqU x)=its.any (eqU x) by simp,Fu r fs]
  exact q
theorem II:OpR X (compareOp .NotIn) (rIn X.K true):= by
 intro pins s σ H x y v u Q I rx ry h
 obtain ⟨p,xs,rfl,hq,fx,fs,q⟩:=h
 cases ry
 rcases hq with hq | hq
 ·obtain ⟨its,r,pl,hz⟩:=I.list hq
  refine SeqAt.notIn_listAt (eqU x) pl.isList (fun w hw=>DW rx fx r fs w (by simpa using hw)) ⟨.bl _,H,I,rfl,?_⟩
  rw[show its.toArray.any (eqU x)=its.any (eqU x) by simp,Fu r fs]
  exact q
 ·obtain ⟨its,r,pl,hz⟩:=I.tuple hq
  refine SeqAt.notIn_tupleAt (eqU x) pl (fun w hw=>DW rx fx r fs w (by simpa using hw)) ⟨.bl _,H,I,rfl,?_⟩
  rw[show its.toArray.any (eqU x)=its.any (eqU x) by simp,Fu r fs]
  exact q
theorem Ig : BW X (.builtin "len") (fun xs H Q=>∃ p ys,xs = [.ref p] /\ (SqL X.K H p ys \/ SqT X.K H p ys) /\ Q (.int ys.length) H):= by
 intro pins s σ H xs us Q I r h
 obtain ⟨p,ys,rfl,hq,q⟩:=h
 obtain ⟨u,rfl,rx⟩:=DE r
 cases rx
 have hn:=Kh
 rcases hq with hq | hq
 ·obtain ⟨its,r',pl,hz⟩:=I.list hq
  have hlen:=r'.length
  exact Calls.call_len_list pl.isList (by simp only [List.size_toArray] <;> omega) ⟨.int ys.length,H,I.tok _,⟨s.toks+1,by rw[List.size_toArray,hlen]⟩,q⟩
 ·obtain ⟨its,r',pl,hz⟩:=I.tuple hq
  have hlen:=r'.length
  exact len_tuple pl (by simp only [List.size_toArray] <;> omega) ⟨.int ys.length,H,I.tok _,⟨s.toks+1,by rw[List.size_toArray,hlen]⟩,q⟩
theorem HY : BW X (.type "list") (fun xs H Q=>∃ p ys,xs = [.ref p] /\ (SqL X.K H p ys \/ SqT X.K H p ys) /\ ∀ l,H l = none -> Q (.ref l) (upd H l (.lst ys))):= by
 intro pins s σ H xs us Q I r h
 obtain ⟨p,ys,rfl,hq,q⟩:=h
 obtain ⟨u,rfl,rx⟩:=DE r
 cases rx
 have fin : ∀ (its:List Value),Bf ys its->ys.length<=sizeLine -> ∀ (h':Heap) (c':Nat),(∀ b o',s.heap.get? b=some o'->h'.get? b=some o') ->
   h'.get? s.heap.objs.size = some { cls:=.type "list",dict:=none,data:=.seq its.toArray c',slots:=#[] } -> EP X pins σ Q (.ref s.heap.objs.size) { s with heap:=h' }:=fun its r' hz h' c' kp e=>
  ⟨.ref s.heap.objs.size,_,I.laid (t':=s.toks) kp (Nat.le_refl _) (show A8 X.prog X.w _ h' _ (.lst ys) from ⟨hz,its,c',r',e⟩),rfl,q _ (I.hok.fresh (Nat.le_refl _))⟩
 rcases hq with hq | hq
 ·obtain ⟨its,r',pl,hz⟩:=I.list hq
  have hlen:=r'.length
  obtain ⟨o,ho,hc,n,hd⟩:=pl.isList
  exact call_list_seq p (.inl rfl) ho hc hd (fun h' c' kp e=>fin its r' hz h' c' kp e) (by simp only [List.size_toArray] <;> omega)
 ·obtain ⟨its,r',pl,hz⟩:=I.tuple hq
  have hlen:=r'.length
  obtain ⟨o,ho,hc,n,hd⟩:=pl
  exact call_list_seq p (.inr rfl) ho hc hd (fun h' c' kp e=>fin its r' hz h' c' kp e) (by simp only [List.size_toArray] <;> omega)
theorem G0 : BW X (.type "tuple") (fun xs H Q=>∃ p ys,xs = [.ref p] /\ ((SqL X.K H p ys /\ ∀ l,H l = none -> Q (.ref l) (upd H l (.tup ys))) \/ (SqT X.K H p ys /\ Q (.ref p) H))):= by
 intro pins s σ H xs us Q I r h
 obtain ⟨p,ys,rfl,h⟩:=h
 obtain ⟨u,rfl,rx⟩:=DE r
 cases rx
 rcases h with ⟨hq,q⟩ | ⟨hq,q⟩
 ·obtain ⟨its,r',pl,hz⟩:=I.list hq
  have hlen:=r'.length
  refine call_tuple_list pl.isList (fun h' kp=>?_) (by simp only [List.size_toArray] <;> omega)
  have I1:Inv X pins σ H { s with heap:=h' }:=I.kept (t':=s.toks) kp
  have I2 : Inv X pins σ (upd H h'.objs.size (.tup ys)) { s with heap:=h'.push { cls:=.type "tuple",data:=.seq its.toArray } }:=
   I1.laid (t':=s.toks) (fun b o e=>Heap.get?_push_of_some _ e) (Nat.le_refl _) (show A8 X.prog X.w _ _ _ (.tup ys) from ⟨hz,its,r',IsTup.new _ _⟩)
  exact ⟨.ref h'.objs.size,_,I2,rfl,q _ (I1.hok.fresh (Nat.le_refl _))⟩
 ·obtain ⟨its,r',pl,hz⟩:=I.tuple hq
  exact call_tuple_same pl ⟨.ref p,H,I,rfl,q⟩
def tyV (K:PySem.W.Frag) (T:String) (x:V) (H:Hp):Prop:=match x with
 | .str _=>T = "str"
 | .int _=>T = "int"
 | .ref p=>(T = "list" /\ ∃ xs,SqL K H p xs) \/ (T = "tuple" /\ ∃ o,K.lookup p = some o /\ o.cls = .type "tuple" /\ o.dict = none) \/
   (T = "dict" /\ ((∃ kvs,H p = some (.dK kvs)) \/ ∃ kvs,H p = some (.dT kvs))) \/ (T = "set" /\ ∃ S n,H p = some (.set S n))
 | _=>False
theorem QW {pins:List (Addr × Obj)} {σ:St} {H:Hp} {s:Shared} {T:String} {x:V} {v:Value} (I:Inv X pins σ H s) (r:Be x v) (ty:tyV X.K T x H) :
  s.TypeIs v T /\ ∀ a,v = .ref a -> ∃ ob,s.heap.get? a=some ob/\ob.dict=none:= by
 cases x with
 | str z=>
  obtain ⟨t,rfl⟩:=r
  cases (show T = "str" from ty)
  exact ⟨typeIs_str s z t,fun _ e=>nomatch e⟩
 | int i=>
  obtain ⟨t,rfl⟩:=r
  cases (show T = "int" from ty)
  exact ⟨typeIs_int s i t,fun _ e=>nomatch e⟩
 | ref p=>
  cases r
  rcases ty with ⟨rfl,xs,hq⟩ | ⟨rfl,o,hk,hc,hd⟩ | ⟨rfl,hk⟩ | ⟨rfl,S,n,hk⟩
  ·obtain ⟨its,_,pl,_⟩:=I.list hq
   refine ⟨pl.isList.typeIs,fun a e=>?_⟩
   cases e
   obtain ⟨o,n,e,c,hd,_⟩:=pl
   exact ⟨o,e,hd⟩
  ·refine ⟨⟨o,I.kIn p o hk,hc⟩,fun a e=>?_⟩
   cases e
   exact ⟨o,I.kIn _ o hk,hd⟩
  ·have z : ∃ o,s.heap.get? p=some o/\o.ExactDict:= by
    rcases hk with ⟨kvs,hk⟩ | ⟨kvs,hk⟩
    ·obtain ⟨_,_,_,_,o,_,_,e,ex,_⟩:=I.hok p _ hk
     exact ⟨o,e,ex⟩
    ·obtain ⟨_,_,_,_,o,_,_,e,ex,_⟩:=I.hok p _ hk
     exact ⟨o,e,ex⟩
   obtain ⟨o,e,ex⟩:=z
   refine ⟨⟨o,e,ex.1⟩,fun a e2=>?_⟩
   cases e2
   exact ⟨o,e,ex.2.1⟩
  ·obtain ⟨o,_,_,_,e,ex,_⟩:=I.hok p _ hk
   refine ⟨⟨o,e,ex.1⟩,fun a e2=>?_⟩
   cases e2
   exact ⟨o,e,ex.2.1⟩
 | _=>exact False.elim ty
def tBM (K:PySem.W.Frag) (T:String) (r:V->List V->Hp->VK->Prop) (to:TE) (t:TA):TE:=fun σ H Q=>to σ H fun x H1=>tyV K T x H1/\t σ H1 fun xs H2=>r x xs H2 Q
variable {o e:Expr} {es:List Expr} {to:TE} {t:TA} {name:Str} {apos cpos:Pos} {T id:String} {r:V->List V->Hp->VK->Prop}
theorem Hv (pa : PlainAttrs T) (slot : Slot T name id) (hty : typeOf (.builtin id) = pure (.type "method_descriptor")) (hm : MtR X id r) (ho : PE X o to) (ha : PA X (e :: es) t)
  (hbase:attributeBase o name X.env (eval o X.env)=eval o X.env:=by rfl)
  (hfew:((backTo cpos (starEach (e::es) X.env)).all (fun x=>!x.1)&&(backToKw cpos (keywordEach [] X.env)).all (fun x=>x.1.isSome)
   && decide ((e::es).length+([]:List Keyword).length+(if ([]:List Keyword).isEmpty then 0 else 1)<30))=true:=by rfl)
  (hline:(apos.endLine==cpos.line)=true:=by rfl) (hs:starEach (e::es) X.env=(false,eval e X.env)::starEach es X.env:=by rfl) (hplain:(backTo cpos (starEach es X.env)).any (·.1)=false:=by rfl) :
  PE X (.Call (.Attribute o name apos) (e::es) [] cpos) (tBM X.K T r to t):= by
 intro pins s σ H Q I h
 refine wpAny_Call_method_late hbase hfew hline rfl (thn (ho pins s σ H _ I h) fun v s1 ⟨x,H1,I1,r1,ty,q1⟩=>?_)
 obtain ⟨h1,h2⟩:=QW I1 r1 ty
 refine ⟨T,id,pa,slot,hty,h1,h2,?_⟩
 have hA:=ha cpos pins s1 σ H1 _ I1 q1
 rw[hs] at hA ⊢
 refine Calls.callWith_builtin (by show (false||(backTo cpos (starEach es X.env)).any (·.1))=false;rw[hplain] <;> rfl) (Calls.evalArgs_plain ?_)
 exact thn hA fun us s2 ⟨vs,H2,I2,r2,q2⟩=>hm pins s2 σ H2 x vs v us Q I2 r1 r2 q2
end
end L2
namespace L2
open PySem PySem.Spec PyProof.Rows
def MtM (X:Cx) (id:String) (r:V->List V->Hp->VK->Prop):Prop:=
 ∀ (pins:List (Addr × Obj)) (s:Shared) (σ:St) (H:Hp) (x:V) (xs:List V) (v:Value) (us:List Value) (Q:VK),Inv X pins σ H s->Be x v->Bf xs us->r x xs H Q ->
  wpAny (model X.prog X.w) X.A (call (.builtin id) (v::us)) (EP X pins σ Q) X.xe s
theorem Bf.one : ∀ {x:V} {us:List Value},Bf [x] us -> ∃ u,us=[u]/\Be x u
 | _,_,.cons r .nil=>⟨_,rfl,r⟩
section
variable {X:Cx} {pins:List (Addr × Obj)} {σ:St} {H:Hp} {s:Shared} {l b:Addr} {xs ys zs:List V}
theorem Inv.lset {its its':List Value} {n:Nat} {f:Array Value->Array Value} {t':Nat} (I:Inv X pins σ H s) (hH:H l=some (.lst xs))
  (e : s.heap.get? l = some { cls:=.type "list",data:=.seq its.toArray n }) (hf : f its.toArray = its'.toArray) (hv : Bf ys its') (hz : ys.length <= sizeLine) :
  Inv X pins σ (upd H l (.lst ys)) { s with heap:=s.heap.update l (Obj.mapSeq f),toks:=t' }:= by
 have q:=PySem.IsL.update e f
 rw[hf] at q
 refine I.write (x:=l) (e:=l) (by rw[hH];exact trivial) (.inl rfl) (fun b' u hb hu=>(Heap.get?_update_other s.heap (Obj.mapSeq f) (Ne.symm hb)).trans hu) ⟨_,q⟩ ?_
 exact ⟨hz,its',_,hv,q⟩
theorem Inv.lnew {its:List Value} {t':Nat} (I:Inv X pins σ H s) (hv:Bf ys its) (hz:ys.length<=sizeLine) :
  Inv X pins σ (upd H s.heap.objs.size (.lst ys)) { s with heap:=s.heap.push { cls:=.type "list",data:=.seq its.toArray },toks:=t' }:=
 I.laid (fun _ _ q=>Heap.get?_push_of_some _ q) (Nat.le_refl _) ⟨hz,its,0,hv,Heap.get?_push_size _ rfl⟩
theorem Inv.fresh (I:Inv X pins σ H s):H s.heap.objs.size=none:=I.hok.fresh (Nat.le_refl _)
theorem Inv.lstM (I : Inv X pins σ H s) (hH : H l = some (.lst xs)) : xs.length <= sizeLine /\ ∃ (its : List Value) (n : Nat),Bf xs its /\ xs.length = its.length /\ s.heap.get? l = some { cls:=.type "list",data:=.seq its.toArray n }:= by
 obtain ⟨z,its,n,r,e⟩:=I.hok l _ hH
 exact ⟨z,its,n,r,r.length,e⟩
theorem Od {n:Nat} (h:n<=sizeLine):Builtin.List.listTooLong n=false:= by
 unfold Builtin.List.listTooLong
 exact decide_eq_false (by omega)
end
section
variable {X:Cx}
def Px:V->List V->Hp->VK->Prop:=fun x vs H Q=>∃ l xs y,x = .ref l/\vs=[y]/\H l=some (.lst xs)/\xs.length<sizeLine/\Q .non (upd H l (.lst (xs++[y])))
theorem CA : MtM X "list.append" Px:= by
 intro pins s σ H x vs v us Q I rx rv h
 obtain ⟨l,xs,y,rfl,rfl,hH,hz,q⟩:=h
 cases rx
 obtain ⟨u,rfl,ru⟩:=rv.one
 obtain ⟨z,its,n,r,hl,e⟩:=I.lstM hH
 refine call_meets F.slot_list_append ⟨_,e,rfl⟩ F.entry_list_append (F.args_list_append_2 _ _) (PySem.list_append l its.toArray n u (by rw[List.size_toArray];omega)) ⟨e,?_⟩
 refine ⟨.non,_,I.lset (its':=its++[u]) hH e (by simp) (r.append (.cons ru .nil)) ?_,rfl,q⟩
 rw[List.length_append,List.length_singleton]
 omega
def OI:V->List V->Hp->VK->Prop:=fun x vs H Q=>∃ l b xs zs,x = .ref l/\vs=[.ref b]/\H l=some (.lst xs)/\H b=some (.lst zs)/\xs.length+zs.length<=sizeLine/\Q .non (upd H l (.lst (xs++zs)))
theorem HB : MtM X "list.extend" OI:= by
 intro pins s σ H x vs v us Q I rx rv h
 obtain ⟨l,b,xs,zs,rfl,rfl,hH,hB,hz,q⟩:=h
 cases rx
 obtain ⟨u,rfl,ru⟩:=rv.one
 cases ru
 obtain ⟨z,its,n,r,hl,e⟩:=I.lstM hH
 obtain ⟨z2,its2,n2,r2,hl2,e2⟩:=I.lstM hB
 have hsz:its.toArray.size+its2.toArray.size<=sizeLine:=by rw[List.size_toArray,List.size_toArray];omega
 have hlong : ¬ (!its.toArray.isEmpty&&Builtin.List.listTooLong (its.toArray.size+its2.toArray.size))=true:= by
  rw[Od hsz,Bool.and_false]
  exact Bool.false_ne_true
 refine call_meets F.slot_list_extend ⟨_,e,rfl⟩ F.entry_list_extend (F.args_list_extend_2 _ _)
  (AutoSeq1.list_extend_list_list_0 l its.toArray n b its2.toArray n2 hlong (by rw[List.size_toArray];omega) (by omega)) ⟨e,e2,?_⟩
 refine ⟨.non,_,I.lset (its':=its++its2) hH e (by simp) (r.append r2) ?_,rfl,q⟩
 rw[List.length_append]
 omega
def SM:R2:=fun x y H Q=>∃ l b xs zs,x = .ref l/\y = .ref b/\H l=some (.lst xs)/\H b=some (.lst zs)/\xs.length+zs.length<=sizeLine /\ ∀ p,H p=none->Q (.ref p) (upd H p (.lst (xs++zs)))
theorem GH:OpR X (binaryOp .Add) SM:= by
 intro pins s σ H x y v u Q I rx ry h
 obtain ⟨l,b,xs,zs,rfl,rfl,hH,hB,hz,q⟩:=h
 cases rx
 cases ry
 obtain ⟨z,its,n,r,hl,e⟩:=I.lstM hH
 obtain ⟨z2,its2,n2,r2,hl2,e2⟩:=I.lstM hB
 refine PySem.P.add_list e e2 ?_ (by rw[List.size_toArray,List.size_toArray];omega)
 have ea:its.toArray++its2.toArray=(its++its2).toArray:=by simp
 rw[ea]
 exact ⟨.ref _,_,I.lnew (t':=s.toks) (r.append r2) (by rw[List.length_append];omega),rfl,q _ I.fresh⟩
end
end L2
namespace Att
open PySem PySem.W PySem.Calls PyProof.Rows
theorem FD {P:Params} {h:Heap} : ∀ (ns:List Int) (vs:List Value),WellAll P h vs (ns.map WData.int)->IntsAre vs ns:= by
 intro ns
 induction ns with
 | nil=>
  intro vs w
  rw[List.map_nil] at w
  cases w
  exact .nil
 | cons n ns ih=>
  intro vs w
  rw[List.map_cons] at w
  cases w with
  | cons a b=>
   cases a
   exact .cons _ _ (ih _ b)
theorem Mc {l:OpenLaw} {n:Nat} (hn:l.most=some n) {P:Params} {h:Heap} {args:List WData} {vals:List Value}
  (hpre:l.row.toRowW.claim.pre args=true) (hwl:WellAll P h vals args) :
  ∃ a vs ns,vals = [Value.ref a] /\ args = [WData.list (ns.map WData.int)] /\ h.get? a = some { cls:=.type "list",data:=.seq vs.toArray } /\ IntsAre vs ns /\ ns.length <= n:= by
 have hsh:WShape.hasAll [] args [.list .int]=true:=(pre_splitW hpre).1
 have hc:l.pre.holds [] { args:=args }=true:=(pre_splitW hpre).2
 obtain ⟨d,r,rfl,h1,h2⟩:=hasAllW_cons hsh
 obtain rfl:=hasAllW_nil h2
 obtain ⟨xs,rfl,h3⟩:=hasW_list h1
 obtain ⟨ns,rfl⟩:=items_int h3
 have hlen:ns.length<=n:= by
  unfold OpenLaw.pre at hc
  have h4:(WTm.not (.lt (.lit (.int (n:Int))) (.len (.arg 0)))).holds [] { args:=[.list (ns.map .int)] }=true:= by
   have h4:=(holds_andW hc).1
   rw[hn] at h4
   exact h4
  have h5:=condW_of h4 (w_not (w_lt w_lit (w_len_list (w_arg rfl))))
  rw[List.length_map] at h5
  refine Nat.le_of_not_lt fun q=>?_
  have q':(n:Int)<((ns.length:Nat):Int):=by omega
  first
   | (rw[decide_eq_true q'] at h5;exact absurd h5 (by decide))
   | (simp at h5;omega)
 cases hwl with
 | cons w1 w2=>
  cases w2
  cases w1 with
  | list ho hall=>exact ⟨_,_,ns,rfl,rfl,ho,FD ns _ hall,hlen⟩
theorem LB (l:OpenLaw) (args:List WData):l.row.toRowW.claim.post args (.bool true) args=true:=
 postW_of (r:=l.row.toRowW) (X:=(true==true))
  (show WShape.has [] (.bool true) .bool=true by first | rfl | decide | simp [WShape.has,WShape.arms,WShape.armsAll])
  (show (WTm.eq .res (.lit (.bool true))).value [] { args:=args,res:=some (.bool true),after:=args }=some (.bool (true==true)) from w_eq_bool (w_res rfl) w_lit) rfl
theorem attach_call {l:OpenLaw} {n:Nat} {q:Program} {loose:List Str} {XP:(Str->Option Value)->Heap->Prop} {YP:World->Heap->Prop} {d:DefRec}
  (hn:l.most=some n) (hdf:d.params.defaults=[])
  (call : ∀ (w:World) (s₀ s₁:Shared) (mg mb:Str->Option Value) (fa:Addr) (o:Obj) (pm cd doc:Value) (a:Addr) (vs:List Value) (ns:List Int),
   Ground q loose [] XP w s₀ mg mb s₁.heap->YP w s₁.heap ->
   s₁.heap.get? fa=some o->o.data = .func (docDef d.name d.params d.body d.scope pm cd doc)->s₁.heap.CodeRec cd d.name->mg d.name=some (.ref fa) ->
   s₁.heap.get? a = some { cls:=.type "list",data:=.seq vs.toArray } -> IntsAre vs ns -> ns.length <= n -> s₁.gens = #[] ->
   codeAny (model l.prog w) callerA (.call (.ref fa) ⟨[.ref a],[]⟩) (fun r s'=>r = .ok (.ret (.bool true))/\OldK s₁.heap s'.heap/\s'.os=s₁.os/\AllBare s'.gens) s₁) :
  WalkO q loose XP YP l.row.toRowW d [] (fun f vs=>PySem.call f vs):= by
 intro w s₀ s₁ mg mb G Y fa o pm cd doc dV kV ho hd hcd hD hmg hg args vals as hpre hlay hrd hwl hlo
 obtain rfl:dV = .none:=Dflts.none hD hdf
 obtain rfl:kV = .none:=Dflts.noKw hD
 obtain ⟨a,vs,ns,rfl,rfl,hobj,hints,hlen⟩:=Mc hn hpre hwl
 refine enter_call (codeAny_mono (call w s₀ s₁ mg mb fa o pm cd doc a vs ns G Y ho (fd_plain hd) hcd hmg hobj hints hlen hg) fun r s' hq=>?_)
 obtain ⟨rfl,h2,h3,h4⟩:=hq
 exact ⟨.inl ⟨.bool true,.bool true,[],rfl,fun _=>rfl,.bool true,LB l _,fun _=>⟨List.Pairwise.nil,fun _ hm=>(nomatch hm)⟩⟩,h2,h3,h4⟩
end Att
namespace L2
open PySem PySem.Spec PyProof.Rows
theorem Dg : ∀ {vs:List Value} {ns:List Int},IntsAre vs ns->Bf (ns.map V.int) vs
 | _,_,.nil=>.nil
 | _,_,.cons n t h=>.cons ⟨t,rfl⟩ (Dg h)
end L2
namespace L2
open PySem PySem.Spec PyProof.Rows
end L2
namespace L2
open PySem PySem.Spec PyProof.Rows
def BI (s:Stmt) (j:Nat):Stmt:=match s with
 | .ClassDef _ _ _ body _ _ _ _ _ _ _=>body.getD j (.Pass ⟨0,0,0,0⟩)
 | _=>.Pass ⟨0,0,0,0⟩
def Am (s:Stmt):Arguments:=match s with
 | .FunctionDef _ a _ _ _ _ _ _ _ _=>a
 | _=>{ posonlyargs:=[],args:=[],vararg:=none,kwonlyargs:=[],kw_defaults:=[],kwarg:=none,defaults:=[] }
def Al (s:Stmt):List Stmt:=match s with
 | .FunctionDef _ _ b _ _ _ _ _ _ _=>b
 | _=>[]
def Ae (s:Stmt):Scope:=match s with
 | .FunctionDef _ _ _ _ _ _ sc _ _ _=>sc
 | _=>{ kind:=.function,names:=[],isGenerator:=false,isCoroutine:=false }
abbrev CX0:CXT:=fun _ _ _ _ _ _=>False
abbrev E0:XK:=fun _ _ _=>False
theorem Nn {X:Cx}:Cf CX0 X E0:=fun _ _ _ _ _ _ _ h=>h.elim
structure Fun (K:PySem.W.Frag) (x qual:Str) (st:Stmt) (f:Addr) (fd:FuncData):Prop where
 ex : ∃ (oc:Value) (od:Option Addr) (kV doc pm:Value) (an:Option Addr) (cdv ct:Value) (osl:Array (Option Value)),
  fd=PySem.W.fnOf x qual (Am st) (Al st) (Ae st) .none kV doc pm an cdv ct/\K.lookup f=some ⟨oc,od,.func fd,osl⟩/\PySem.W.codeIn K cdv qual=true
 kp:PySem.W.keepIn K (.ref f)=true
section
variable {P:Program} {w:World} {K:PySem.W.Frag} {mg:Str->Option Value} {base:Heap}
theorem Fun.ok {x qual:Str} {st:Stmt} {f:Addr} {fd:FuncData} {N ps:List Str} {k:Nat} {sp:Sp} (F:Fun K x qual st f fd) (S:Ap N ps (Ae st)) (len : ∀ vs H Q E,sp vs H Q E->vs.length=ps.length)
  (hbody : ∀ (cdv:Value) (A:Around) (outer:List Env) (s:Shared) (H:Hp) (vs:List V) (Q:VK) (E:XK),Cw k (A.deeper (envOfC qual (Ae st) s.heap.objs.size f cdv))->sp vs H Q E ->
   ∃ t,PSs (M4 CX0 P w K mg base N qual (Ae st) f cdv A outer s H E).nox (Al st) t/\t { nx:=fun _ H'=>Q .non H',rt:=Q } (FH N vs) H):Bv P w K mg base CX0 (k+1) f fd ps sp:= by
 obtain ⟨oc,od,kV,doc,pm,an,cdv,ct,osl,rfl,lk,hcd⟩:=F.ex
 refine Nk lk hcd S len fun A outer s H vs Q E hr hsp=>?_
 obtain ⟨t,h,q⟩:=hbody cdv A outer s H vs Q E hr hsp
 exact ⟨t,h.nox,q⟩
theorem Fun.binds {x qual:Str} {st:Stmt} {f:Addr} {fd:FuncData} {ps:List Str} (F:Fun K x qual st f fd)
  (h : ∀ (kV doc pm:Value) (an:Option Addr) (cdv ct:Value) (us:List Value),us.length=ps.length->bindArgs (PySem.W.fnOf x qual (Am st) (Al st) (Ae st) .none kV doc pm an cdv ct) ⟨us,[]⟩=pure (ps.zip us)):DD K fd ps []:= by
 obtain ⟨oc,od,kV,doc,pm,an,cdv,ct,osl,rfl,lk,hcd⟩:=F.ex
 exact .all (h kV doc pm an cdv ct)
theorem AF {x qual:Str} {st:Stmt} {f:Addr} {oc:Value} {od an:Option Addr} {osl:Array (Option Value)} {kV doc pm cdv ct:Value} (l:K.lookup f=some ⟨oc,od,.func (PySem.W.fnOf x qual (Am st) (Al st) (Ae st) .none kV doc pm an cdv ct),osl⟩)
  (c:PySem.W.codeIn K cdv qual=true) (k:PySem.W.keepIn K (.ref f)=true):Fun K x qual st f (PySem.W.fnOf x qual (Am st) (Al st) (Ae st) .none kV doc pm an cdv ct):=⟨⟨oc,od,kV,doc,pm,an,cdv,ct,osl,rfl,l,c⟩,k⟩
end
theorem DS {A:Around} {k:Nat} (hr:Cw k A):A.units+1<cLine:=Nat.lt_of_le_of_lt (Nat.add_le_add_left (by decide:1<=64) _) hr.units
section
variable {X:Cx}
theorem pv (i : Nat) {x : Str} {pos : Pos} (hN : X.N[i]? = some x:=by rfl) (hv : Vis X.env.scope x:=by first | exact Or.inl rfl | exact Or.inr (Or.inl rfl) | exact Or.inr (Or.inr rfl)) (hd : (x == ("__debug__" : Str)) = false:=by decide)
  (hcd : (x == ("__classdict__" : Str)) = false:=by decide) : PE X (.Name x pos) (Sv i):=QN hN hv hd hcd
end
theorem FT {A B:Prop} (h:B):if false=true then A else B:= by
 rw[if_neg Bool.false_ne_true]
 exact h
theorem FY {A B:Prop} (h:A):if true=true then A else B:= by
 rw[if_pos rfl]
 exact h
theorem Lk {c A B:Prop} [Decidable c] (h1:c->A) (h2 : ¬ c->B):if c then A else B:= by
 by_cases h:c
 ·rw[if_pos h]
  exact h1 h
 ·rw[if_neg h]
  exact h2 h
def Ak (H H':Hp):Prop:=∀ b o,H b=some o->H' b=some o
theorem Ak.refl (H:Hp):Ak H H:=fun _ _ h=>h
theorem Ak.trans {H H1 H2:Hp} (a:Ak H H1) (b:Ak H1 H2):Ak H H2:=fun c o h=>b c o (a c o h)
theorem Ak.free {H H':Hp} (e:Ak H H') {l:Addr} (h:H' l=Option.none):H l=Option.none:= by
 cases q:H l with
 | none=>rfl
 | some o=>
  rw[e l o q] at h
  cases h
theorem Ak.seq {K:PySem.W.Frag} {H H':Hp} {a:Addr} {xs:List V} (e:Ak H H') (h:SqL K H a xs):SqL K H' a xs:= by
 rcases h with (h | ⟨o,h⟩) | h
 ·exact .inl (.inl (e _ _ h))
 ·exact .inl (.inr ⟨o,e _ _ h⟩)
 ·exact .inr h
end L2
namespace L2
open PySem PySem.Spec PyProof.Rows
theorem Ch {env:Env} : ∀ {names:List (Str × NameKind)} {x:Str} {k:NameKind},names.lookup x=some k ->
  ∃ k',(names.map fun (n,k)=>if (k==NameKind.free&&env.scope.kind == .function&&env.kindOf n==some .cell) then (n,NameKind.cell) else (n,k)).lookup x=some k'/\(k'=k\/(k = .free/\k' = .cell))
 | [],_,_,h=>by simp at h
 | (n,k0)::r,x,k,h=>by
  have ih:=@Ch env r x k
  show ∃ k',List.lookup x ((if (k0==NameKind.free&&env.scope.kind == .function&&env.kindOf n==some .cell)=true then (n,NameKind.cell) else (n,k0))::_)=some k'/\_
  cases hx:x==n with
  | true=>
   simp only [List.lookup_cons,hx] at h
   cases h
   by_cases hc:(k0==NameKind.free&&env.scope.kind == .function&&env.kindOf n==some .cell)=true
   ·rw[if_pos hc]
    refine ⟨.cell,by simp only [List.lookup_cons,hx],.inr ⟨?_,rfl⟩⟩
    have q:(k0==NameKind.free)=true:= by
     rw[Bool.and_eq_true,Bool.and_eq_true] at hc
     exact hc.1.1
    cases k0 <;> first | rfl | exact absurd q (by decide)
   ·rw[if_neg hc]
    exact ⟨k0,by simp only [List.lookup_cons,hx],.inl rfl⟩
  | false=>
   simp only [List.lookup_cons,hx] at h
   obtain ⟨k',e,q⟩:=ih h
   by_cases hc:(k0==NameKind.free&&env.scope.kind == .function&&env.kindOf n==some .cell)=true
   ·rw[if_pos hc];exact ⟨k',by simp only [List.lookup_cons,hx];exact e,q⟩
   ·rw[if_neg hc];exact ⟨k',by simp only [List.lookup_cons,hx];exact e,q⟩
theorem Cl {env:Env} : ∀ {names:List (Str × NameKind)} {x:Str},names.lookup x=none ->
  (names.map fun (n,k)=>if (k==NameKind.free&&env.scope.kind == .function&&env.kindOf n==some .cell) then (n,NameKind.cell) else (n,k)).lookup x=none
 | [],_,_=>rfl
 | (n,k0)::r,x,h=>by
  have ih:=@Cl env r x
  show List.lookup x ((if (k0==NameKind.free&&env.scope.kind == .function&&env.kindOf n==some .cell)=true then (n,NameKind.cell) else (n,k0))::_)=none
  cases hx:x==n with
  | true=>simp only [List.lookup_cons,hx] at h;cases h
  | false=>
   simp only [List.lookup_cons,hx] at h
   by_cases hc:(k0==NameKind.free&&env.scope.kind == .function&&env.kindOf n==some .cell)=true
   ·rw[if_pos hc];simp only [List.lookup_cons,hx];exact ih h
   ·rw[if_neg hc];simp only [List.lookup_cons,hx];exact ih h
theorem EE {env:Env} : ∀ (names:List (Str × NameKind)) (cs:List (Str × Addr)),(∀ y ∈ names,y.2=NameKind.free -> ∃ c,env.cells.lookup y.1=some c) ->
  (∀ y c,cs.lookup y=some c->env.cells.lookup y=some c) ->
  ∃ cl,(forIn names cs fun x r=>(match x with
   | (name,kind)=>if (kind==NameKind.free)=true then (do let a <- cellOf env name;pure (ForInStep.yield ((name,a)::r))) else pure (ForInStep.yield r)):Sem (List (Str × Addr)))=pure cl /\
   (∀ y c,cl.lookup y=some c->env.cells.lookup y=some c)/\(∀ y,((∃ c,cs.lookup y=some c)\/(y,NameKind.free) ∈ names) -> ∃ c,cl.lookup y=some c)
 | [],cs,_,h=>⟨cs,by simp,h,fun y q=>q.elim id fun z=>absurd z (by simp)⟩
 | (n,k)::r,cs,hf,h=>by
  by_cases hk:(k==NameKind.free)=true
  ·have hk':k=NameKind.free:=by cases k <;> first | rfl | exact absurd hk (by decide)
   obtain ⟨c,hc⟩:=hf (n,k) List.mem_cons_self hk'
   have h' : ∀ y c',((n,c)::cs).lookup y=some c'->env.cells.lookup y=some c':=fun y c' e=>by
    cases hy:y==n with
    | true=>
     simp only [List.lookup_cons,hy] at e
     cases e
     have:y=n:=by simpa using hy
     rw[this];exact hc
    | false=>
     simp only [List.lookup_cons,hy] at e
     exact h y c' e
   obtain ⟨cl,e,q1,q2⟩:=EE r ((n,c)::cs) (fun y hy=>hf y (List.mem_cons_of_mem _ hy)) h'
   refine ⟨cl,?_,q1,fun y q=>q2 y ?_⟩
   ·rw[List.forIn_cons]
    have ec:cellOf env n=pure c:=by unfold cellOf;rw[hc]
    simp only [hk,if_true,ec,pure_bind]
    exact e
   ·rcases q with ⟨c',q⟩ | q
    ·left
     cases hy:y==n with
     | true=>exact ⟨c,by simp only [List.lookup_cons,hy]⟩
     | false=>exact ⟨c',by simp only [List.lookup_cons,hy];exact q⟩
    ·rcases List.mem_cons.mp q with z | z
     ·cases z
      left
      exact ⟨c,by simp [List.lookup_cons]⟩
     ·exact .inr z
  ·obtain ⟨cl,e,q1,q2⟩:=EE r cs (fun y hy=>hf y (List.mem_cons_of_mem _ hy)) h
   refine ⟨cl,?_,q1,fun y q=>q2 y ?_⟩
   ·rw[List.forIn_cons]
    simp only [hk,if_false,pure_bind]
    exact e
   ·rcases q with q | q
    ·exact .inl q
    ·rcases List.mem_cons.mp q with z | z
     ·cases z
      exact absurd rfl hk
     ·exact .inr z
theorem K4 {scope:Scope} {env:Env} (h : ∀ y ∈ scope.names,y.2=NameKind.free -> ∃ c,env.cells.lookup y.1=some c) :
  ∃ cl,closureFor scope env=pure cl/\(∀ y c,cl.lookup y=some c->env.cells.lookup y=some c)/\(∀ y,(y,NameKind.free) ∈ scope.names -> ∃ c,cl.lookup y=some c):= by
 obtain ⟨cl,e,q1,q2⟩:=EE (env:=env) scope.names [] h (fun y c e=>by simp at e)
 refine ⟨cl,?_,q1,fun y hy=>q2 y (.inr hy)⟩
 unfold closureFor
 dsimp only
 rw[show (forIn scope.names ([]:List (Str × Addr)) fun x r=>(match x with
   | (name,kind)=>if (kind==NameKind.free)=true then (do let a <- cellOf env name;pure (ForInStep.yield ((name,a)::r))) else pure (ForInStep.yield r)):Sem (List (Str × Addr)))=pure cl from e]
 rfl
end L2
namespace L2
open PySem PySem.Spec PyProof.Rows
section
variable {prog:Program} {w:World} {A:Around} {R:Result->Shared->Prop} {s:Shared}
theorem Hw {elt target iter:Expr} {ifs:List Expr} {scope:Scope} {pos:Pos} {it acc:Value} {env:Env} (Iv:Nat->Shared->Prop)
  (turn : ∀ n s,Iv n s->wpAny (model prog w) A (pyNext it) (fun r s₁=>match r with
   | none=>R (.ok .next) s₁
   | some v=>wpAny (model prog w) A (letOwnedTupleGo target it v) (fun _ s₁'=>wpAny (model prog w) A (assign target env v) (fun _ s₂=>
     wpAny (model prog w) A (forIn ifs true fun c r=>if r=true then do let ok <- isTrue c env (eval c env);pure (ForInStep.yield ok) else pure (ForInStep.yield r)) (fun ok s₃=>
      if ok=true then wpAny (model prog w) A (eval elt env) (fun x s₄=>
       wpAny (model prog w) A (call (.builtin "list.append") [acc,x]) (fun _ s₅=>∃ m,m < n /\ Iv m s₅) (fun _ _=>False) s₄) (fun _ _=>False) s₃
      else ∃ m,m<n/\Iv m s₃) (fun _ _=>False) s₂) (fun _ _=>False) s₁') (fun _ _=>False) s₁) (fun _ _=>False) s)
  (n:Nat) (h:Iv n s) :
  codeAny (model prog w) A (.compLoop (.ListComp elt [⟨target,iter,ifs,0⟩] scope pos) 0 it acc env) R s:= by
 refine codeAny_loop rfl Iv (fun n s hI=>?_) n h
 show wpAny _ A ((compTurn (.ListComp elt [⟨target,iter,ifs,0⟩] scope pos) 0 it acc env).onRaise (fun x=>do noteFrame x env;theTreesLotGoes x)) _ _ s
 refine wpAny_noted ?_
 rw[compTurn_list]
 refine wpAny_bind (wpAny_standAt (wpAny_bind (wpAny_mono (turn n s hI) (fun r s₁ h₁=>?_) fun _ _ z=>z.elim)))
 cases r with
 | none=>exact wpAny_pure h₁
 | some v=>
  refine wpAny_bind (wpAny_mono h₁ (fun _ s₁' h₁'=>?_) fun _ _ z=>z.elim)
  refine wpAny_bind (wpAny_mono h₁' (fun _ s₂ h₂=>wpAny_bind (wpAny_mono h₂ (fun ok s₃ h₃=>?_) fun _ _ z=>z.elim)) fun _ _ z=>z.elim)
  cases ok with
  | false=>exact wpAny_pure ⟨rfl,h₃⟩
  | true=>
   exact wpAny_bind (wpAny_bind (wpAny_mono h₃ (fun x s₄ h₄=>wpAny_bind (wpAny_mono h₄ (fun _ s₅ h₅=>wpAny_pure (wpAny_pure ⟨rfl,h₅⟩)) fun _ _ z=>z.elim)) fun _ _ z=>z.elim))
end
def Et (M:List (Option Nat)) (σ:St):St:=M.map fun o=>o.bind fun j=>(σ[j]?).join
theorem DQ (M:List (Option Nat)) (σ:St):(Et M σ).length=M.length:=by unfold Et;rw[List.length_map]
theorem Ei {M:List (Option Nat)} {σ:St} {i:Nat} {v:V} (h:(Et M σ)[i]?=some (some v)) : ∃ j,M[i]?=some (some j)/\σ[j]?=some (some v):= by
 unfold Et at h
 rw[List.getElem?_map] at h
 cases e:M[i]? with
 | none=>rw[e] at h;cases h
 | some o=>
  rw[e] at h
  cases o with
  | none=>cases h
  | some j=>
   refine ⟨j,rfl,?_⟩
   have h':(σ[j]?).join=some v:=Option.some.inj h
   cases q:σ[j]? with
   | none=>rw[q] at h';cases h'
   | some o2=>rw[q] at h';cases o2 with
    | none=>cases h'
    | some v2=>cases h';rfl
def CY (X:Cx) (N':List Str) (scope:Scope) (cl:List (Str × Addr)) (C:Addr) (s:Shared) (H:Hp) (fp:List Addr):Cx:=
 { X with N:=N',s₀:=s,H₀:=H,env:=compEnvC scope cl C X.env,outer:=X.stack,stack:=X.stack,ex:=fp,fn:=fun _=>false,pn:=[],xe:=fun _ _=>False }
structure M3 (N N':List Str) (M:List (Option Nat)) (sc osc:Scope):Prop where
 kind:sc.kind = .function
 len:N'.length=M.length
 cell : ∀ y ∈ sc.names,y.2≠NameKind.cell
 own : ∀ y ∈ sc.names,y.2=NameKind.local->sc.names.lookup y.1=some NameKind.local
 fre : ∀ y ∈ sc.names,y.2=NameKind.free->osc.names.lookup y.1=some NameKind.cell\/osc.names.lookup y.1=some NameKind.free
 at_ : ∀ (i j:Nat),M[i]?=some (some j) -> ∃ y,N'[i]?=some y/\N[j]?=some y/\sc.names.lookup y=some NameKind.free
def Frm (M:List (Option Nat)) (g:TG):Prop:=∀ v σ H Q,g v σ H Q->g v σ H fun σ' H'=>Q σ' H'/\σ'.length=σ.length /\ ∀ (i j:Nat),M[i]?=some (some j)->σ'[i]?=σ[i]?
theorem Dz {M:List (Option Nat)} {i:Nat} (h:M[i]?=some none):Frm M (Go i):=fun v σ H Q q=>by
 refine ⟨q,List.length_set ..,fun k j e=>?_⟩
 have:i≠k:=by rintro rfl;rw[h] at e;cases e
 exact List.getElem?_set_ne this
def PTs (X:Cx) (ifs:List Expr) (t:TT):Prop:=
 ∀ (pins:List (Addr × Obj)) (s:Shared) (σ:St) (H:Hp) (Q:Bool->Hp->Prop),Inv X pins σ H s->t σ H Q ->
  wpAny (model X.prog X.w) X.A (forIn ifs true fun c r=>if r=true then do let ok <- isTrue c X.env (eval c X.env);pure (ForInStep.yield ok) else pure (ForInStep.yield r)) (TP X pins σ Q) X.xe s
def Rk:TT:=fun _ H Q=>Q true H
theorem FM {X:Cx}:PTs X [] Rk:=fun pins s σ H Q I h=>wpAny_tests_nil ⟨H,I,h⟩
theorem EA {X:Cx} {c:Expr} {t:TT} (h:PT X c t):PTs X [c] t:=fun pins s σ H Q I q=>wpAny_tests_one (h pins s σ H Q I q)
def tLc (wi:TI) (M:List (Option Nat)) (g:TG) (tc:TT) (te:TE) (σ:St) (H:Hp) (F:List V->Hp->Prop):Prop:=wi σ H fun J H1=>
 ∃ W:Nat->Nat->List V->Hp->Prop,(∃ m,W 0 m [] H1) /\ ∀ i m ys H,W i m ys H->ys.length<=sizeLine /\
  ((J.stop i H/\F ys H)\/(J.go i H/\ys.length<sizeLine /\ ∃ N:List V->Hp->Prop,(∀ ys' H',N ys' H' -> ∃ m',m'<m/\W (i+1) m' ys' H') /\ ∀ x H',J.yld i H x H'->g x (Et M σ) H' fun σ2 H2=>tc σ2 H2 fun b H3=>
   if b=true then te σ2 H3 fun v H4=>N (ys++[v]) H4 else N ys H3))
theorem JX {X:Cx} {N':List Str} {M:List (Option Nat)} {scope:Scope} {cl:List (Str × Addr)} {tg elt iter:Expr} {ifs:List Expr} {pos:Pos} {g:TG} {tc:TT} {te:TE} {pins:List (Addr × Obj)} {σ:St} {H2:Hp} {s2:Shared}
  {it:Addr} {fp:List Addr} {tn:Nat->Heap->Prop} {J:It} {F:List V->Hp->Prop} {RR:Value->Addr->Result->Shared->Prop} {E:Value->Shared->Prop}
  (S:M3 X.N N' M scope X.env.scope) (hc:X.calm=true) (q1 : ∀ y c,cl.lookup y=some c->X.env.cells.lookup y=some c) (q2 : ∀ y,(y,NameKind.free) ∈ scope.names -> ∃ c,cl.lookup y=some c)
  (hg : ∀ C s H fp,PG (CY X N' scope cl C s H fp) tg g) (hf:Frm M g) (ht : ∀ C s H fp,PTs (CY X N' scope cl C s H fp) ifs tc) (he : ∀ C s H fp,PE (CY X N' scope cl C s H fp) elt te)
  (I2:Inv X pins σ H2 s2) (T:MA X.prog X.w X.K tg J fp it tn) (st2:tn 0 s2.heap) (f2 : ∀ b ∈ fp,ES X pins H2 b)
  (hw : ∃ W:Nat->Nat->List V->Hp->Prop,(∃ m,W 0 m [] H2) /\ ∀ i m ys H,W i m ys H->ys.length<=sizeLine /\
   ((J.stop i H/\F ys H)\/(J.go i H/\ys.length<sizeLine /\ ∃ N:List V->Hp->Prop,(∀ ys' H',N ys' H' -> ∃ m',m'<m/\W (i+1) m' ys' H') /\ ∀ x H',J.yld i H x H'->g x (Et M σ) H' fun σ2 H2=>tc σ2 H2 fun b H3=>
    if b=true then te σ2 H3 fun v H4=>N (ys++[v]) H4 else N ys H3)))
  (hend : ∀ (D C:Addr) (s':Shared) (H':Hp) (ys:List V),Inv X pins σ (upd H' D (.lst ys)) s'->H' D=none->s2.heap.objs.size<=D->s2.heap.objs.size<C->(∃ m,s'.heap.Ns C m)->(upd H' D (.lst ys)) C=none->F ys H'->RR (.ref D) C (.ok .next) s') :
  wpAny (model X.prog X.w) X.A (newList []) (fun acc s₃=>wpAny (model X.prog X.w) X.A (newFunctionEnv scope X.env.globals cl [] X.env.qual none .none (some X.env)) (fun cenv s₄=>
   codeAny (model X.prog X.w) X.A (.compStart (.ListComp elt [⟨tg,iter,ifs,0⟩] scope pos) 0 (.ref it) acc { cenv with scope:=relabel scope X.env }) (RR acc cenv.locals) s₄) E s₃) E s2:= by
 obtain ⟨W,⟨m0,w0⟩,turn⟩:=hw
 refine wpAny_newObj_type (wpAny_newFunctionEnv S.cell (by intro y hy;simp at hy) (fun h₁ hns₁ hsb₁=>?_) S.kind)
 dsimp only at hns₁ hsb₁ ⊢
 generalize hG : s2.heap.push { cls:=.type "list",dict:=none,data:=.seq ([] : List Value).toArray } = G at hns₁ hsb₁ ⊢
 generalize hD:s2.heap.objs.size=D at *
 have hC:G.objs.size=D+1:=by rw[<- hG,Heap.size_push,hD]
 generalize hCC:G.objs.size=C at *
 have DC:D<C:=by rw[hC];exact Nat.lt_succ_self _
 have lo : ∀ b o,s2.heap.get? b=some o->b<D:=fun b o e=>hD ▸ Heap.lt_size e
 have old : ∀ b o,s2.heap.get? b=some o->h₁.get? b=some o:=fun b o e=>by
  have hb:=lo b o e
  exact hsb₁.extBut b o (Nat.ne_of_lt (Nat.lt_trans hb DC)) (Heap.get?_push_of_some _ (hG ▸ Heap.get?_push_of_some _ e))
 have hacc : h₁.get? D = some { cls:=.type "list",data:=.seq ([] : List Value).toArray }:=
  hsb₁.extBut _ _ (Nat.ne_of_lt DC) (Heap.get?_push_of_some _ (by rw[<- hG,<- hD];exact Heap.get?_push_size _ rfl))
 have fpl : ∀ b ∈ fp,b<D:=fun b hb=>by
  obtain ⟨o,e,_⟩:=T.obj _ _ st2 b hb
  exact lo b o e
 have cel : ∀ y c,cl.lookup y=some c->c<D:=fun y c e=>by
  obtain ⟨v,z⟩:=I2.cell y c (q1 y c e)
  exact hD ▸ z.lt
 generalize hX':CY X N' scope cl C s2 H2 fp=X'
 have envE:X'.env=compEnvC scope cl C X.env:=by rw[<- hX'];rfl
 have locE:X'.env.locals=C:=by rw[envE];rfl
 have fsE:X'.fs=frs X.stack:=by rw[<- hX'];rfl
 have fsl : ∀ b ∈ frs X.stack,b<D:=fun b hb=>by
  rcases List.mem_cons.mp (I2.stkSub b hb) with z | z
  ·rw[z];exact hD ▸ I2.lt
  ·exact Nat.lt_of_not_le fun q=>I2.nofs (hD ▸ q) z
 have relS : ∀ x k,scope.names.lookup x=some k -> ∃ k',X'.env.kindOf x=some k'/\(k'=k\/(k = .free/\k' = .cell)):=fun x k e=>by
  obtain ⟨k',e',q⟩:=Ch (env:=X.env) e
  exact ⟨k',by rw[envE];exact e',q⟩
 have relN : ∀ x,scope.names.lookup x=none->X'.env.kindOf x=none:=fun x e=>by
  rw[envE];exact Cl (env:=X.env) e
 have cellsE:X'.env.cells=cl:=by rw[envE];rfl
 have ok':X'.Ok:= by
  refine ⟨?mod,?kind,?glob,?blt,?above,?inj,?has,?cab,?hd,?frames,?stk,?exf,?bs,?bsz,?noex,?exfs,?funs,?frf⟩
  case mod=>rw[<- hX'];exact I2.ok.mod
  case kind=>rw[envE];exact S.kind
  case glob=>rw[envE];exact I2.ok.glob
  case blt=>rw[envE];exact I2.ok.blt
  case above=>rw[locE,<- hX'];show s2.heap.objs.size<=C;rw[hD];exact Nat.le_of_lt DC
  case inj=>intro x y c e1 e2;rw[cellsE] at e1 e2;exact I2.ok.inj x y c (q1 x c e1) (q1 y c e2)
  case has=>
   intro x hx
   rw[cellsE]
   cases e:scope.names.lookup x with
   | none=>rw[relN x e] at hx;rcases hx with z | z <;> cases z
   | some k=>
    obtain ⟨k',e',q⟩:=relS x k e
    rw[e'] at hx
    have kf:k = .free:= by
     rcases q with q | q
     ·rcases hx with z | z
      ·cases z;exact absurd q.symm (S.cell _ (PySem.mem_of_lookup e))
      ·cases z;exact q.symm
     ·exact q.1
    subst kf
    exact q2 x (PySem.mem_of_lookup e)
  case cab=>intro x c h;rw[<- hX'] at h;exact absurd h (by show ¬ (false=true);decide)
  case hd=>rw[<- hX'];exact I2.ok.hd
  case frames=>rw[<- hX'];exact I2.ok.frames
  case stk=>rw[<- hX'];exact .inl rfl
  case exf=>
   intro b hb
   have hb':b ∈ fp:=by rw[<- hX'] at hb;exact hb
   refine ⟨by rw[locE];exact Nat.ne_of_lt (Nat.lt_trans (fpl b hb') DC),fun x c e=>?_⟩
   rw[cellsE] at e
   exact (f2 b hb').2.2.2.2.1 x c (q1 x c e)
  case bs=>rw[<- hX'];exact I2.bs
  case bsz=>rw[<- hX'];exact Nat.le_trans I2.ok.bsz I2.sz
  case noex=>
   intro b o e hb
   have hb':b ∈ fp:=by rw[<- hX'] at hb;exact hb
   have e':X.base.get? b=some o:=by rw[<- hX'] at e;exact e
   rcases (f2 b hb').2.2.2.1 with z | z
   ·exact I2.ok.noex b o e' z
   ·exact absurd (Nat.lt_of_lt_of_le (Heap.lt_size e') (Nat.le_trans I2.ok.bsz z)) (Nat.lt_irrefl _)
  case exfs=>
   intro b hb
   have hb':b ∈ fp:=by rw[<- hX'] at hb;exact hb
   rw[fsE]
   intro z
   rcases List.mem_cons.mp (I2.stkSub b z) with q | q
   ·exact (f2 b hb').2.1 q
   ·exact (f2 b hb').2.2.1 q
  case funs=>rw[<- hX'];exact I2.stack
  case frf=>rw[fsE,<- hX'];exact I2.stkFree
 have c0:H2 C=none:=I2.hok.fresh (by rw[hD];exact Nat.le_of_lt DC)
 have d0:H2 D=none:=I2.hok.fresh (by rw[hD];exact Nat.le_refl _)
 have I3:Inv X' [] (Et M σ) H2 { s2 with heap:=h₁,toks:=s2.toks+([]:List (Str × Value)).length }:= by
  refine ⟨ok',?os,?bare,?base,?loc,?cell,?free,?freeC,?pin,?hok,?len⟩
  case os=>rw[<- hX'];rfl
  case bare=>exact I2.bare
  case base=>rw[fsE,<- hX'];exact Un.kept old
  case loc=>
   refine ⟨_,by rw[locE];exact hns₁,fun i x v e1 e2 _=>?_⟩
   obtain ⟨j,eM,eσ⟩:=Ei e2
   obtain ⟨y,n1,n2,n3⟩:=S.at_ i j eM
   have e1':N'[i]?=some x:=by rw[<- hX'] at e1;exact e1
   rw[n1] at e1';cases e1'
   have hyf:(x,NameKind.free) ∈ scope.names:=PySem.mem_of_lookup n3
   have kd:=S.fre _ hyf rfl
   obtain ⟨m,hn,hl⟩:=id I2.loc
   obtain ⟨u,ru,lk⟩:=hl j x v n2 eσ (kd.elim (fun z=>.inr (.inl z)) fun z=>.inr (.inr z))
   refine ⟨u,ru,?_⟩
   rcases lk with ⟨k,_⟩ | ⟨k,c,ec,z⟩
   ·have k':X.env.scope.names.lookup x=some NameKind.local:=k
    rcases kd with q | q <;> (rw[k'] at q;cases q)
   ·obtain ⟨c',ec'⟩:=q2 x hyf
    have hcc:=q1 x c' ec'
    rw[ec] at hcc;cases hcc
    obtain ⟨k',e',q⟩:=relS x _ n3
    refine .inr ⟨?_,c,by rw[cellsE];exact ec',?_⟩
    ·rw[e'];rcases q with q | q
     ·right;rw[q]
     ·left;rw[q.2]
    ·obtain ⟨o,ho,hd'⟩:=z
     exact ⟨o,old _ _ ho,hd'⟩
  case cell=>
   intro x c e
   rw[cellsE] at e
   obtain ⟨v,o,ho,hd'⟩:=I2.cell x c (q1 x c e)
   exact ⟨v,o,old _ _ ho,hd'⟩
  case free=>rw[locE];exact c0
  case freeC=>intro x c e;rw[cellsE] at e;exact I2.freeC x c (q1 x c e)
  case pin=>intro p hp;rw[<- hX'] at hp;exact absurd (show p ∈ ([]:List (Addr × Obj)) from hp) (by simp)
  case hok=>rw[<- hX'];exact I2.hok.kept old
  case len=>rw[DQ,<- hX'];exact S.len.symm
 have xE : ∀ (e:Value) (s':Shared),¬ X'.xe e s':=fun e s' z=>by rw[<- hX'] at z;exact z
 have progE:X'.prog=X.prog:=by rw[<- hX'];rfl
 have wE:X'.w=X.w:=by rw[<- hX'];rfl
 have KE':X'.K=X.K:=by rw[<- hX'];rfl
 have AE:X'.A=X.A:=by rw[<- hX'];rfl
 have cE:X'.calm=true:=by rw[<- hX'];exact hc
 have exE:X'.ex=fp:=by rw[<- hX'];rfl
 have s0E:X'.s₀=s2:=by rw[<- hX'];rfl
 have pnE:X'.pn=[]:=by rw[<- hX'];rfl
 have hgX:PG X' tg g:=by rw[<- hX'];exact hg C s2 H2 fp
 have htX:PTs X' ifs tc:=by rw[<- hX'];exact ht C s2 H2 fp
 have heX:PE X' elt te:=by rw[<- hX'];exact he C s2 H2 fp
 have Dfp:D ∉ fp:=fun z=>Nat.lt_irrefl _ (fpl D z)
 have Dcl : ∀ x c,X'.env.cells.lookup x=some c->c≠D:=fun x c e=>by rw[cellsE] at e;exact Nat.ne_of_lt (cel x c e)
 have Dloc:D≠X'.env.locals:=by rw[locE];exact Nat.ne_of_lt DC
 have Dfs:D ∉ X'.fs:=by rw[fsE];exact fun z=>Nat.lt_irrefl _ (fsl D z)
 have D0:D ∈ X'.ex\/X'.s₀.heap.objs.size<=D:=.inr (by rw[s0E,hD];exact Nat.le_refl _)
 have stat : ∀ {pl:List (Addr × Obj)} {H':Hp},(∀ p ∈ pl,p.1=D)->(∀ b ∈ fp,H' b=none) -> ∀ b ∈ fp,ES X' pl H' b:=fun {pl H'} hpl hn b hb=>by
  refine ⟨hn b hb,by rw[locE];exact Nat.ne_of_lt (Nat.lt_trans (fpl b hb) DC),?_,.inl (by rw[exE];exact hb),fun x c e=>?_,fun p hp=>?_⟩
  ·exact ok'.exfs b (by rw[exE];exact hb)
  ·rw[cellsE] at e;exact (f2 b hb).2.2.2.2.1 x c (q1 x c e)
  ·rw[pnE,List.nil_append] at hp
   rw[hpl p hp];exact (Nat.ne_of_lt (fpl b hb)).symm
 have loop:codeAny (model X.prog X.w) X.A (.compLoop (.ListComp elt [⟨tg,iter,ifs,0⟩] scope pos) 0 (.ref it) (.ref D) X'.env) (RR (.ref D) C) { s2 with heap:=h₁,toks:=s2.toks+([]:List (Str × Value)).length }:= by
  refine Hw (fun n s'=>∃ i ys H',Inv X' [] (Et M σ) H' s' /\ tn i s'.heap /\ (∀ b ∈ fp,H' b = none) /\ (∃ (its : List Value) (k : Nat),Bf ys its /\ s'.heap.get? D = some { cls:=.type "list",data:=.seq its.toArray k }) /\ H' D = none /\ W i n ys H') ?_ m0
   ⟨0,[],H2,I3,T.keep _ _ _ st2 fun b hb o e=>old b o e,fun b hb=>(f2 b hb).1,⟨[],0,.nil,hacc⟩,d0,w0⟩
  rintro n s3 ⟨i,ys,H3,J3,st3,fr3,⟨its,k,rv,hDs⟩,dn,w3⟩
  obtain ⟨hsz,hcase⟩:=turn i n ys H3 w3
  have J3' : Inv X' [(D,{ cls:=.type "list",data:=.seq its.toArray k })] (Et M σ) H3 s3:=J3.pins_of fun p hp=>by
   have e : p = (D,{ cls:=.type "list",data:=.seq its.toArray k }):=by simpa using hp
   subst e
   exact ⟨hDs,dn,Dloc,Dfs,fun v z=>by cases z⟩
  have hpl : ∀ p ∈ [((D,{ cls:=.type "list",data:=.seq its.toArray k }) : Addr × Obj)],p.1 = D:=fun p hp=>by
   have e : p = (D,{ cls:=.type "list",data:=.seq its.toArray k }):=by simpa using hp
   rw[e]
  rcases hcase with ⟨stop,qF⟩ | ⟨go,hlt,N,hN,step⟩
  ·have q:=T.done X' progE wE KE' cE i _ s3 _ H3 (fun _ _=>False) J3' (stat hpl fr3) st3 stop
   rw[AE] at q
   refine thn q fun r s4 ⟨hr,J4⟩=>?_
   subst hr
   have hD4 : s4.heap.get? D = some { cls:=.type "list",data:=.seq its.toArray k }:=(J4.pin _ (List.mem_append_right _ (List.mem_singleton.mpr rfl))).1
   obtain ⟨mC,hnC,_⟩:=id J4.loc
   rw[locE] at hnC
   have b4:=J4.base
   rw[fsE,exE,s0E,show X'.H₀=H2 by rw[<- hX'];rfl] at b4
   refine hend D C s4 H3 ys ?_ dn (Nat.le_refl _) DC ⟨mC,hnC⟩ (by rw[Af (Nat.ne_of_gt DC)];have:=J4.free;rw[locE] at this;exact this) qF
   have hok4:=J4.hok
   rw[progE,wE] at hok4
   refine I2.call' (ch:=fp) (H':=upd H3 D (.lst ys)) (by rw[J4.os,s0E]) ⟨b4.keep,b4.slot,fun b o e nn hb=>?_,b4.there,fun b xs e=>?_,fun b o u e=>?_,fun b ps e=>?_⟩ ?_ J4.bare fun b hb=>?_
   ·rw[Af (Nat.ne_of_lt (lo b o e))];exact b4.free b o e nn hb
   ·rw[Af (Aj (b4.tups b xs e) dn)];exact b4.tups b xs e
   ·rw[Af (Aj (b4.frzs b o u e) dn)];exact b4.frzs b o u e
   ·obtain ⟨more,e'⟩:=b4.tbls b ps e
    exact ⟨more,by rw[Af (Aj e' dn)];exact e'⟩
   ·intro b u e
    by_cases hb:b=D
    ·subst hb
     rw[Ab] at e;cases e
     exact ⟨hsz,its,k,rv,hD4⟩
    ·rw[Af hb] at e
     exact (hok4 b u e).stay (fun c v _ q=>q) (fun c q=>by rw[Af (Aj q dn)];exact q) fun c xs q=>by rw[Af (Aj q dn)];exact q
   ·obtain ⟨f0,f1,f3,f4,f5,f6⟩:=f2 b hb
    exact ⟨f4,f1,f5,f6⟩
  ·have q:=T.item X' progE wE KE' cE i _ s3 _ H3 (fun _ _=>False) J3' (stat hpl fr3) st3 go
   rw[AE] at q
   refine thn q fun r s4 ⟨u,hr,h4⟩=>?_
   subst hr
   dsimp only
   refine thn h4 fun _ s5 ⟨x,H5,J5,r5,y5,st5,fr5⟩=>?_
   have J5':=J5.pinned (stat hpl fr5) (T.obj _ _ st5)
   have qg:=hgX _ s5 (Et M σ) H5 x u _ J5' r5 (hf _ _ _ _ (step x H5 y5))
   rw[progE,wE,AE] at qg
   refine wpAny_mono qg (fun _ s6 h6=>?_) fun e s' z=>xE e s' z
   obtain ⟨σ6,H6,J6,q6,l6,k6⟩:=h6
   have qt:=htX _ s6 σ6 H6 _ J6 q6
   rw[progE,wE,AE] at qt
   refine wpAny_mono qt (fun b s7 h7=>?_) fun e s' z=>xE e s' z
   obtain ⟨H7,J7,q7⟩:=h7
   have fin : ∀ {ys' : List V} {σ8 : St} {H8 : Hp} {s8 : Shared},σ8 = σ6 -> Inv X' ([(D,{ cls:=.type "list",data:=.seq its.toArray k })] ++ Ee fp s5.heap) σ8 H8 s8 ->
     s8.heap.get? D = some { cls:=.type "list",data:=.seq its.toArray k } /\ H8 D = none /\ tn (i + 1) s8.heap /\ (∀ b ∈ fp,H8 b = none) /\ Inv X' [] (Et M σ) H8 s8:=fun {ys' σ8 H8 s8} e8 J8=>by
    subst e8
    obtain ⟨p1,p2,_⟩:=J8.pin _ (List.mem_append_right _ (List.mem_append_left _ (List.mem_singleton.mpr rfl)))
    refine ⟨p1,p2,T.keep _ _ _ st5 fun b hb o e=>(J8.pin (b,o) (List.mem_append_right _ (List.mem_append_right _ (Bt hb e)))).1,fun b hb=>?_,?_⟩
    ·obtain ⟨o,e,d⟩:=T.obj _ _ st5 b hb
     exact (J8.pin (b,o) (List.mem_append_right _ (List.mem_append_right _ (Bt hb e)))).2.1
    ·have J9:Inv X' [] σ8 H8 s8:=J8.pins_of fun p hp=>absurd hp (by simp)
     refine J9.weak (l6.symm) fun a v e=>?_
     obtain ⟨j,eM,_⟩:=Ei e
     rw[k6 a j eM];exact e
   cases b with
   | false=>
    rw[if_neg (by decide)] at q7
    rw[if_neg (by decide)]
    obtain ⟨m',hm,w7⟩:=hN _ _ q7
    obtain ⟨a1,a2,a3,a4,a5⟩:=fin (ys':=ys) rfl J7
    exact ⟨m',hm,i+1,ys,H7,a5,a3,a4,⟨its,k,rv,a1⟩,a2,w7⟩
   | true=>
    rw[if_pos rfl] at q7
    rw[if_pos rfl]
    have qe:=heX _ s7 σ6 H7 _ J7 q7
    rw[progE,wE,AE] at qe
    refine wpAny_mono qe (fun v8 s8 h8=>?_) fun e s' z=>xE e s' z
    obtain ⟨y8,H8,J8,r8,n8⟩:=h8
    obtain ⟨m',hm,w8⟩:=hN _ _ n8
    obtain ⟨a1,a2,a3,a4,a5⟩:=fin (ys':=ys) rfl J8
    refine wpAny_list_append_plain (items:=its.toArray) ⟨k,a1⟩ (fun h9 hl9 hs9=>?_) (by have:=rv.length;rw[List.size_toArray,<- this];exact hsz)
    have J9:Inv X' [] (Et M σ) H8 { s8 with heap:=h9 }:=a5.turned (t':=s8.toks) (fun b o hb e=>(hs9.2 b hb).trans e) a2 Dloc D0 Dcl fun p hp=>by rw[pnE] at hp;exact absurd hp (by simp)
    obtain ⟨k9,e9⟩:=hl9
    refine ⟨m',hm,i+1,ys++[y8],H8,J9,T.keep _ _ _ a3 fun b hb o e=>(hs9.2 b (fun z=>Dfp (z ▸ hb))).trans e,a4,⟨its++[v8],k9,rv.append (.cons r8 .nil),?_⟩,a2,w8⟩
    rw[show (its++[v8]).toArray=its.toArray.push v8 by simp]
    exact e9
 have loop':codeAny (model X.prog X.w) X.A (.compLoop (.ListComp elt [⟨tg,iter,ifs,0⟩] scope pos) 0 (.ref it) (.ref D) (compEnvC scope cl C X.env)) (RR (.ref D) C) { s2 with heap:=h₁,toks:=s2.toks+([]:List (Str × Value)).length }:=envE ▸ loop
 exact codeAny_compStart_list loop' (T.self _ 0 _ _ _ (T.keep _ _ _ st2 fun b hb o e=>old b o e) loop')
end L2
namespace L2
open PySem PySem.Spec PyProof.Rows
section
variable {X:Cx} {N':List Str} {M:List (Option Nat)} {scope:Scope} {tg elt iter:Expr} {ifs:List Expr} {pos:Pos} {g:TG} {tc:TT} {te:TE} {wi:TI}
theorem Fn {pins:List (Addr × Obj)} {σ:St} {H:Hp} {s:Shared} (S:M3 X.N N' M scope X.env.scope) (I:Inv X pins σ H s) :
  ∃ cl,closureFor scope X.env=pure cl/\(∀ y c,cl.lookup y=some c->X.env.cells.lookup y=some c)/\(∀ y,(y,NameKind.free) ∈ scope.names -> ∃ c,cl.lookup y=some c):=
 K4 fun y hy hk=>I.ok.has y.1 (S.fre y hy hk)
theorem Inv.gone {pins:List (Addr × Obj)} {σ:St} {H:Hp} {s s':Shared} {C:Addr} {h':Heap} (I:Inv X pins σ H s) (hs:Heap.SameBut C s.heap h') (hn:H C=none) (hC:C≠X.env.locals) (h1:X.s₀.heap.objs.size<=C)
  (h2 : ∀ x c,X.env.cells.lookup x=some c->c≠C) (h3 : ∀ p ∈ X.pn++pins,p.1≠C):Inv X pins σ H { s with heap:=h' }:=
 I.turned (t':=s.toks) (fun b o hb e=>(hs.2 b hb).trans e) hn hC (.inr h1) h2 h3
theorem Inv.young {pins:List (Addr × Obj)} {σ:St} {H:Hp} {s:Shared} {C:Addr} (I:Inv X pins σ H s) (h:s.heap.objs.size<=C) :
  C≠X.env.locals/\X.s₀.heap.objs.size<=C/\(∀ x c,X.env.cells.lookup x=some c->c≠C) /\ ∀ p ∈ X.pn++pins,p.1≠C:= by
 refine ⟨(Nat.ne_of_lt (Nat.lt_of_lt_of_le I.lt h)).symm,Nat.le_trans I.sz h,fun x c e=>?_,fun p hp=>?_⟩
 ·obtain ⟨v,z⟩:=I.cell x c e
  exact Nat.ne_of_lt (Nat.lt_of_lt_of_le z.lt h)
 ·exact Nat.ne_of_lt (Nat.lt_of_lt_of_le (Heap.lt_size (I.pin p hp).1) h)
theorem KQ (S:M3 X.N N' M scope X.env.scope) (hc:X.calm=true) (hi:PI X tg iter wi) (hg : ∀ cl C s H fp,PG (CY X N' scope cl C s H fp) tg g) (hf:Frm M g)
  (ht : ∀ cl C s H fp,PTs (CY X N' scope cl C s H fp) ifs tc) (he : ∀ cl C s H fp,PE (CY X N' scope cl C s H fp) elt te)
  (hs : ∀ x,foldedSetIterable iter X.env x=pure x:=by intro _;rfl) :
  PE X (.ListComp elt [⟨tg,iter,ifs,0⟩] scope pos) (fun σ H Q=>tLc wi M g tc te σ H fun ys H'=>∀ p,H' p=none->Q (.ref p) (upd H' p (.lst ys))):= by
 intro pins s σ H Q I h
 obtain ⟨cl,hclos,q1,q2⟩:=Fn S I
 rw[eval_ListComp]
 refine wpAny_comprehension_free (use:=none) rfl hs hclos S.kind S.own (thn (hi pins s σ H _ I h) fun v s1 h1=>thn h1 fun itv s2 h2=>?_)
 obtain ⟨it,fp,tn,J,H2,e,I2,T,st2,f2,hw⟩:=h2
 subst e
 refine JX (RR:=fun acc C=>compPost (model X.prog X.w) X.A X.xe none (EP X pins σ Q) acc C) S hc q1 q2 (hg cl) hf (ht cl) (he cl) I2 T st2 f2 hw ?_
 intro D C s' H' ys I' dn hD hC ⟨m,hn⟩ hCn q
 obtain ⟨y1,y2,y3,y4⟩:=I2.young (Nat.le_of_lt hC)
 exact ⟨m,hn,fun h' hs'=>⟨.ref D,_,I'.gone (s':=s') hs' hCn y1 y2 y3 y4,rfl,q D dn⟩⟩
theorem QO {i:Nat} {x:Str} {pos' spos:Pos} (hN:X.N.Nodup) (hi:X.N[i]?=some x) (hx:X.env.scope.names.lookup x=some NameKind.local)
  (S:M3 X.N N' M scope X.env.scope) (hc:X.calm=true) (hit:PI X tg iter wi) (hg : ∀ cl C s H fp,PG (CY X N' scope cl C s H fp) tg g) (hf:Frm M g)
  (ht : ∀ cl C s H fp,PTs (CY X N' scope cl C s H fp) ifs tc) (he : ∀ cl C s H fp,PE (CY X N' scope cl C s H fp) elt te)
  (hsw:swapsWith (.ListComp elt [⟨tg,iter,ifs,0⟩] scope pos) (some (.Name x pos')) spos.line X.env=pure true:=by rfl)
  (hs : ∀ x,foldedSetIterable iter X.env x=pure x:=by intro _;rfl) :
  PS X (.Assign [.Name x pos'] (.ListComp elt [⟨tg,iter,ifs,0⟩] scope pos) spos) (fun D σ H=>tLc wi M g tc te σ H fun ys H'=>∀ p,H' p=none->D.nx (σ.set i (some (.ref p))) (upd H' p (.lst ys))):= by
 intro pins s σ H Dn I h
 obtain ⟨cl,hclos,q1,q2⟩:=Fn S I
 rw[exec_Assign_Name_used _ _ _ _ hsw]
 refine wpAny_bind (wpAny_standAt (wpAny_bind ?_))
 show wpAny _ X.A (do let _ <- comprehension (.ListComp elt [⟨tg,iter,ifs,0⟩] scope pos) scope X.env _ (newList []) false (eval iter X.env) (some (assign (.Name x pos') X.env))) _ _ s
 refine wpAny_bind (wpAny_mono (wpAny_comprehension_free (use:=some (assign (.Name x pos') X.env)) (Q:=fun _ s'=>SP X pins Dn .next s') rfl hs hclos S.kind S.own
  (thn (hit pins s σ H _ I h) fun v s1 h1=>thn h1 fun itv s2 h2=>?_)) (fun _ s' hq=>wpAny_pure (wpAny_pure hq)) fun _ _ e=>e)
 obtain ⟨it,fp,tn,J,H2,e,I2,T,st2,f2,hw⟩:=h2
 subst e
 refine JX (RR:=fun acc C=>compPost (model X.prog X.w) X.A X.xe (some (assign (.Name x pos') X.env)) (fun _ s'=>SP X pins Dn .next s') acc C) S hc q1 q2 (hg cl) hf (ht cl) (he cl) I2 T st2 f2 hw ?_
 intro D C s' H' ys I' dn hD hC ⟨m,hn⟩ hCn q
 obtain ⟨y1,y2,y3,y4⟩:=I2.young (Nat.le_of_lt hC)
 show wpAny _ X.A (assign (.Name x pos') X.env (.ref D)) _ _ s'
 refine wpAny_assign_Name (FE I' hN hi (.inl hx) (v:=.ref D) rfl (fun s'' I'' ⟨a,hsb,ha⟩=>?_) (.inr hx))
 have hCa:C≠a:= by
  rcases ha with z | z
  ·rw[z];exact y1
  ·exact (y3 x a z).symm
 exact ⟨m,hn.sameBut hsb hCa,fun h' hs'=>⟨_,_,I''.gone (s':=s'') hs' hCn y1 y2 y3 y4,q D dn⟩⟩
end
end L2
namespace L2
open PySem PySem.Spec PyProof.Rows
theorem Ak.new {H:Hp} {p:Addr} {o:HO} (h:H p=none):Ak H (upd H p o):=fun b u e=>by rw[Af (Aj e h)];exact e
theorem Ak.new2 {H H1:Hp} {p:Addr} {o:HO} (e:Ak H H1) (h:H1 p=none):Ak H (upd H1 p o):=e.trans (Ak.new h)
theorem Ak.put {H H1:Hp} {p:Addr} {o:HO} (e:Ak H H1) (h:H p=none):Ak H (upd H1 p o):=fun b u q=>by rw[Af (Aj q h)];exact e b u q
section
variable {X:Cx}
theorem BC:OpR X (binaryOp .Mult) (rI IntMulOk fun i j=>.int (i*j)):=opI fun _ _ _ _ _ _ _ hc q=>mul_int q hc
def Rx (i j:Int):Prop:=0<j/\j.natAbs.log2<9000
theorem GT:OpR X (binaryOp .FloorDiv) (rI Rx fun i j=>.int (i / j)):=opI fun i j _ _ _ _ _ hc q=>by
 have e:i.fdiv j=i / j:=Int.fdiv_eq_ediv_of_nonneg i (Int.le_of_lt hc.1)
 exact floordiv_int (Int.ne_of_gt hc.1) (by rw[e];exact q) (.inl (PyProof.noPylong_of_log2 hc.2))
theorem LD {a b:Int} (h : -(2 ^ 64)<a/\a<2 ^ 64):IntMulOk a b:=Rb.ok (.inl h)
theorem Dk {a b:Int} (h : -(2 ^ 64)<b/\b<2 ^ 64):IntMulOk a b:=Rb.ok (.inr h)
theorem LI {s : Shared} {l : Addr} {h' : Heap} (hk : ∀ b o,b ∉ [s.heap.objs.size] -> (s.heap.push { cls:=.type "tuple_iterator",data:=.fields #[.ref l,.int 0 0] }).get? b = some o -> h'.get? b = some o) :
  ∀ b o,s.heap.get? b=some o->h'.get? b=some o:=fun b o e=>hk b o (fun hm=>absurd (Heap.lt_size e) (by rw[List.mem_singleton.mp hm];exact Nat.lt_irrefl _)) (Heap.get?_push_of_some _ e)
theorem GS {pins:List (Addr × Obj)} {σ:St} {H:Hp} {s:Shared} {a:Addr} {xs:List V} {A:Around} {E:Value->Shared->Prop} {Q:Value->Shared->Prop} (I:Inv X pins σ H s) (hh:A.handled=none) (hq:SqL X.K H a xs\/SqT X.K H a xs)
  (h : ∀ (its:List Value) (I':Addr) (fp wr:List Addr) (St':Nat->Heap->Prop) (s2:Shared),Bf xs its->Walks X.prog X.w A I' fp wr its.toArray.size (fun i v=>its.toArray[i]?=some v) St'->St' 0 s2.heap->(∀ b ∈ fp,b<s2.heap.objs.size) ->
   s2.toks=s.toks->s2.os=s.os->s2.gens=s.gens->s2.drawn=s.drawn->(∀ h' tk,(∀ b o,b ∉ wr->s2.heap.get? b=some o->h'.get? b=some o)->Inv X pins σ H { s2 with heap:=h',toks:=tk })->Q (.ref I') s2) :
  wpAny (model X.prog X.w) A (pyIter (.ref a)) Q E s:= by
 rcases hq with hq | hq
 ·obtain ⟨its,rv,p,hz⟩:=I.list hq
  obtain ⟨o,ho,_⟩:=id p.isList
  have hlt:=Heap.lt_size ho
  refine wpAny_pyIter_list p.isList (h its s.heap.objs.size [s.heap.objs.size,a] [s.heap.objs.size] _ _ rv (Walks.list hh _ a (Nat.ne_of_lt hlt) its.toArray) ⟨⟨_,Heap.get?_push_size _ rfl,rfl,rfl⟩,p.isList.push _⟩ (fun b hb=>?_) rfl rfl rfl rfl fun h' tk hk=>?_)
  ·show b<(s.heap.push _).objs.size
   rw[Heap.size_push]
   rcases List.mem_cons.mp hb with rfl | hb
   ·exact Nat.lt_succ_self _
   ·rw[List.mem_singleton.mp hb];exact Nat.lt_succ_of_lt hlt
  ·exact I.kept (t':=tk) (old_kept hk)
 ·obtain ⟨its,rv,p,hz⟩:=I.tuple hq
  obtain ⟨o,ho,_⟩:=id p
  have hlt:=Heap.lt_size ho
  have p':s.heap.IsTuple a its.toArray:=p
  refine wpAny_pyIter_tuple p' (h its s.heap.objs.size [s.heap.objs.size,a] [s.heap.objs.size] _ _ rv (Walks.tuple hh _ a (Nat.ne_of_lt hlt) its.toArray) ⟨⟨_,Heap.get?_push_size _ rfl,rfl,rfl⟩,p'.push _⟩ (fun b hb=>?_) rfl rfl rfl rfl fun h' tk hk=>?_)
  ·show b<(s.heap.push _).objs.size
   rw[Heap.size_push]
   rcases List.mem_cons.mp hb with rfl | hb
   ·exact Nat.lt_succ_self _
   ·rw[List.mem_singleton.mp hb];exact Nat.lt_succ_of_lt hlt
  ·exact I.kept (t':=tk) (LI hk)
theorem Cc {ns:List Int} {its:List Value} (r:Bf (ns.map V.int) its) {i:Nat} {v:Value} (h:its.toArray[i]?=some v) : ∃ t,v = .int (ns.getD i 0) t/\i<ns.length:= by
 have h':its[i]?=some v:=by simpa using h
 have hl:=r.length
 rw[List.length_map] at hl
 have hi:i<ns.length:=by rw[hl];exact (List.getElem?_eq_some_iff.mp h').1
 obtain ⟨u,hu,ru⟩:=r.get (i:=i) (x:=V.int (ns[i])) (by rw[List.getElem?_map,List.getElem?_eq_getElem hi];rfl)
 rw[hu] at h';cases h'
 obtain ⟨t,rfl⟩:=ru
 exact ⟨t,by rw[List.getD_eq_getElem?_getD,List.getElem?_eq_getElem hi];rfl,hi⟩
def LZ (ns:List Int) (m:Int):Prop:=m ∈ ns /\ ∀ a ∈ ns,a<=m
def Sb (ns:List Int) (m:Int):Prop:=m ∈ ns /\ ∀ a ∈ ns,m<=a
theorem HM {ns:List Int} {i:Nat} (h:i<ns.length):ns.getD i 0 ∈ ns:= by
 rw[List.getD_eq_getElem?_getD,List.getElem?_eq_getElem h];exact List.getElem_mem h
theorem IH {ns:List Int} {a:Int} (h:a ∈ ns) : ∃ i,i<ns.length/\ns.getD i 0=a:= by
 obtain ⟨i,hi,e⟩:=List.mem_iff_getElem.mp h
 exact ⟨i,hi,by rw[List.getD_eq_getElem?_getD,List.getElem?_eq_getElem hi];exact e⟩
theorem LF (hc : X.calm = true) : BW X (.builtin "max") (fun xs H Q=>∃ (a : Addr) (ns : List Int),xs = [.ref a] /\ (SqL X.K H a (ns.map V.int) \/ SqT X.K H a (ns.map V.int)) /\ ns ≠ [] /\ ∀ m,LZ ns m -> Q (.int m) H):= by
 intro pins s σ H xs us Q I r h
 obtain ⟨a,ns,rfl,hq,hne,q⟩:=h
 obtain ⟨u,rfl,ru⟩:=DE r
 cases ru
 refine call_max_walk (GS I (A:=X.A.in1) (I.ok.hd hc) hq fun its I' fp wr St' s2 rv W st hfp _ _ _ _ hI=>?_)
 have hlen:its.toArray.size=ns.length:=by rw[List.size_toArray,<- rv.length,List.length_map]
 have hpos:0<ns.length:=List.length_pos_iff.mpr hne
 refine ⟨_,_,_,_,_,_,_,rfl,W,st,hfp,by rw[hlen];exact hpos,CmpOf.ints_gt (fun i=>ns.getD i 0) (fun i v hv=>(Cc rv hv).imp fun t e=>e.1),fun v h' tk hP hk=>?_⟩
 obtain ⟨t,rfl,hi⟩:=Cc rv hP
 obtain ⟨h1,h2⟩:=argBest_gt (fun i=>ns.getD i 0) (its.toArray.size-1)
 refine ⟨.int _,H,hI h' tk hk,⟨t,rfl⟩,q _ ⟨HM hi,fun b hb=>?_⟩⟩
 obtain ⟨j,hj,rfl⟩:=IH hb
 exact h2 j (by omega)
theorem LW (hc : X.calm = true) : BW X (.builtin "sum") (fun xs H Q=>∃ (a : Addr) (ns : List Int),xs = [.ref a] /\ (SqL X.K H a (ns.map V.int) \/ SqT X.K H a (ns.map V.int)) /\ Q (.int ns.sum) H):= by
 intro pins s σ H xs us Q I r h
 obtain ⟨a,ns,rfl,hq,q⟩:=h
 obtain ⟨u,rfl,ru⟩:=DE r
 cases ru
 refine call_sum_walkG (GS I (A:=X.A.in1) (I.ok.hd hc) hq fun its I' fp wr St' s2 rv W st hfp _ _ _ _ hI=>?_)
 refine ⟨_,_,_,_,_,_,fun i=>ns.getD i 0,rfl,W,st,hfp,(fun i v hv=>(Cc rv hv).imp fun t e=>e.1),fun h' tk t' hk=>?_⟩
 have hlen:its.toArray.size=ns.length:=by rw[List.size_toArray,<- rv.length,List.length_map]
 refine ⟨.int _,H,hI h' tk hk,⟨t',rfl⟩,?_⟩
 have e:preSum (fun i=>ns.getD i 0) its.toArray.size=ns.sum:= by
  rw[hlen]
  have gen : ∀ n,n<=ns.length->preSum (fun i=>ns.getD i 0) n=(ns.take n).sum:= by
   intro n
   induction n with
   | zero=>intro _;rfl
   | succ n ih=>
    intro hn
    have e1:preSum (fun i=>ns.getD i 0) (n+1)=preSum (fun i=>ns.getD i 0) n+ns.getD n 0:=rfl
    have hn':n<ns.length:=hn
    have e2:ns.take (n+1)=ns.take n++[ns[n]]:=by simp
    rw[e1,ih (by omega),e2,List.getD_eq_getElem?_getD,List.getElem?_eq_getElem hn',List.sum_append]
    simp
  rw[gen _ (Nat.le_refl _),List.take_length]
 rw[e];exact q
end
end L2
namespace L2
open PySem PySem.Spec PyProof.Rows
section
variable {prog:Program} {w:World} {A:Around} {E:Value->Shared->Prop} {s:Shared}
theorem Jz {t:Addr} {items:Array Value} {Q:Bool->Shared->Prop} (ht:IsTup s.heap t items) (h:Q true s):wpAny (model prog w) A (Builtin.Tuple.tupleIsExact (.ref t)) Q E s:= by
 unfold Builtin.Tuple.tupleIsExact
 exact wpAny_bind (wpAny_typeOf ht.typeIs (wpAny_pure h))
theorem ED {t sl:Addr} {items:Array Value} {vl vu:Value} {lo hi:Option Int} {Q:Value->Shared->Prop} (ht:IsTup s.heap t items) (hs:s.heap.IsSliceOf sl vl vu .none) (pl:IsPart vl lo) (pu:IsPart vu hi)
  (hw:HT.sIx items.size 0 lo=0/\HT.sIx items.size items.size hi=items.size) (h:Q (.ref t) s):wpAny (model prog w) A (getItem (.ref t) (.ref sl)) Q E s:= by
 obtain ⟨os,hos,hcs,hds⟩:=id hs
 have hTs : s.TypeIs (.ref sl) "slice":=⟨os,hos,hcs⟩
 unfold getItem
 try with_reducible refine wpAny_holding ?_
 first | refine wpAny_bind (wpAny_pure ?_) | skip
 refine wpAny_bind (wpAny_sequenceKey ht.typeIs (by decide) ?_)
 refine wpAny_bind (wpAny_callSpecial?_slot (name:=Str.ofString "__getitem__") ht.typeIs PyProof.Rows.slot_tuple_getitem
  (wpAny_call_entry PyProof.Rows.slot_tuple_getitem ht.typeIs entry_tuple_getitem ?_ (args_tuple_getitem _ _)))
 show wpAny _ _ (Builtin.Tuple.tupleItemsOf (.ref t) >>= _) _ _ s
 refine wpAny_bind (tupleItemsOf_ ht ?_)
 refine wpAny_bind (wpAny_typeOf hTs ?_)
 rw[if_pos (by decide)]
 refine wpAny_bind (HT.sliceApplied_gen hs pl pu ?_)
 have hyes:((((HT.sIx items.size 0 lo:Nat):Int)==0&&(1:Int)==1&&(HT.sIx items.size items.size hi-HT.sIx items.size 0 lo)==items.size)=true):= by
  rw[hw.1,hw.2];simp
 show wpAny _ _ (if (((HT.sIx items.size 0 lo:Nat):Int)==0&&(1:Int)==1&&(HT.sIx items.size items.size hi-HT.sIx items.size 0 lo)==items.size)=true then _ else _) _ _ s
 rw[if_pos hyes]
 refine wpAny_bind (Jz ht ?_)
 rw[if_pos rfl]
 exact wpAny_bind (wpAny_rule (wpAny_bind (wpAny_pure (wpAny_pure ⟨_,rfl,wpAny_pure h⟩))))
end
section
variable {X:Cx}
theorem Pn:SlR X (fun x lo hi H Q=>∃ a xs,x = .ref a/\SqT X.K H a xs /\ ∀ p H',Ak H H'->SqT X.K H' p (Fd xs lo hi)->Q (.ref p) H'):= by
 intro pins s σ H x v vl vu lo hi sl Q I rx hs pl pu h
 obtain ⟨a,xs,rfl,hx,q⟩:=h
 by_cases hw:HT.sIx xs.length 0 lo=0/\HT.sIx xs.length xs.length hi=xs.length
 ·cases rx
  obtain ⟨its,r,ht,hz⟩:=I.tuple hx
  have hlen:its.toArray.size=xs.length:=by rw[List.size_toArray];exact r.length.symm
  refine ⟨"tuple",_,PyProof.Rows.slot_tuple_getitem.lookup,ht.typeIs,?_⟩
  refine ED ht hs pl pu (by rw[hlen];exact hw) ⟨.ref a,H,I,rfl,q a H (Ak.refl H) ?_⟩
  have e:Fd xs lo hi=xs:=by unfold Fd;rw[hw.1,hw.2];simp
  rw[e];exact hx
 ·exact Q8 pins s σ H _ v vl vu lo hi sl Q I rx hs pl pu ⟨a,xs,rfl,hx,hw,fun p hp=>q p _ (Ak.new hp) (SqT.of Ab)⟩
end
section
variable {X:Cx}
theorem Ip {prog:Program} {w:World} {A:Around} {E:Value->Shared->Prop} {it t:Addr} {items:Array Value} (hne:t≠it) : ∀ (n i:Nat) (s:Shared) (Q:List Value->Shared->Prop),s.heap.IsListIter it t i->s.heap.IsList t items->i+n<=items.size ->
  (∀ h',h'.IsListIter it t (i+n)->Heap.SameBut it s.heap h'->Q ((items.toList.drop i).take n) { s with heap:=h' })->wpAny (model prog w) A (draw (.ref it) n) Q E s
 | 0,i,s,Q,hit,_,_,hQ=>by
  show wpAny _ _ (pure []) Q E s
  exact wpAny_pure (by simpa using hQ s.heap hit (Heap.SameBut.refl ..))
 | n+1,i,s,Q,hit,ht,hle,hQ=>by
  have hlt:i<items.size:=by omega
  show wpAny _ _ (pyNext (.ref it) >>= _) Q E s
  refine wpAny_bind (wpAny_pyNext_list_item hit ht (x:=items[i]) (by simp [hlt]) fun h₁ hit₁ hs₁=>?_)
  refine wpAny_bind (wpAny_holding (Ip hne n (i+1) _ _ hit₁ (ht.extBut hs₁.extBut hne) (by omega) fun h₂ hit₂ hs₂=>wpAny_pure ?_))
  have hd:items.toList.drop i=items[i]::items.toList.drop (i+1):=by simp [List.drop_eq_getElem_cons,hlt]
  have:=hQ h₂ (by rw[show i+(n+1)=i+1+n by omega];exact hit₂) (hs₁.trans hs₂)
  rw[hd,List.take_succ_cons] at this
  exact this
theorem EV {prog:Program} {w:World} {A:Around} {E:Value->Shared->Prop} {s:Shared} {t:Addr} {items:Array Value} {Q:List Value->Shared->Prop} (hh:A.handled=none) (ht:s.heap.IsList t items)
  (hQ : ∀ h',Heap.ExtBut s.heap.objs.size s.heap h'->Q items.toList { s with heap:=h' }):wpAny (model prog w) A (unpackItems (.ref t) items.size none) Q E s:= by
 have hlt:t≠s.heap.objs.size:=by obtain ⟨o,ho,_⟩:=ht;exact Nat.ne_of_lt (Heap.lt_size ho)
 unfold unpackItems
 refine wpAny_bind ?_
 unfold notIterableAtAll
 refine wpAny_bind (wpAny_specialOf ht.typeIs slot_list_iter.lookup ?_)
 refine wpAny_pure ?_
 simp only [Bool.false_eq_true,if_false]
 refine wpAny_bind (wpAny_holding (wpAny_pyIter_list ht ?_))
 refine wpAny_bind (wpAny_holding (Ip hlt items.size 0 _ _ ⟨_,Heap.get?_push_size _ rfl,rfl,rfl⟩ (ht.push _) (by omega) fun h₁ hit₁ hs₁=>?_))
 have hall:List.take items.size (List.drop 0 items.toList)=items.toList:= by
  rw[List.drop_zero];exact List.take_of_length_le (by simp)
 rw[hall]
 rw[if_neg (by simp)]
 have ht₁:h₁.IsList t items:=(ht.push _).extBut hs₁.extBut hlt
 refine wpAny_bind (wpAny_holding (wpAny_pyNext_list_end hh hit₁ ht₁ (by simp) fun h₂ he₂=>?_))
 simp only [Option.isSome_none,Bool.false_eq_true,if_false]
 refine wpAny_pure (hQ h₂ fun b o hb e=>he₂ b o hb (hs₁.extBut b o hb (Heap.get?_push_of_some _ e)))
def SC (K:PySem.W.Frag) (n:Nat) (t:TGs):TG:=fun v σ H Q=>∃ a xs,v = .ref a/\SqL K H a xs/\xs.length=n/\t xs σ H Q
theorem Oq {es:List Expr} {k:Nat} {t:TGs} {n:Nat} {pos:Pos} (hc:X.calm=true) (h:PGs X es t)
  (hn:(assignEach es X.env).length=n:=by rfl) (hst:(assignEach es X.env).findIdx? (·.1)=none:=by rfl):PG X (.Tuple es k pos) (SC X.K n t):= by
 intro pins s σ H v u Q I r hw
 obtain ⟨a,xs,e1,hq,hl,hw⟩:=hw
 subst e1
 cases r
 obtain ⟨its,rv,ht,hz⟩:=I.list hq
 rw[assign_Tuple]
 refine wpAny_bind (wpAny_standAt ?_)
 unfold unpack
 rw[show (assignEach es X.env).length=its.toArray.size by rw[hn,<- hl,rv.length,List.size_toArray],hst]
 refine wpAny_bind (wpAny_holding (EV (I.ok.hd hc) ht.isList fun h' hx=>?_))
 have I1:Inv X pins σ H { s with heap:=h' }:=I.kept (t':=s.toks) fun b o e=>hx b o (Nat.ne_of_lt (Heap.lt_size e)) e
 exact h pins _ σ H xs _ Q I1 (by simpa using rv) hw
end
end L2
namespace L2
open PySem PySem.Spec PyProof.Rows
def QF (N N':List Str) (M:List (Option Nat)) (sc osc:Scope):Bool:=
 (sc.kind == .function)&&(N'.length==M.length)&&(sc.names.all fun y=>y.2 != NameKind.cell)&&(sc.names.all fun y=>y.2 != NameKind.local||sc.names.lookup y.1==some NameKind.local) &&
 (sc.names.all fun y=>y.2 != NameKind.free||(osc.names.lookup y.1==some NameKind.cell||osc.names.lookup y.1==some NameKind.free)) &&
 ((N'.zip M).all fun p=>match p.2 with | none=>true | some j=>N[j]?==some p.1&&sc.names.lookup p.1==some NameKind.free)
theorem Rr {a b:NameKind} (h:(a==b)=true):a=b:= by
 cases a <;> cases b <;> first | rfl | exact absurd h (by decide)
theorem JR {a:Option NameKind} {b:NameKind} (h:(a==some b)=true):a=some b:= by
 cases a with
 | none=>exact absurd h (by cases b <;> decide)
 | some x=>rw[Rr (show (x==b)=true from h)]
theorem OQ {a b:NameKind} (h:(a != b)=true):a≠b:= by
 cases a <;> cases b <;> first | (intro z;cases z;done) | exact absurd h (by decide)
theorem Ct {N N':List Str} {M:List (Option Nat)} {sc osc:Scope} (h:QF N N' M sc osc=true):M3 N N' M sc osc:= by
 unfold QF at h
 simp only [Bool.and_eq_true] at h
 obtain ⟨⟨⟨⟨⟨h1,h2⟩,h3⟩,h4⟩,h5⟩,h6⟩:=h
 have hl:N'.length=M.length:=by simpa using h2
 refine ⟨?_,hl,fun y hy=>OQ (List.all_eq_true.mp h3 y hy),fun y hy hk=>?_,fun y hy hk=>?_,fun i j e=>?_⟩
 ·revert h1;cases sc.kind <;> intro h1 <;> first | rfl | exact absurd h1 (by decide)
 ·have q:=List.all_eq_true.mp h4 y hy
  rw[Bool.or_eq_true] at q
  rcases q with q | q
  ·exact absurd hk (OQ q)
  ·exact JR q
 ·have q:=List.all_eq_true.mp h5 y hy
  rw[Bool.or_eq_true,Bool.or_eq_true] at q
  rcases q with q | q | q
  ·exact absurd hk (OQ q)
  ·exact .inl (JR q)
  ·exact .inr (JR q)
 ·have hi:i<M.length:=(List.getElem?_eq_some_iff.mp e).1
  have hi':i<N'.length:=by rw[hl];exact hi
  have em:(N'[i],some j) ∈ N'.zip M:= by
   refine List.mem_iff_getElem?.mpr ⟨i,?_⟩
   rw[List.getElem?_zip_eq_some]
   exact ⟨List.getElem?_eq_getElem hi',e⟩
  have q:=List.all_eq_true.mp h6 _ em
  simp only [Bool.and_eq_true] at q
  exact ⟨N'[i],List.getElem?_eq_getElem hi',by simpa using q.1,JR q.2⟩
section
variable {K:PySem.W.Frag} {a:Addr} {xs:List V} {M:List (Option Nat)} {σ:St} {g:TG} {tc:TT} {te:TE} {F:List V->Hp->Prop} {H:Hp}
abbrev LM (J:It) (M:List (Option Nat)) (σ:St) (g:TG) (tc:TT) (te:TE) (F:List V->Hp->Prop) (H1:Hp):Prop:=
 ∃ W:Nat->Nat->List V->Hp->Prop,(∃ m,W 0 m [] H1) /\ ∀ i m ys H,W i m ys H->ys.length<=sizeLine /\
  ((J.stop i H/\F ys H)\/(J.go i H/\ys.length<sizeLine /\ ∃ N:List V->Hp->Prop,(∀ ys' H',N ys' H' -> ∃ m',m'<m/\W (i+1) m' ys' H') /\ ∀ x H',J.yld i H x H'->g x (Et M σ) H' fun σ2 H2=>tc σ2 H2 fun b H3=>
   if b=true then te σ2 H3 fun v H4=>N (ys++[v]) H4 else N ys H3))
theorem Ez (Pv:Nat->List V->Hp->Prop) (hz:xs.length<=sizeLine) (h0:Pv 0 [] H) (hl : ∀ i ys H,i<=xs.length->Pv i ys H->SqL K H a xs/\ys.length<=i)
  (hs : ∀ i x ys H,xs[i]?=some x->Pv i ys H->g x (Et M σ) H fun σ2 H2=>tc σ2 H2 fun b H3=>if b=true then te σ2 H3 fun v H4=>Pv (i+1) (ys++[v]) H4 else Pv (i+1) ys H3)
  (hd : ∀ ys H,Pv xs.length ys H->F ys H):LM (Itl K a) M σ g tc te F H:= by
 refine ⟨fun i m ys H=>m=xs.length-i/\i<=xs.length/\Pv i ys H,⟨xs.length,by simp,Nat.zero_le _,h0⟩,?_⟩
 rintro i m ys H ⟨rfl,hi,p⟩
 obtain ⟨q,hy⟩:=hl i ys H hi p
 refine ⟨by omega,?_⟩
 by_cases hlt:i<xs.length
 ·refine .inr ⟨⟨xs,xs[i],q,by simp [hlt]⟩,by omega,Pv (i+1),fun ys' H' p'=>⟨xs.length-(i+1),by omega,rfl,hlt,p'⟩,fun x H' y=>?_⟩
  obtain ⟨e,y⟩:=y
  subst e
  exact hs i x ys _ (y xs q) p
 ·have e:i=xs.length:=by omega
  subst e
  exact .inl ⟨⟨xs,q,Nat.le_refl _⟩,hd ys H p⟩
theorem NJ {lo:Int} {n:Nat} (Pv:Nat->List V->Hp->Prop) (hz:n<=sizeLine) (h0:Pv 0 [] H) (hl : ∀ i ys H,i<=n->Pv i ys H->ys.length<=i)
  (hs : ∀ i ys H,i<n->Pv i ys H->g (.int (lo+i)) (Et M σ) H fun σ2 H2=>tc σ2 H2 fun b H3=>if b=true then te σ2 H3 fun v H4=>Pv (i+1) (ys++[v]) H4 else Pv (i+1) ys H3)
  (hd : ∀ ys H,Pv n ys H->F ys H):LM (Itr lo n) M σ g tc te F H:= by
 refine ⟨fun i m ys H=>m=n-i/\i<=n/\Pv i ys H,⟨n,by simp,Nat.zero_le _,h0⟩,?_⟩
 rintro i m ys H ⟨rfl,hi,p⟩
 have hy:=hl i ys H hi p
 refine ⟨by omega,?_⟩
 by_cases hlt:i<n
 ·refine .inr ⟨hlt,by omega,Pv (i+1),fun ys' H' p'=>⟨n-(i+1),by omega,rfl,hlt,p'⟩,fun x H' y=>?_⟩
  obtain ⟨e,y⟩:=y
  subst e y
  exact hs i ys _ hlt p
 ·have e:i=n:=by omega
  subst e
  exact .inl ⟨Nat.le_refl _,hd ys H p⟩
end
structure Cal (P:Program) (w:World) (K:PySem.W.Frag) (mg:Str->Option Value) (base:Heap) (k:Nat) (x:Str) (dvs:List V) (sp:Sp):Prop where
 ex : ∃ f fd ps ds,Bv P w K mg base CX0 k f fd ps sp/\mg x=some (.ref f)/\PySem.W.keepIn K (.ref f)=true/\DD K fd ps ds/\Bf dvs ds
theorem A7 {X : Cx} {k : Nat} {x : Str} {dvs : List V} {sp : Sp} {e : Expr} {es : List Expr} {t : TA} {p pos : Pos} (c : Cal X.prog X.w X.K X.mg X.base k x dvs sp) (hr : Cw k X.A) (hg : Gl X x) (ha : PA X (e :: es) t) (hd : (x == ("__debug__" : Str)) = false:=by decide)
  (he:starEach (e::es) X.env=(false,eval e X.env)::starEach es X.env:=by rfl) (hpl:(backTo pos (starEach es X.env)).any (·.1)=false:=by rfl) :
  PE X (.Call (.Name x p) (e::es) [] pos) (PF sp dvs E0 t):= by
 obtain ⟨f,fd,ps,ds,F,hm,hk,hb,hv⟩:=c.ex
 exact Lu F hr hg hm hk hb hv Nn ha hd he hpl
end L2
namespace L2
open PySem
abbrev Fv:List Int->List Int->Prop:=Paired fun l r=>0<=r/\r<l
def OJ (l:Int):Prop:=0<l/\l.natAbs.log2<9000
def JQ (K:PySem.W.Frag):Sp:=fun vs H Q _=>∃ (c:Int) (a:Addr) (ls:List Int),vs=[.int c,.ref a]/\SqL K H a (ls.map V.int)/\(∀ l ∈ ls,OJ l)/\ls.length<=1000 /\
 ∀ (p:Addr) (rs:List Int) (H':Hp),H p=none->Ak H H'->H' p=some (.lst (rs.map V.int))->Fv ls rs->Q (.ref p) H'
def L9 (K:PySem.W.Frag):Sp:=fun vs H Q _=>∃ (a:Addr) (ns:List Int) (k:Int),vs=[.ref a,.int k]/\SqL K H a (ns.map V.int)/\0<=k/\k<=1000/\ns.length<=1000 /\ ∀ z,Q (.int z) H
def LX (K:PySem.W.Frag):Sp:=fun vs H Q _=>∃ (a:Addr) (ns:List Int) (f:Int),vs=[.ref a,.int f]/\SqL K H a (ns.map V.int) /\ ∀ z,f<=z->(z<=63\/z=f)->Q (.int z) H
def Hi:Sp:=fun vs H Q _=>∃ (c n:Int) (w:Int),vs=[.int c,.int n,.int w]/\0<=n/\n<=100/\0<=w/\w<=2 /\
 ∀ (p:Addr) (rs:List Int) (H':Hp),H p=none->Ak H H'->H' p=some (.lst (rs.map V.int))->rs.length=n.toNat->Q (.ref p) H'
def B3:Int->List Int->Bool
 | _,[]=>true
 | f,w::r=>decide (0<=w)&&decide (w<=f)&&B3 (if w=f then f+1 else f) r
def FW (ns:List Int):Bool:=decide (1<=ns.length)&&decide (ns.length<=9)&&B3 0 ns
theorem Nf {ns:List Int} {i:Nat} {y:V} (h:(ns.map V.int)[i]?=some y) : ∃ z,y=V.int z/\ns[i]?=some z/\i<ns.length:= by
 rw[List.getElem?_map] at h
 cases e:ns[i]? with
 | none=>rw[e] at h;cases h
 | some z=>rw[e] at h;exact ⟨z,(Option.some.inj h).symm,rfl,(List.getElem?_eq_some_iff.mp e).1⟩
theorem Qb {ns:List Int} {z:Int}:ns.map V.int++[V.int z]=(ns++[z]).map V.int:=by rw[List.map_append];rfl
theorem So:(sizeLine:Nat)=16777216:=by decide
theorem Ah {n:Nat} (h:n<=16777216):n<=sizeLine:=by rw[So];exact h
theorem BX {n:Nat} (h:n<16777216):n<sizeLine:=by rw[So];exact h
theorem ltm (l:List Int):(l.map V.int).length=l.length:=List.length_map ..
theorem La {ls rs:List Int} {l r:Int} (h:Fv ls rs) (h1:0<=r) (h2:r<l):Fv (ls++[l]) (rs++[r]):=Paired.snoc h ⟨h1,h2⟩
theorem Aw {α:Type} {l:List α} {i:Nat} {x:α} (h:l[i]?=some x):l.take (i+1)=l.take i++[x]:= by
 rw[List.take_add_one,h];rfl
theorem Lh (z:Int) {l:Int} (h:0<l):0<=z % l/\z % l<l:=⟨Int.emod_nonneg _ (Int.ne_of_gt h),Int.emod_lt_of_pos _ h⟩
theorem p0 {n:Nat}:(0:Int)<((n+1:Nat):Int):=Int.natCast_pos.mpr (Nat.succ_pos n)
theorem Qu {c:Prop} [Decidable c] {ta tb:TE} {σ:St} {H:Hp} {Q:VK} (P:Int->Prop) (h : ∀ r,P r->Q (.int r) H) (ha : ∀ Q':VK,(∀ r,P r->Q' (.int r) H)->ta σ H Q') (hb : ∀ Q':VK,(∀ r,P r->Q' (.int r) H)->tb σ H Q'):if c then ta σ H Q else tb σ H Q:= by
 split
 ·exact ha _ h
 ·exact hb _ h
end L2
namespace L2
open PySem PySem.Spec PyProof.Rows
structure P6 (K:PySem.W.Frag) (x qual:Str) (st:Stmt) (f:Addr) (fd:FuncData) (ds:List Value):Prop where
 ex : ∃ (oc:Value) (od:Option Addr) (T:Addr) (oT:Obj) (nT:Nat) (kV doc pm:Value) (an:Option Addr) (cdv ct:Value) (osl:Array (Option Value)),
  fd=PySem.W.fnOf x qual (Am st) (Al st) (Ae st) (.ref T) kV doc pm an cdv ct/\K.lookup f=some ⟨oc,od,.func fd,osl⟩/\PySem.W.codeIn K cdv qual=true/\K.lookup T=some oT/\oT.data = .seq ds.toArray nT
 kp:PySem.W.keepIn K (.ref f)=true
section
variable {P:Program} {w:World} {K:PySem.W.Frag} {mg:Str->Option Value} {base:Heap}
theorem P6.ok {x qual:Str} {st:Stmt} {f:Addr} {fd:FuncData} {ds:List Value} {N ps:List Str} {k:Nat} {sp:Sp} (F:P6 K x qual st f fd ds) (S:Ap N ps (Ae st)) (len : ∀ vs H Q E,sp vs H Q E->vs.length=ps.length)
  (hbody : ∀ (cdv:Value) (A:Around) (outer:List Env) (s:Shared) (H:Hp) (vs:List V) (Q:VK) (E:XK),Cw k (A.deeper (envOfC qual (Ae st) s.heap.objs.size f cdv))->sp vs H Q E ->
   ∃ t,PSs (M4 CX0 P w K mg base N qual (Ae st) f cdv A outer s H E).nox (Al st) t/\t { nx:=fun _ H'=>Q .non H',rt:=Q } (FH N vs) H):Bv P w K mg base CX0 (k+1) f fd ps sp:= by
 obtain ⟨oc,od,T,oT,nT,kV,doc,pm,an,cdv,ct,osl,rfl,lk,hcd,_,_⟩:=F.ex
 refine Nk lk hcd S len fun A outer s H vs Q E hr hsp=>?_
 obtain ⟨t,h,q⟩:=hbody cdv A outer s H vs Q E hr hsp
 exact ⟨t,h.nox,q⟩
theorem P6.binds {x qual:Str} {st:Stmt} {f:Addr} {fd:FuncData} {ds es:List Value} {ps:List Str} (F:P6 K x qual st f fd ds)
  (h : ∀ (T:Addr) (kV doc pm:Value) (an:Option Addr) (cdv ct:Value) (us:List Value),(us++es).length=ps.length -> ∃ kk,bindArgs (PySem.W.fnOf x qual (Am st) (Al st) (Ae st) (.ref T) kV doc pm an cdv ct) ⟨us,[]⟩=seqItems? (.ref T) >>= kk/\kk (some ds.toArray)=pure (ps.zip (us++es))):DD K fd ps es:= by
 obtain ⟨oc,od,T,oT,nT,kV,doc,pm,an,cdv,ct,osl,rfl,lk,hcd,lT,dT⟩:=F.ex
 intro s us KX hl
 obtain ⟨kk,e1,e2⟩:=h T kV doc pm an cdv ct us hl
 exact BindsTo.of_defaults rfl (KX _ _ lT) dT e1 e2
theorem Pw {x qual:Str} {st:Stmt} {f T:Addr} {oT:Obj} {nT:Nat} {ds:List Value} {oc:Value} {od an:Option Addr} {osl:Array (Option Value)} {kV doc pm cdv ct:Value} (l:K.lookup f=some ⟨oc,od,.func (PySem.W.fnOf x qual (Am st) (Al st) (Ae st) (.ref T) kV doc pm an cdv ct),osl⟩)
  (c:PySem.W.codeIn K cdv qual=true) (k:PySem.W.keepIn K (.ref f)=true) (lT:K.lookup T=some oT) (dT:oT.data = .seq ds.toArray nT):P6 K x qual st f (PySem.W.fnOf x qual (Am st) (Al st) (Ae st) (.ref T) kV doc pm an cdv ct) ds:=⟨⟨oc,od,T,oT,nT,kV,doc,pm,an,cdv,ct,osl,rfl,l,c,lT,dT⟩,k⟩
theorem Fun.cal {x:Str} {qual:Str} {st:Stmt} {f:Addr} {fd:FuncData} {ps:List Str} {k:Nat} {sp:Sp} (F:Fun K x qual st f fd) (G:Bv P w K mg base CX0 k f fd ps sp) (hm:mg x=some (.ref f))
  (h : ∀ (kV doc pm:Value) (an:Option Addr) (cdv ct:Value) (us:List Value),us.length=ps.length->bindArgs (PySem.W.fnOf x qual (Am st) (Al st) (Ae st) .none kV doc pm an cdv ct) ⟨us,[]⟩=pure (ps.zip us)):Cal P w K mg base k x [] sp:=
 ⟨f,fd,ps,[],G,hm,F.kp,F.binds h,.nil⟩
end
end L2
namespace L2
open PySem
def fresh (f:Int) (xs:List Int):Int:=xs.foldl (fun f w=>if w=f then f+1 else f) f
theorem Dw (f:Int) (xs:List Int) (z:Int):fresh f (xs++[z])=if z=fresh f xs then fresh f xs+1 else fresh f xs:= by
 unfold fresh;rw[List.foldl_append];rfl
theorem Dr : ∀ (xs:List Int) (f z:Int),B3 f (xs++[z])=(B3 f xs&&(decide (0<=z)&&decide (z<=fresh f xs)))
 | [],f,z=>by
  show (decide (0<=z)&&decide (z<=f)&&true)=(true&&_)
  rw[Bool.and_true,Bool.true_and];rfl
 | w::r,f,z=>by
  show (decide (0<=w)&&decide (w<=f)&&B3 (if w=f then f+1 else f) (r++[z]))=((decide (0<=w)&&decide (w<=f)&&B3 (if w=f then f+1 else f) r)&&_)
  rw[Dr r,Bool.and_assoc,Bool.and_assoc,Bool.and_assoc];rfl
theorem Cj {α:Type} {P:List α->Prop} (h0:P []) (h1 : ∀ xs z,P xs->P (xs++[z])) (l:List α):P l:= by
 have : ∀ n (l:List α),l.length=n->P l:= by
  intro n
  induction n with
  | zero=>intro l e;rw[List.length_eq_zero_iff.mp e];exact h0
  | succ n ih=>
   intro l e
   have hl:l≠[]:=by rintro rfl;simp at e
   rw[<- List.dropLast_concat_getLast hl]
   exact h1 _ _ (ih _ (by rw[List.length_dropLast,e];rfl))
 exact this _ l rfl
theorem D4 (xs:List Int):B3 0 xs=true->LZ (-1::xs) (fresh 0 xs-1):= by
 refine Cj (P:=fun xs=>B3 0 xs=true->LZ (-1::xs) (fresh 0 xs-1)) ?_ ?_ xs
 ·intro _
  exact ⟨by simp [fresh],fun a ha=>by simp at ha;simp [fresh,ha]⟩
 ·intro xs z ih h
  rw[Dr,Bool.and_eq_true,Bool.and_eq_true] at h
  obtain ⟨h1,h2,h3⟩:=h
  have h2:=of_decide_eq_true h2
  have h3:=of_decide_eq_true h3
  obtain ⟨i1,i2⟩:=ih h1
  rw[Dw]
  by_cases e:z=fresh 0 xs
  ·rw[if_pos e]
   refine ⟨by rw[e];simp,fun a ha=>?_⟩
   rcases List.mem_cons.mp ha with q | q
   ·omega
   ·rcases List.mem_append.mp q with q | q
    ·have:=i2 a (List.mem_cons_of_mem _ q);omega
    ·rw[List.mem_singleton.mp q];omega
  ·rw[if_neg e]
   refine ⟨?_,fun a ha=>?_⟩
   ·rcases List.mem_cons.mp i1 with q | q
    ·rw[q];exact List.mem_cons_self
    ·exact List.mem_cons_of_mem _ (List.mem_append_left _ q)
   ·rcases List.mem_cons.mp ha with q | q
    ·rw[q];exact i2 _ List.mem_cons_self
    ·rcases List.mem_append.mp q with q | q
     ·exact i2 a (List.mem_cons_of_mem _ q)
     ·rw[List.mem_singleton.mp q];omega
theorem L7 {xs:List Int} (h:B3 0 xs=true) (hne:xs≠[]):1<=fresh 0 xs/\LZ xs (fresh 0 xs-1):= by
 obtain ⟨i1,i2⟩:=D4 xs h
 cases xs with
 | nil=>exact absurd rfl hne
 | cons w r=>
  have hw:0<=w:= by
   have h':(decide (0<=w)&&decide (w<=0)&&B3 (if w=0 then 0+1 else 0) r)=true:=h
   rw[Bool.and_eq_true,Bool.and_eq_true] at h'
   exact of_decide_eq_true h'.1.1
  have:=i2 w (by simp)
  refine ⟨by omega,?_,fun a ha=>i2 a (List.mem_cons_of_mem _ ha)⟩
  rcases List.mem_cons.mp i1 with q | q
  ·omega
  ·exact q
end L2
namespace L2
open PySem
theorem Hh (xs:List V) (k:Nat):Fd xs none (some (k:Int))=xs.take k:= by
 unfold Fd
 rw[HT.sIx_none,HT.sIx_nat,List.drop_zero,Nat.sub_zero]
 by_cases h:k<=xs.length
 ·rw[Nat.min_eq_left h]
 ·rw[Nat.min_eq_right (by omega),List.take_of_length_le (Nat.le_refl _),List.take_of_length_le (by omega)]
theorem Kc (xs:List V) (k:Nat):Fd xs (some (k:Int)) none=xs.drop k:= by
 unfold Fd
 rw[HT.sIx_none,HT.sIx_nat]
 by_cases h:k<=xs.length
 ·rw[Nat.min_eq_left h,List.take_of_length_le (by rw[List.length_drop];exact Nat.le_refl _)]
 ·rw[Nat.min_eq_right (by omega),List.drop_of_length_le (Nat.le_refl _),List.drop_of_length_le (by omega)]
  simp
theorem Iq (ns:List Int) (k:Nat):Fd (ns.map V.int) (some (k:Int)) none=(ns.drop k).map V.int:=by rw[Kc,List.map_drop]
theorem Pi {ns:List Int} {i:Int} {z:Int} (h0:0<=i) (h:ns[i.toNat]?=some z):atI (ns.map V.int) i=some (V.int z):= by
 have:=Es (xs:=ns.map V.int) (j:=i.toNat) (v:=V.int z) (by rw[List.getElem?_map,h];rfl)
 rw[Int.toNat_of_nonneg h0] at this
 exact this
theorem GI {ns:List Int} {i:Int} (h0:0<=i) (h1:i<ns.length):atI (ns.map V.int) i=some (V.int (ns.getD i.toNat 0)):= by
 refine Pi h0 ?_
 have:i.toNat<ns.length:=by omega
 rw[List.getElem?_eq_getElem this,List.getD_eq_getElem?_getD,List.getElem?_eq_getElem this];rfl
theorem Fv.uncons {l:Int} {ls rs:List Int} (h:Fv (l::ls) rs) : ∃ r rs',rs=r::rs'/\0<=r/\r<l/\Fv ls rs':= by
 cases h with
 | cons h t=>exact ⟨_,_,rfl,h.1,h.2,t⟩
end L2
namespace L2
open PySem PySem.Spec PyProof.Rows
section
variable {X:Cx} {K:PySem.W.Frag}
theorem Ar (h:X.K=K:=by rfl):IxR X (Sg K):=by subst h;exact Pt
theorem AU (h:X.K=K:=by rfl):IxR X (Sq K):=by subst h;exact Qy
theorem DY (h:X.K=K:=by rfl):SlR X (Sm K):=by subst h;exact Pp
theorem JA (h:X.K=K:=by rfl):SlR X (fun x lo hi H Q=>∃ a xs,x = .ref a/\SqT K H a xs /\ ∀ p H',Ak H H'->SqT K H' p (Fd xs lo hi)->Q (.ref p) H'):=by subst h;exact Pn
theorem Ov (h:X.K=K:=by rfl):OpR X (compareOp .In) (rIn K false):=by subst h;exact Mv
theorem Ii (h:X.K=K:=by rfl):OpR X (compareOp .NotIn) (rIn K true):=by subst h;exact II
theorem Br (h : X.K = K:=by rfl) : BW X (.builtin "len") (fun xs H Q=>∃ p ys,xs = [.ref p] /\ (SqL K H p ys \/ SqT K H p ys) /\ Q (.int ys.length) H):=by subst h; exact Ig
theorem QP (hc : X.calm = true:=by rfl) (h : X.K = K:=by rfl) : BW X (.builtin "max") (fun xs H Q=>∃ (a : Addr) (ns : List Int),xs = [.ref a] /\ (SqL K H a (ns.map V.int) \/ SqT K H a (ns.map V.int)) /\ ns ≠ [] /\ ∀ m,LZ ns m -> Q (.int m) H):=by subst h; exact LF hc
theorem QM (hc : X.calm = true:=by rfl) (h : X.K = K:=by rfl) : BW X (.builtin "sum") (fun xs H Q=>∃ (a : Addr) (ns : List Int),xs = [.ref a] /\ (SqL K H a (ns.map V.int) \/ SqT K H a (ns.map V.int)) /\ Q (.int ns.sum) H):=by subst h; exact LW hc
theorem JT (h : X.K = K:=by rfl) : BW X (.type "tuple") (fun xs H Q=>∃ p ys,xs = [.ref p] /\ ((SqL K H p ys /\ ∀ l,H l = none -> Q (.ref l) (upd H l (.tup ys))) \/ (SqT K H p ys /\ Q (.ref p) H))):=by subst h; exact G0
theorem Pf (h : X.K = K:=by rfl) : BW X (.type "list") (fun xs H Q=>∃ p ys,xs = [.ref p] /\ (SqL K H p ys \/ SqT K H p ys) /\ ∀ l,H l = none -> Q (.ref l) (upd H l (.lst ys))):=by subst h; exact HY
theorem LP (hc : X.calm = true:=by rfl) : BW X (.builtin "max") (fun xs H Q=>∃ i j,xs = [.int i,.int j] /\ Q (.int (if j > i then j else i)) H):=Mt hc
theorem IN (hc : X.calm = true:=by rfl) : BW X (.builtin "min") (fun xs H Q=>∃ i j,xs = [.int i,.int j] /\ Q (.int (if j < i then j else i)) H):=Lq hc
theorem AN {tg l:Expr} {tl:TE} (hl:PE X l tl) (h:X.K=K:=by rfl):PI X tg l (Qd K tl):=by subst h;exact Py hl
end
theorem Fa {a b:Int} (h:(decide (Builtin.Int.intBits a<=2 ^ 20)&&decide (Builtin.Int.intBits b<=2 ^ 20))=true):IntMulOk a b:= by
 rw[Bool.and_eq_true] at h
 exact IntMulOk.of_bits (of_decide_eq_true h.1) (of_decide_eq_true h.2)
theorem lcN {i:Nat} {x:V} {te:TE} {σ:St} {H:Hp} {N:V->Hp->Prop} {N':Hp->Prop} (h:te (σ.set i (some x)) H N):Go i x σ H fun σ2 H2=>Rk σ2 H2 fun b H3=>if b=true then te σ2 H3 N else N' H3:= by
 show if true=true then te (σ.set i (some x)) H N else N' H
 rw[if_pos rfl];exact h
end L2
namespace L2
open PySem PySem.Spec PyProof.Rows
def CXE (P:Program) (w:World):CXT:=fun outer H s E e s'=>∃ (ea:Addr) (cls:Value) (H':Hp) (B:Heap),e = .ref ea/\s'.os=s.os/\AllBare s'.gens/\Un (frs outer) [] H H' s.heap s'.heap/\HOk P w H' s'.heap /\
 (∃ a0,Heap.FlyingW B outer ea cls a0 s'.heap)/\(∀ b o u,s'.heap.get? b=some o->H' b=some u->B.get? b=some o)/\(∀ b o,s.heap.get? b=some o->H b=none->b ∉ frs outer->B.get? b=some o) /\
 (∀ b o,s.heap.get? b=some o->b ∉ frs outer -> ∃ o',B.get? b=some o')/\E cls none H'
theorem A8.get {P:Program} {w:World} {H:Hp} {h:Heap} {a:Addr} {o:HO} (x:A8 P w H h a o) : ∃ ob,h.get? a=some ob:= by
 cases o with
 | lst xs=>obtain ⟨_,_,_,_,e⟩:=x;exact ⟨_,e⟩
 | tup xs=>obtain ⟨_,_,_,ob,e,_⟩:=x;exact ⟨ob,e⟩
 | dK kvs=>obtain ⟨_,_,_,_,ob,_,_,e,_⟩:=x;exact ⟨ob,e⟩
 | dT kvs=>obtain ⟨_,_,_,_,ob,_,_,e,_⟩:=x;exact ⟨ob,e⟩
 | set S n=>obtain ⟨ob,_,_,_,e,_⟩:=x;exact ⟨ob,e⟩
 | ins C dx fs=>obtain ⟨_,_,_,e,_⟩:=x;exact ⟨_,e⟩
 | own y=>exact x
 | xd fs=>obtain ⟨_,⟨ob,_,_,e,_⟩,_⟩:=x;exact ⟨ob,e⟩
 | rng lo hi=>obtain ⟨_,_,_,e⟩:=x;exact ⟨_,e⟩
 | frz ob u=>obtain ⟨e,_⟩:=x;exact ⟨_,e⟩
 | tbl ps=>exact ⟨_,x⟩
 | met f y=>exact ⟨_,x⟩
 | ext φ=>obtain ⟨_,e,_⟩:=x;exact e
section
variable {X:Cx} {pins:List (Addr × Obj)} {σ:St} {H:Hp} {s:Shared}
theorem OB {B h':Heap} {ea:Addr} {cls a0:Value} {E:XK} (I:Inv X pins σ H s) (hex:X.ex=[]) (fl:Heap.FlyingW B X.outer ea cls a0 h')
  (fr : ∀ b ∈ frs X.outer,∀ o,s.heap.get? b=some o->(∀ vs,o.data ≠ .fields vs) -> ∃ sl,h'.get? b=some { o with slots:=sl })
  (c1 : ∀ b o u,s.heap.get? b=some o->H b=some u->B.get? b=some o) (c2 : ∀ b o,X.s₀.heap.get? b=some o->X.H₀ b=none->b ∉ X.fs->B.get? b=some o)
  (c3 : ∀ b o,X.s₀.heap.get? b=some o->b ∉ X.fs -> ∃ o',B.get? b=some o') (hE:E cls none H):CXE X.prog X.w X.outer X.H₀ X.s₀ E (.ref ea) { s with heap:=h' }:= by
 have nex : ∀ b:Addr,b ∉ X.ex:=fun b=>by rw[hex];simp
 have hfr : ∀ b ∈ X.fs,∃ o,s.heap.get? b=some o /\ ∀ vs,o.data ≠ .fields vs:=fun b hb=>(I.funs.mem hb).2
 have tr : ∀ b o u,s.heap.get? b=some o->H b=some u->h'.get? b=some o:=fun b o u e q=>fl.1 b o (c1 b o u e q)
 refine ⟨ea,cls,H,B,rfl,I.os,I.bare,⟨fun b o e n hb _=>fl.1 b o (c2 b o e n hb),fun b o e n hb _=>?_,fun b o e n _=>I.base.free b o e n (nex b),fun b o e _=>?_,I.base.tups,I.base.frzs,I.base.tbls⟩,fun b u e=>?_,⟨a0,fl⟩,fun b o u e q=>?_,c2,c3,hE⟩
 ·obtain ⟨sl,e1⟩:=I.base.slot b o e n hb (nex b)
  obtain ⟨o1,e2,hd⟩:=hfr b hb
  obtain ⟨sl2,e3⟩:=fr b hb _ e2 hd
  rw[e1] at e2;cases e2
  exact ⟨sl2,e3⟩
 ·by_cases hb:b ∈ X.fs
  ·obtain ⟨o1,e2,hd⟩:=hfr b hb
   obtain ⟨sl2,e3⟩:=fr b hb _ e2 hd
   exact ⟨_,e3⟩
  ·obtain ⟨o',e'⟩:=c3 b o e hb
   exact ⟨o',fl.1 b o' e'⟩
 ·refine (I.hok b u e).stay (fun c v hc q=>?_) (fun _ q=>q) fun _ _ q=>q
  rcases hc with z | z
  ·subst z;exact tr c v u q e
  ·exact tr c v _ q z
 ·obtain ⟨o1,e0⟩:=(I.hok b u q).get
  have q1:=tr b o1 u e0 q
  rw[e] at q1;cases q1
  exact c1 b o u e0 q
structure Fn0 (X:Cx) (E:XK):Prop where
 xe:X.xe=fun e s'=>wpAny (model X.prog X.w) X.A (leaving X.env e) (fun _ s''=>CXE X.prog X.w X.outer X.H₀ X.s₀ E e s'') (fun e' s''=>CXE X.prog X.w X.outer X.H₀ X.s₀ E e' s'') s'
 stk:X.stack=X.env::X.outer
 frm:X.env.frame=some X.env.locals
 ex:X.ex=[]
theorem Fn0.nstk (F:Fn0 X E) (I:Inv X pins σ H s) {b:Addr} {o:Obj} (e:X.s₀.heap.get? b=some o) (hb:b ∉ X.fs):b ∉ frs X.stack:=fun z=>by
 rcases List.mem_cons.mp (I.stkSub b z) with q | q
 ·exact absurd (Nat.lt_of_lt_of_le (Heap.lt_size e) I.ok.above) (by rw[q];exact Nat.lt_irrefl _)
 ·exact hb q
theorem Cs {E:XK} (F:Fn0 X E):Cf (CXE X.prog X.w) X E:= by
 intro pins σ H s e s' I h
 obtain ⟨ea,cls,H',B,rfl,os,bare,un,hok,⟨a0,fl⟩,c1,c2,c3,hE⟩:=h
 have J:Inv X pins σ H' s':=I.call' os un hok bare fun b z=>absurd z (by simp)
 rw[F.xe]
 rw[F.stk] at fl
 refine wpAny_leaves_onW (by rw[I.ok.frames,F.stk]) F.frm fl fun h'' fl'' ups=>?_
 have nex : ∀ b:Addr,b ∉ X.ex:=fun b=>by rw[F.ex];simp
 refine OB J F.ex fl'' (fun b hb o e hd=>ups b o e hd) c1 (fun b o e n hb=>?_) (fun b o e hb=>?_) hE
 ·exact c2 b o (I.base.keep b o e n hb (nex b)) (I.base.free b o e n (nex b)) (F.nstk I e hb)
 ·obtain ⟨o',e'⟩:=I.base.there b o e (nex b)
  exact c3 b o' e' (F.nstk I e hb)
abbrev bmV : List Value:=[.type "ValueError",.type "Exception",.type "BaseException",.type "object"]
theorem GG {K : PySem.W.Frag} {h : Heap} {C : Addr} (X : K.In h) (q : PySem.W.excIn K C bmV "ValueError.__new__" = true) :
  ∃ bm N nm q bs hdct sn sub ab col dd k0 k1 k2 k3 k5 mN,h.get? C = some (excClassObj nm q C N bs bm hdct sn sub ab col dd k0 k1 k2 k3 k5 "ValueError.__new__") /\ h.Ns N mN /\ mN "__init__" = none /\ OwnTail h bmV bm:= by
 unfold PySem.W.excIn at q
 split at q
 ·rename_i dd cd sl ho
  split at q
  ·rename_i C' bm k0 k1 k2 k3 n k5 hm hs
   simp only [Bool.and_eq_true,beq_iff_eq,Bool.not_eq_true'] at q
   obtain ⟨⟨⟨⟨⟨rfl,rfl⟩,hdel⟩,ht⟩,hok⟩,hni⟩:=q
   obtain ⟨nm,bs,mro,ns,qn,hd,sn,sub,ab,col,del⟩:=cd
   dsimp only at hm hdel hok hni
   subst hm hdel
   obtain ⟨l⟩:=sl
   simp only at hs
   subst hs
   exact ⟨bm,ns,nm,qn,bs,hd,sn,sub,ab,col,dd,k0,k1,k2,k3,k5,_,X _ _ ho,.of_isNs (PySem.W.isNs_of_in X hok),PySem.W.nsMap_none_of_in X hok hni,PySem.W.tail_of_in X ht⟩
  ·cases q
 ·cases q
theorem D5 {E : XK} {x : Str} {C : Addr} {e₀ : Expr} {rest : List Expr} {t : TA} {np cpos pos : Pos} (F : Fn0 X E) (hc : X.calm = true) (hg : Gl X x) (hm : X.mg x = some (.ref C)) (hq : PySem.W.excIn X.K C bmV "ValueError.__new__" = true) (ha : PA X (e₀ :: rest) t)
  (he : starEach (e₀ :: rest) X.env = (false,eval e₀ X.env) :: starEach rest X.env:=by rfl) (hplain : (backTo cpos (starEach rest X.env)).any (·.1) = false:=by rfl) (hd : (x == ("__debug__" : Str)) = false:=by decide) :
  PS X (.Raise (some (.Call (.Name x np) (e₀::rest) [] cpos)) none pos) (fun _ σ H=>t σ H fun vs H1=>vs.length<=sizeLine/\E (.ref C) none H1):= by
 intro pins s σ H D I h
 obtain ⟨bm,N,nm,q,bs,hdct,sn,sub,ab,col,dd,k0,k1,k2,k3,k5,mN,hC,hN,hni,T⟩:=GG I.ok.mod.kin hq
 refine wpAny_Raise_call_subT (C:=C) (nm:=nm) (q:=q) (N:=N) (bs:=bs) (bm:=bm) (hdct:=hdct) (sn:=sn) (sub:=sub) (ab:=ab) (col:=col) (dd:=dd) (k0:=k0) (k1:=k1) (k2:=k2) (k3:=k3) (k5:=k5)
  PySem.F.excBase_ValueError (mN:=mN) (T.hasType (by decide +kernel)) (I.ok.hd hc) (by rw[he];show (false||(backTo cpos (starEach rest X.env)).any (·.1))=false;rw[hplain];rfl) hni (Cu I hg hm ⟨rfl,?_⟩ hd)
 have hA:=ha cpos pins s σ H _ I h
 rw[he] at hA ⊢
 refine Calls.evalArgs_plain (wpAny_mono hA (fun us s2 h2=>?_) fun _ _ y=>y)
 obtain ⟨vs,H1,I1,r,hl,hE⟩:=h2
 refine ⟨rfl,by rw[<- r.length];exact hl,I1.bk _ _ hC,hN.keeps I1.bk,T.keeps I1.bk,fun h' e hme=>?_⟩
 rw[F.xe]
 have hin : ∀ env ∈ X.env::X.outer,∀ b,env.frame=some b->b ∈ frs X.stack:=fun env he b hb=>by
  rw[F.stk];exact List.mem_filterMap.mpr ⟨env,he,hb⟩
 have hstk:=I1.stack
 rw[F.stk] at hstk
 refine wpAny_leaves_madeW (base:=PySem.W.hideAll s2.heap (frs X.stack)) (by rw[I1.ok.frames,F.stk]) F.frm (fun b o q=>PySem.W.of_hideAll _ q) (PySem.W.funFrames_hide hstk hin) hme fun h'' t fl tup bt ups=>?_
 have nex : ∀ b:Addr,b ∉ X.ex:=fun b=>by rw[F.ex];simp
 show CXE X.prog X.w X.outer X.H₀ X.s₀ E (.ref e) { s2 with heap:=h'' }
 refine OB I1 F.ex fl (fun b hb o e hd=>ups b o (hme.keeps b o e) hd) (fun b o u e q=>PySem.W.hideAll_get _ e fun z=>?_) (fun b o e n hb=>PySem.W.hideAll_get _ (I1.base.keep b o e n hb (nex b)) (F.nstk I1 e hb)) (fun b o e hb=>?_) hE
 ·rw[I1.stkFree b z] at q;cases q
 ·obtain ⟨o',e'⟩:=I1.base.there b o e (nex b)
  exact ⟨o',PySem.W.hideAll_get _ e' (F.nstk I1 e hb)⟩
theorem Inv.slots {B h':Heap} (I:Inv X pins σ H s) (hB:B.StaysIn h') (ups:s.heap.UpToSlots h') (c1 : ∀ b o u,s.heap.get? b=some o->H b=some u->B.get? b=some o)
  (c2 : ∀ b o,X.s₀.heap.get? b=some o->X.H₀ b=none->b ∉ X.fs->b ∉ X.ex->B.get? b=some o) (c3 : ∀ b o,X.s₀.heap.get? b=some o->b ∉ X.fs->b ∉ X.ex -> ∃ o',B.get? b=some o')
  (c4 : ∀ p ∈ X.pn++pins,B.get? p.1=some p.2):Inv X pins σ H { s with heap:=h' }:= by
 have hfr : ∀ b ∈ X.fs,∃ o,s.heap.get? b=some o /\ ∀ vs,o.data ≠ .fields vs:=fun b hb=>(I.funs.mem hb).2
 have tr : ∀ b o u,s.heap.get? b=some o->H b=some u->h'.get? b=some o:=fun b o u e q=>hB b o (c1 b o u e q)
 have cl : ∀ c v,s.heap.IsCell c v->h'.IsCell c v:=fun c v z=>by
  obtain ⟨o,ho,hd⟩:=z
  obtain ⟨sl,e⟩:=ups c o ho fun vs q=>by rw[hd] at q;cases q
  exact ⟨_,e,hd⟩
 refine ⟨I.ok,I.os,I.bare,⟨fun b o e n hb hx=>hB b o (c2 b o e n hb hx),fun b o e n hb hx=>?_,I.base.free,fun b o e hx=>?_,I.base.tups,I.base.frzs,I.base.tbls⟩,?_,fun x c e=>?_,I.free,I.freeC,fun p hp=>?_,fun b u e=>?_,I.len⟩
 ·obtain ⟨sl,e1⟩:=I.base.slot b o e n hb hx
  obtain ⟨o1,e2,hd⟩:=hfr b hb
  obtain ⟨sl2,e3⟩:=ups b _ e2 hd
  rw[e1] at e2;cases e2
  exact ⟨sl2,e3⟩
 ·by_cases hb:b ∈ X.fs
  ·obtain ⟨o1,e2,hd⟩:=hfr b hb
   obtain ⟨sl2,e3⟩:=ups b _ e2 hd
   exact ⟨_,e3⟩
  ·obtain ⟨o',e'⟩:=c3 b o e hb hx
   exact ⟨o',hB b o' e'⟩
 ·obtain ⟨m,hn,hl⟩:=I.loc
  refine ⟨m,ups.ns hn,fun i x v e1 e2 e3=>?_⟩
  obtain ⟨u,ru,lk⟩:=hl i x v e1 e2 e3
  refine ⟨u,ru,?_⟩
  rcases lk with lk | ⟨k,c,ec,z⟩
  ·exact .inl lk
  ·exact .inr ⟨k,c,ec,cl c _ z⟩
 ·obtain ⟨v,z⟩:=I.cell x c e
  exact ⟨v,cl c v z⟩
 ·obtain ⟨_,n,ne,nf,d⟩:=I.pin p hp
  exact ⟨hB _ _ (c4 p hp),n,ne,nf,d⟩
 ·refine (I.hok b u e).stay (fun c v hc q=>?_) (fun _ q=>q) fun _ _ q=>q
  rcases hc with z | z
  ·subst z;exact tr c v u q e
  ·exact tr c v _ q z
abbrev Cx.alt (X:Cx) (pn:List (Addr × Obj)) (A:Around) (cm:Bool) (E:Value->Shared->Prop):Cx:={ X with pn:=pn,A:=A,calm:=cm,xe:=E }
theorem Inv.alt {pn:List (Addr × Obj)} {A:Around} {cm:Bool} {E:Value->Shared->Prop} {pins':List (Addr × Obj)} (I:Inv X pins σ H s) (hfr:A.frames=X.A.frames) (hcm:cm=true->A.handled=none) (hp : ∀ p ∈ pn++pins',p ∈ X.pn++pins):Inv (X.alt pn A cm E) pins' σ H s:=
 ⟨⟨I.ok.mod,I.ok.kind,I.ok.glob,I.ok.blt,I.ok.above,I.ok.inj,I.ok.has,I.ok.cab,hcm,hfr.trans I.ok.frames,I.ok.stk,I.ok.exf,I.ok.bs,I.ok.bsz,I.ok.noex,I.ok.exfs,I.ok.funs,I.ok.frf⟩,I.os,I.bare,I.base,I.loc,I.cell,I.free,I.freeC,fun p h=>I.pin p (hp p h),I.hok,I.len⟩
def XB (X:Cx) (pins:List (Addr × Obj)) (E:XK):Value->Shared->Prop:=fun e s1=>∃ (ea:Addr) (cls:Value) (H':Hp) (B:Heap) (σ':St),e = .ref ea/\Inv (X.alt (X.pn++pins) X.A X.calm fun _ _=>False) [] σ' H' s1/\(∃ a0,Heap.FlyingW B X.stack ea cls a0 s1.heap) /\
 (∀ b o u,s1.heap.get? b=some o->H' b=some u->B.get? b=some o)/\(∀ b o,X.s₀.heap.get? b=some o->X.H₀ b=none->b ∉ X.fs->b ∉ X.ex->B.get? b=some o)/\(∀ b o,X.s₀.heap.get? b=some o->b ∉ X.fs->b ∉ X.ex -> ∃ o',B.get? b=some o')/\(∀ p ∈ X.pn++pins,B.get? p.1=some p.2)/\E cls none H'
abbrev N6 (X:Cx) (pins:List (Addr × Obj)) (E:XK):Cx:=X.alt (X.pn++pins) X.A X.calm (XB X pins E)
theorem JM {E:XK}:Cf (CXE X.prog X.w) (N6 X pins E) E:= by
 intro pins' σ H s e s' I h
 obtain ⟨ea,cls,H',B,rfl,os,bare,un,hok,fl,c1,c2,c3,hE⟩:=h
 have J:Inv (N6 X pins E) pins' σ H' s':=I.call' os un hok bare fun b z=>absurd z (by simp)
 have nst : ∀ b o,X.s₀.heap.get? b=some o->b ∉ X.fs->b ∉ frs X.stack:=fun b o e hb z=>by
  rcases List.mem_cons.mp (I.stkSub b z) with q | q
  ·exact absurd (Nat.lt_of_lt_of_le (Heap.lt_size e) I.ok.above) (by rw[q];exact Nat.lt_irrefl _)
  ·exact hb q
 refine ⟨ea,cls,H',B,σ,rfl,J.alt rfl J.ok.hd fun p hp=>?_,fl,c1,fun b o e n hb hx=>c2 b o (I.base.keep b o e n hb hx) (I.base.free b o e n hx) (nst b o e hb),fun b o e hb hx=>?_,fun p hp=>?_,hE⟩
 ·exact List.mem_append_left _ (by simpa using hp)
 ·obtain ⟨o',e'⟩:=I.base.there b o e hx
  exact c3 b o' e' (nst b o e hb)
 ·obtain ⟨e,n,ne,nf,d⟩:=I.pin p (List.mem_append_left _ hp)
  refine c2 _ _ e n fun z=>?_
  rcases List.mem_cons.mp (I.stkSub _ z) with q | q
  ·exact ne q
  ·exact nf q
abbrev EC (X:Cx) (pins:List (Addr × Obj)) (ea:Addr):Cx:=X.alt (X.pn++pins) (X.A.mark (some (.ref ea))) false fun _ _=>False
end
section
variable {P:Program} {w:World} {K:PySem.W.Frag} {mg:Str->Option Value} {base:Heap}
theorem Fun.okE {x qual:Str} {st:Stmt} {f:Addr} {fd:FuncData} {N ps:List Str} {k:Nat} {sp:Sp} (F:Fun K x qual st f fd) (S:Ap N ps (Ae st)) (len : ∀ vs H Q E,sp vs H Q E->vs.length=ps.length)
  (hbody : ∀ (cdv:Value) (A:Around) (outer:List Env) (s:Shared) (H:Hp) (vs:List V) (Q:VK) (E:XK),Cw k (A.deeper (envOfC qual (Ae st) s.heap.objs.size f cdv))->Fn0 (M4 (CXE P w) P w K mg base N qual (Ae st) f cdv A outer s H E) E->sp vs H Q E ->
   ∃ t,PSs (M4 (CXE P w) P w K mg base N qual (Ae st) f cdv A outer s H E) (Al st) t/\t { nx:=fun _ H'=>Q .non H',rt:=Q } (FH N vs) H):Bv P w K mg base (CXE P w) (k+1) f fd ps sp:= by
 obtain ⟨oc,od,kV,doc,pm,an,cdv,ct,osl,rfl,lk,hcd⟩:=F.ex
 exact Nk lk hcd S len fun A outer s H vs Q E hr hsp=>hbody cdv A outer s H vs Q E hr ⟨rfl,rfl,rfl,rfl⟩ hsp
structure GU (P:Program) (w:World) (K:PySem.W.Frag) (mg:Str->Option Value) (base:Heap) (k:Nat) (x:Str) (dvs:List V) (sp:Sp):Prop where
 ex : ∃ f fd ps ds,Bv P w K mg base (CXE P w) k f fd ps sp/\mg x=some (.ref f)/\PySem.W.keepIn K (.ref f)=true/\DD K fd ps ds/\Bf dvs ds
theorem Fun.calE {x:Str} {qual:Str} {st:Stmt} {f:Addr} {fd:FuncData} {ps:List Str} {k:Nat} {sp:Sp} (F:Fun K x qual st f fd) (G:Bv P w K mg base (CXE P w) k f fd ps sp) (hm:mg x=some (.ref f))
  (h : ∀ (kV doc pm:Value) (an:Option Addr) (cdv ct:Value) (us:List Value),us.length=ps.length->bindArgs (PySem.W.fnOf x qual (Am st) (Al st) (Ae st) .none kV doc pm an cdv ct) ⟨us,[]⟩=pure (ps.zip us)):GU P w K mg base k x [] sp:=
 ⟨f,fd,ps,[],G,hm,F.kp,F.binds h,.nil⟩
end
theorem BN {X : Cx} {k : Nat} {x : Str} {dvs : List V} {sp : Sp} {E : XK} {e : Expr} {es : List Expr} {t : TA} {p pos : Pos} (c : GU X.prog X.w X.K X.mg X.base k x dvs sp) (hr : Cw k X.A) (hg : Gl X x) (hx : Cf (CXE X.prog X.w) X E) (ha : PA X (e :: es) t) (hd : (x == ("__debug__" : Str)) = false:=by decide)
  (he:starEach (e::es) X.env=(false,eval e X.env)::starEach es X.env:=by rfl) (hpl:(backTo pos (starEach es X.env)).any (·.1)=false:=by rfl) :
  PE X (.Call (.Name x p) (e::es) [] pos) (PF sp dvs E t):= by
 obtain ⟨f,fd,ps,ds,F,hm,hk,hb,hv⟩:=c.ex
 exact Lu F hr hg hm hk hb hv hx ha hd he hpl
end L2
namespace L2
open PySem PySem.Spec PyProof.Rows
section
variable {κ:Type} [DecidableEq κ]
def Ex (kvs:List (κ × V)) (k:κ):Option V:=(kvs.find? fun kv=>decide (kv.1=k)).map (·.2)
def EU (kvs:List (κ × V)) (k:κ) (v:V):List (κ × V):=
 if (kvs.any fun kv=>decide (kv.1=k))=true then kvs.map (fun kv=>if kv.1=k then (kv.1,v) else kv) else kvs++[(k,v)]
theorem Nt {k:κ}:Ex ([]:List (κ × V)) k=none:=rfl
theorem Du {p:κ × V} {r:List (κ × V)} {k:κ} (e:p.1=k):Ex (p::r) k=some p.2:=by simp [Ex,List.find?_cons,e]
theorem CJ {p:κ × V} {r:List (κ × V)} {k:κ} (e : ¬ p.1=k):Ex (p::r) k=Ex r k:=by simp [Ex,List.find?_cons,e]
theorem Fc (k:κ) : ∀ kvs:List (κ × V),(kvs.any fun kv=>decide (kv.1=k))=(Ex kvs k).isSome
 | []=>rfl
 | p::r=>by
  rw[List.any_cons]
  by_cases e:p.1=k
  ·simp only [Du e,decide_eq_true e,Bool.true_or,Option.isSome_some]
  ·rw[CJ e,decide_eq_false e,Bool.false_or];exact Fc k r
theorem CI (kvs:List (κ × V)) (k:κ) (v:V):(EU kvs k v).length<=kvs.length+1:= by
 unfold EU
 split
 ·rw[List.length_map];omega
 ·rw[List.length_append,List.length_cons,List.length_nil];omega
theorem Hk {kvs:List (κ × V)} {k:κ} (v:V) (h:Ex kvs k=none):EU kvs k v=kvs++[(k,v)]:= by
 unfold EU
 rw[Fc,h]
 exact if_neg (by decide)
theorem IK.isSome_eq {o:Option V} {u:Option Value} (r:IK o u):o.isSome=u.isSome:= by
 cases o with
 | none=>cases u with
  | none=>rfl
  | some _=>exact (show False from r).elim
 | some _=>cases u with
  | none=>exact (show False from r).elim
  | some _=>rfl
theorem KV.val {kvs:List (κ × V)} {vs:List (κ × Value)} (r:KV kvs vs) (k:κ):IK (Ex kvs k) (valueAt vs k):= by
 unfold KV at r
 induction r with
 | nil=>exact True.intro
 | @cons p q ps qs h t ih=>
  obtain ⟨h1,h2⟩:=h
  by_cases e:p.1=k
  ·have e':q.1=k:=h1.symm.trans e
   have b:valueAt (q::qs) k=some q.2:=by simp [valueAt,List.find?_cons,e']
   rw[Du e,b];exact h2
  ·have e' : ¬ q.1=k:=fun z=>e (h1.trans z)
   have b:valueAt (q::qs) k=valueAt qs k:=by simp [valueAt,List.find?_cons,e']
   rw[CJ e,b];exact ih
theorem KV.any {kvs:List (κ × V)} {vs:List (κ × Value)} (r:KV kvs vs) (k:κ):(kvs.any fun kv=>decide (kv.1=k))=vs.any fun kv=>decide (kv.1=k):= by
 unfold KV at r
 induction r with
 | nil=>rfl
 | cons h t ih=>rw[List.any_cons,List.any_cons,ih,h.1]
theorem KV.repl {kvs:List (κ × V)} {vs:List (κ × Value)} (r:KV kvs vs) (k:κ) {y:V} {u:Value} (ry:Be y u) :
  KV (kvs.map fun kv=>if kv.1=k then (kv.1,y) else kv) (vs.map fun kv=>if kv.1=k then (kv.1,u) else kv):= by
 unfold KV at r ⊢
 induction r with
 | nil=>exact .nil
 | @cons p q ps qs h t ih=>
  rw[List.map_cons,List.map_cons]
  refine .cons ?_ ih
  obtain ⟨h1,h2⟩:=h
  by_cases e:p.1=k
  ·rw[if_pos e,if_pos (h1.symm.trans e)];exact ⟨h1,ry⟩
  ·rw[if_neg e,if_neg (fun z=>e (h1.trans z))];exact ⟨h1,h2⟩
theorem KV.put {kvs:List (κ × V)} {vs:List (κ × Value)} (r:KV kvs vs) (k:κ) {y:V} {u:Value} (ry:Be y u):KV (EU kvs k y) (stored vs k u):= by
 unfold EU stored
 rw[r.any k]
 by_cases e:(vs.any fun kv=>decide (kv.1=k))=true
 ·rw[if_pos e,if_pos e];exact r.repl k ry
 ·rw[if_neg e,if_neg e];exact Paired.snoc r ⟨rfl,ry⟩
theorem KV.length {kvs:List (κ × V)} {vs:List (κ × Value)} (r:KV kvs vs):kvs.length=vs.length:=Paired.length r
end
theorem Kv {P:Program} {w:World} {k:Key} {u:Value} (r:Be (kV k) u):(Bb P w).is k u=true:= by
 cases k with
 | inl i=>obtain ⟨t,e⟩:=(show ∃ t,u=Value.int i t from r);subst e;exact Jb P w i t
 | inr x=>obtain ⟨t,e⟩:=(show ∃ t,u=Value.str x t from r);subst e;exact Js P w x t
theorem HU {P:Program} {w:World} : ∀ {ks:List Key} {us:List Value},Bf (ks.map kV) us->ItemsAre (Bb P w) ks us
 | [],_,r=>by rw[List.map_nil] at r;cases r;exact .nil
 | k::ks,_,r=>by
  rw[List.map_cons] at r
  cases r with
  | cons h t=>exact .cons (Kv h) (HU t)
abbrev KT (H:Hp):List (List Key × V)->List (List Key × Addr × Value)->Prop:=Paired fun p q=>p.1=q.1/\H q.2.1=some (.tup (p.1.map kV))/\Be p.2 q.2.2
theorem KT.val {H:Hp} {kvs:List (List Key × V)} {xs:List (List Key × Addr × Value)} (r:KT H kvs xs) (k:List Key):IK (Ex kvs k) ((atKey xs k).map (·.2)):= by
 induction r with
 | nil=>exact True.intro
 | @cons p q ps qs h t ih=>
  obtain ⟨h1,_,h2⟩:=h
  by_cases e:p.1=k
  ·have e':q.1=k:=h1.symm.trans e
   have b:atKey (q::qs) k=some q.2:=by simp [atKey,List.find?_cons,e']
   rw[Du e,b];exact h2
  ·have e' : ¬ q.1=k:=fun z=>e (h1.trans z)
   have b:atKey (q::qs) k=atKey qs k:=by simp [atKey,List.find?_cons,e']
   rw[CJ e,b];exact ih
theorem KT.repl {H:Hp} {kvs:List (List Key × V)} {xs:List (List Key × Addr × Value)} (r:KT H kvs xs) (k:List Key) {y:V} {u:Value} (ry:Be y u) :
  KT H (kvs.map fun kv=>if kv.1=k then (kv.1,y) else kv) (xs.map (putAt k u)):= by
 induction r with
 | nil=>exact .nil
 | @cons p q ps qs h t ih=>
  rw[List.map_cons,List.map_cons]
  refine .cons ?_ ih
  obtain ⟨h1,h2,h3⟩:=h
  unfold putAt
  by_cases e:p.1=k
  ·rw[if_pos e,if_pos (h1.symm.trans e)];exact ⟨h1,h2,ry⟩
  ·rw[if_neg e,if_neg (fun z=>e (h1.trans z))];exact ⟨h1,h2,h3⟩
theorem KT.put {H:Hp} {kvs:List (List Key × V)} {xs:List (List Key × Addr × Value)} (r:KT H kvs xs) (k:List Key) {b:Addr} {y:V} {u:Value} (hb:H b=some (.tup (k.map kV))) (ry:Be y u) :
  KT H (EU kvs k y) (storedH xs k b u):= by
 have e:(kvs.any fun kv=>decide (kv.1=k))=(atKey xs k).isSome:= by
  rw[Fc,(r.val k).isSome_eq,Option.isSome_map]
 unfold EU storedH
 rw[e]
 by_cases q:(atKey xs k).isSome=true
 ·rw[if_pos q,if_pos q];exact r.repl k ry
 ·rw[if_neg q,if_neg q];exact Paired.snoc r ⟨rfl,hb,ry⟩
theorem KT.keeps {H H':Hp} {kvs:List (List Key × V)} {xs:List (List Key × Addr × Value)} (r:KT H kvs xs) (ht : ∀ b ys,H b=some (.tup ys)->H' b=some (.tup ys)):KT H' kvs xs:=
 Paired.mapP r fun _ _ z=>⟨z.1,ht _ _ z.2.1,z.2.2⟩
section
variable {P:Program} {w:World} {H:Hp} {h:Heap} {a:Addr}
theorem Qe {u:HO} (ok:HOk P w H h) (e:Rd H a u):A8 P w H h a u:=e.ok ok
theorem Kr {kvs:List (Key × V)} (ok:HOk P w H h) (e:Rd H a (.dK kvs)):kvs.length<=sizeLine/\(a==sysModules)=false /\ ∃ vs,KV kvs vs/\h.DictOf (Bb P w) a vs:=
 show A8 P w H h a (.dK kvs) from Qe ok e
theorem Qc {kvs:List (Key × V)} (ok:HOk P w H h) (e:H a=some (.dK kvs)):kvs.length<=sizeLine/\(a==sysModules)=false /\ ∃ vs,KV kvs vs/\h.DictOf (Bb P w) a vs:=Kr ok (.inl e)
theorem Fo {ks:List Key} (ok:HOk P w H h) (e:H a=some (.tup (ks.map kV))):(tupleKind (Bb P w)).is h ks a:= by
 obtain ⟨_,its,r,o,h1,h2,n,h3⟩:=(show A8 P w H h a (.tup (ks.map kV)) from ok a _ e)
 exact ⟨o,its.toArray,n,h1,h2,h3,by simpa using HU r⟩
theorem L5 {kvs:List (List Key × V)} (ok:HOk P w H h) (e:Rd H a (.dT kvs)):kvs.length<=sizeLine/\(a==sysModules)=false /\
  ∃ xs,KT H kvs xs/\h.DictOfH (tupleKind (Bb P w)) a xs:= by
 obtain ⟨z,y,xs,r,o,es,ep,h1,h2,h3,h4,h5⟩:=(show A8 P w H h a (.dT kvs) from Qe ok e)
 refine ⟨z,y,xs,r,o,es,ep,h1,h2,h3,h4,fun x hx=>?_,h5⟩
 have all : ∀ {l:List (List Key × V)} {m:List (List Key × Addr × Value)},KT H l m -> ∀ x ∈ m,(tupleKind (Bb P w)).is h x.1 x.2.1:= by
  intro l m q
  induction q with
  | nil=>intro x hx;exact nomatch hx
  | @cons p q ps qs hq t ih=>
   intro x hx
   rcases List.mem_cons.mp hx with e | hx
   ·subst e
    exact Fo ok (by rw[<- hq.1];exact hq.2.1)
   ·exact ih x hx
 exact all r x hx
theorem O2 {kvs:List (List Key × V)} (ok:HOk P w H h) (e:H a=some (.dT kvs)):kvs.length<=sizeLine/\(a==sysModules)=false /\
  ∃ xs,KT H kvs xs/\h.DictOfH (tupleKind (Bb P w)) a xs:=L5 ok (.inl e)
end
def Hc (H:Hp) (a:Addr) (y:V) (r:Option V):Prop:=
 (∃ kvs k,Rd H a (.dK kvs)/\y=kV k/\r=Ex kvs k) \/ ∃ kvs k b,Rd H a (.dT kvs)/\y = .ref b/\H b=some (.tup (k.map kV))/\r=Ex kvs k
def KF (H:Hp) (a:Addr) (y v:V) (H':Hp):Prop:=
 (∃ kvs k,H a=some (.dK kvs)/\y=kV k/\kvs.length<sizeLine/\H'=upd H a (.dK (EU kvs k v))) \/
 ∃ kvs k b,H a=some (.dT kvs)/\y = .ref b/\H b=some (.tup (k.map kV))/\kvs.length<sizeLine/\H'=upd H a (.dT (EU kvs k v))
theorem Hc.k {H:Hp} {a:Addr} {kvs:List (Key × V)} {k:Key} (e:H a=some (.dK kvs)):Hc H a (kV k) (Ex kvs k):=.inl ⟨kvs,k,.inl e,rfl,rfl⟩
theorem Hc.t {H:Hp} {a b:Addr} {kvs:List (List Key × V)} {k:List Key} (e:H a=some (.dT kvs)) (eb:H b=some (.tup (k.map kV))):Hc H a (.ref b) (Ex kvs k):=.inr ⟨kvs,k,b,.inl e,rfl,eb,rfl⟩
theorem KF.k {H:Hp} {a:Addr} {kvs:List (Key × V)} {k:Key} {v:V} (e:H a=some (.dK kvs)) (hl:kvs.length<sizeLine):KF H a (kV k) v (upd H a (.dK (EU kvs k v))):=.inl ⟨kvs,k,e,rfl,hl,rfl⟩
theorem KF.t {H:Hp} {a b:Addr} {kvs:List (List Key × V)} {k:List Key} {v:V} (e:H a=some (.dT kvs)) (eb:H b=some (.tup (k.map kV))) (hl:kvs.length<sizeLine) :
  KF H a (.ref b) v (upd H a (.dT (EU kvs k v))):=.inr ⟨kvs,k,b,e,rfl,eb,hl,rfl⟩
section
variable {X:Cx} {pins:List (Addr × Obj)} {σ:St} {H:Hp} {s:Shared} {a:Addr} {y v:V} {u r:Value} {o:Option V} {A:Around} {E:Value->Shared->Prop}
theorem Inv.big (I:Inv X pins σ H s):sysModules<s.heap.objs.size:= by
 have h:mainGlobals<s.heap.objs.size:=(I.mod.glob.keeps I.bk).lt
 exact Nat.lt_trans (by decide) h
theorem L4 {Q:Value->Shared->Prop} (hu:A.units+1<cLine) (I:Inv X pins σ H s) (g:Hc H a y (some v)) (ry:Be y u) (h : ∀ w' s',Inv X pins σ H s'->Be v w'->Q w' s') :
  wpAny (model X.prog X.w) A (getItem (.ref a) u) Q E s:= by
 rcases g with ⟨kvs,k,e,ey,l⟩ | ⟨kvs,k,b,e,ey,eb,l⟩
 ·subst ey
  obtain ⟨z,hd,vs,rel,dd⟩:=Kr I.hok e
  obtain ⟨w',hw,rw'⟩:=IK.some_of (v:=v) (o:=valueAt vs k) (by rw[l];exact rel.val k)
  exact wpAny_getItem_of (Kv ry) dd.mapOf hw (h w' _ (I.tok _) rw')
 ·subst ey
  cases (show u=Value.ref b from ry)
  obtain ⟨z,hd,xs,rel,dd⟩:=L5 I.hok e
  obtain ⟨w',hw,rw'⟩:=IK.some_of (v:=v) (o:=(atKey xs k).map (·.2)) (by rw[l];exact rel.val k)
  obtain ⟨p,hp,hp2⟩:=Option.map_eq_some_iff.mp hw
  refine wpAny_getItem_heap (tupleKind_room_in1 hu) (Fo I.hok eb) dd hp ?_
  rw[hp2]
  exact h w' _ (I.tok _) rw'
theorem SG {Q:Value->Shared->Prop} (hu:A.units+1<cLine) (I:Inv X pins σ H s) (g:Hc H a y o) (ry:Be y u) (h : ∀ s',Inv X pins σ H s'->Q (.bool o.isSome) s') :
  wpAny (model X.prog X.w) A (compareOp .In u (.ref a)) Q E s:= by
 rcases g with ⟨kvs,k,e,ey,l⟩ | ⟨kvs,k,b,e,ey,eb,l⟩
 ·subst ey
  obtain ⟨z,hd,vs,rel,dd⟩:=Kr I.hok e
  refine wpAny_in_of (Kv ry) hd dd.mapOf ?_
  rw[<- (rel.val k).isSome_eq,<- l]
  exact h _ (I.tok _)
 ·subst ey
  cases (show u=Value.ref b from ry)
  obtain ⟨z,hd,xs,rel,dd⟩:=L5 I.hok e
  refine wpAny_in_heap (tupleKind_room_in1 hu) (Fo I.hok eb) hd dd ?_
  have q:=(rel.val k).isSome_eq
  rw[Option.isSome_map] at q
  rw[<- q,<- l]
  exact h _ (I.tok _)
theorem O8 {Q:Value->Shared->Prop} (hu:A.units+1<cLine) (I:Inv X pins σ H s) (g:Hc H a y o) (ry:Be y u) (h : ∀ s',Inv X pins σ H s'->Q (.bool (!o.isSome)) s') :
  wpAny (model X.prog X.w) A (compareOp .NotIn u (.ref a)) Q E s:= by
 rcases g with ⟨kvs,k,e,ey,l⟩ | ⟨kvs,k,b,e,ey,eb,l⟩
 ·subst ey
  obtain ⟨z,hd,vs,rel,dd⟩:=Kr I.hok e
  refine wpAny_notIn_of (Kv ry) hd dd.mapOf ?_
  rw[<- (rel.val k).isSome_eq,<- l]
  exact h _ (I.tok _)
 ·subst ey
  cases (show u=Value.ref b from ry)
  obtain ⟨z,hd,xs,rel,dd⟩:=L5 I.hok e
  refine wpAny_notIn_heap (tupleKind_room_in1 hu) (Fo I.hok eb) hd dd ?_
  have q:=(rel.val k).isSome_eq
  rw[Option.isSome_map] at q
  rw[<- q,<- l]
  exact h _ (I.tok _)
theorem FS {h':Heap} {t':Nat} {ob:HO} (I:Inv X pins σ H s) (mu:Mut (H a)) (hs:Heap.SameBut a s.heap h') (he : ∃ q,h'.get? a=some q) (new:A8 X.prog X.w (upd H a ob) h' a ob) :
  Inv X pins σ (upd H a ob) { s with heap:=h',toks:=t' }:=
 I.write (x:=a) (e:=a) mu (.inl rfl) (fun b q hb z=>(hs.2 b hb).trans z) he new
theorem Om {P:Program} {w:World} {H':Hp} {h':Heap} {kvs:List (Key × V)} {vs:List (Key × Value)} (z:kvs.length<=sizeLine) (hd:(a==sysModules)=false) (rel:KV kvs vs) (dd:h'.DictOf (Bb P w) a vs) :
  A8 P w H' h' a (.dK kvs):=⟨z,hd,vs,rel,dd⟩
theorem Lj {H':Hp} {Q:Unit->Shared->Prop} (hu:A.units+1<cLine) (I:Inv X pins σ H s) (g:KF H a y v H') (ry:Be y u) (rv:Be v r) (h : ∀ s',Inv X pins σ H' s'->Q () s') :
  wpAny (model X.prog X.w) A (setItem (.ref a) u r) Q E s:= by
 rcases g with ⟨kvs,k,e,ey,l,eH⟩ | ⟨kvs,k,b,e,ey,eb,l,eH⟩
 ·subst ey eH
  obtain ⟨z,hd,vs,rel,dd⟩:=Qc I.hok e
  have hz:vs.length<=sizeLine:=by rw[<- rel.length];exact z
  have hl:(EU kvs k v).length<=sizeLine:=by have:=CI kvs k v;omega
  refine wpAny_setItem_pairs (hsz:=hz) (Kv ry) dd fun h' dd' hs=>h _ ?_
  have he : ∃ q,h'.get? a=some q:=let ⟨q,_,_,hq,_⟩:=dd';⟨q,hq⟩
  exact FS I (by rw[e];exact True.intro) hs he (Om hl hd (rel.put k rv) dd')
 ·subst ey eH
  cases (show u=Value.ref b from ry)
  obtain ⟨z,hd,xs,rel,dd⟩:=O2 I.hok e
  have hz:xs.length<=sizeLine:=by rw[<- Paired.length rel];exact z
  have hl:(EU kvs k v).length<=sizeLine:=by have:=CI kvs k v;omega
  refine wpAny_setItem_heap (hsz:=hz) (tupleKind_room_in1 hu) (Fo I.hok eb) dd fun h' dd' hs=>h _ ?_
  obtain ⟨q,es,ep,hq,h2,h3,h4,_,h5⟩:=dd'
  refine FS I (by rw[e];exact True.intro) hs ⟨q,hq⟩ ⟨hl,hd,_,(rel.put k eb rv).keeps fun c ys ec=>?_,q,es,ep,hq,h2,h3,h4,h5⟩
  rw[Af (Cv ec e (fun z=>nomatch z))]
  exact ec
end
section
variable {X:Cx} {pins:List (Addr × Obj)} {σ:St} {H:Hp} {s:Shared} {a:Addr} {kvs:List (Key × V)} {k:Key} {u:Value} {A:Around} {E:Value->Shared->Prop}
theorem RY {Q : Value -> Shared -> Prop} (I : Inv X pins σ H s) (e : Rd H a (.dK kvs)) (h : ∀ t s',Inv X pins σ H s' -> Q (.int kvs.length t) s') : wpAny (model X.prog X.w) A (call (.builtin "len") [.ref a]) Q E s:= by
 obtain ⟨z,hd,vs,rel,dd⟩:=Kr I.hok e
 refine call_len_dict hd dd (by rw[<- rel.length];rw[sizeLine_eq] at z;omega) ?_
 rw[<- rel.length]
 exact h _ _ (I.tok _)
end
def Se (i:Expr):Prop:=∀ ov iv,subscripted i false ov iv=operate [ov,iv] (getItem ov iv)
theorem OE {prog:Program} {w:World} {A:Around} {E:Value->Shared->Prop} {s:Shared} {env:Env} {value slice:Expr} {pos:Pos} {T id:String} {Q:Value->Shared->Prop}
  (hl : typeLookup (.type T) "__getitem__" = pure (some (.builtin id))) (hs : Se slice)
  (h:wpAny (model prog w) A (eval value env) (fun o s₁=>wpAny (model prog w) A (eval slice env) (fun i s₂=>s₂.TypeIs o T/\wpAny (model prog w) A (getItem o i) Q E s₂) E s₁) E s) :
  wpAny (model prog w) A (eval (.Subscript value slice pos) env) Q E s:= by
 refine Subscript_ (wpAny_mono h (fun o s₁ h₁=>wpAny_mono h₁ (fun i s₂ h₂=>?_) fun _ _ x=>x) fun _ _ x=>x)
 obtain ⟨hT,h₂⟩:=h₂
 unfold subscriptTail
 refine wpAny_bind ?_
 rw[getitemInPython_of_ne hT.not_modules]
 refine wpAny_bind (wpAny_specialOf hT hl ?_)
 have fin:wpAny (model prog w) A (subscripted slice false o i) (fun r s₃=>wpAny (model prog w) A (letTemporaryGo value o r >>= fun _=>pure r) Q E s₃) E s₂:= by
  rw[hs o i]
  exact wpAny_operating (wpAny_mono h₂ (fun r s₃ h₃=>wpAny_bind (wpAny_letTemporaryGo (wpAny_pure h₃))) fun _ _ x=>x)
 first
  | exact wpAny_pure (wpAny_bind fin)
  | exact wpAny_bind (wpAny_pure (wpAny_bind fin))
  | exact wpAny_bind fin
theorem I9 {X : Cx} {pins : List (Addr × Obj)} {σ : St} {H : Hp} {s : Shared} {a : Addr} {y : V} {o : Option V} (I : Inv X pins σ H s) (g : Hc H a y o) : s.TypeIs (.ref a) "dict":= by
 rcases g with ⟨kvs,k,e,_,_⟩ | ⟨kvs,k,b,e,_,_,_⟩
 ·obtain ⟨_,_,vs,_,dd⟩:=Kr I.hok e
  exact dd.typeIs
 ·obtain ⟨_,_,xs,_,dd⟩:=L5 I.hok e
  exact dd.typeIs
def RU (td ty:TE):TE:=fun σ H Q=>td σ H fun x H1=>ty σ H1 fun y H2=>∃ a v,x = .ref a/\Hc H2 a y (some v)/\Q v H2
def Sf (ty td:TE):TE:=fun σ H Q=>ty σ H fun y H1=>td σ H1 fun x H2=>∃ a o,x = .ref a/\Hc H2 a y o/\Q (.bl o.isSome) H2
def Mn (ty td:TE):TE:=fun σ H Q=>ty σ H fun y H1=>td σ H1 fun x H2=>∃ a o,x = .ref a/\Hc H2 a y o/\Q (.bl (!o.isSome)) H2
def R6 (td ty tv:TE):TS:=fun D σ H=>tv σ H fun v H1=>td σ H1 fun x H2=>ty σ H2 fun y H3=>∃ a H4,x = .ref a/\KF H3 a y v H4/\D.nx σ H4
section
variable {X:Cx} {o i e value:Expr} {pos pos' tpos:Pos} {td ty tv:TE}
theorem Ja (hu:X.A.units+1<cLine) (ho:PE X o td) (hi:PE X i ty) (hs:Se i):PE X (.Subscript o i pos) (RU td ty):= by
 intro pins s σ H Q I h
 refine OE PySem.F.slot_dict_getitem.lookup hs (thn (ho pins s σ H _ I h) fun u s1 ⟨x,H1,I1,rx,q1⟩=>thn (hi pins s1 σ H1 _ I1 q1) fun iv s2 ⟨y,H2,I2,ry,a,v,ex,g,q2⟩=>?_)
 subst ex
 obtain rfl:u=Value.ref a:=rx
 exact ⟨I9 I2 g,L4 hu I2 g ry fun w' s3 I3 rw'=>⟨v,H2,I3,rw',q2⟩⟩
theorem MQ (hu:X.A.units+1<cLine) (hi:PE X i ty) (ho:PE X o td):PC X .In i o (Sf ty td):= by
 intro pins s σ H Q I h
 refine thn (hi pins s σ H _ I h) fun iv s1 ⟨y,H1,I1,ry,q1⟩=>thn (ho pins s1 σ H1 _ I1 q1) fun u s2 ⟨x,H2,I2,rx,a,ov,ex,g,q2⟩=>?_
 subst ex
 obtain rfl:u=Value.ref a:=rx
 exact SG hu I2 g ry fun s3 I3=>⟨.bl ov.isSome,H2,I3,rfl,q2⟩
theorem Fs (hu:X.A.units+1<cLine) (hi:PE X i ty) (ho:PE X o td):PC X .NotIn i o (Mn ty td):= by
 intro pins s σ H Q I h
 refine thn (hi pins s σ H _ I h) fun iv s1 ⟨y,H1,I1,ry,q1⟩=>thn (ho pins s1 σ H1 _ I1 q1) fun u s2 ⟨x,H2,I2,rx,a,ov,ex,g,q2⟩=>?_
 subst ex
 obtain rfl:u=Value.ref a:=rx
 exact O8 hu I2 g ry fun s3 I3=>⟨.bl (!ov.isSome),H2,I3,rfl,q2⟩
theorem He (hu:X.A.units+1<cLine) (ho:PE X o td) (hi:PE X i ty) (hv:PE X value tv) (hs:swapsWith value (some (.Subscript o i pos')) pos.line X.env=pure false) :
  PS X (.Assign [.Subscript o i pos'] value pos) (R6 td ty tv):= by
 intro pins s σ H D I h
 refine wpAny_Assign_Subscript (thn (hv pins s σ H _ I h) fun r s1 ⟨v,H1,I1,rv,q1⟩=>thn (ho pins s1 σ H1 _ I1 q1) fun u s2 ⟨x,H2,I2,rx,q2⟩=>thn (hi pins s2 σ H2 _ I2 q2) fun iv s3 ⟨y,H3,I3,ry,a,H4,ex,g,q3⟩=>?_) hs
 subst ex
 obtain rfl:u=Value.ref a:=rx
 exact Lj hu I3 g ry rv fun s4 I4=>⟨σ,H4,I4,q3⟩
end
theorem Nr {P : Program} {w : World} {H : Hp} (h : Heap) (hb : sysModules < h.objs.size) : A8 P w H (h.push { cls:=.type "dict",data:=.dict #[] }) h.objs.size (.dK []):=
 ⟨Nat.zero_le _,beq_eq_false_iff_ne.mpr (Ne.symm (Nat.ne_of_lt hb)),[],.nil,Heap.DictOf.new h⟩
theorem E7 {P : Program} {w : World} {H : Hp} (h : Heap) (hb : sysModules < h.objs.size) : A8 P w H (h.push { cls:=.type "dict",data:=.dict #[] }) h.objs.size (.dT []):=
 ⟨Nat.zero_le _,beq_eq_false_iff_ne.mpr (Ne.symm (Nat.ne_of_lt hb)),[],.nil,_,#[],0,Heap.get?_push_size _ rfl,⟨rfl,rfl,rfl⟩,rfl,rfl,List.nodup_nil⟩
def QX:TE:=fun _ H Q=>∀ p,H p=none->Q (.ref p) (upd H p (.dK []))
def Qw:TE:=fun _ H Q=>∀ p,H p=none->Q (.ref p) (upd H p (.dT []))
section
variable {X:Cx} {pos:Pos}
theorem Nw:PE X (.Dict [] [] pos) QX:=fun pins s σ H Q I h=>
 wpAny_Dict_empty ⟨.ref s.heap.objs.size,_,I.laid (a:=s.heap.objs.size) (o:=.dK []) (t':=s.toks) (fun _ _ q=>Heap.get?_push_of_some _ q) (Nat.le_refl _) (Nr s.heap I.big),rfl,h _ (I.hok.fresh (Nat.le_refl _))⟩
theorem NN:PE X (.Dict [] [] pos) Qw:=fun pins s σ H Q I h=>
 wpAny_Dict_empty ⟨.ref s.heap.objs.size,_,I.laid (a:=s.heap.objs.size) (o:=.dT []) (t':=s.toks) (fun _ _ q=>Heap.get?_push_of_some _ q) (Nat.le_refl _) (E7 s.heap I.big),rfl,h _ (I.hok.fresh (Nat.le_refl _))⟩
end
def Oo:List (TE × TE)->St->Hp->(List (V × V)->Hp->Prop)->Prop
 | [],_,H,Q=>Q [] H
 | (tk,tv)::r,σ,H,Q=>tk σ H fun x H1=>tv σ H1 fun y H2=>Oo r σ H2 fun ps H3=>Q ((x,y)::ps) H3
abbrev VV:List (V × V)->List (Value × Value)->Prop:=Paired fun p q=>Be p.1 q.1/\Be p.2 q.2
def PPs (X:Cx) (pos:Pos) (keys:List (Option Expr)) (values:List Expr) (trs:List (TE × TE)):Prop:=
 ∀ (pins:List (Addr × Obj)) (s:Shared) (σ:St) (H:Hp) (Q:List (V × V)->Hp->Prop),Inv X pins σ H s->Oo trs σ H Q ->
  wpAny (model X.prog X.w) X.A (evalPairs (pairTrees keys values X.env pos)) (fun vs s'=>∃ ps H',Inv X pins σ H' s'/\VV ps vs/\Q ps H') X.xe s
theorem OP {X:Cx} {pos:Pos}:PPs X pos [] [] []:=fun pins s σ H Q I h=>pairTrees_nil_walk ⟨[],H,I,.nil,h⟩
theorem Ng {X:Cx} {pos:Pos} {k v:Expr} {ks:List (Option Expr)} {vs:List Expr} {tk tv:TE} {trs:List (TE × TE)} (hk:PE X k tk) (hv:PE X v tv) (hr:PPs X pos ks vs trs) :
  PPs X pos (some k::ks) (v::vs) ((tk,tv)::trs):=fun pins s σ H Q I h=>
 pairTrees_cons_walk (thn (hk pins s σ H _ I h) fun u s1 ⟨x,H1,I1,rx,q1⟩=>thn (hv pins s1 σ H1 _ I1 q1) fun w2 s2 ⟨y,H2,I2,ry,q2⟩=>
  thn (hr pins s2 σ H2 _ I2 q2) fun ws s3 ⟨ps,H3,I3,rel,q3⟩=>⟨(x,y)::ps,H3,I3,.cons ⟨rx,ry⟩ rel,q3⟩)
structure M1 (X:Cx) (o:Expr) (m:Str) (apos:Pos) (e:Expr) (cpos:Pos):Prop where
 base:attributeBase o m X.env (eval o X.env)=eval o X.env
 few:((backTo cpos (starEach [e] X.env)).all (fun x=>!x.1)&&(backToKw cpos (keywordEach [] X.env)).all (fun x=>x.1.isSome)
  && decide (([e]:List Expr).length+([]:List Keyword).length+(if ([]:List Keyword).isEmpty then 0 else 1)<30))=true
 line:(apos.endLine==cpos.line)=true
 trees:backTo cpos (starEach [e] X.env)=[(false,eval e X.env)]
end L2
namespace L2
open PySem PySem.Spec PyProof.Rows
section
variable {X:Cx}
theorem MY : BW X (.builtin "len") (fun xs H Q=>∃ a kvs,xs = [V.ref a] /\ H a = some (.dK kvs) /\ Q (.int kvs.length) H):= by
 intro pins s σ H xs us Q I r h
 obtain ⟨a,kvs,rfl,ha,q⟩:=h
 obtain ⟨u,rfl,ru⟩:=DE r
 cases ru
 exact RY I (.inl ha) fun t s' I'=>⟨.int kvs.length,H,I',⟨t,rfl⟩,q⟩
end
section
variable {κ:Type} [DecidableEq κ]
theorem MS : ∀ {l:List κ} {k:κ},l.Nodup -> ¬ k ∈ l->(l++[k]).Nodup
 | [],k,_,_=>by simp
 | a::r,k,h,hk=>by
  obtain ⟨h1,h2⟩:=List.nodup_cons.mp h
  show (a::(r++[k])).Nodup
  refine List.nodup_cons.mpr ⟨fun m=>?_,MS h2 fun m=>hk (List.mem_cons.mpr (Or.inr m))⟩
  rcases List.mem_append.mp m with q | q
  ·exact h1 q
  ·exact hk (List.mem_cons.mpr (Or.inl (List.mem_singleton.mp q).symm))
end
end L2
namespace L2
open PySem PySem.Spec PyProof.Rows
end L2
namespace L2
open PySem
def Di (s:List Int) (z:Int):List Int:=if z ∈ s then s else s++[z]
def C0 (ns:List Int):List Int:=ns.foldl Di []
def Bm (ns:List Int):List Int:=ns.map fun z=>((C0 ns).idxOf z:Int)
theorem Ce (xs:List Int) (z:Int):C0 (xs++[z])=Di (C0 xs) z:=by unfold C0;rw[List.foldl_append];rfl
theorem MT {s:List Int} {z y:Int}:y ∈ Di s z ↔ y ∈ s\/y=z:= by
 unfold Di;split
 ·constructor
  ·exact .inl
  ·rintro (h | rfl)
   ·exact h
   ·assumption
 ·simp
theorem Eb (xs:List Int) : ∀ z,z ∈ C0 xs ↔ z ∈ xs:= by
 refine Cj (P:=fun xs=>∀ z,z ∈ C0 xs ↔ z ∈ xs) (fun z=>by simp [C0]) (fun xs y ih z=>?_) xs
 rw[Ce,MT,ih z];simp
theorem Id {s:List Int} {z y:Int} (h:y ∈ s):(Di s z).idxOf y=s.idxOf y:= by
 unfold Di;split
 ·rfl
 ·rw[List.idxOf_append,if_pos h]
theorem Ll {s:List Int} {z:Int} (h:z ∉ s):(Di s z).idxOf z=s.length:= by
 unfold Di;rw[if_neg h,List.idxOf_append,if_neg h];simp
theorem Jy (xs:List Int) (z:Int):Bm (xs++[z])=Bm xs++[((Di (C0 xs) z).idxOf z:Int)]:= by
 unfold Bm
 rw[Ce,List.map_append]
 congr 1
 refine List.map_congr_left fun y hy=>?_
 rw[Id ((Eb xs y).mpr hy)]
theorem CP (xs:List Int):(Bm xs).length=xs.length:=by unfold Bm;rw[List.length_map]
theorem JB (xs:List Int):(C0 xs).length<=xs.length:= by
 refine Cj (P:=fun xs=>(C0 xs).length<=xs.length) (by simp [C0]) (fun xs z ih=>?_) xs
 rw[Ce];unfold Di;split
 ·simp;omega
 ·simp;omega
theorem Gw (xs:List Int):B3 0 (Bm xs)=true/\fresh 0 (Bm xs)=(C0 xs).length:= by
 refine Cj (P:=fun xs=>B3 0 (Bm xs)=true/\fresh 0 (Bm xs)=(C0 xs).length) ⟨rfl,rfl⟩ (fun xs z ih=>?_) xs
 obtain ⟨h1,h2⟩:=ih
 rw[Jy,Dr,Dw,h1,h2,Ce]
 by_cases h:z ∈ C0 xs
 ·have e:(Di (C0 xs) z).idxOf z=(C0 xs).idxOf z:=Id h
  have hl:(C0 xs).idxOf z<(C0 xs).length:=List.idxOf_lt_length_of_mem h
  rw[e]
  refine ⟨?_,?_⟩
  ·rw[decide_eq_true (by omega),decide_eq_true (by omega)];rfl
  ·rw[if_neg (by omega)];unfold Di;rw[if_pos h]
 ·rw[Ll h]
  refine ⟨?_,?_⟩
  ·rw[decide_eq_true (by omega),decide_eq_true (by omega)];rfl
  ·rw[if_pos rfl];unfold Di;rw[if_neg h,List.length_append];simp
theorem Im {xs:List Int} (h1:1<=xs.length) (h9:xs.length<=9):FW (Bm xs)=true:= by
 unfold FW
 rw[CP,(Gw xs).1,decide_eq_true h1,decide_eq_true h9];rfl
def Hu:List Int->Nat->List (Key × V)
 | [],_=>[]
 | z::r,n=>(Sum.inl z,V.int n)::Hu r (n+1)
theorem DR : ∀ (s:List Int) (n:Nat),(Hu s n).length=s.length
 | [],_=>rfl
 | _::r,n=>by show (Hu r (n+1)).length+1=_;rw[DR r];rfl
theorem HE : ∀ (s:List Int) (n:Nat) (z:Int),Hu (s++[z]) n=Hu s n++[(Sum.inl z,V.int ((n+s.length:Nat):Int))]
 | [],n,z=>by show [(Sum.inl z,V.int n)]=_;simp [Hu]
 | y::r,n,z=>by
  show (Sum.inl y,V.int n)::Hu (r++[z]) (n+1)=(Sum.inl y,V.int n)::(Hu r (n+1)++_)
  rw[HE r,List.length_cons]
  rw[show n+1+r.length=n+(r.length+1) by omega]
theorem DZ : ∀ (s:List Int) (n:Nat) (z:Int),Ex (Hu s n) (Sum.inl z:Key)=if z ∈ s then some (V.int ((n+s.idxOf z:Nat):Int)) else none
 | [],n,z=>by simp [Hu,Nt]
 | y::r,n,z=>by
  by_cases e:y=z
  ·subst e
   rw[if_pos List.mem_cons_self]
   show Ex ((Sum.inl y,V.int n)::Hu r (n+1)) (Sum.inl y)=_
   rw[Du rfl]
   simp
  ·show Ex ((Sum.inl y,V.int n)::Hu r (n+1)) (Sum.inl z)=_
   rw[CJ (fun q=>e (Sum.inl.inj q)),DZ r]
   have e2:(y::r).idxOf z=r.idxOf z+1:=by rw[List.idxOf_cons,beq_eq_false_iff_ne.mpr e];rfl
   rw[e2]
   by_cases h:z ∈ r
   ·rw[if_pos h,if_pos (List.mem_cons_of_mem _ h),show n+1+r.idxOf z=n+(r.idxOf z+1) by omega]
   ·rw[if_neg h,if_neg (fun q=>(List.mem_cons.mp q).elim (fun w=>e w.symm) h)]
end L2
namespace L2
open PySem
end L2
namespace L2
open PySem PySem.Spec PyProof.Rows
section
variable {X:Cx} {K:PySem.W.Frag}
theorem HD : ∀ {its:List Value} {ns:List Int},Bf (ns.map V.int) its->IntsAre its ns
 | [],[],_=>.nil
 | _,n::ns,.cons ⟨t,e⟩ r=>by subst e;exact .cons n t (HD r)
theorem IR (h : X.K = K:=by rfl) : BW X (.builtin "sorted") (fun xs H Q=>∃ (p : Addr) (ns : List Int),xs = [.ref p] /\ SqL K H p (ns.map V.int) /\ ns.length < 64 /\ ∀ (l : Addr) (ms : List Int),ms.Perm ns -> ms.Pairwise (· <= ·) -> H l = none -> Q (.ref l) (upd H l (.lst (ms.map V.int)))):= by
 subst h
 intro pins s σ H xs us Q I r h
 obtain ⟨p,ns,rfl,hq,h64,q⟩:=h
 obtain ⟨u,rfl,ru⟩:=DE r
 cases ru
 obtain ⟨its,r',pl,hz⟩:=I.list hq
 have hlen:=r'.length
 rw[List.length_map] at hlen
 refine sorted_ints pl.isList (HD r') (by omega) fun out ms a1 a2 a3=>?_
 obtain ⟨e,he⟩:=sortedAll_at s.heap its out
 have hml:=a2.length_eq
 have he' : (sortedAll s.heap its out).get? (s.heap.objs.size + 1) = some { cls:=.type "list",dict:=none,data:=.seq out.toList.toArray e,slots:=#[] }:=by rw[Array.toArray_toList]; exact he
 exact ⟨.ref (s.heap.objs.size+1),_,I.laid (t':=s.toks) (fun _ _=>sortedAll_old) (Nat.le_succ _) (show A8 X.prog X.w _ _ _ (.lst (ms.map V.int)) from ⟨Ah (by rw[List.length_map];omega),out.toList,e,Dg a1,he'⟩),rfl,q _ ms a2 a3 (I.hok.fresh (Nat.le_succ _))⟩
theorem IS : BW X (.type "range") (fun xs H Q=>∃ n : Int,xs = [.int n] /\ ∀ p,H p = none -> Q (.ref p) (upd H p (.rng 0 n))):= by
 intro pins s σ H xs us Q I r h
 obtain ⟨n,rfl,q⟩:=h
 obtain ⟨u,rfl,t,rfl⟩:=DE r
 refine call_range_1 ⟨.ref s.heap.objs.size,_,I.laid (t':=s.toks+1+1) (fun b o e=>Heap.get?_push_of_some _ e) (Nat.le_refl _) (show A8 X.prog X.w _ _ _ (.rng 0 n) from ⟨_,_,_,Heap.get?_push_size _ rfl⟩),rfl,q _ (I.hok.fresh (Nat.le_refl _))⟩
theorem K9 (hc : X.calm = true:=by rfl) : BW X (.type "list") (fun xs H Q=>∃ (p : Addr) (n : Int),xs = [.ref p] /\ H p = some (.rng 0 n) /\ n <= 1000 /\ -1000 <= n /\ ∀ l,H l = none -> Q (.ref l) (upd H l (.lst (((List.range n.toNat).map fun (k : Nat)=>(k : Int)).map V.int)))):= by
 intro pins s σ H xs us Q I r h
 obtain ⟨p,n,rfl,hp,h1,h2,q⟩:=h
 obtain ⟨u,rfl,ru⟩:=DE r
 cases ru
 obtain ⟨t,u,v,e⟩ : ∃ t u v,s.heap.get? p = some { cls:=.type "range",data:=.fields #[.int 0 t,.int n u,.int 1 v] }:=I.hok p _ hp
 refine call_list_range (n:=n.toNat) (I.ok.hd hc) e (small_one (by omega) (by omega) (by omega) (by omega)) (by rw[rangeSize_one];split <;> omega) (by omega) fun h' tk acc c' hk hD hI=>?_
 have hI2:=PySem.W.kll_ints acc.toList 0 n.toNat (by rw[Array.length_toList];exact hI.1) fun j v hj=>hI.2 j v (by rw[<- hj,Array.getElem?_toList])
 have e2:PySem.W.rangeKs 0 n.toNat=(List.range n.toNat).map fun (k:Nat)=>(k:Int):= by
  unfold PySem.W.rangeKs
  exact List.map_congr_left fun k _=>by omega
 rw[e2] at hI2
 have hD' : h'.get? s.heap.objs.size = some { cls:=.type "list",dict:=none,data:=.seq acc.toList.toArray c',slots:=#[] }:=by rw[Array.toArray_toList]; exact hD
 exact ⟨.ref s.heap.objs.size,_,I.laid (t':=tk) hk (Nat.le_refl _) (show A8 X.prog X.w _ _ _ (.lst _) from ⟨Ah (by simp;omega),acc.toList,c',Dg hI2,hD'⟩),rfl,q _ (I.hok.fresh (Nat.le_refl _))⟩
end
end L2
namespace L2
open PySem PySem.Spec PyProof.Rows
def rg (n:Nat):List Int:=(List.range n).map fun (k:Nat)=>(k:Int)
theorem D3 (n:Nat):(rg n).length=n:=by unfold rg;simp
theorem BV {n:Nat} {z:Int}:z ∈ rg n ↔ 0<=z/\z<n:= by
 unfold rg
 rw[List.mem_map]
 constructor
 ·rintro ⟨k,hk,rfl⟩
  have:=List.mem_range.mp hk
  omega
 ·rintro ⟨h0,h1⟩
  exact ⟨z.toNat,List.mem_range.mpr (by omega),by omega⟩
theorem Qx {n i:Nat} (h:i<n):(rg n)[i]?=some (i:Int):= by
 unfold rg;rw[List.getElem?_map,List.getElem?_range h];rfl
theorem N7 (n:Nat):(rg n).Nodup:= by
 unfold rg
 rw[List.nodup_iff_pairwise_ne,List.pairwise_map]
 exact List.Pairwise.imp (fun h=>by omega) List.pairwise_lt_range
end L2
namespace PySem
open Sem (wp)
open AutoSeq1 (wpAny_loadPart')
section
variable {prog:Program} {w:World} {A:Around} {E:Value->Shared->Prop} {s:Shared}
theorem CK {it l:Addr} {i:Nat} {items} {x:Value} {Q:Value->Shared->Prop} (hit:s.heap.IsTupleIter it l i)
  (hl:s.heap.IsTuple l items) (hx:items[i]?=some x)
  (hQ : ∀ h',h'.IsTupleIter it l (i+1)->Heap.SameBut it s.heap h'->Q x { s with heap:=h' }) :
  wpAny (model prog w) A (Builtin.SmallTypes.nextOf (.ref it)) Q E s:= by
 obtain ⟨o,ho,hc,hd⟩:=id hit
 obtain ⟨ol,hol,_,nl,hdl⟩:=hl
 unfold Builtin.SmallTypes.nextOf
 refine wpAny_bind (wpAny_callSpecial?_slot (name:=Str.ofString "__next__") hit.typeIs F.slot_tuple_iterator_next
  (wpAny_call_entry F.slot_tuple_iterator_next hit.typeIs F.entry_tuple_iterator_next ?_ (F.args_tuple_iterator_next_1 _)))
 show wpAny _ _ (field (.ref it) 0 >>= _) _ _ s
 refine wpAny_bind (wpAny_field ho hd (x:=.ref l) rfl ?_)
 show wpAny _ _ (if (Value.ref l==Value.none)=true then _ else _) _ _ s
 rw[if_neg (show ¬ ((Value.ref l==Value.none)=true) from Bool.false_ne_true)]
 show wpAny _ _ (field (.ref it) 1 >>= _) _ _ s
 refine wpAny_bind (wpAny_field ho hd (x:=.int i 0) rfl ?_)
 show wpAny _ _ (seqItems? (.ref l) >>= _) _ _ s
 refine wpAny_bind (wpAny_seqItems hol hdl ?_)
 simp only [Int.toNat_natCast,hx]
 refine wpAny_bind (wpAny_setField ho hd (by simp) (wpAny_pure ⟨x,rfl,wpAny_pure (hQ _ ?_ (Heap.SameBut.update ..))⟩))
 exact ⟨_,Heap.get?_update_self _ ho (Obj.isFreed_of_fields (Obj.data_mapFields hd _)),(Obj.cls_mapFields ..).trans hc,by
  rw[Obj.data_mapFields hd];simp [rawInt]⟩
theorem BG {it l:Addr} {i:Nat} {items} {Q:Value->Shared->Prop} (hh:A.handled=none)
  (hit:s.heap.IsTupleIter it l i) (hl:s.heap.IsTuple l items) (hx:items[i]?=none)
  (hE : ∀ h' e,Heap.ExtBut it s.heap h' -> (∃ o,h'.get? e = some o /\ o.cls = .type "StopIteration") -> E (.ref e) { s with heap:=h' }) :
  wpAny (model prog w) A (Builtin.SmallTypes.nextOf (.ref it)) Q E s:= by
 obtain ⟨o,ho,hc,hd⟩:=id hit
 obtain ⟨ol,hol,_,nl,hdl⟩:=hl
 unfold Builtin.SmallTypes.nextOf
 refine wpAny_bind (wpAny_callSpecial?_slot (name:=Str.ofString "__next__") hit.typeIs F.slot_tuple_iterator_next
  (wpAny_call_entry F.slot_tuple_iterator_next hit.typeIs F.entry_tuple_iterator_next ?_ (F.args_tuple_iterator_next_1 _)))
 show wpAny _ _ (field (.ref it) 0 >>= _) _ _ s
 refine wpAny_bind (wpAny_field ho hd (x:=.ref l) rfl ?_)
 show wpAny _ _ (if (Value.ref l==Value.none)=true then _ else _) _ _ s
 rw[if_neg (show ¬ ((Value.ref l==Value.none)=true) from Bool.false_ne_true)]
 show wpAny _ _ (field (.ref it) 1 >>= _) _ _ s
 refine wpAny_bind (wpAny_field ho hd (x:=.int i 0) rfl ?_)
 show wpAny _ _ (seqItems? (.ref l) >>= _) _ _ s
 refine wpAny_bind (wpAny_seqItems hol hdl ?_)
 simp only [Int.toNat_natCast,hx]
 refine wpAny_bind (wpAny_rule (wpAny_bind (wpAny_setField ho hd (by simp) ?_)))
 show wpAny _ _ (newExc (.type "StopIteration") [] >>= _) _ _ _
 refine wpAny_bind ?_
 simp only [newExc,newTuple]
 refine wpAny_bind (wpAny_newObj_type ?_ (by size_fits))
 refine wpAny_bind (m:=firstArgMember _ _) (wpAny_of_eq (a:=Value.none) (by first | rfl | (simp only [firstArgMember];rfl)) ?_)
 refine wpAny_newObj_type ?_ (by size_fits)
 simp only [raiseNew]
 refine wpAny_bind (wpAny_handled ?_)
 first | rw[show A.in1.handled=none from hh] | rw[hh]
 refine wpAny_bind (wpAny_pure (wpAny_throw ?_))
 exact hE _ _ (((Heap.SameBut.update ..).extBut.push _).push _) ⟨_,Heap.get?_push_size _ rfl,rfl⟩
end
theorem Draws.tuple {prog:Program} {w:World} {A:Around} (hh:A.handled=none) (it l:Addr) (hne:l≠it) (items:Array Value) :
  Draws prog w A it [it,l] items.size (fun i v=>items[i]?=some v) (fun i h=>h.IsTupleIter it l i/\h.IsTuple l items) where
 live:=fun _ _ st=>let ⟨o,ho,_⟩:=st.1;⟨o,ho⟩
 frame:=fun _ _ _ st hk=>⟨st.1.at fun o e=>hk it (by simp) o e,st.2.at fun o e=>hk l (by simp) o e⟩
 item:=fun i s Q E hi st hQ=>by
  refine CK st.1 st.2 (x:=items[i]) (by simp [hi]) fun h' hit' hs'=>?_
  exact hQ _ h' s.toks (by simp [hi]) ⟨hit',st.2.extBut hs'.extBut hne⟩ hs'
 done:=fun s Q E st hE=>BG hh st.1 st.2 (by simp) hE
end PySem
namespace L2
open PySem PySem.Spec PyProof.Rows
theorem Inv.turnL {X:Cx} {pins:List (Addr × Obj)} {σ:St} {H:Hp} {s:Shared} {h':Heap} {t':Nat} {wr:List Addr} (I:Inv X pins σ H s) (k : ∀ b o,b ∉ wr->s.heap.get? b=some o->h'.get? b=some o) (f : ∀ b ∈ wr,ES X pins H b):Inv X pins σ H { s with heap:=h',toks:=t' }:= by
 have nit : ∀ b u,H b=some u->b ∉ wr:=fun b u e z=>by rw[(f b z).1] at e;cases e
 refine I.step (g':=s.gens) (d':=s.drawn) (ch:=wr) (fun b hb=>?_) (fun b o _ _ hc e _=>k b o hc e) (fun b o _ _ hc e _=>⟨o.slots,k b o hc e⟩) (fun _ _ _ _ n=>n)
  (fun b o hc e=>⟨o,k b o hc e⟩) (fun _ _ e=>e) (fun _ _ _ e=>e) (fun b ps e=>⟨#[],by rw[e];simp⟩) (fun m hm=>?_) (fun b u e=>?_) I.bare
 ·obtain ⟨_,a2,_,a4,a5,a6⟩:=f b hb
  exact ⟨a4,a2,a5,a6⟩
 ·obtain ⟨o,es,ep,ho,r⟩:=hm
  exact ⟨o,es,ep,k _ o (fun z=>(f _ z).2.1 rfl) ho,r⟩
 ·refine (I.hok b u e).stay (fun c v hc q=>k c v ?_ q) (fun _ q=>q) fun _ _ q=>q
  rcases hc with z | z
  ·rw[z];exact nit b u e
  ·exact nit c _ z
theorem Inv.turnNew {X:Cx} {pins:List (Addr × Obj)} {σ:St} {H:Hp} {s:Shared} {h':Heap} {t':Nat} {wr:List Addr} {T:Addr} {xs:List V} {its:List Value} (I:Inv X pins σ H s) (k : ∀ b o,b ∉ wr->s.heap.get? b=some o->h'.get? b=some o) (f : ∀ b ∈ wr,ES X pins H b)
  (hT:s.heap.objs.size<=T) (hz:xs.length<=sizeLine) (r:Bf xs its) (ht:h'.IsTuple T its.toArray):Inv X pins σ (upd H T (.tup xs)) { s with heap:=h',toks:=t' }:= by
 have hn:H T=none:=I.hok.fresh hT
 have nT : ∀ b o,s.heap.get? b=some o->b≠T:=fun b o e z=>absurd (Heap.lt_size e) (by rw[z];exact Nat.not_lt.mpr hT)
 have nit : ∀ b u,H b=some u->b ∉ wr:=fun b u e z=>by rw[(f b z).1] at e;cases e
 refine I.step (g':=s.gens) (d':=s.drawn) (ch:=wr) (fun b hb=>?_) (fun b o _ _ hc e _=>k b o hc e) (fun b o _ _ hc e _=>⟨o.slots,k b o hc e⟩) (fun b o _ e n=>by rw[Af (nT b o e)];exact n)
  (fun b o hc e=>⟨o,k b o hc e⟩) (fun b xs e=>by rw[Af (Aj e hn)];exact e) (fun b o u e=>by rw[Af (Aj e hn)];exact e) (fun b ps e=>⟨#[],by rw[Af (Aj e hn),e];simp⟩) (fun m hm=>?_) (fun b u e=>?_) I.bare
 ·obtain ⟨_,a2,_,a4,a5,a6⟩:=f b hb
  exact ⟨a4,a2,a5,a6⟩
 ·obtain ⟨o,es,ep,ho,r⟩:=hm
  exact ⟨o,es,ep,k _ o (fun z=>(f _ z).2.1 rfl) ho,r⟩
 ·by_cases hb:b=T
  ·subst hb
   rw[Ab] at e
   cases e
   exact ⟨hz,its,r,ht⟩
  ·rw[Af hb] at e
   refine (I.hok b u e).stay (fun c v hc q=>k c v ?_ q) (fun c q=>by rw[Af (Aj q hn)];exact q) fun c ys q=>by rw[Af (Aj q hn)];exact q
   rcases hc with z | z
   ·rw[z];exact nit b u e
   ·exact nit c _ z
theorem RO {J:It} {n:Nat} {M:List (Option Nat)} {σ:St} {g:TG} {tc:TT} {te:TE} {F:List V->Hp->Prop} {H:Hp} (Pv:Nat->List V->Hp->Prop) (hz:n<=sizeLine) (h0:Pv 0 [] H) (hgo : ∀ i ys H,i<n->Pv i ys H->J.go i H) (hst : ∀ ys H,Pv n ys H->J.stop n H) (hl : ∀ i ys H,i<=n->Pv i ys H->ys.length<=i)
  (hs : ∀ i x ys H H',i<n->Pv i ys H->J.yld i H x H'->g x (Et M σ) H' fun σ2 H2=>tc σ2 H2 fun b H3=>if b=true then te σ2 H3 fun v H4=>Pv (i+1) (ys++[v]) H4 else Pv (i+1) ys H3)
  (hd : ∀ ys H,Pv n ys H->F ys H):LM J M σ g tc te F H:= by
 refine ⟨fun i m ys H=>m=n-i/\i<=n/\Pv i ys H,⟨n,by simp,Nat.zero_le _,h0⟩,?_⟩
 rintro i m ys H ⟨rfl,hi,p⟩
 have hy:=hl i ys H hi p
 refine ⟨by omega,?_⟩
 by_cases hlt:i<n
 ·exact .inr ⟨hgo i ys H hlt p,by omega,Pv (i+1),fun ys' H' p'=>⟨n-(i+1),by omega,rfl,hlt,p'⟩,fun x H' y=>hs i x ys H H' hlt p y⟩
 ·have e:i=n:=by omega
  subst e
  exact .inl ⟨hst ys H p,hd ys H p⟩
def Sy (K:PySem.W.Frag) (a:Addr):It:=
 ⟨fun i H=>∃ xs x,SqT K H a xs/\xs[i]?=some x,fun i H x H'=>∃ T y,H T=none/\x = .ref T/\H'=upd H T (.tup [.int (i:Int),y]) /\ ∀ xs,SqT K H a xs->xs[i]?=some y,fun i H=>∃ xs,SqT K H a xs/\xs.length<=i⟩
theorem Qa {P:Program} {w:World} {K:PySem.W.Frag} {elts:List Expr} {kk:Nat} {ps:Pos} (a e it:Addr) (hei:e≠it):MA P w K (.Tuple elts kk ps) (Sy K a) [e,it] e (fun i h=>(∃ old,IsEnum h e it i old)/\h.IsTupleIter it a i) where
 mem:=by simp
 obj:=fun i h st b hb=>by
  obtain ⟨⟨old,h1⟩,o,e2,c,d⟩:=st
  rcases List.mem_cons.mp hb with rfl | hb
  ·exact ⟨_,h1,fun v z=>by cases z⟩
  ·have:b=it:=by simpa using hb
   subst this
   exact ⟨o,e2,fun v z=>by rw[d] at z;cases z⟩
 keep:=fun i h h' st k=>⟨let ⟨old,h1⟩:=st.1;⟨old,k e (by simp) _ h1⟩,let ⟨o,h1,r⟩:=st.2;⟨o,k it (by simp) _ h1,r⟩⟩
 item:= by
  intro X hP hw hK hc i pins s σ H E I hf st hg
  subst hP hw hK
  obtain ⟨xs,x,hq,hx⟩:=hg
  obtain ⟨its,rv,p,hz⟩:=I.tuple hq
  obtain ⟨u,hu,ru⟩:=rv.get hx
  have hp:s.heap.IsTuple a its.toArray:=show s.heap.IsTuple a its.toArray from p
  have hai:a≠it:=fun z=>by
   obtain ⟨o1,e1,c1,_⟩:=hp
   obtain ⟨o2,e2,c2,_⟩:=st.2
   rw[z,e2] at e1;cases e1;rw[c1] at c2;injection c2 with c3;exact absurd c3 (by decide)
  have hea:e≠a:=fun z=>by
   obtain ⟨o1,e1,c1,_⟩:=hp
   obtain ⟨old,e2⟩:=st.1
   rw[<- z,e2] at e1;cases e1;injection c1 with c3;exact absurd c3 (by decide)
  have hh:X.A.in1.handled=none:=I.ok.hd hc
  have W:=WalksT.enumerateD (Draws.tuple (prog:=X.prog) (w:=X.w) hh it a hai its.toArray) e hei (by simp [hei,hea]) (by simp)
  have il:i<its.toArray.size:= by
   have:=(List.getElem?_eq_some_iff.mp hu).1
   simpa using this
  refine W.item i s _ _ il ⟨st.1,st.2,hp⟩ fun T vals h' tk hP hT ht mid k=>?_
  obtain ⟨t,y,hy,rfl⟩:=hP
  have ey:y=u:= by
   have:its.toArray[i]?=some u:=by simpa using hu
   rw[this] at hy;exact (Option.some.inj hy).symm
  subst ey
  have hf' : ∀ b ∈ [e,it],ES X pins H b:=hf
  have I1:Inv X pins σ (upd H T (.tup [.int (i:Int),x])) { s with heap:=h',toks:=tk }:=I.turnNew (its:=[.int i t,y]) k hf' hT (by simp [Ah]) (.cons ⟨t,rfl⟩ (.cons ru .nil)) ht
  have hTn:H T=none:=I.hok.fresh hT
  have hne : ∀ b ∈ [e,it],upd H T (.tup [.int (i:Int),x]) b=none:=fun b hb=>by
   have hbT:b≠T:=fun z=>absurd hb (by rw[z];exact W.apart _ _ _ mid)
   rw[Af hbT];exact (hf b hb).1
  refine ⟨_,rfl,W.go elts kk ps i T { s with heap:=h',toks:=tk } _ E mid fun h'' st2 k2=>?_⟩
  refine ⟨.ref T,upd H T (.tup [.int (i:Int),x]),I1.turnL (t':=tk) (wr:=[e,it]) k2 (fun b hb=>⟨hne b hb,(hf b hb).2⟩),rfl,⟨T,x,hTn,rfl,rfl,fun ys hy=>by rw[I.tuple_inj hy hq];exact hx⟩,⟨st2.1,st2.2.1⟩,hne⟩
 done:= by
  intro X hP hw hK hc i pins s σ H E I hf st hg
  subst hP hw hK
  obtain ⟨xs,hq,hx⟩:=hg
  obtain ⟨its,rv,p,hz⟩:=I.tuple hq
  have hp:s.heap.IsTuple a its.toArray:=show s.heap.IsTuple a its.toArray from p
  have hai:a≠it:=fun z=>by
   obtain ⟨o1,e1,c1,_⟩:=hp
   obtain ⟨o2,e2,c2,_⟩:=st.2
   rw[z,e2] at e1;cases e1;rw[c1] at c2;injection c2 with c3;exact absurd c3 (by decide)
  have hh:X.A.in1.handled=none:=I.ok.hd hc
  have hl:=rv.length
  have st2:=st.2
  obtain ⟨old,st1⟩:=st.1
  unfold pyNext
  have hT : s.TypeIs (.ref e) "enumerate":=⟨_,st1,rfl⟩
  refine wpAny_bind (wpAny_attempt (wpAny_callSpecial?_slot (name:=Str.ofString "__next__") hT F.slot_enumerate_next (wpAny_call_entry F.slot_enumerate_next hT F.entry_enumerate_next ?_ (F.args_enumerate_next_1 _))))
  show wpAny _ _ (field (.ref e) 2 >>= _) _ _ _
  refine wpAny_bind (wpAny_field st1 rfl (x:=.ref it) rfl ?_)
  refine wpAny_bind (BG hh st2 hp (by simp;omega) fun h' x he' hx'=>?_)
  obtain ⟨o,ho,hc'⟩:=hx'
  refine wpAny_bind (wpAny_isInstance (T:="StopIteration") (b:=true) ⟨o,ho,hc'⟩ isSubtype_stop ?_)
  exact wpAny_pure ⟨rfl,I.turnL (t':=s.toks) (wr:=[it]) (fun b o hb q=>he' b o (by simpa using hb) q) fun b hb=>hf b (List.mem_cons_of_mem _ hb)⟩
 self:=fun _ _ _ _ _ st h=>let ⟨_,h1⟩:=st.1;wpAny_pyIter_enum h1 h
def QD (K:PySem.W.Frag) (a:Addr):It:=
 ⟨fun i H=>∃ xs x,SqL K H a xs/\xs[i]?=some x,fun i H x H'=>∃ T y,H T=none/\x = .ref T/\H'=upd H T (.tup [.int (i:Int),y]) /\ ∀ xs,SqL K H a xs->xs[i]?=some y,fun i H=>∃ xs,SqL K H a xs/\xs.length<=i⟩
theorem KR {P:Program} {w:World} {K:PySem.W.Frag} {elts:List Expr} {kk:Nat} {ps:Pos} (a e it:Addr) (hei:e≠it):MA P w K (.Tuple elts kk ps) (QD K a) [e,it] e (fun i h=>(∃ old,IsEnum h e it i old)/\h.IsListIter it a i) where
 mem:=by simp
 obj:=fun i h st b hb=>by
  obtain ⟨⟨old,h1⟩,o,e2,c,d⟩:=st
  rcases List.mem_cons.mp hb with rfl | hb
  ·exact ⟨_,h1,fun v z=>by cases z⟩
  ·have:b=it:=by simpa using hb
   subst this
   exact ⟨o,e2,fun v z=>by rw[d] at z;cases z⟩
 keep:=fun i h h' st k=>⟨let ⟨old,h1⟩:=st.1;⟨old,k e (by simp) _ h1⟩,let ⟨o,h1,r⟩:=st.2;⟨o,k it (by simp) _ h1,r⟩⟩
 item:= by
  intro X hP hw hK hc i pins s σ H E I hf st hg
  subst hP hw hK
  obtain ⟨xs,x,hq,hx⟩:=hg
  obtain ⟨its,rv,p,hz⟩:=I.list hq
  obtain ⟨u,hu,ru⟩:=rv.get hx
  have hp:s.heap.IsList a its.toArray:=show s.heap.IsList a its.toArray from p.isList
  have hai:a≠it:=fun z=>by
   obtain ⟨o1,e1,c1,_⟩:=hp
   obtain ⟨o2,e2,c2,_⟩:=st.2
   rw[z,e2] at e1;cases e1;rw[c1] at c2;injection c2 with c3;exact absurd c3 (by decide)
  have hea:e≠a:=fun z=>by
   obtain ⟨o1,e1,c1,_⟩:=hp
   obtain ⟨old,e2⟩:=st.1
   rw[<- z,e2] at e1;cases e1;injection c1 with c3;exact absurd c3 (by decide)
  have hh:X.A.in1.handled=none:=I.ok.hd hc
  have W:=WalksT.enumerateD (Draws.list (prog:=X.prog) (w:=X.w) hh it a hai its.toArray) e hei (by simp [hei,hea]) (by simp)
  have il:i<its.toArray.size:= by
   have:=(List.getElem?_eq_some_iff.mp hu).1
   simpa using this
  refine W.item i s _ _ il ⟨st.1,st.2,hp⟩ fun T vals h' tk hP hT ht mid k=>?_
  obtain ⟨t,y,hy,rfl⟩:=hP
  have ey:y=u:= by
   have:its.toArray[i]?=some u:=by simpa using hu
   rw[this] at hy;exact (Option.some.inj hy).symm
  subst ey
  have hf' : ∀ b ∈ [e,it],ES X pins H b:=hf
  have I1:Inv X pins σ (upd H T (.tup [.int (i:Int),x])) { s with heap:=h',toks:=tk }:=I.turnNew (its:=[.int i t,y]) k hf' hT (by simp [Ah]) (.cons ⟨t,rfl⟩ (.cons ru .nil)) ht
  have hTn:H T=none:=I.hok.fresh hT
  have hne : ∀ b ∈ [e,it],upd H T (.tup [.int (i:Int),x]) b=none:=fun b hb=>by
   have hbT:b≠T:=fun z=>absurd hb (by rw[z];exact W.apart _ _ _ mid)
   rw[Af hbT];exact (hf b hb).1
  refine ⟨_,rfl,W.go elts kk ps i T { s with heap:=h',toks:=tk } _ E mid fun h'' st2 k2=>?_⟩
  refine ⟨.ref T,upd H T (.tup [.int (i:Int),x]),I1.turnL (t':=tk) (wr:=[e,it]) k2 (fun b hb=>⟨hne b hb,(hf b hb).2⟩),rfl,⟨T,x,hTn,rfl,rfl,fun ys hy=>by rw[I.list_inj hy hq];exact hx⟩,⟨st2.1,st2.2.1⟩,hne⟩
 done:= by
  intro X hP hw hK hc i pins s σ H E I hf st hg
  subst hP hw hK
  obtain ⟨xs,hq,hx⟩:=hg
  obtain ⟨its,rv,p,hz⟩:=I.list hq
  have hp:s.heap.IsList a its.toArray:=show s.heap.IsList a its.toArray from p.isList
  have hai:a≠it:=fun z=>by
   obtain ⟨o1,e1,c1,_⟩:=hp
   obtain ⟨o2,e2,c2,_⟩:=st.2
   rw[z,e2] at e1;cases e1;rw[c1] at c2;injection c2 with c3;exact absurd c3 (by decide)
  have hh:X.A.in1.handled=none:=I.ok.hd hc
  have hl:=rv.length
  have st2:=st.2
  obtain ⟨old,st1⟩:=st.1
  unfold pyNext
  have hT : s.TypeIs (.ref e) "enumerate":=⟨_,st1,rfl⟩
  refine wpAny_bind (wpAny_attempt (wpAny_callSpecial?_slot (name:=Str.ofString "__next__") hT F.slot_enumerate_next (wpAny_call_entry F.slot_enumerate_next hT F.entry_enumerate_next ?_ (F.args_enumerate_next_1 _))))
  show wpAny _ _ (field (.ref e) 2 >>= _) _ _ _
  refine wpAny_bind (wpAny_field st1 rfl (x:=.ref it) rfl ?_)
  refine wpAny_bind (wpAny_nextOf_list_end hh st2 hp (by simp;omega) fun h' x he' hx'=>?_)
  obtain ⟨o,ho,hc'⟩:=hx'
  refine wpAny_bind (wpAny_isInstance (T:="StopIteration") (b:=true) ⟨o,ho,hc'⟩ isSubtype_stop ?_)
  exact wpAny_pure ⟨rfl,I.turnL (t':=s.toks) (wr:=[it]) (fun b o hb q=>he' b o (by simpa using hb) q) fun b hb=>hf b (List.mem_cons_of_mem _ hb)⟩
 self:=fun _ _ _ _ _ st h=>let ⟨_,h1⟩:=st.1;wpAny_pyIter_enum h1 h
def QK (K:PySem.W.Frag) (ta:TA):TI:=fun σ H R=>ta σ H fun vs H1=>∃ a,vs=[.ref a]/\(∃ xs,SqL K H1 a xs)/\R (QD K a) H1
theorem JU {X : Cx} {K : PySem.W.Frag} {elts : List Expr} {kk : Nat} {ps p pos : Pos} {l : Expr} {ta : TA} (hg : Gl X "enumerate") (hm : X.mg "enumerate" = none) (ha : PA X [l] ta) (hs : starEach [l] X.env = [(false,eval l X.env)]:=by rfl) (h : X.K = K:=by rfl) :
  PI X (.Tuple elts kk ps) (.Call (.Name "enumerate" p) [l] [] pos) (QK K ta):= by
 subst h
 intro pins s σ H R I h
 refine Call_ (Gq I hg hm (PyProof.Rows.boot_enumerate) (PyProof.Rows.callWith_type1 (thn (ha pos pins s σ H _ I h) fun us s1 ⟨vs,H1,I1,r1,q1⟩=>?_) hs rfl))
 obtain ⟨a,e,⟨xs,hq⟩,q⟩:=q1
 subst e
 obtain ⟨u,rfl,ru⟩:=r1.one
 cases ru
 obtain ⟨its,rv,p,hz⟩:=I1.list hq
 have hp:s1.heap.IsList a its.toArray:=show s1.heap.IsList a its.toArray from p.isList
 refine call_enumerate_list hp fun h' he hit hsz hk=>?_
 have I2:Inv X pins σ H1 { s1 with heap:=h',toks:=s1.toks }:=I1.kept hk
 refine wpAny_pyIter_enum he ⟨_,[s1.heap.objs.size+1,s1.heap.objs.size],_,_,H1,rfl,I2,KR a (s1.heap.objs.size+1) s1.heap.objs.size (Nat.succ_ne_self _),⟨⟨_,he⟩,hit⟩,fun b hb=>?_,q⟩
 have hge:s1.heap.objs.size<=b:= by
  rcases List.mem_cons.mp hb with rfl | hb
  ·exact Nat.le_succ _
  ·rw[List.mem_singleton.mp hb];exact Nat.le_refl _
 exact I1.fpOk hge (I1.hok.fresh hge)
end L2
namespace PySem
open Sem (wp)
open AutoSeq1 (wpAny_loadPart')
end PySem
namespace L2
open PySem PySem.Spec PyProof.Rows
end L2
namespace PySem
open Sem (wp)
open AutoSeq1 (wpAny_loadPart')
namespace RV
end RV
end PySem
namespace HT
open PySem PySem.Spec PyProof.Rows
end HT
namespace L2
open PySem PySem.Spec PyProof.Rows
end L2
namespace PySem
open Sem (wp)
open AutoSeq1 (wpAny_loadPart')
end PySem
namespace L2
open PySem PySem.Spec PyProof.Rows
end L2
namespace L2
open PySem PySem.Spec PyProof.Rows
section
variable {X:Cx} {K:PySem.W.Frag}
def R7 (C D:Addr) (n:Nat) (tb:XK->TS) (th tk:TS):TS:=fun Z σ H=>tb (fun c _ H'=>(c = .ref C/\th Z (List.replicate n none) H')\/(c = .ref D/\tk Z (List.replicate n none) H')) Z σ H
theorem OZ {x y:Str} {C D:Addr} {body:List Stmt} {b₀ c₀:Stmt} {suite tuite:List Stmt} {tb:XK->TS} {th tk:TS} {np hpos np2 hpos2 pos:Pos} (hst:X.stack=X.env::X.outer) (hfm:X.env.frame=some X.env.locals) (hc:X.calm=true)
  (hg : Gl X x) (hm : X.mg x = some (.ref C)) (hq : PySem.W.excIn X.K C bmV "ValueError.__new__" = true) (hg2 : Gl X y) (hm2 : X.mg y = some (.ref D)) (hq2 : PySem.W.excIn X.K D bmV "ValueError.__new__" = true) (hne : PySem.W.exmOne X.K (.ref D) (.ref C) = some false)
  (hb : ∀ pins E,PSs (N6 X pins E) body (tb E)) (hh : ∀ pins ea,PSs (EC X pins ea) (b₀ :: suite) th) (hk : ∀ pins ea,PSs (EC X pins ea) (c₀ :: tuite) tk) (hd : (x == ("__debug__" : Str)) = false:=by decide) (hd2 : (y == ("__debug__" : Str)) = false:=by decide) :
  PS X (.Try body [.ExceptHandler (some (.Name x np)) none (b₀::suite) hpos,.ExceptHandler (some (.Name y np2)) none (c₀::tuite) hpos2] [] [] pos) (R7 C D X.N.length tb th tk):= by
 intro pins s σ H Z I h
 have back : ∀ {A:Around} {cm:Bool} {E:Value->Shared->Prop} {f:Flow} {s':Shared},SP (X.alt (X.pn++pins) A cm E) [] Z f s'->SP X pins Z f s':=fun {A cm E f s'} q=>by
  have un : ∀ {σ':St} {H':Hp},Inv (X.alt (X.pn++pins) A cm E) [] σ' H' s'->Inv X pins σ' H' s':=fun {σ' H'} J=>
   ⟨I.ok,J.os,J.bare,J.base,J.loc,J.cell,J.free,J.freeC,fun p hp=>J.pin p (by simpa using hp),J.hok,J.len⟩
  cases f with
  | next=>obtain ⟨σ',H',J,q⟩:=q;exact ⟨σ',H',un J,q⟩
  | brk=>obtain ⟨σ',H',J,q⟩:=q;exact ⟨σ',H',un J,q⟩
  | cont=>obtain ⟨σ',H',J,q⟩:=q;exact ⟨σ',H',un J,q⟩
  | ret v=>obtain ⟨x',σ',H',J,r,q⟩:=q;exact ⟨x',σ',H',un J,r,q⟩
 have I0:Inv (N6 X pins (fun c _ H'=>(c = .ref C/\th Z (List.replicate X.N.length none) H')\/(c = .ref D/\tk Z (List.replicate X.N.length none) H'))) [] σ H s:=I.alt rfl I.ok.hd fun p hp=>by simpa using hp
 refine wpAny_Try_except (wpAny_mono (hb pins _ [] s σ H Z I0 h) (fun f s1 q=>?_) (fun e s1 q=>?_))
 ·have q':=back q
  cases f with
  | next=>exact wpAny_execs_nil q'
  | brk=>exact q'
  | cont=>exact q'
  | ret v=>exact q'
 ·obtain ⟨ea,cls,H',B,σ',rfl,J,⟨a0,fl⟩,c1,c2,c3,c4,hE⟩:=q
  rw[hst] at fl
  refine wpAny_looks_onW (by rw[I.ok.frames,hst]) hfm fl fun h4 hheld hsm4=>?_
  refine wpAny_landsW hheld fun h5 fl5 hsm5=>?_
  have sm5:=hsm4.trans hsm5
  have J5:=J.slots fl5.1 sm5 c1 c2 c3 (fun p hp=>c4 p (by simpa using hp))
  obtain ⟨ob,hob,hobc⟩:=fl5.there
  have Jh:Inv (EC X pins ea) [] σ' H' { s1 with heap:=h5 }:=J5.alt rfl (fun z=>by cases z) fun p hp=>hp
  have fin : ∀ {bs:List Stmt} {c:Stmt} {t:TS},(∀ pins ea,PSs (EC X pins ea) (c::bs) t)->t Z (List.replicate X.N.length none) H' -> ∀ (hp:Pos),
    codeAny (model X.prog X.w) (X.A.mark (some (.ref ea))) (.handlers (.ref ea) [.ExceptHandler none none (c::bs) hp] X.env) (fun r s₂=>match r with | .ok f=>SP X pins Z f s₂ | .error x=>cameBackBy (model X.prog X.w) X.A X.env X.xe x s₂) { s1 with heap:=h5 }:=fun {bs c t} ht hz hp=>by
   refine codeAny_handlers_suite ?_
   refine lands_againW fl5 fun h6 fl6 hsm6=>?_
   have J6:=J.slots fl6.1 (sm5.trans hsm6) c1 c2 c3 (fun p hp=>c4 p (by simpa using hp))
   have Jh6:Inv (EC X pins ea) [] σ' H' { s1 with heap:=h6 }:=J6.alt rfl (fun z=>by cases z) fun p hp=>hp
   have Jw:Inv (EC X pins ea) [] (List.replicate X.N.length none) H' { s1 with heap:=h6 }:=Jh6.weak (by rw[List.length_replicate];exact Jh6.len.symm) fun i v e=>by
    rw[List.getElem?_replicate] at e
    split at e <;> cases e
   exact wpAny_mono (ht pins ea [] _ _ H' Z Jw hz) (fun f s2 q2=>back q2) fun _ _ z=>z.elim
  refine wpAny_handleBy_cons (codeAny_handlers_test (Cu Jh hg hm ?_ hd)) (by intro q;cases q)
  rcases hE with ⟨hcls,hE⟩ | ⟨hcls,hE⟩
  ·subst hcls
   obtain ⟨bm,N,nm,q,bs,hdct,sn,sub,ab,col,dd,k0,k1,k2,k3,k5,mN,hC,hN,hni,TL⟩:=GG Jh.ok.mod.kin hq
   refine wpAny_excMatches_sub_self (Jh.bk _ _ hC) hob hobc (TL.hasType (by decide +kernel)) ?_
   exact fin hh hE hpos
  ·subst hcls
   have LT:PySem.W.Looks (model X.prog X.w) h5 (typeOf (.ref ea)) (.ref D):= by
    rw[<- hobc]
    exact (PySem.W.Looks.ld hob).andThen .now
   refine (PySem.W.exm_one (M:=model X.prog X.w) (c:=.ref C) Jh.kIn LT hne) _ _ _ { s1 with heap:=h5 } (fun b o e=>e) ?_
   show wpAny _ _ (handleBy _ _ _) _ _ _
   refine wpAny_handleBy_cons (codeAny_handlers_test (Cu Jh hg2 hm2 ?_ hd2)) (by intro q;cases q)
   obtain ⟨bm,N,nm,q,bs,hdct,sn,sub,ab,col,dd,k0,k1,k2,k3,k5,mN,hC,hN,hni,TL⟩:=GG Jh.ok.mod.kin hq2
   refine wpAny_excMatches_sub_self (Jh.bk _ _ hC) hob hobc (TL.hasType (by decide +kernel)) ?_
   exact fin hk hE hpos2
def Mf:List V->List V->Bool
 | [],[]=>true
 | x::xs,y::ys=>eqV x y&&Mf xs ys
 | _,_=>false
theorem FX (n:Nat) (f:Nat->Bool):(List.range (n+1)).all f=(f 0&&(List.range n).all fun j=>f (j+1)):= by
 rw[List.range_succ_eq_map,List.all_cons,List.all_map];rfl
theorem Dy : ∀ (xs ys:List V),((List.range (min xs.length ys.length)).all (fun j=>eqV (xs.getD j .non) (ys.getD j .non))&&(xs.length==ys.length))=Mf xs ys
 | [],[]=>rfl
 | [],_::_=>by simp [Mf]
 | _::_,[]=>by simp [Mf]
 | x::xs,y::ys=>by
  rw[List.length_cons,List.length_cons,Nat.succ_min_succ,FX]
  have h:=Dy xs ys
  show (eqV x y&&(List.range (min xs.length ys.length)).all (fun j=>eqV (xs.getD j .non) (ys.getD j .non))&&(xs.length+1==ys.length+1))=(eqV x y&&Mf xs ys)
  rw[<- h,Bool.and_assoc]
  congr 2
  simp
theorem Ni {xs ys:List V} (h:xs.length≠ys.length):Mf xs ys=false:= by
 rw[<- Dy,Bool.and_eq_false_iff];right;simpa using h
theorem MG {xs:List V} {us:List Value} (r:Bf xs us) (j:Nat) (h:j<us.toArray.size):Be (xs.getD j .non) us.toArray[j]/\j<xs.length:= by
 have hl:=r.length
 have hj:j<xs.length:=by simp at h;omega
 obtain ⟨u,e,ru⟩:=r.get (List.getElem?_eq_getElem hj)
 have:us.toArray[j]=u:= by
  have h2:j<us.length:=by simpa using h
  rw[List.getElem?_eq_getElem h2] at e
  simpa using Option.some.inj e
 rw[this,List.getD_eq_getElem?_getD,List.getElem?_eq_getElem hj]
 exact ⟨ru,hj⟩
theorem MP {xs:List V} (h:xs.all D8=true) (j:Nat):D8 (xs.getD j .non)=true:= by
 rw[List.getD_eq_getElem?_getD]
 cases e:xs[j]? with
 | none=>rfl
 | some x=>exact List.all_eq_true.mp h x (List.mem_of_getElem? e)
theorem Gv {A:Around} {s:Shared} {xs ys:List V} {its its2:List Value} (r1:Bf xs its) (r2:Bf ys its2) (f1:xs.all D8=true) (f2:ys.all D8=true) (j:Nat) (h1:j<its.toArray.size) (h2:j<its2.toArray.size) :
  SeqAt.EqAt A s its.toArray[j] its2.toArray[j] (eqV (xs.getD j .non) (ys.getD j .non)):=
 Os (MG r1 j h1).1 (MG r2 j h2).1 (MP f1 j) (MP f2 j)
def RN (K:PySem.W.Frag) (g:Bool->V):R2:=fun x y H Q=>∃ (a b:Addr) (xs ys:List V),x = .ref a/\y = .ref b/\((SqT K H a xs/\SqT K H b ys)\/(SqL K H a xs/\SqL K H b ys))/\xs.all D8=true/\ys.all D8=true/\Q (g (Mf xs ys)) H
theorem Ot (hu:X.A.units<cLine) (h:X.K=K:=by rfl):OpR X (compareOp .NotEq) (RN K fun b=>.bl (!b)):= by
 subst h
 intro pins s σ H x y v u Q I rx ry h
 obtain ⟨a,b,ns,ms,rfl,rfl,hq,f1,f2,q⟩:=h
 cases rx
 cases ry
 rcases hq with ⟨ha,hb⟩ | ⟨ha,hb⟩
 ·obtain ⟨its,r1,p1,_⟩:=I.tuple ha
  obtain ⟨its2,r2,p2,_⟩:=I.tuple hb
  have l1:its.toArray.size=ns.length:=by rw[List.size_toArray,<- r1.length]
  have l2:its2.toArray.size=ms.length:=by rw[List.size_toArray,<- r2.length]
  refine SeqAt.RcNeAt.tuples p1 p2 hu (fun j h1 h2=>Gv r1 r2 f1 f2 j h1 h2) _ _ _ _ ?_
  rw[l1,l2,Dy]
  exact ⟨.bl _,H,I,rfl,q⟩
 ·obtain ⟨its,r1,p1,_⟩:=I.list ha
  obtain ⟨its2,r2,p2,_⟩:=I.list hb
  have l1:its.toArray.size=ns.length:=by rw[List.size_toArray,<- r1.length]
  have l2:its2.toArray.size=ms.length:=by rw[List.size_toArray,<- r2.length]
  by_cases hl:ns.length=ms.length
  ·refine SeqAt.RcNeAt.lists p1.isList p2.isList (by rw[l1,l2,hl]) hu (fun j h1 h2=>Gv r1 r2 f1 f2 j h1 h2) _ _ _ _ ?_
   have e:=Dy ns ms
   rw[<- hl,Nat.min_self] at e
   simp only [beq_self_eq_true,Bool.and_true] at e
   rw[l1,e]
   exact ⟨.bl _,H,I,rfl,q⟩
  ·rw[Ni hl] at q
   exact SeqAt.RcNeAt.lists_lengths p1.isList p2.isList (by rw[l1,l2];simpa using hl) hu _ _ _ _ ⟨.bl _,H,I,rfl,q⟩
end
end L2
namespace L2
open PySem
theorem HH {ws:List Int}:FW ws=true ↔ 1<=ws.length/\ws.length<=9/\B3 0 ws=true:= by
 unfold FW
 simp only [Bool.and_eq_true,decide_eq_true_eq]
 exact ⟨fun ⟨⟨a,b⟩,c⟩=>⟨a,b,c⟩,fun ⟨a,b,c⟩=>⟨⟨a,b⟩,c⟩⟩
end L2
namespace L2
open PySem PySem.Spec PyProof.Rows
section
variable {X:Cx} {K:PySem.W.Frag}
theorem JK:Cf (CXE X.prog X.w) X E0:= by
 intro pins σ H e s' x y h
 obtain ⟨ea,cls,H',B,_,_,_,_,_,_,_,_,_,hE⟩:=h
 exact hE.elim
end
end L2
namespace L2
open PySem
end L2
namespace L2
open PySem PySem.Spec PyProof.Rows
end L2
namespace L2
open PySem PySem.Spec PyProof.Rows
end L2
namespace L2
open PySem
theorem FB {α:Type} {l:List α} {i:Nat} (h:i<l.length) (d:α):l.getD i d=l[i]:=by rw[List.getD_eq_getElem?_getD,List.getElem?_eq_getElem h];rfl
theorem CO {l:List Int} {z:Int}:z ∈ l ↔ ∃ i,i<l.length/\l.getD i 0=z:= by
 constructor
 ·intro h
  obtain ⟨i,hi,e⟩:=List.getElem_of_mem h
  exact ⟨i,hi,by rw[FB hi];exact e⟩
 ·rintro ⟨i,hi,e⟩
  rw[FB hi] at e
  exact e ▸ List.getElem_mem hi
theorem Ij {xs:List Int} {i:Nat} (h:i<xs.length):(Bm xs).getD i 0=((C0 xs).idxOf (xs.getD i 0):Int):= by
 unfold Bm
 rw[List.getD_eq_getElem?_getD,List.getElem?_map,FB h,List.getElem?_eq_getElem h];rfl
theorem GD {xs:List Int} {i j:Nat} (hi:i<xs.length) (hj:j<xs.length):(Bm xs).getD i 0=(Bm xs).getD j 0 ↔ xs.getD i 0=xs.getD j 0:= by
 rw[Ij hi,Ij hj]
 have mi:xs.getD i 0 ∈ C0 xs:=(Eb xs _).mpr (CO.mpr ⟨i,hi,rfl⟩)
 have mj:xs.getD j 0 ∈ C0 xs:=(Eb xs _).mpr (CO.mpr ⟨j,hj,rfl⟩)
 refine ⟨fun e=>?_,fun e=>by rw[e]⟩
 have e:(C0 xs).idxOf (xs.getD i 0)=(C0 xs).idxOf (xs.getD j 0):=Int.ofNat.inj e
 have a:=List.getElem_idxOf (List.idxOf_lt_length_of_mem mi)
 have b:=List.getElem_idxOf (List.idxOf_lt_length_of_mem mj)
 rw[<- a,<- b]
 congr 1
theorem JY (ws:List Int):B3 0 ws=true -> ∀ z,z ∈ ws ↔ 0<=z/\z<fresh 0 ws:= by
 refine Cj (P:=fun ws=>B3 0 ws=true -> ∀ z,z ∈ ws ↔ 0<=z/\z<fresh 0 ws) (fun _ z=>by simp [fresh] <;> omega) (fun ws y ih h z=>?_) ws
 rw[Dr,Bool.and_eq_true,Bool.and_eq_true] at h
 obtain ⟨h1,h2,h3⟩:=h
 have h2:=of_decide_eq_true h2
 have h3:=of_decide_eq_true h3
 have ih:=ih h1 z
 have f0:0<=fresh 0 ws:=by have:=(D4 ws h1).2 (-1) List.mem_cons_self;omega
 rw[List.mem_append,List.mem_singleton,ih,Dw]
 split <;> omega
theorem N3 (ws:List Int):fresh 0 ws<=ws.length:= by
 refine Cj (P:=fun ws=>fresh 0 ws<=(ws.length:Int)) (by show (0:Int)<=_;simp) (fun xs z ih=>?_) ws
 rw[Dw,List.length_append]
 show _<=((xs.length+1:Nat):Int)
 split <;> omega
def Cg (L:List Int) (old new:Int):List Int:=L.map fun l=>if l=old then new else l
theorem EK (L:List Int) (o n:Int):(Cg L o n).length=L.length:=by unfold Cg;simp
theorem BT {L:List Int} {o n:Int} {i:Nat} (h:i<L.length):(Cg L o n).getD i 0=if L.getD i 0=o then n else L.getD i 0:= by
 unfold Cg
 rw[List.getD_eq_getElem?_getD,List.getElem?_map,FB h,List.getElem?_eq_getElem h];rfl
end L2
namespace L2
open PySem
theorem CW {qs:List Addr} {j:Nat} {y:V} (h:(qs.map V.ref)[j]?=some y) : ∃ q,y=V.ref q/\qs[j]?=some q/\j<qs.length:= by
 rw[List.getElem?_map] at h
 cases e:qs[j]? with
 | none=>rw[e] at h;cases h
 | some q=>rw[e] at h;exact ⟨q,(Option.some.inj h).symm,rfl,(List.getElem?_eq_some_iff.mp e).1⟩
theorem Ph {qs:List Addr} {j:Nat} {q:Addr} (h:qs[j]?=some q):atI (qs.map V.ref) (j:Int)=some (V.ref q):=Es (by rw[List.getElem?_map,h];rfl)
end L2
namespace L2
open PySem
end L2
namespace L2
open PySem PySem.Spec PyProof.Rows
section
variable {X:Cx} {K:PySem.W.Frag} {pos:Pos}
theorem Ji {es:List Expr} {k:Nat} {t:TGs} {n:Nat} (hc:X.calm=true) (h:PGs X es t)
  (hn:(assignEach es X.env).length=n:=by rfl) (hst:(assignEach es X.env).findIdx? (·.1)=none:=by rfl) (hK:X.K=K:=by rfl):PG X (.Tuple es k pos) (RL K n t):= by
 subst hK;exact DK hc h hn hst
theorem Jq {M:List (Option Nat)} {n:Nat} (h0:M[0]?=some none:=by rfl) (h1:M[1]?=some none:=by rfl):Frm M (RL K n (PP (Go 0) (PP (Go 1) Sc))):=fun v σ H Q q=>by
 obtain ⟨a,xs,e,hq,hl,v1,r,e1,v2,r2,e2,e3,q⟩:=q
 refine ⟨a,xs,e,hq,hl,v1,r,e1,v2,r2,e2,e3,q,by rw[List.length_set,List.length_set],fun k j ek=>?_⟩
 have n0:0≠k:=by rintro rfl;rw[h0] at ek;cases ek
 have n1:1≠k:=by rintro rfl;rw[h1] at ek;cases ek
 rw[List.getElem?_set_ne n1,List.getElem?_set_ne n0]
end
end L2
namespace L2
open PySem
end L2
namespace L2
open PySem PySem.Spec PyProof.Rows
def K0 (e:Expr) (dep:Nat) (tg iter:Expr) (ifs:List Expr) (it acc:Value) (env:Env) (EM:Sem Unit):Sem Fin:=do
   standAt iter.pos
   match <- pyNext it with
   | none=>pure (.done .next)
   | some v=>
    letOwnedTupleGo tg it v
    assign tg env v
    let mut ok:=true
    for c in ifs do
     if ok then ok <- isTrue c env (eval c env)
    if ok then EM
    again (.compLoop e dep it acc env)
def PH (elt : Expr) (acc : Value) (env : Env) : Sem Unit:=(do let _ <- call (.builtin "list.append") [acc,<- eval elt env])
def Rg (e iter2:Expr) (acc:Value) (env:Env):Sem Unit:=(do
    let x <- eval iter2 env
    standAt iter2.pos
    let x <- foldedSetIterable iter2 env x
    let _ <- runOwn (.compStart e 1 (<- holding [x] (pyIter x)) acc env) env)
theorem MV (elt:Expr) (g0:Comprehension) (tg iter:Expr) (ifs:List Expr) (scope:Scope) (pos:Pos) (it acc:Value) (env:Env) :
  compTurn (.ListComp elt [g0,⟨tg,iter,ifs,0⟩] scope pos) 1 it acc env=K0 (.ListComp elt [g0,⟨tg,iter,ifs,0⟩] scope pos) 1 tg iter ifs it acc env (PH elt acc env):=by rfl
def ON (e:Expr) (tg iter iter2:Expr) (ifs:List Expr) (it acc:Value) (env:Env):Sem Fin:=do
   standAt iter.pos
   match <- pyNext it with
   | none=>pure (.done .next)
   | some v=>
    letOwnedTupleGo tg it v
    assign tg env v
    let mut ok:=true
    for c in ifs do
     if ok then ok <- isTrue c env (eval c env)
    if ok then
     let x <- eval iter2 env
     standAt iter2.pos
     let x <- foldedSetIterable iter2 env x
     let _ <- runOwn (.compStart e 1 (<- holding [x] (pyIter x)) acc env) env
    again (.compLoop e 0 it acc env)
theorem IV (elt:Expr) (tg iter tg2 iter2:Expr) (ifs ifs2:List Expr) (scope:Scope) (pos:Pos) (it acc:Value) (env:Env) :
  compTurn (.ListComp elt [⟨tg,iter,ifs,0⟩,⟨tg2,iter2,ifs2,0⟩] scope pos) 0 it acc env=ON (.ListComp elt [⟨tg,iter,ifs,0⟩,⟨tg2,iter2,ifs2,0⟩] scope pos) tg iter iter2 ifs it acc env:=by rfl
theorem NW (e:Expr) (tg iter iter2:Expr) (ifs:List Expr) (it acc:Value) (env:Env):ON e tg iter iter2 ifs it acc env=K0 e 0 tg iter ifs it acc env (Rg e iter2 acc env):= by
 unfold ON K0 Rg
 simp only [bind_assoc,pure_bind]
section
variable {prog:Program} {w:World} {A:Around} {R:Result->Shared->Prop} {s:Shared}
theorem JE {e tg iter:Expr} {ifs:List Expr} {dep:Nat} {it acc:Value} {env:Env} {EM:Sem Unit} (hq:(Code.compLoop e dep it acc env).quiet=true) (hfr:(Code.compLoop e dep it acc env).isFrame=false)
  (heq:compTurn e dep it acc env=K0 e dep tg iter ifs it acc env EM) (hu:A.under (.compLoop e dep it acc env)=A) (Iv:Nat->Shared->Prop)
  (turn : ∀ n s,Iv n s->wpAny (model prog w) A (pyNext it) (fun r s₁=>match r with
   | none=>R (.ok .next) s₁
   | some v=>wpAny (model prog w) A (letOwnedTupleGo tg it v) (fun _ s₁'=>wpAny (model prog w) A (assign tg env v) (fun _ s₂=>
     wpAny (model prog w) A (forIn ifs true fun c r=>if r=true then do let ok <- isTrue c env (eval c env);pure (ForInStep.yield ok) else pure (ForInStep.yield r)) (fun ok s₃=>
      if ok=true then wpAny (model prog w) A EM (fun _ s₅=>∃ m,m<n/\Iv m s₅) (fun _ _=>False) s₃
      else ∃ m,m<n/\Iv m s₃) (fun _ _=>False) s₂) (fun _ _=>False) s₁') (fun _ _=>False) s₁) (fun _ _=>False) s)
  (n:Nat) (h:Iv n s) :
  codeAny (model prog w) A (.compLoop e dep it acc env) R s:= by
 refine codeAny_loop hq Iv (fun n s hI=>?_) n h
 rw[hu]
 have hden:(model prog w).den (.compLoop e dep it acc env)=(compTurn e dep it acc env).onRaise (fun x=>do noteFrame x env;theTreesLotGoes x):= by
  show (if (Code.compLoop e dep it acc env).isFrame then _ else _)=_
  rw[hfr];rfl
 rw[hden]
 refine wpAny_noted ?_
 rw[heq]
 unfold K0
 refine wpAny_bind (wpAny_standAt (wpAny_bind (wpAny_mono (turn n s hI) (fun r s₁ h₁=>?_) fun _ _ z=>z.elim)))
 cases r with
 | none=>exact wpAny_pure h₁
 | some v=>
  refine wpAny_bind (wpAny_mono h₁ (fun _ s₁' h₁'=>?_) fun _ _ z=>z.elim)
  refine wpAny_bind (wpAny_mono h₁' (fun _ s₂ h₂=>wpAny_bind (wpAny_mono h₂ (fun ok s₃ h₃=>?_) fun _ _ z=>z.elim)) fun _ _ z=>z.elim)
  cases ok with
  | false=>exact wpAny_pure ⟨rfl,h₃⟩
  | true=>
   exact wpAny_bind (wpAny_mono h₃ (fun _ s₅ h₅=>wpAny_pure ⟨rfl,h₅⟩) fun _ _ z=>z.elim)
theorem Dq {elt target iter ifs g0 scope pos it acc env}
  (h0:codeAny (model prog w) A (.compLoop (.ListComp elt [g0,⟨target,iter,ifs,0⟩] scope pos) 1 it acc env) R s)
  (h:wpAny (model prog w) A (pyIter it) (fun it' s'=>codeAny (model prog w) A (.compLoop (.ListComp elt [g0,⟨target,iter,ifs,0⟩] scope pos) 1 it' acc env) R s')
   (notedBy (model prog w) A env fun x s'=>R (.error x) s') s) :
  codeAny (model prog w) A (.compStart (.ListComp elt [g0,⟨target,iter,ifs,0⟩] scope pos) 1 it acc env) R s:= by
 refine codeAny_of_tree ?_
 show wpAny _ _ ((compStart (.ListComp elt [g0,⟨target,iter,ifs,0⟩] scope pos) 1 it acc env).onRaise (fun x=>do noteFrame x env;standAt theWindowsPlace)) _ _ s
 refine wpAny_notedAt ?_
 unfold compStart
 show wpAny _ _ (ask >>= _) _ _ s
 refine wpAny_bind (wpAny_askSetting (wpAny_ite ?_))
 split
 ·first
   | exact wpAny_bind (wpAny_pure (wpAny_pure (And.intro rfl h0)))
   | exact wpAny_pure (And.intro rfl h0)
 ·first
   | exact wpAny_bind (wpAny_rule (wpAny_bind (wpAny_standAt (wpAny_bind (wpAny_mono h (fun it' s' h'=>wpAny_pure (And.intro rfl h')) fun _ _ x=>x)))))
   | (refine wpAny_bind (wpAny_rule ?_);show wpAny _ _ (standAt iter.pos >>= _) _ _ s;exact wpAny_bind (wpAny_standAt (wpAny_bind (wpAny_mono h (fun it' s' h'=>wpAny_pure (And.intro rfl h')) fun _ _ x=>x))))
end
def Own (ks:List Nat) (g:TG):Prop:=∀ v σ H Q,g v σ H Q->g v σ H fun σ' H'=>Q σ' H'/\σ'.length=σ.length /\ ∀ i,i ∉ ks->σ'[i]?=σ[i]?
theorem JW {i:Nat}:Own [i] (Go i):=fun v σ H Q q=>by
 refine ⟨q,List.length_set ..,fun k hk=>?_⟩
 exact List.getElem?_set_ne fun e=>hk (by rw[e];exact List.mem_singleton.mpr rfl)
def Acc (h : Heap) (D : Addr) (ys : List V) : Prop:=∃ (its : List Value) (k : Nat),Bf ys its /\ h.get? D = some { cls:=.type "list",data:=.seq its.toArray k }
abbrev TM:=St->Hp->List V->(List V->Hp->Prop)->Prop
def PEm (X:Cx) (D:Addr) (EM:Sem Unit) (Z:St->Prop) (tm:TM):Prop:=
 ∀ (pins:List (Addr × Obj)) (s:Shared) (σ:St) (H:Hp) (ys:List V) (Q:List V->Hp->Prop),Inv X pins σ H s->ES X pins H D->Acc s.heap D ys->ys.length<=sizeLine->Z σ->tm σ H ys Q ->
  wpAny (model X.prog X.w) X.A EM (fun _ s'=>∃ H' ys',Inv X pins σ H' s'/\H' D=none/\Acc s'.heap D ys'/\Q ys' H') X.xe s
def Q5 (te:TE):TM:=fun σ H ys Q=>ys.length<sizeLine/\te σ H fun v H'=>Q (ys++[v]) H'
section
variable {X:Cx}
theorem Acc.pin {pins : List (Addr × Obj)} {σ : St} {H : Hp} {s : Shared} {D : Addr} {its : List Value} {k : Nat} (I : Inv X pins σ H s) (f : ES X pins H D) (e : s.heap.get? D = some { cls:=.type "list",data:=.seq its.toArray k }) : Inv X (pins ++ [(D,{ cls:=.type "list",data:=.seq its.toArray k })]) σ H s:=
 I.pins_of fun p hp=>(List.mem_append.mp hp).elim (fun z=>I.pin p (List.mem_append_right _ z)) fun z=>by
  have e' : p = (D,{ cls:=.type "list",data:=.seq its.toArray k }):=by simpa using z
  subst e'
  exact ⟨e,f.1,f.2.1,f.2.2.1,fun v z=>by cases z⟩
theorem P2 {D:Addr} {elt:Expr} {te:TE} {Z:St->Prop} (he:PE X elt te):PEm X D (PH elt (.ref D) X.env) Z (Q5 te):= by
 intro pins s σ H ys Q I f ⟨its,k,rv,hD⟩ hsz _ ⟨hlt,q⟩
 have I':=Acc.pin I f hD
 unfold PH
 refine wpAny_bind (thn (he _ s σ H _ I' q) fun v8 s8 ⟨y8,H8,J8,r8,n8⟩=>?_)
 obtain ⟨p1,p2,_⟩:=J8.pin _ (List.mem_append_right _ (List.mem_append_right _ (List.mem_singleton.mpr rfl)))
 have J9:Inv X pins σ H8 s8:=J8.unpinned
 refine wpAny_bind (wpAny_list_append_plain (items:=its.toArray) ⟨k,p1⟩ (fun h9 hl9 hs9=>wpAny_pure ?_) (by have:=rv.length;rw[List.size_toArray,<- this];exact hsz))
 have Jt:Inv X pins σ H8 { s8 with heap:=h9 }:=J9.turned (t':=s8.toks) (fun b o hb e=>(hs9.2 b hb).trans e) p2 f.2.1 f.2.2.2.1 f.2.2.2.2.1 f.2.2.2.2.2
 obtain ⟨k9,e9⟩:=hl9
 refine ⟨H8,ys++[y8],Jt,p2,⟨its++[v8],k9,rv.append (.cons r8 .nil),?_⟩,n8⟩
 rw[show (its++[v8]).toArray=its.toArray.push v8 by simp]
 exact e9
def LcW (J:It) (g:TG) (tc:TT) (tm:TM) (σ0:St) (ys0:List V) (H0:Hp) (F:List V->Hp->Prop):Prop:=
 ∃ W:Nat->Nat->List V->Hp->Prop,(∃ m,W 0 m ys0 H0) /\ ∀ i m ys H,W i m ys H->ys.length<=sizeLine /\
  ((J.stop i H/\F ys H)\/(J.go i H /\ ∃ N:List V->Hp->Prop,(∀ ys' H',N ys' H' -> ∃ m',m'<m/\W (i+1) m' ys' H') /\ ∀ x H',J.yld i H x H'->g x σ0 H' fun σ2 H2=>tc σ2 H2 fun b H3=>
   if b=true then tm σ2 H3 ys N else N ys H3))
theorem My {e tg iter:Expr} {ifs:List Expr} {dep:Nat} {EM:Sem Unit} {ks:List Nat} {Z:St->Prop} {g:TG} {tc:TT} {tm:TM} {pins:List (Addr × Obj)} {σ0:St} {H2:Hp} {s2:Shared} {it D:Addr} {fp:List Addr} {tn:Nat->Heap->Prop} {J:It} {F:List V->Hp->Prop} {R:Result->Shared->Prop} {ys0:List V}
  (hq:(Code.compLoop e dep (.ref it) (.ref D) X.env).quiet=true) (hfr:(Code.compLoop e dep (.ref it) (.ref D) X.env).isFrame=false) (heq:compTurn e dep (.ref it) (.ref D) X.env=K0 e dep tg iter ifs (.ref it) (.ref D) X.env EM) (hu:X.A.under (.compLoop e dep (.ref it) (.ref D) X.env)=X.A)
  (hc:X.calm=true) (xE : ∀ v s',¬ X.xe v s') (hg:PG X tg g) (ho:Own ks g) (hks : ∀ i v,σ0[i]?=some (some v)->i ∉ ks) (hZ : ∀ σ':St,(∀ i,i ∉ ks->σ'[i]?=σ0[i]?)->Z σ') (ht:PTs X ifs tc) (hem:PEm X D EM Z tm)
  (I2:Inv X pins σ0 H2 s2) (T:MA X.prog X.w X.K tg J fp it tn) (st2:tn 0 s2.heap) (f2 : ∀ b ∈ fp,ES X pins H2 b) (fD:ES X pins H2 D) (aD:Acc s2.heap D ys0) (Dfp:D ∉ fp)
  (hw:LcW J g tc tm σ0 ys0 H2 F) (hend : ∀ (s':Shared) (H':Hp) (ys:List V),Inv X pins σ0 H' s'->H' D=none->Acc s'.heap D ys->ys.length<=sizeLine->(∀ b ∈ fp,H' b=none)->F ys H'->R (.ok .next) s') :
  codeAny (model X.prog X.w) X.A (.compLoop e dep (.ref it) (.ref D) X.env) R s2:= by
 obtain ⟨W,⟨m0,w0⟩,turn⟩:=hw
 have stat : ∀ {pl:List (Addr × Obj)} {H':Hp},(∀ p ∈ pl,p.1=D)->(∀ b ∈ fp,H' b=none) -> ∀ b ∈ fp,ES X (pins++pl) H' b:=fun {pl H'} hpl hn b hb=>by
  obtain ⟨_,a1,a2,a3,a4,a5⟩:=f2 b hb
  refine ⟨hn b hb,a1,a2,a3,a4,fun p hp=>?_⟩
  rw[<- List.append_assoc] at hp
  rcases List.mem_append.mp hp with z | z
  ·exact a5 p z
  ·rw[hpl p z];exact fun z=>Dfp (z ▸ hb)
 refine JE hq hfr heq hu (fun n s'=>∃ i ys H',Inv X pins σ0 H' s'/\tn i s'.heap/\(∀ b ∈ fp,H' b=none)/\Acc s'.heap D ys/\H' D=none/\W i n ys H') ?_ m0
  ⟨0,ys0,H2,I2,st2,fun b hb=>(f2 b hb).1,aD,fD.1,w0⟩
 rintro n s3 ⟨i,ys,H3,J3,st3,fr3,⟨its,k,rv,hDs⟩,dn,w3⟩
 obtain ⟨hsz,hcase⟩:=turn i n ys H3 w3
 have fD3:ES X pins H3 D:=⟨dn,fD.2⟩
 have J3':=Acc.pin J3 fD3 hDs
 have hpl : ∀ p ∈ [((D,{ cls:=.type "list",data:=.seq its.toArray k }) : Addr × Obj)],p.1 = D:=fun p hp=>by
  have e : p = (D,{ cls:=.type "list",data:=.seq its.toArray k }):=by simpa using hp
  rw[e]
 rcases hcase with ⟨stop,qF⟩ | ⟨go,N,hN,step⟩
 ·have q:=T.done X rfl rfl rfl hc i _ s3 _ H3 (fun _ _=>False) J3' (stat hpl fr3) st3 stop
  refine thn q fun r s4 ⟨hr,J4⟩=>?_
  subst hr
  have hD4 : s4.heap.get? D = some { cls:=.type "list",data:=.seq its.toArray k }:=(J4.pin _ (List.mem_append_right _ (List.mem_append_right _ (List.mem_singleton.mpr rfl)))).1
  exact hend s4 H3 ys J4.unpinned dn ⟨its,k,rv,hD4⟩ hsz fr3 qF
 ·have q:=T.item X rfl rfl rfl hc i _ s3 _ H3 (fun _ _=>False) J3' (stat hpl fr3) st3 go
  refine thn q fun r s4 ⟨u,hr,h4⟩=>?_
  subst hr
  dsimp only
  refine thn h4 fun _ s5 ⟨x,H5,J5,r5,y5,st5,fr5⟩=>?_
  have J5':=J5.pinned (stat hpl fr5) (T.obj _ _ st5)
  refine wpAny_mono (hg _ s5 σ0 H5 x u _ J5' r5 (ho _ _ _ _ (step x H5 y5))) (fun _ s6 h6=>?_) fun e s' z=>xE e s' z
  obtain ⟨σ6,H6,J6,q6,l6,k6⟩:=h6
  refine wpAny_mono (ht _ s6 σ6 H6 _ J6 q6) (fun b s7 h7=>?_) fun e s' z=>xE e s' z
  obtain ⟨H7,J7,q7⟩:=h7
  have fin : ∀ {pl:List (Addr × Obj)} {H8:Hp} {s8:Shared},Inv X (pl++Ee fp s5.heap) σ6 H8 s8->(∀ p ∈ pins,p ∈ pl)->tn (i+1) s8.heap/\(∀ b ∈ fp,H8 b=none)/\Inv X pins σ0 H8 s8:=fun {pl H8 s8} J8 hp=>by
   refine ⟨T.keep _ _ _ st5 fun b hb o e=>(J8.pin (b,o) (List.mem_append_right _ (List.mem_append_right _ (Bt hb e)))).1,fun b hb=>?_,?_⟩
   ·obtain ⟨o,e,d⟩:=T.obj _ _ st5 b hb
    exact (J8.pin (b,o) (List.mem_append_right _ (List.mem_append_right _ (Bt hb e)))).2.1
   ·have J9:Inv X pins σ6 H8 s8:=J8.pins_of fun p hp'=>J8.pin p (List.mem_append_right _ (List.mem_append_left _ (hp p hp')))
    refine J9.weak (l6.symm) fun a v e=>?_
    rw[k6 a (hks a v e)];exact e
  obtain ⟨p1,p2,_⟩:=J7.pin _ (List.mem_append_right _ (List.mem_append_left _ (List.mem_append_right _ (List.mem_singleton.mpr rfl))))
  cases b with
  | false=>
   rw[if_neg (by decide)] at q7
   rw[if_neg (by decide)]
   obtain ⟨m',hm,w7⟩:=hN _ _ q7
   obtain ⟨a3,a4,a5⟩:=fin J7 (fun p hp=>List.mem_append_left _ hp)
   exact ⟨m',hm,i+1,ys,H7,a5,a3,a4,⟨its,k,rv,p1⟩,p2,w7⟩
  | true=>
   rw[if_pos rfl] at q7
   rw[if_pos rfl]
   have J7':Inv X (pins++Ee fp s5.heap) σ6 H7 s7:=J7.pins_of fun p hp=>by
    refine J7.pin p (List.mem_append_right _ ?_)
    rcases List.mem_append.mp hp with z | z
    ·exact List.mem_append_left _ (List.mem_append_left _ z)
    ·exact List.mem_append_right _ z
   have fD7:ES X (pins++Ee fp s5.heap) H7 D:= by
    obtain ⟨_,a1,a2,a3,a4,a5⟩:=fD
    refine ⟨p2,a1,a2,a3,a4,fun p hp=>?_⟩
    rw[<- List.append_assoc] at hp
    rcases List.mem_append.mp hp with z | z
    ·exact a5 p z
    ·exact fun e=>Dfp (e ▸ (IG z).1)
   refine wpAny_mono (hem _ s7 σ6 H7 ys _ J7' fD7 ⟨its,k,rv,p1⟩ hsz (hZ σ6 k6) q7) (fun _ s8 h8=>?_) fun e s' z=>xE e s' z
   obtain ⟨H8,ys',J8,d8,a8,n8⟩:=h8
   obtain ⟨m',hm,w8⟩:=hN _ _ n8
   obtain ⟨a3,a4,a5⟩:=fin J8 (fun p hp=>hp)
   exact ⟨m',hm,i+1,ys',H8,a5,a3,a4,a8,d8,w8⟩
def RI (wi:TI) (g:TG) (tc:TT) (te:TE):TM:=fun σ H ys Q=>wi σ H fun J H1=>LcW J g tc (Q5 te) σ ys H1 Q
theorem QE {D:Addr} {elt tg iter:Expr} {g0:Comprehension} {ifs:List Expr} {scope:Scope} {pos:Pos} {ks:List Nat} {wi:TI} {g:TG} {tc:TT} {te:TE} (hc:X.calm=true) (xE : ∀ v s',¬ X.xe v s') (hi:PI X tg iter wi) (hg:PG X tg g) (ho:Own ks g) (ht:PTs X ifs tc) (he:PE X elt te)
  (hu : ∀ (it:Value),X.A.under (.compLoop (.ListComp elt [g0,⟨tg,iter,ifs,0⟩] scope pos) 1 it (.ref D) X.env)=X.A) (hs : ∀ x,foldedSetIterable iter X.env x=pure x:=by intro _;rfl) :
  PEm X D (Rg (.ListComp elt [g0,⟨tg,iter,ifs,0⟩] scope pos) iter (.ref D) X.env) (fun σ=>∀ i v,σ[i]?=some (some v)->i ∉ ks) (RI wi g tc te):= by
 intro pins s σ H ys Q I f ⟨its,k,rv,hD⟩ hsz hz q
 have I':=Acc.pin I f hD
 unfold Rg
 refine wpAny_bind (thn (hi _ s σ H _ I' q) fun v s1 h1=>wpAny_bind (wpAny_standAt (wpAny_bind (wpAny_of_eq (hs v) (wpAny_bind (wpAny_holding (thn h1 fun itv s2 h2=>wpAny_bind (wpAny_runOwn ?_))))))))
 obtain ⟨it,fp,tn,J,H2,e,I2,T,st2,f2,hw⟩:=h2
 subst e
 obtain ⟨p1,p2,_⟩:=I2.pin _ (List.mem_append_right _ (List.mem_append_right _ (List.mem_singleton.mpr rfl)))
 have fD:ES X pins H2 D:=⟨p2,f.2⟩
 have f2' : ∀ b ∈ fp,ES X pins H2 b:=fun b hb=>by
  obtain ⟨a0,a1,a2,a3,a4,a5⟩:=f2 b hb
  exact ⟨a0,a1,a2,a3,a4,fun p hp=>a5 p (by rw[<- List.append_assoc];exact List.mem_append_left _ hp)⟩
 have Dfp : D ∉ fp:=fun z=>(f2 D z).2.2.2.2.2 (D,{ cls:=.type "list",data:=.seq its.toArray k }) (List.mem_append_right _ (List.mem_append_right _ (List.mem_singleton.mpr rfl))) rfl
 have loop:codeAny (model X.prog X.w) X.A (.compLoop (.ListComp elt [g0,⟨tg,iter,ifs,0⟩] scope pos) 1 (.ref it) (.ref D) X.env) (fun r s'=>match r with | .ok f=>wpAny (model X.prog X.w) X.A (pure PUnit.unit:Sem PUnit) (fun _ s'=>∃ H' ys',Inv X pins σ H' s'/\H' D=none/\Acc s'.heap D ys'/\Q ys' H') X.xe s' | .error e=>cameBackBy (model X.prog X.w) X.A X.env X.xe e s') s2:=
  My (F:=Q) (ks:=ks) (Z:=fun _=>True) rfl rfl (MV ..) (hu _) hc xE hg ho hz (fun _ _=>trivial) ht (P2 he) I2.unpinned T st2 f2' fD ⟨its,k,rv,p1⟩ Dfp hw fun s' H' ys' J' d' a' _ _ q'=>wpAny_pure ⟨H',ys',J',d',a',q'⟩
 exact Dq loop (T.self _ 0 _ _ _ st2 loop)
end
end L2
namespace L2
open PySem PySem.Spec PyProof.Rows
theorem Ik {X:Cx} {N':List Str} {M:List (Option Nat)} {scope:Scope} {cl:List (Str × Addr)} {tg elt iter tg2 iter2:Expr} {ifs ifs2:List Expr} {ks ks2:List Nat} {wi2:TI} {g2:TG} {tc2:TT} {pos:Pos} {g:TG} {tc:TT} {te:TE} {pins:List (Addr × Obj)} {σ:St} {H2:Hp} {s2:Shared}
  {it:Addr} {fp:List Addr} {tn:Nat->Heap->Prop} {J:It} {F:List V->Hp->Prop} {RR:Value->Addr->Result->Shared->Prop} {E:Value->Shared->Prop}
  (S:M3 X.N N' M scope X.env.scope) (hc:X.calm=true) (q1 : ∀ y c,cl.lookup y=some c->X.env.cells.lookup y=some c) (q2 : ∀ y,(y,NameKind.free) ∈ scope.names -> ∃ c,cl.lookup y=some c)
  (hg : ∀ C s H fp,PG (CY X N' scope cl C s H fp) tg g) (ho:Own ks g) (ht : ∀ C s H fp,PTs (CY X N' scope cl C s H fp) ifs tc) (hks : ∀ i ∈ ks,M[i]?=some none) (hks2 : ∀ i ∈ ks2,M[i]?=some none/\i ∉ ks)
  (hi2 : ∀ C s H fp,PI (CY X N' scope cl C s H fp) tg2 iter2 wi2) (hg2 : ∀ C s H fp,PG (CY X N' scope cl C s H fp) tg2 g2) (ho2:Own ks2 g2) (ht2 : ∀ C s H fp,PTs (CY X N' scope cl C s H fp) ifs2 tc2) (he : ∀ C s H fp,PE (CY X N' scope cl C s H fp) elt te) (hs2 : ∀ env x,foldedSetIterable iter2 env x=pure x)
  (I2:Inv X pins σ H2 s2) (T:MA X.prog X.w X.K tg J fp it tn) (st2:tn 0 s2.heap) (f2 : ∀ b ∈ fp,ES X pins H2 b)
  (hw:LcW J g tc (RI wi2 g2 tc2 te) (Et M σ) [] H2 F)
  (hend : ∀ (D C:Addr) (s':Shared) (H':Hp) (ys:List V),Inv X pins σ (upd H' D (.lst ys)) s'->H' D=none->s2.heap.objs.size<=D->s2.heap.objs.size<C->(∃ m,s'.heap.Ns C m)->(upd H' D (.lst ys)) C=none->F ys H'->RR (.ref D) C (.ok .next) s') :
  wpAny (model X.prog X.w) X.A (newList []) (fun acc s₃=>wpAny (model X.prog X.w) X.A (newFunctionEnv scope X.env.globals cl [] X.env.qual none .none (some X.env)) (fun cenv s₄=>
   codeAny (model X.prog X.w) X.A (.compStart (.ListComp elt [⟨tg,iter,ifs,0⟩,⟨tg2,iter2,ifs2,0⟩] scope pos) 0 (.ref it) acc { cenv with scope:=relabel scope X.env }) (RR acc cenv.locals) s₄) E s₃) E s2:= by
 refine wpAny_newObj_type (wpAny_newFunctionEnv S.cell (by intro y hy;simp at hy) (fun h₁ hns₁ hsb₁=>?_) S.kind)
 dsimp only at hns₁ hsb₁ ⊢
 generalize hG : s2.heap.push { cls:=.type "list",dict:=none,data:=.seq ([] : List Value).toArray } = G at hns₁ hsb₁ ⊢
 generalize hD:s2.heap.objs.size=D at *
 have hC:G.objs.size=D+1:=by rw[<- hG,Heap.size_push,hD]
 generalize hCC:G.objs.size=C at *
 have DC:D<C:=by rw[hC];exact Nat.lt_succ_self _
 have lo : ∀ b o,s2.heap.get? b=some o->b<D:=fun b o e=>hD ▸ Heap.lt_size e
 have old : ∀ b o,s2.heap.get? b=some o->h₁.get? b=some o:=fun b o e=>by
  have hb:=lo b o e
  exact hsb₁.extBut b o (Nat.ne_of_lt (Nat.lt_trans hb DC)) (Heap.get?_push_of_some _ (hG ▸ Heap.get?_push_of_some _ e))
 have hacc : h₁.get? D = some { cls:=.type "list",data:=.seq ([] : List Value).toArray }:=
  hsb₁.extBut _ _ (Nat.ne_of_lt DC) (Heap.get?_push_of_some _ (by rw[<- hG,<- hD];exact Heap.get?_push_size _ rfl))
 have fpl : ∀ b ∈ fp,b<D:=fun b hb=>by
  obtain ⟨o,e,_⟩:=T.obj _ _ st2 b hb
  exact lo b o e
 have cel : ∀ y c,cl.lookup y=some c->c<D:=fun y c e=>by
  obtain ⟨v,z⟩:=I2.cell y c (q1 y c e)
  exact hD ▸ z.lt
 generalize hX':CY X N' scope cl C s2 H2 fp=X'
 have envE:X'.env=compEnvC scope cl C X.env:=by rw[<- hX'];rfl
 have locE:X'.env.locals=C:=by rw[envE];rfl
 have fsE:X'.fs=frs X.stack:=by rw[<- hX'];rfl
 have fsl : ∀ b ∈ frs X.stack,b<D:=fun b hb=>by
  rcases List.mem_cons.mp (I2.stkSub b hb) with z | z
  ·rw[z];exact hD ▸ I2.lt
  ·exact Nat.lt_of_not_le fun q=>I2.nofs (hD ▸ q) z
 have relS : ∀ x k,scope.names.lookup x=some k -> ∃ k',X'.env.kindOf x=some k'/\(k'=k\/(k = .free/\k' = .cell)):=fun x k e=>by
  obtain ⟨k',e',q⟩:=Ch (env:=X.env) e
  exact ⟨k',by rw[envE];exact e',q⟩
 have relN : ∀ x,scope.names.lookup x=none->X'.env.kindOf x=none:=fun x e=>by
  rw[envE];exact Cl (env:=X.env) e
 have cellsE:X'.env.cells=cl:=by rw[envE];rfl
 have ok':X'.Ok:= by
  refine ⟨?mod,?kind,?glob,?blt,?above,?inj,?has,?cab,?hd,?frames,?stk,?exf,?bs,?bsz,?noex,?exfs,?funs,?frf⟩
  case mod=>rw[<- hX'];exact I2.ok.mod
  case kind=>rw[envE];exact S.kind
  case glob=>rw[envE];exact I2.ok.glob
  case blt=>rw[envE];exact I2.ok.blt
  case above=>rw[locE,<- hX'];show s2.heap.objs.size<=C;rw[hD];exact Nat.le_of_lt DC
  case inj=>intro x y c e1 e2;rw[cellsE] at e1 e2;exact I2.ok.inj x y c (q1 x c e1) (q1 y c e2)
  case has=>
   intro x hx
   rw[cellsE]
   cases e:scope.names.lookup x with
   | none=>rw[relN x e] at hx;rcases hx with z | z <;> cases z
   | some k=>
    obtain ⟨k',e',q⟩:=relS x k e
    rw[e'] at hx
    have kf:k = .free:= by
     rcases q with q | q
     ·rcases hx with z | z
      ·cases z;exact absurd q.symm (S.cell _ (PySem.mem_of_lookup e))
      ·cases z;exact q.symm
     ·exact q.1
    subst kf
    exact q2 x (PySem.mem_of_lookup e)
  case cab=>intro x c h;rw[<- hX'] at h;exact absurd h (by show ¬ (false=true);decide)
  case hd=>rw[<- hX'];exact I2.ok.hd
  case frames=>rw[<- hX'];exact I2.ok.frames
  case stk=>rw[<- hX'];exact .inl rfl
  case exf=>
   intro b hb
   have hb':b ∈ fp:=by rw[<- hX'] at hb;exact hb
   refine ⟨by rw[locE];exact Nat.ne_of_lt (Nat.lt_trans (fpl b hb') DC),fun x c e=>?_⟩
   rw[cellsE] at e
   exact (f2 b hb').2.2.2.2.1 x c (q1 x c e)
  case bs=>rw[<- hX'];exact I2.bs
  case bsz=>rw[<- hX'];exact Nat.le_trans I2.ok.bsz I2.sz
  case noex=>
   intro b o e hb
   have hb':b ∈ fp:=by rw[<- hX'] at hb;exact hb
   have e':X.base.get? b=some o:=by rw[<- hX'] at e;exact e
   rcases (f2 b hb').2.2.2.1 with z | z
   ·exact I2.ok.noex b o e' z
   ·exact absurd (Nat.lt_of_lt_of_le (Heap.lt_size e') (Nat.le_trans I2.ok.bsz z)) (Nat.lt_irrefl _)
  case exfs=>
   intro b hb
   have hb':b ∈ fp:=by rw[<- hX'] at hb;exact hb
   rw[fsE]
   intro z
   rcases List.mem_cons.mp (I2.stkSub b z) with q | q
   ·exact (f2 b hb').2.1 q
   ·exact (f2 b hb').2.2.1 q
  case funs=>rw[<- hX'];exact I2.stack
  case frf=>rw[fsE,<- hX'];exact I2.stkFree
 have c0:H2 C=none:=I2.hok.fresh (by rw[hD];exact Nat.le_of_lt DC)
 have d0:H2 D=none:=I2.hok.fresh (by rw[hD];exact Nat.le_refl _)
 have I3:Inv X' [] (Et M σ) H2 { s2 with heap:=h₁,toks:=s2.toks+([]:List (Str × Value)).length }:= by
  refine ⟨ok',?os,?bare,?base,?loc,?cell,?free,?freeC,?pin,?hok,?len⟩
  case os=>rw[<- hX'];rfl
  case bare=>exact I2.bare
  case base=>rw[fsE,<- hX'];exact Un.kept old
  case loc=>
   refine ⟨_,by rw[locE];exact hns₁,fun i x v e1 e2 _=>?_⟩
   obtain ⟨j,eM,eσ⟩:=Ei e2
   obtain ⟨y,n1,n2,n3⟩:=S.at_ i j eM
   have e1':N'[i]?=some x:=by rw[<- hX'] at e1;exact e1
   rw[n1] at e1';cases e1'
   have hyf:(x,NameKind.free) ∈ scope.names:=PySem.mem_of_lookup n3
   have kd:=S.fre _ hyf rfl
   obtain ⟨m,hn,hl⟩:=id I2.loc
   obtain ⟨u,ru,lk⟩:=hl j x v n2 eσ (kd.elim (fun z=>.inr (.inl z)) fun z=>.inr (.inr z))
   refine ⟨u,ru,?_⟩
   rcases lk with ⟨k,_⟩ | ⟨k,c,ec,z⟩
   ·have k':X.env.scope.names.lookup x=some NameKind.local:=k
    rcases kd with q | q <;> (rw[k'] at q;cases q)
   ·obtain ⟨c',ec'⟩:=q2 x hyf
    have hcc:=q1 x c' ec'
    rw[ec] at hcc;cases hcc
    obtain ⟨k',e',q⟩:=relS x _ n3
    refine .inr ⟨?_,c,by rw[cellsE];exact ec',?_⟩
    ·rw[e'];rcases q with q | q
     ·right;rw[q]
     ·left;rw[q.2]
    ·obtain ⟨o,ho,hd'⟩:=z
     exact ⟨o,old _ _ ho,hd'⟩
  case cell=>
   intro x c e
   rw[cellsE] at e
   obtain ⟨v,o,ho,hd'⟩:=I2.cell x c (q1 x c e)
   exact ⟨v,o,old _ _ ho,hd'⟩
  case free=>rw[locE];exact c0
  case freeC=>intro x c e;rw[cellsE] at e;exact I2.freeC x c (q1 x c e)
  case pin=>intro p hp;rw[<- hX'] at hp;exact absurd (show p ∈ ([]:List (Addr × Obj)) from hp) (by simp)
  case hok=>rw[<- hX'];exact I2.hok.kept old
  case len=>rw[DQ,<- hX'];exact S.len.symm
 have xE : ∀ (e:Value) (s':Shared),¬ X'.xe e s':=fun e s' z=>by rw[<- hX'] at z;exact z
 have progE:X'.prog=X.prog:=by rw[<- hX'];rfl
 have wE:X'.w=X.w:=by rw[<- hX'];rfl
 have KE':X'.K=X.K:=by rw[<- hX'];rfl
 have AE:X'.A=X.A:=by rw[<- hX'];rfl
 have cE:X'.calm=true:=by rw[<- hX'];exact hc
 have exE:X'.ex=fp:=by rw[<- hX'];rfl
 have s0E:X'.s₀=s2:=by rw[<- hX'];rfl
 have pnE:X'.pn=[]:=by rw[<- hX'];rfl
 have hgX:PG X' tg g:=by rw[<- hX'];exact hg C s2 H2 fp
 have htX:PTs X' ifs tc:=by rw[<- hX'];exact ht C s2 H2 fp
 have heX:PE X' elt te:=by rw[<- hX'];exact he C s2 H2 fp
 have Dfp:D ∉ fp:=fun z=>Nat.lt_irrefl _ (fpl D z)
 have Dcl : ∀ x c,X'.env.cells.lookup x=some c->c≠D:=fun x c e=>by rw[cellsE] at e;exact Nat.ne_of_lt (cel x c e)
 have Dloc:D≠X'.env.locals:=by rw[locE];exact Nat.ne_of_lt DC
 have Dfs:D ∉ X'.fs:=by rw[fsE];exact fun z=>Nat.lt_irrefl _ (fsl D z)
 have D0:D ∈ X'.ex\/X'.s₀.heap.objs.size<=D:=.inr (by rw[s0E,hD];exact Nat.le_refl _)
 have stat : ∀ {pl:List (Addr × Obj)} {H':Hp},(∀ p ∈ pl,p.1=D)->(∀ b ∈ fp,H' b=none) -> ∀ b ∈ fp,ES X' pl H' b:=fun {pl H'} hpl hn b hb=>by
  refine ⟨hn b hb,by rw[locE];exact Nat.ne_of_lt (Nat.lt_trans (fpl b hb) DC),?_,.inl (by rw[exE];exact hb),fun x c e=>?_,fun p hp=>?_⟩
  ·exact ok'.exfs b (by rw[exE];exact hb)
  ·rw[cellsE] at e;exact (f2 b hb).2.2.2.2.1 x c (q1 x c e)
  ·rw[pnE,List.nil_append] at hp
   rw[hpl p hp];exact (Nat.ne_of_lt (fpl b hb)).symm
 have hiX2:PI X' tg2 iter2 wi2:=by rw[<- hX'];exact hi2 C s2 H2 fp
 have hgX2:PG X' tg2 g2:=by rw[<- hX'];exact hg2 C s2 H2 fp
 have htX2:PTs X' ifs2 tc2:=by rw[<- hX'];exact ht2 C s2 H2 fp
 have loop:codeAny (model X.prog X.w) X.A (.compLoop (.ListComp elt [⟨tg,iter,ifs,0⟩,⟨tg2,iter2,ifs2,0⟩] scope pos) 0 (.ref it) (.ref D) X'.env) (RR (.ref D) C) { s2 with heap:=h₁,toks:=s2.toks+([]:List (Str × Value)).length }:= by
  have T':MA X'.prog X'.w X'.K tg J fp it tn:=by rw[progE,wE,KE'];exact T
  have em:=QE (X:=X') (D:=D) (elt:=elt) (g0:=⟨tg,iter,ifs,0⟩) (scope:=scope) (pos:=pos) (ks:=ks2) cE xE hiX2 hgX2 ho2 htX2 heX (fun _=>rfl) (hs2 _)
  have inN : ∀ i,M[i]?=some none->(Et M σ)[i]?=some none:=fun i e=>by unfold Et;rw[List.getElem?_map,e];rfl
  have base:codeAny (model X'.prog X'.w) X'.A (.compLoop (.ListComp elt [⟨tg,iter,ifs,0⟩,⟨tg2,iter2,ifs2,0⟩] scope pos) 0 (.ref it) (.ref D) X'.env) (RR (.ref D) C) _:=My (F:=F) (ks:=ks) rfl rfl ((IV ..).trans (NW ..)) rfl cE xE hgX ho
   (fun i v e hk=>by rw[inN i (hks i hk)] at e;cases e) (fun σ' hσ i v e hk=>by rw[hσ i (hks2 i hk).2,inN i (hks2 i hk).1] at e;cases e) htX em I3 T' (T.keep _ _ _ st2 fun b hb o e=>old b o e) (stat (pl:=[]) (fun p hp=>absurd hp (by simp)) fun b hb=>(f2 b hb).1)
   ⟨d0,Dloc,Dfs,D0,Dcl,fun p hp=>by rw[pnE] at hp;exact absurd hp (by simp)⟩ ⟨[],0,.nil,hacc⟩ Dfp hw (fun s4 H3 ys J4 dn ⟨its,k,rv,hD4⟩ hsz fr4 qF=>by
   obtain ⟨mC,hnC,_⟩:=id J4.loc
   rw[locE] at hnC
   have b4:=J4.base
   rw[fsE,exE,s0E,show X'.H₀=H2 by rw[<- hX'];rfl] at b4
   refine hend D C s4 H3 ys ?_ dn (Nat.le_refl _) DC ⟨mC,hnC⟩ (by rw[Af (Nat.ne_of_gt DC)];have:=J4.free;rw[locE] at this;exact this) qF
   have hok4:=J4.hok
   rw[progE,wE] at hok4
   refine I2.call' (ch:=fp) (H':=upd H3 D (.lst ys)) (by rw[J4.os,s0E]) ⟨b4.keep,b4.slot,fun b o e nn hb=>?_,b4.there,fun b xs e=>?_,fun b o u e=>?_,fun b ps e=>?_⟩ ?_ J4.bare fun b hb=>?_
   ·rw[Af (Nat.ne_of_lt (lo b o e))];exact b4.free b o e nn hb
   ·rw[Af (Aj (b4.tups b xs e) dn)];exact b4.tups b xs e
   ·rw[Af (Aj (b4.frzs b o u e) dn)];exact b4.frzs b o u e
   ·obtain ⟨more,e'⟩:=b4.tbls b ps e
    exact ⟨more,by rw[Af (Aj e' dn)];exact e'⟩
   ·intro b u e
    by_cases hb:b=D
    ·subst hb
     rw[Ab] at e;cases e
     exact ⟨hsz,its,k,rv,hD4⟩
    ·rw[Af hb] at e
     exact (hok4 b u e).stay (fun c v _ q=>q) (fun c q=>by rw[Af (Aj q dn)];exact q) fun c xs q=>by rw[Af (Aj q dn)];exact q
   ·obtain ⟨f0,f1,f3,f4,f5,f6⟩:=f2 b hb
    exact ⟨f4,f1,f5,f6⟩)
  rw[progE,wE,AE] at base
  exact base
 have loop':codeAny (model X.prog X.w) X.A (.compLoop (.ListComp elt [⟨tg,iter,ifs,0⟩,⟨tg2,iter2,ifs2,0⟩] scope pos) 0 (.ref it) (.ref D) (compEnvC scope cl C X.env)) (RR (.ref D) C) { s2 with heap:=h₁,toks:=s2.toks+([]:List (Str × Value)).length }:=envE ▸ loop
 exact codeAny_compStart_list loop' (T.self _ 0 _ _ _ (T.keep _ _ _ st2 fun b hb o e=>old b o e) loop')
def Ss (wi:TI) (M:List (Option Nat)) (g:TG) (tc:TT) (wi2:TI) (g2:TG) (tc2:TT) (te:TE) (σ:St) (H:Hp) (F:List V->Hp->Prop):Prop:=wi σ H fun J H1=>LcW J g tc (RI wi2 g2 tc2 te) (Et M σ) [] H1 F
section
variable {X:Cx} {N':List Str} {M:List (Option Nat)} {scope:Scope} {tg elt iter tg2 iter2:Expr} {ifs ifs2:List Expr} {ks ks2:List Nat} {pos:Pos} {g g2:TG} {tc tc2:TT} {te:TE} {wi wi2:TI}
theorem Su (S:M3 X.N N' M scope X.env.scope) (hc:X.calm=true) (hi:PI X tg iter wi) (hg : ∀ cl C s H fp,PG (CY X N' scope cl C s H fp) tg g) (ho:Own ks g)
  (ht : ∀ cl C s H fp,PTs (CY X N' scope cl C s H fp) ifs tc) (hks : ∀ i ∈ ks,M[i]?=some none) (hks2 : ∀ i ∈ ks2,M[i]?=some none/\i ∉ ks) (hi2 : ∀ cl C s H fp,PI (CY X N' scope cl C s H fp) tg2 iter2 wi2) (hg2 : ∀ cl C s H fp,PG (CY X N' scope cl C s H fp) tg2 g2) (ho2:Own ks2 g2) (ht2 : ∀ cl C s H fp,PTs (CY X N' scope cl C s H fp) ifs2 tc2) (he : ∀ cl C s H fp,PE (CY X N' scope cl C s H fp) elt te)
  (hs : ∀ x,foldedSetIterable iter X.env x=pure x:=by intro _;rfl) (hs2 : ∀ env x,foldedSetIterable iter2 env x=pure x:=by intro _ _;rfl) :
  PE X (.ListComp elt [⟨tg,iter,ifs,0⟩,⟨tg2,iter2,ifs2,0⟩] scope pos) (fun σ H Q=>Ss wi M g tc wi2 g2 tc2 te σ H fun ys H'=>∀ p,H' p=none->Q (.ref p) (upd H' p (.lst ys))):= by
 intro pins s σ H Q I h
 obtain ⟨cl,hclos,q1,q2⟩:=Fn S I
 rw[eval_ListComp]
 refine wpAny_comprehension_free (use:=none) rfl hs hclos S.kind S.own (thn (hi pins s σ H _ I h) fun v s1 h1=>thn h1 fun itv s2 h2=>?_)
 obtain ⟨it,fp,tn,J,H2,e,I2,T,st2,f2,hw⟩:=h2
 subst e
 refine Ik (RR:=fun acc C=>compPost (model X.prog X.w) X.A X.xe none (EP X pins σ Q) acc C) S hc q1 q2 (hg cl) ho (ht cl) hks hks2 (hi2 cl) (hg2 cl) ho2 (ht2 cl) (he cl) hs2 I2 T st2 f2 hw ?_
 intro D C s' H' ys I' dn hD hC ⟨m,hn⟩ hCn q
 obtain ⟨y1,y2,y3,y4⟩:=I2.young (Nat.le_of_lt hC)
 exact ⟨m,hn,fun h' hs'=>⟨.ref D,_,I'.gone (s':=s') hs' hCn y1 y2 y3 y4,rfl,q D dn⟩⟩
theorem QG {i:Nat} {x:Str} {pos' spos:Pos} (hN:X.N.Nodup) (hi:X.N[i]?=some x) (hx:X.env.scope.names.lookup x=some NameKind.local)
  (S:M3 X.N N' M scope X.env.scope) (hc:X.calm=true) (hit:PI X tg iter wi) (hg : ∀ cl C s H fp,PG (CY X N' scope cl C s H fp) tg g) (ho:Own ks g)
  (ht : ∀ cl C s H fp,PTs (CY X N' scope cl C s H fp) ifs tc) (hks : ∀ i ∈ ks,M[i]?=some none) (hks2 : ∀ i ∈ ks2,M[i]?=some none/\i ∉ ks) (hi2 : ∀ cl C s H fp,PI (CY X N' scope cl C s H fp) tg2 iter2 wi2) (hg2 : ∀ cl C s H fp,PG (CY X N' scope cl C s H fp) tg2 g2) (ho2:Own ks2 g2) (ht2 : ∀ cl C s H fp,PTs (CY X N' scope cl C s H fp) ifs2 tc2) (he : ∀ cl C s H fp,PE (CY X N' scope cl C s H fp) elt te)
  (hsw:swapsWith (.ListComp elt [⟨tg,iter,ifs,0⟩,⟨tg2,iter2,ifs2,0⟩] scope pos) (some (.Name x pos')) spos.line X.env=pure true:=by rfl)
  (hs : ∀ x,foldedSetIterable iter X.env x=pure x:=by intro _;rfl) (hs2 : ∀ env x,foldedSetIterable iter2 env x=pure x:=by intro _ _;rfl) :
  PS X (.Assign [.Name x pos'] (.ListComp elt [⟨tg,iter,ifs,0⟩,⟨tg2,iter2,ifs2,0⟩] scope pos) spos) (fun D σ H=>Ss wi M g tc wi2 g2 tc2 te σ H fun ys H'=>∀ p,H' p=none->D.nx (σ.set i (some (.ref p))) (upd H' p (.lst ys))):= by
 intro pins s σ H Dn I h
 obtain ⟨cl,hclos,q1,q2⟩:=Fn S I
 rw[exec_Assign_Name_used _ _ _ _ hsw]
 refine wpAny_bind (wpAny_standAt (wpAny_bind ?_))
 show wpAny _ X.A (do let _ <- comprehension (.ListComp elt [⟨tg,iter,ifs,0⟩,⟨tg2,iter2,ifs2,0⟩] scope pos) scope X.env _ (newList []) false (eval iter X.env) (some (assign (.Name x pos') X.env))) _ _ s
 refine wpAny_bind (wpAny_mono (wpAny_comprehension_free (use:=some (assign (.Name x pos') X.env)) (Q:=fun _ s'=>SP X pins Dn .next s') rfl hs hclos S.kind S.own
  (thn (hit pins s σ H _ I h) fun v s1 h1=>thn h1 fun itv s2 h2=>?_)) (fun _ s' hq=>wpAny_pure (wpAny_pure hq)) fun _ _ e=>e)
 obtain ⟨it,fp,tn,J,H2,e,I2,T,st2,f2,hw⟩:=h2
 subst e
 refine Ik (RR:=fun acc C=>compPost (model X.prog X.w) X.A X.xe (some (assign (.Name x pos') X.env)) (fun _ s'=>SP X pins Dn .next s') acc C) S hc q1 q2 (hg cl) ho (ht cl) hks hks2 (hi2 cl) (hg2 cl) ho2 (ht2 cl) (he cl) hs2 I2 T st2 f2 hw ?_
 intro D C s' H' ys I' dn hD hC ⟨m,hn⟩ hCn q
 obtain ⟨y1,y2,y3,y4⟩:=I2.young (Nat.le_of_lt hC)
 show wpAny _ X.A (assign (.Name x pos') X.env (.ref D)) _ _ s'
 refine wpAny_assign_Name (FE I' hN hi (.inl hx) (v:=.ref D) rfl (fun s'' I'' ⟨a,hsb,ha⟩=>?_) (.inr hx))
 have hCa:C≠a:= by
  rcases ha with z | z
  ·rw[z];exact y1
  ·exact (y3 x a z).symm
 exact ⟨m,hn.sameBut hsb hCa,fun h' hs'=>⟨_,_,I''.gone (s':=s'') hs' hCn y1 y2 y3 y4,q D dn⟩⟩
end
end L2
namespace L2
open PySem PySem.W PyProof.Rows
end L2
namespace L2
open PySem PySem.Spec PyProof.Rows
end L2
namespace L2
open PySem
end L2
namespace L2
open PySem
theorem Kn (xs:List Int):(C0 xs).Nodup:= by
 refine Cj (P:=fun xs=>(C0 xs).Nodup) (by show ([]:List Int).Nodup;exact List.nodup_nil) (fun xs z ih=>?_) xs
 rw[Ce]
 unfold Di
 split
 ·exact ih
 ·rename_i h
  exact List.nodup_append.mpr ⟨ih,by simp,fun a ha b hb e=>h (by rw[List.mem_singleton.mp hb] at e;exact e ▸ ha)⟩
end L2
namespace L2
open PySem
end L2
namespace L2
open PySem
end L2
namespace L2
open PySem PySem.Spec PyProof.Rows
end L2
namespace L2
open PySem
end L2
namespace L2
end L2
namespace L2
open PySem PySem.Spec PyProof.Rows
end L2
namespace L2
open PySem
end L2
namespace L2
open PySem PySem.Spec PyProof.Rows
end L2
namespace L2
open PySem
end L2
namespace L2
open PySem PySem.Spec PyProof.Rows
end L2
namespace L2
open PySem
variable {ar cr:Nat->Nat->Bool} {n g:Nat}
end L2
namespace L2
open PySem PySem.Spec PyProof.Rows
section
variable {X:Cx} {K:PySem.W.Frag}
theorem O7 (hc : X.calm = true:=by rfl) (h : X.K = K:=by rfl) : BW X (.builtin "min") (fun xs H Q=>∃ (a : Addr) (ns : List Int),xs = [.ref a] /\ (SqL K H a (ns.map V.int) \/ SqT K H a (ns.map V.int)) /\ ns ≠ [] /\ ∀ m,Sb ns m -> Q (.int m) H):= by
 subst h
 intro pins s σ H xs us Q I r h
 obtain ⟨a,ns,rfl,hq,hne,q⟩:=h
 obtain ⟨u,rfl,ru⟩:=DE r
 cases ru
 refine call_min_walk (GS I (A:=X.A.in1) (I.ok.hd hc) hq fun its I' fp wr St' s2 rv W st hfp _ _ _ _ hI=>?_)
 have hlen:its.toArray.size=ns.length:=by rw[List.size_toArray,<- rv.length,List.length_map]
 have hpos:0<ns.length:=List.length_pos_iff.mpr hne
 refine ⟨_,_,_,_,_,_,_,rfl,W,st,hfp,by rw[hlen];exact hpos,CmpOf.ints_lt (fun i=>ns.getD i 0) (fun i v hv=>(Cc rv hv).imp fun t e=>e.1),fun v h' tk hP hk=>?_⟩
 obtain ⟨t,rfl,hi⟩:=Cc rv hP
 obtain ⟨h1,h2⟩:=argBest_lt (fun i=>ns.getD i 0) (its.toArray.size-1)
 refine ⟨.int _,H,hI h' tk hk,⟨t,rfl⟩,q _ ⟨HM hi,fun b hb=>?_⟩⟩
 obtain ⟨j,hj,rfl⟩:=IH hb
 exact h2 j (by omega)
end
end L2
namespace L2
open PySem
variable {ar cr:Nat->Nat->Bool} {n g:Nat}
end L2
namespace L2
open PySem PySem.W PyProof.Rows
variable {n:Nat}
end L2
namespace L2
open PySem PySem.Spec PyProof.Rows
section
variable {X:Cx} {K:PySem.W.Frag}
theorem KB {α:Type} (l:List α) (d:α):(List.range l.length).map (fun i=>l.getD i d)=l:= by
 refine List.ext_getElem (by simp) fun i h1 h2=>?_
 rw[List.getElem_map,List.getElem_range,FB h2]
end
end L2
namespace PySem
open Sem (wp)
def Heap.DictE (h:Heap) (a:Addr) (kvs:List (Value × Value)) (ep:Nat):Prop:=∃ o es,h.get? a=some o/\o.ExactDict/\o.data = .dict es ep/\es.toList.map (fun e=>(e.key,e.val))=kvs
theorem Heap.DictE.typeIs {s : Shared} {a : Addr} {kvs : List (Value × Value)} {ep : Nat} (x : s.heap.DictE a kvs ep) : s.TypeIs (.ref a) "dict":=let ⟨o,_,ho,hc,_⟩:=x; ⟨o,ho,hc.1⟩
theorem Heap.DictE.extBut {h h':Heap} {a b kvs ep} (x:h.DictE a kvs ep) (hs:Heap.ExtBut b h h') (hab:a≠b):h'.DictE a kvs ep:=let ⟨o,es,ho,r⟩:=x;⟨o,es,hs a o hab ho,r⟩
theorem Heap.DictE.lt_size {h:Heap} {a kvs ep} (x:h.DictE a kvs ep):a<h.objs.size:=let ⟨_,_,ho,_⟩:=x;Heap.lt_size ho
theorem Heap.DictE.push {h:Heap} {a kvs ep} (x:h.DictE a kvs ep) (o:Obj):(h.push o).DictE a kvs ep:=let ⟨o',es,ho,r⟩:=x;⟨o',es,Heap.get?_push_of_some o ho,r⟩
theorem Heap.DictE.at' {h h':Heap} {a kvs ep} (x:h.DictE a kvs ep) (e : ∀ o,h.get? a=some o->h'.get? a=some o):h'.DictE a kvs ep:=let ⟨o,es,ho,r⟩:=x;⟨o,es,e _ ho,r⟩
section
variable {prog:Program} {w:World} {A:Around} {E:Value->Shared->Prop} {s:Shared}
theorem Ci {d:Addr} {kvs:List (Value × Value)} {ep:Nat} {Q:Value->Shared->Prop} (hd:(d==sysModules)=false) (hm:s.heap.DictE d kvs ep)
  (hQ : Q (.ref s.heap.objs.size) { s with heap:=s.heap.push { cls:=.type "dict_keyiterator",data:=.fields #[.ref d,.int 0 0,.int kvs.length 0,.int ep 0] } }) :
  wpAny (model prog w) A (pyIter (.ref d)) Q E s:= by
 obtain ⟨o,es,ho,hc,hdat,hp⟩:=id hm
 have hT : s.TypeIs (.ref d) "dict":=hm.typeIs
 refine wpAny_pyIter_slot hT F.slot_dict_iter (wpAny_call_entry F.slot_dict_iter hT F.entry_dict_iter ?_ (F.args_dict_iter_1 _))
 unfold Builtin.«dict.__iter__»
 refine wpAny_bind ?_
 unfold Builtin.Dict.dictSlotNone
 refine wpAny_bind (wpAny_notOrdered_dict hT ?_)
 show wpAny _ _ (pure (Value.ref d)) _ _ s
 refine wpAny_pure ?_
 show wpAny _ _ (Builtin.Dict.showsAll d >>= _) _ _ s
 unfold Builtin.Dict.showsAll
 rw[if_neg (by rw[hd];exact Bool.false_ne_true)]
 refine wpAny_bind (wpAny_pure ?_)
 refine wpAny_bind (wpAny_dictEntries ho hdat ?_)
 refine wpAny_bind (wpAny_dictEpoch ho hdat ?_)
 have hsz:es.size=kvs.length:=by rw[<- hp];simp
 refine wpAny_bind (wpAny_newObj_type (wpAny_pure ⟨_,rfl,"dict_keyiterator",_,⟨_,Heap.get?_push_size _ rfl,rfl⟩,F.slot_dict_keyiterator_next.lookup,?_⟩))
 simpa [rawInt,hsz] using hQ
theorem BB {it d:Addr} {i ep:Nat} {kvs:List (Value × Value)} {k:Value} {v:Value} {Q:Option Value->Shared->Prop} (hit:s.heap.IsKeyIter it d i kvs.length ep)
  (hm:s.heap.DictE d kvs ep) (hx:kvs[i]?=some (k,v))
  (hQ : ∀ key h',key=k->h'.IsKeyIter it d (i+1) kvs.length ep->Heap.SameBut it s.heap h'->Q (some key) { s with heap:=h' }) :
  wpAny (model prog w) A (pyNext (.ref it)) Q E s:= by
 obtain ⟨o,ho,hc,hd⟩:=id hit
 obtain ⟨od,es,hod,hcd,hdd,hp⟩:=id hm
 unfold pyNext
 refine wpAny_bind (wpAny_attempt (wpAny_callSpecial?_slot (name:=Str.ofString "__next__") hit.typeIs F.slot_dict_keyiterator_next
  (wpAny_call_entry F.slot_dict_keyiterator_next hit.typeIs F.entry_dict_keyiterator_next ?_ (F.args_dict_keyiterator_next_1 _))))
 refine wpAny_bind (wpAny_pure ?_)
 refine wpAny_bind ?_
 refine wpAny_bind ?_
 first | refine wpAny_bind (wpAny_typeNameOfWhole_keyiter hit.typeIs (wpAny_pure ?_)) | refine wpAny_bind (wpAny_typeNameOf_keyiter hit.typeIs (wpAny_pure ?_))
 refine wpAny_bind (wpAny_fieldsOf ho hd ?_)
 have hown : Builtin.Dict_items.ownsTuple "dict_keyiterator" = false:=by decide
 simp only [hown,Bool.false_eq_true,if_false]
 show wpAny _ _ (if (Value.ref d==Value.none)=true then _ else _) _ _ s
 rw[if_neg (show ¬ ((Value.ref d==Value.none)=true) from Bool.false_ne_true)]
 refine wpAny_bind (wpAny_pure ?_)
 refine wpAny_bind (wpAny_dictEntries hod hdd ?_)
 have hsz:es.size=kvs.length:=by rw[<- hp];simp
 rw[if_neg (by rw[hsz];simp)]
 refine wpAny_bind (wpAny_pure ?_)
 refine wpAny_bind (wpAny_dictEpoch hod hdd ?_)
 rw[if_neg (by simp)]
 refine wpAny_pure ?_
 have hlt:i<kvs.length:= by
  rcases Nat.lt_or_ge i kvs.length with h | h
  ·exact h
  ·simp [List.getElem?_eq_none h] at hx
 have hlt':i<es.size:=by rw[hsz];exact hlt
 have hkey:es[i].key=k:= by
  have e1:(es.toList.map fun e=>(e.key,e.val))[i]?=some (es[i].key,es[i].val):=by rw[List.getElem?_map,Array.getElem?_toList,Array.getElem?_eq_getElem hlt'];rfl
  rw[hp,hx] at e1
  exact (congrArg Prod.fst (Option.some.inj e1)).symm
 simp only [show ¬ ((i:Int)<0) from by omega,if_false,Int.toNat_natCast,Array.getElem?_eq_getElem hlt']
 refine wpAny_bind ?_
 first | refine wpAny_bind (wpAny_typeNameOfWhole_keyiter hit.typeIs (wpAny_pure ?_)) | refine wpAny_bind (wpAny_typeNameOf_keyiter hit.typeIs (wpAny_pure ?_))
 refine wpAny_bind (wpAny_isOneOf_keyiter hit.typeIs ?_)
 show wpAny _ _ (setField (.ref it) 1 (rawInt ((i:Int)+1)) >>= _) _ _ s
 refine wpAny_bind (wpAny_setField ho hd (by simp) ?_)
 have hit':(s.heap.update it (Obj.mapFields (·.setIfInBounds 1 (rawInt ((i:Int)+1))))).IsKeyIter it d (i+1) kvs.length ep:=
  ⟨_,Heap.get?_update_self _ ho (Obj.isFreed_of_fields (Obj.data_mapFields hd _)),(Obj.cls_mapFields ..).trans hc,by rw[Obj.data_mapFields hd];simp [rawInt]⟩
 refine wpAny_bind (wpAny_holding ?_)
 refine wpAny_bind (wpAny_isOneOf_keyiter (s:={ s with heap:=s.heap.update it (Obj.mapFields (·.setIfInBounds 1 (rawInt ((i:Int)+1)))) }) hit'.typeIs ?_)
 show wpAny _ _ (pure es[i].key) _ _ _
 exact wpAny_pure (wpAny_pure ⟨_,rfl,wpAny_pure (hQ _ _ hkey hit' (Heap.SameBut.update ..))⟩)
theorem BF {it d:Addr} {i ep:Nat} {kvs:List (Value × Value)} {Q:Option Value->Shared->Prop} (hh:A.handled=none) (hit:s.heap.IsKeyIter it d i kvs.length ep)
  (hm:s.heap.DictE d kvs ep) (hx:kvs[i]?=none)
  (hQ : ∀ h',Heap.ExtBut it s.heap h'->Q none { s with heap:=h' }):wpAny (model prog w) A (pyNext (.ref it)) Q E s:= by
 obtain ⟨o,ho,hc,hd⟩:=id hit
 obtain ⟨od,es,hod,hcd,hdd,hp⟩:=id hm
 unfold pyNext
 refine wpAny_bind (wpAny_attempt (wpAny_callSpecial?_slot (name:=Str.ofString "__next__") hit.typeIs F.slot_dict_keyiterator_next
  (wpAny_call_entry F.slot_dict_keyiterator_next hit.typeIs F.entry_dict_keyiterator_next ?_ (F.args_dict_keyiterator_next_1 _))))
 refine wpAny_bind (wpAny_pure ?_)
 refine wpAny_bind ?_
 refine wpAny_bind ?_
 first | refine wpAny_bind (wpAny_typeNameOfWhole_keyiter hit.typeIs (wpAny_pure ?_)) | refine wpAny_bind (wpAny_typeNameOf_keyiter hit.typeIs (wpAny_pure ?_))
 refine wpAny_bind (wpAny_fieldsOf ho hd ?_)
 have hown : Builtin.Dict_items.ownsTuple "dict_keyiterator" = false:=by decide
 simp only [hown,Bool.false_eq_true,if_false]
 show wpAny _ _ (if (Value.ref d==Value.none)=true then _ else _) _ _ s
 rw[if_neg (show ¬ ((Value.ref d==Value.none)=true) from Bool.false_ne_true)]
 refine wpAny_bind (wpAny_pure ?_)
 refine wpAny_bind (wpAny_dictEntries hod hdd ?_)
 have hsz:es.size=kvs.length:=by rw[<- hp];simp
 rw[if_neg (by rw[hsz];simp)]
 refine wpAny_bind (wpAny_pure ?_)
 refine wpAny_bind (wpAny_dictEpoch hod hdd ?_)
 rw[if_neg (by simp)]
 refine wpAny_pure ?_
 have hge:es.size<=i:=by rw[hsz];simpa using hx
 simp only [show ¬ ((i:Int)<0) from by omega,if_false,Int.toNat_natCast,Array.getElem?_eq_none hge]
 refine wpAny_bind ?_
 first | refine wpAny_bind (wpAny_typeNameOfWhole_keyiter hit.typeIs (wpAny_pure ?_)) | refine wpAny_bind (wpAny_typeNameOf_keyiter hit.typeIs (wpAny_pure ?_))
 show wpAny _ _ (setField (.ref it) 0 .none >>= _) _ _ s
 refine wpAny_bind (wpAny_setField ho hd (by simp) ?_)
 show wpAny _ _ (newExc (.type "StopIteration") [] >>= _) _ _ _
 refine wpAny_bind ?_
 simp only [newExc,newTuple]
 refine wpAny_bind (wpAny_newObj_type ?_ (by size_fits))
 refine wpAny_bind (m:=firstArgMember _ _) (wpAny_of_eq (a:=Value.none) (by first | rfl | (simp only [firstArgMember];rfl)) ?_)
 refine wpAny_newObj_type ?_ (by size_fits)
 simp only [raiseNew]
 refine wpAny_bind (wpAny_handled ?_)
 rw[show A.in1.handled=none from hh]
 refine wpAny_bind (wpAny_pure (wpAny_throw ?_))
 refine wpAny_bind (wpAny_isInstance (T:="StopIteration") (b:=true) ⟨_,Heap.get?_push_size _ rfl,rfl⟩ isSubtype_stop ?_)
 exact wpAny_pure (hQ _ (((Heap.SameBut.update ..).extBut.push _).push _))
theorem Walks.dictKeysE (hh:A.handled=none) (I d:Addr) (hne:d≠I) (kvs:List (Value × Value)) (ep:Nat) :
  Walks prog w A I [I,d] [I] kvs.length (fun i v=>∃ k x,kvs[i]?=some (k,x)/\v=k) (fun i h=>h.IsKeyIter I d i kvs.length ep/\h.DictE d kvs ep) where
 sub:=fun b hb=>by simp at hb;simp [hb]
 frame:=fun _ _ _ st hk=>⟨st.1.at fun o e=>hk I (by simp) o e,st.2.at' fun o e=>hk d (by simp) o e⟩
 item:=fun i s Q E hi st hQ=>by
  obtain ⟨⟨k,x⟩,hx⟩ : ∃ p,kvs[i]?=some p:=⟨kvs[i],by simp [hi]⟩
  refine BB st.1 st.2 hx fun key h' hkey hit' hs'=>?_
  exact hQ key h' s.toks ⟨k,x,hx,hkey⟩ ⟨hit',st.2.extBut hs'.extBut hne⟩ fun b o hb e=>hs'.extBut b o (fun h=>hb (by simp [h])) e
 done:=fun s Q E st hQ=>BF hh st.1 st.2 (by simp) fun h' he'=>hQ h' s.toks fun b o hb e=>he' b o (fun h=>hb (by simp [h])) e
 self:=fun _ _ _ _ st hQ=>wpAny_pyIter_keyiter st.1 hQ
end
end PySem
namespace PySem.W
open PySem PySem.Calls PyProof.Rows PyProof.V PySem.Spec
section
variable {prog:Program} {w:World} {d r:Addr} {kvs:List (Value × Value)} {ep:Nat}
theorem kdl_dictE (lo : (d == sysModules) = false) : KdlSrc prog w "dict" d d kvs.length (fun i v=>∃ k x,kvs[i]? = some (k,x) /\ v = k) (fun h=>h.DictE d kvs ep) where
 type:=fun _ hm=>hm.typeIs
 there:=fun _ hm=>⟨hm.lt_size,hm.lt_size⟩
 keep:=fun _ _ hm hk=>hm.at' fun o e=>hk d (.inl rfl) o e
 notList:=by decide
 notTuple:=by decide
 hint:=fun _ _ _ _ hm hq=>kdl_hint_dict hm.typeIs hq
 iter:=fun _ _ hh hm=>⟨_,_,(fun _ _ hq=>Ci lo hm hq),Walks.dictKeysE hh _ d (Nat.ne_of_lt hm.lt_size) kvs ep,⟨⟨_,Heap.get?_push_size _ rfl,rfl,rfl⟩,hm.push _⟩⟩
end
end PySem.W
namespace L2
open PySem PySem.Spec PyProof.Rows
section
variable {X:Cx} {K:PySem.W.Frag}
theorem Inv.dictT {pins:List (Addr × Obj)} {σ:St} {H:Hp} {s:Shared} {d:Addr} {kvs:List (List Key × V)} (I:Inv X pins σ H s) (h:H d=some (.dT kvs)) :
  kvs.length<=sizeLine/\(d==sysModules)=false /\ ∃ (ps:List Addr) (vs:List Value) (ep:Nat),Paired (fun (p:List Key × V) a=>H a=some (.tup (p.1.map kV))) kvs ps/\s.heap.DictE d ((ps.map Value.ref).zip vs) ep/\Bf (kvs.map (·.2)) vs:= by
 obtain ⟨z,lo,xs,r,o,es,ep,h1,h2,h3,h4,hnd⟩:=(show A8 X.prog X.w H s.heap d (.dT kvs) from I.hok d _ h)
 refine ⟨z,lo,xs.map (·.2.1),xs.map (·.2.2),ep,?_,⟨o,es,h1,h2,h3,?_⟩,?_⟩
 ·clear h h4 z hnd
  induction r with
  | nil=>exact .nil
  | cons q _ ih=>exact .cons q.2.1 ih
 ·rw[h4,List.map_map]
  clear h h4 z r hnd
  induction xs with
  | nil=>rfl
  | cons x xs ih=>rw[List.map_cons,ih];rfl
 ·clear h h4 z hnd
  induction r with
  | nil=>exact .nil
  | cons q _ ih=>exact .cons q.2.2 ih
end
end L2
namespace L2
open PySem PySem.Spec PyProof.Rows
inductive Dd where
 | non | bl (b:Bool) | int (i:Int) | str (x:Str) | lst (l:List Dd) | tup (l:List Dd)
mutual
def DAt (K:PySem.W.Frag) (H:Hp):Dd->V->Prop
 | .non,v=>v = .non
 | .bl b,v=>v = .bl b
 | .int i,v=>v = .int i
 | .str x,v=>v = .str x
 | .lst l,v=>∃ (a:Addr) (vs:List V),v = .ref a/\SqL K H a vs/\EB K H l vs
 | .tup l,v=>∃ (a:Addr) (vs:List V),v = .ref a/\SqT K H a vs/\EB K H l vs
def EB (K:PySem.W.Frag) (H:Hp):List Dd->List V->Prop
 | [],vs=>vs=[]
 | d::l,vs=>∃ (v:V) (r:List V),vs=v::r/\DAt K H d v/\EB K H l r
end
mutual
def eqD:Dd->Dd->Bool
 | .non,.non=>true
 | .bl a,.bl b=>a==b
 | .int a,.int b=>a==b
 | .str a,.str b=>a==b
 | .bl a,.int b=>(if a then 1 else 0)==b
 | .int a,.bl b=>a==(if b then 1 else 0)
 | .lst l,.lst m=>NQ l m
 | .tup l,.tup m=>NQ l m
 | _,_=>false
def NQ:List Dd->List Dd->Bool
 | [],[]=>true
 | d::l,e::m=>eqD d e&&NQ l m
 | _,_=>false
end
mutual
def Gb:Dd->Nat
 | .lst l=>Cz l+1
 | .tup l=>Cz l+1
 | _=>0
def Cz:List Dd->Nat
 | []=>0
 | d::l=>max (Gb d) (Cz l)
end
mutual
theorem E6 : ∀ d:Dd,eqD d d=true
 | .non=>rfl
 | .bl b=>by simp [eqD]
 | .int i=>by simp [eqD]
 | .str x=>by simp [eqD]
 | .lst l=>by rw[eqD];exact FC l
 | .tup l=>by rw[eqD];exact FC l
theorem FC : ∀ l:List Dd,NQ l l=true
 | []=>rfl
 | d::l=>by rw[NQ,E6 d,FC l];rfl
end
theorem EB.length {K:PySem.W.Frag} {H:Hp} : ∀ {l:List Dd} {vs:List V},EB K H l vs->vs.length=l.length
 | [],vs,h=>by rw[EB] at h;rw[h];rfl
 | d::l,vs,h=>by
  rw[EB] at h
  obtain ⟨v,r,rfl,_,h2⟩:=h
  rw[List.length_cons,List.length_cons,EB.length h2]
theorem EB.get {K:PySem.W.Frag} {H:Hp} : ∀ {l:List Dd} {vs:List V} {j:Nat},EB K H l vs->j<l.length -> ∃ v,vs[j]?=some v/\DAt K H (l.getD j .non) v
 | [],vs,j,h,hj=>by simp at hj
 | d::l,vs,j,h,hj=>by
  rw[EB] at h
  obtain ⟨v,r,rfl,h1,h2⟩:=h
  cases j with
  | zero=>exact ⟨v,rfl,h1⟩
  | succ j=>
   obtain ⟨v',e,h3⟩:=EB.get h2 (by simpa using hj)
   exact ⟨v',by simpa using e,by simpa using h3⟩
theorem CV : ∀ {l:List Dd} {j:Nat},j<l.length->Gb (l.getD j .non)<=Cz l
 | [],j,h=>by simp at h
 | d::l,0,h=>by rw[Cz];exact Nat.le_max_left _ _
 | d::l,j+1,h=>by
  rw[Cz]
  have:j<l.length:=by simpa using h
  exact Nat.le_trans (by simpa using CV this) (Nat.le_max_right _ _)
theorem CU : ∀ {l m:List Dd},l.length≠m.length->NQ l m=false
 | [],[],h=>absurd rfl h
 | [],_::_,_=>rfl
 | _::_,[],_=>rfl
 | d::l,e::m,h=>by rw[NQ,CU (by simpa using h)];simp
theorem CQ : ∀ {l m:List Dd},l.length=m.length->(List.range l.length).all (fun j=>eqD (l.getD j .non) (m.getD j .non))=NQ l m
 | [],[],_=>rfl
 | [],_::_,h=>by simp at h
 | _::_,[],h=>by simp at h
 | d::l,e::m,h=>by
  rw[NQ,List.length_cons,List.range_succ_eq_map,List.all_cons,List.all_map,<- CQ (l:=l) (m:=m) (by simpa using h)]
  rfl
section
variable {X:Cx} {K:PySem.W.Frag} {pins:List (Addr × Obj)} {σ:St} {H:Hp} {s:Shared}
mutual
theorem Hn (I:Inv X pins σ H s) : ∀ (d e:Dd) (v:V),DAt X.K H d v->DAt X.K H e v->d=e
 | .non,e,v,h1,h2=>by
  rw[DAt] at h1;subst h1
  cases e <;> rw[DAt] at h2 <;> first | rfl | (cases h2;done) | (obtain ⟨_,_,z,_⟩:=h2;cases z)
 | .bl b,e,v,h1,h2=>by
  rw[DAt] at h1;subst h1
  cases e <;> rw[DAt] at h2 <;> first | (cases h2;rfl) | (cases h2;done) | (obtain ⟨_,_,z,_⟩:=h2;cases z)
 | .int i,e,v,h1,h2=>by
  rw[DAt] at h1;subst h1
  cases e <;> rw[DAt] at h2 <;> first | (cases h2;rfl) | (cases h2;done) | (obtain ⟨_,_,z,_⟩:=h2;cases z)
 | .str x,e,v,h1,h2=>by
  rw[DAt] at h1;subst h1
  cases e <;> rw[DAt] at h2 <;> first | (cases h2;rfl) | (cases h2;done) | (obtain ⟨_,_,z,_⟩:=h2;cases z)
 | .lst l,e,v,h1,h2=>by
  rw[DAt] at h1
  obtain ⟨a,vs,rfl,hS,hD⟩:=h1
  cases e with
  | lst m=>
   rw[DAt] at h2
   obtain ⟨b,ws,eb,hS2,hD2⟩:=h2
   cases eb
   have:=I.list_inj hS hS2
   subst this
   rw[FF I l m vs hD hD2]
  | tup m=>
   rw[DAt] at h2
   obtain ⟨b,ws,eb,hS2,hD2⟩:=h2
   cases eb
   obtain ⟨_,_,⟨o,n,e1,c1,_⟩,_⟩:=I.list hS
   obtain ⟨_,_,⟨o2,e2,c2,_⟩,_⟩:=I.tuple hS2
   rw[e1] at e2;cases e2
   rw[c1] at c2;exact absurd c2 (by decide)
  | _=>rw[DAt] at h2;cases h2
 | .tup l,e,v,h1,h2=>by
  rw[DAt] at h1
  obtain ⟨a,vs,rfl,hS,hD⟩:=h1
  cases e with
  | tup m=>
   rw[DAt] at h2
   obtain ⟨b,ws,eb,hS2,hD2⟩:=h2
   cases eb
   have:=I.tuple_inj hS hS2
   subst this
   rw[FF I l m vs hD hD2]
  | lst m=>
   rw[DAt] at h2
   obtain ⟨b,ws,eb,hS2,hD2⟩:=h2
   cases eb
   obtain ⟨_,_,⟨o,n,e1,c1,_⟩,_⟩:=I.list hS2
   obtain ⟨_,_,⟨o2,e2,c2,_⟩,_⟩:=I.tuple hS
   rw[e1] at e2;cases e2
   rw[c1] at c2;exact absurd c2 (by decide)
  | _=>rw[DAt] at h2;cases h2
theorem FF (I:Inv X pins σ H s) : ∀ (l m:List Dd) (vs:List V),EB X.K H l vs->EB X.K H m vs->l=m
 | [],m,vs,h1,h2=>by
  rw[EB] at h1;subst h1
  cases m with
  | nil=>rfl
  | cons _ _=>rw[EB] at h2;obtain ⟨_,_,z,_⟩:=h2;cases z
 | d::l,m,vs,h1,h2=>by
  rw[EB] at h1
  obtain ⟨v,r,rfl,hd,hl⟩:=h1
  cases m with
  | nil=>rw[EB] at h2;cases h2
  | cons e m=>
   rw[EB] at h2
   obtain ⟨v',r',z,he,hm⟩:=h2
   cases z
   rw[Hn I d e v hd he,FF I l m r hl hm]
end
theorem JI (I:Inv X pins σ H s) : ∀ (n:Nat) (d e:Dd) {A:Around} {v x:V} {u w:Value},Gb d<=n->A.units+n<cLine->DAt X.K H d v->DAt X.K H e x->Be v u->Be x w->SeqAt.EqAt A s u w (eqD d e):= by
 intro n
 induction n with
 | zero=>
  intro d e A v x u w hn hu h1 h2 r1 r2
  have hu':A.units<cLine:=by omega
  cases d with
  | lst l=>rw[Gb] at hn;omega
  | tup l=>rw[Gb] at hn;omega
  | non=>
   rw[DAt] at h1;subst h1;cases r1
   cases e with
   | non=>rw[DAt] at h2;subst h2;cases r2;exact SeqAt.EqAt.same _
   | bl b=>rw[DAt] at h2;subst h2;cases r2;exact SeqAt.EqAt.none_bool b
   | int b=>rw[DAt] at h2;subst h2;obtain ⟨t,rfl⟩:=r2;exact SeqAt.EqAt.none_int b t
   | str b=>rw[DAt] at h2;subst h2;obtain ⟨t,rfl⟩:=r2;exact SeqAt.EqAt.none_str b t
   | lst m=>rw[DAt] at h2;obtain ⟨b,ws,rfl,hS,_⟩:=h2;cases r2;obtain ⟨_,_,p,_⟩:=I.list hS;exact SeqAt.EqAt.none_list p.isList hu'
   | tup m=>rw[DAt] at h2;obtain ⟨b,ws,rfl,hS,_⟩:=h2;cases r2;obtain ⟨_,_,p,_⟩:=I.tuple hS;exact SeqAt.EqAt.none_tuple p hu'
  | bl a=>
   rw[DAt] at h1;subst h1;cases r1
   cases e with
   | non=>rw[DAt] at h2;subst h2;cases r2;exact SeqAt.EqAt.bool_none a
   | bl b=>rw[DAt] at h2;subst h2;cases r2;exact SeqAt.EqAt.bool_bool a b
   | int b=>rw[DAt] at h2;subst h2;obtain ⟨t,rfl⟩:=r2;exact SeqAt.EqAt.bool_int a b t
   | str b=>rw[DAt] at h2;subst h2;obtain ⟨t,rfl⟩:=r2;exact SeqAt.EqAt.bool_str a b t
   | lst m=>rw[DAt] at h2;obtain ⟨b,ws,rfl,hS,_⟩:=h2;cases r2;obtain ⟨_,_,p,_⟩:=I.list hS;exact SeqAt.EqAt.bool_list a p.isList hu'
   | tup m=>rw[DAt] at h2;obtain ⟨b,ws,rfl,hS,_⟩:=h2;cases r2;obtain ⟨_,_,p,_⟩:=I.tuple hS;exact SeqAt.EqAt.bool_tuple a p hu'
  | int a=>
   rw[DAt] at h1;subst h1;obtain ⟨t',rfl⟩:=r1
   cases e with
   | non=>rw[DAt] at h2;subst h2;cases r2;exact SeqAt.EqAt.int_none a t'
   | bl b=>rw[DAt] at h2;subst h2;cases r2;exact SeqAt.EqAt.int_bool a t' b
   | int b=>rw[DAt] at h2;subst h2;obtain ⟨t,rfl⟩:=r2;exact SeqAt.EqAt.int_int a t' b t
   | str b=>rw[DAt] at h2;subst h2;obtain ⟨t,rfl⟩:=r2;exact SeqAt.EqAt.int_str a t' b t
   | lst m=>rw[DAt] at h2;obtain ⟨b,ws,rfl,hS,_⟩:=h2;cases r2;obtain ⟨_,_,p,_⟩:=I.list hS;exact SeqAt.EqAt.int_list a t' p.isList hu'
   | tup m=>rw[DAt] at h2;obtain ⟨b,ws,rfl,hS,_⟩:=h2;cases r2;obtain ⟨_,_,p,_⟩:=I.tuple hS;exact SeqAt.EqAt.int_tuple a t' p hu'
  | str a=>
   rw[DAt] at h1;subst h1;obtain ⟨t',rfl⟩:=r1
   cases e with
   | non=>rw[DAt] at h2;subst h2;cases r2;exact SeqAt.EqAt.str_none a t'
   | bl b=>rw[DAt] at h2;subst h2;cases r2;exact SeqAt.EqAt.str_bool a t' b
   | int b=>rw[DAt] at h2;subst h2;obtain ⟨t,rfl⟩:=r2;exact SeqAt.EqAt.str_int a t' b t
   | str b=>rw[DAt] at h2;subst h2;obtain ⟨t,rfl⟩:=r2;exact SeqAt.EqAt.str_str a t' b t
   | lst m=>rw[DAt] at h2;obtain ⟨b,ws,rfl,hS,_⟩:=h2;cases r2;obtain ⟨_,_,p,_⟩:=I.list hS;exact SeqAt.EqAt.str_list a t' p.isList hu'
   | tup m=>rw[DAt] at h2;obtain ⟨b,ws,rfl,hS,_⟩:=h2;cases r2;obtain ⟨_,_,p,_⟩:=I.tuple hS;exact SeqAt.EqAt.str_tuple a t' p hu'
 | succ n ih=>
  intro d e A v x u w hn hu h1 h2 r1 r2
  have hu':A.units<cLine:=by omega
  by_cases hd:Gb d<=n
  ·exact ih d e hd (by omega) h1 h2 r1 r2
  cases d with
  | lst l=>
   have hdl:Cz l<=n:=by rw[Gb] at hn;omega
   have h1':=h1
   rw[DAt] at h1
   obtain ⟨a,vs,rfl,hS,hD⟩:=h1
   cases r1
   obtain ⟨its,rv,p1,_⟩:=I.list hS
   cases e with
   | non=>rw[DAt] at h2;subst h2;cases r2;exact SeqAt.EqAt.list_none p1.isList hu'
   | bl b=>rw[DAt] at h2;subst h2;cases r2;exact SeqAt.EqAt.list_bool b p1.isList hu'
   | int b=>rw[DAt] at h2;subst h2;obtain ⟨t,rfl⟩:=r2;exact SeqAt.EqAt.list_int b t p1.isList hu'
   | str b=>rw[DAt] at h2;subst h2;obtain ⟨t,rfl⟩:=r2;exact SeqAt.EqAt.list_str b t p1.isList hu'
   | tup m=>rw[DAt] at h2;obtain ⟨b,ws,rfl,hS2,_⟩:=h2;cases r2;obtain ⟨_,_,p,_⟩:=I.tuple hS2;exact SeqAt.EqAt.list_tuple p1.isList p hu'
   | lst m=>
    have h2':=h2
    rw[DAt] at h2
    obtain ⟨b,ws,rfl,hS2,hD2⟩:=h2
    cases r2
    obtain ⟨its2,rv2,p2,_⟩:=I.list hS2
    by_cases eab:a=b
    ·subst eab
     rw[Hn I _ _ _ h1' h2',E6]
     exact SeqAt.EqAt.same _
    ·refine SeqAt.EqAt.of_refs eab ?_
     have l1:its.toArray.size=l.length:=by rw[List.size_toArray,<- rv.length,hD.length]
     have l2:its2.toArray.size=m.length:=by rw[List.size_toArray,<- rv2.length,hD2.length]
     rw[eqD]
     by_cases hl:l.length=m.length
     ·have:=SeqAt.RcAt.lists (A:=A) (e:=fun j=>eqD (l.getD j .non) (m.getD j .non)) p1.isList p2.isList (by rw[l1,l2,hl]) hu' (fun j q1 q2=>by
       obtain ⟨v1,g1,d1⟩:=hD.get (j:=j) (by omega)
       obtain ⟨v2,g2,d2⟩:=hD2.get (j:=j) (by omega)
       obtain ⟨u1,e1,R1⟩:=rv.get g1
       obtain ⟨u2,e2,R2⟩:=rv2.get g2
       have E1:its.toArray[j]=u1:= by
        have:its.toArray[j]?=some u1:=by rw[List.getElem?_toArray];exact e1
        rw[Array.getElem?_eq_getElem q1] at this;exact Option.some.inj this
       have E2:its2.toArray[j]=u2:= by
        have:its2.toArray[j]?=some u2:=by rw[List.getElem?_toArray];exact e2
        rw[Array.getElem?_eq_getElem q2] at this;exact Option.some.inj this
       rw[E1,E2]
       exact ih _ _ (Nat.le_trans (CV (by omega)) hdl) (show A.units+1+n<cLine by omega) d1 d2 R1 R2)
      rw[l1,CQ hl] at this
      exact this
     ·rw[CU hl]
      exact SeqAt.RcAt.lists_lengths p1.isList p2.isList (by rw[l1,l2];simpa using hl) hu'
  | tup l=>
   have hdl:Cz l<=n:=by rw[Gb] at hn;omega
   have h1':=h1
   rw[DAt] at h1
   obtain ⟨a,vs,rfl,hS,hD⟩:=h1
   cases r1
   obtain ⟨its,rv,p1,_⟩:=I.tuple hS
   cases e with
   | non=>rw[DAt] at h2;subst h2;cases r2;exact SeqAt.EqAt.tuple_none p1 hu'
   | bl b=>rw[DAt] at h2;subst h2;cases r2;exact SeqAt.EqAt.tuple_bool b p1 hu'
   | int b=>rw[DAt] at h2;subst h2;obtain ⟨t,rfl⟩:=r2;exact SeqAt.EqAt.tuple_int b t p1 hu'
   | str b=>rw[DAt] at h2;subst h2;obtain ⟨t,rfl⟩:=r2;exact SeqAt.EqAt.tuple_str b t p1 hu'
   | lst m=>rw[DAt] at h2;obtain ⟨b,ws,rfl,hS2,_⟩:=h2;cases r2;obtain ⟨_,_,p,_⟩:=I.list hS2;exact SeqAt.EqAt.tuple_list p1 p.isList hu'
   | tup m=>
    have h2':=h2
    rw[DAt] at h2
    obtain ⟨b,ws,rfl,hS2,hD2⟩:=h2
    cases r2
    obtain ⟨its2,rv2,p2,_⟩:=I.tuple hS2
    by_cases eab:a=b
    ·subst eab
     rw[Hn I _ _ _ h1' h2',E6]
     exact SeqAt.EqAt.same _
    ·refine SeqAt.EqAt.of_refs eab ?_
     have l1:its.toArray.size=l.length:=by rw[List.size_toArray,<- rv.length,hD.length]
     have l2:its2.toArray.size=m.length:=by rw[List.size_toArray,<- rv2.length,hD2.length]
     rw[eqD]
     have:=SeqAt.RcAt.tuples (A:=A) (e:=fun j=>eqD (l.getD j .non) (m.getD j .non)) p1 p2 hu' (fun j q1 q2=>by
      obtain ⟨v1,g1,d1⟩:=hD.get (j:=j) (by omega)
      obtain ⟨v2,g2,d2⟩:=hD2.get (j:=j) (by omega)
      obtain ⟨u1,e1,R1⟩:=rv.get g1
      obtain ⟨u2,e2,R2⟩:=rv2.get g2
      have E1:its.toArray[j]=u1:= by
       have:its.toArray[j]?=some u1:=by rw[List.getElem?_toArray];exact e1
       rw[Array.getElem?_eq_getElem q1] at this;exact Option.some.inj this
      have E2:its2.toArray[j]=u2:= by
       have:its2.toArray[j]?=some u2:=by rw[List.getElem?_toArray];exact e2
       rw[Array.getElem?_eq_getElem q2] at this;exact Option.some.inj this
      rw[E1,E2]
      exact ih _ _ (Nat.le_trans (CV (by omega)) hdl) (show A.units+1+n<cLine by omega) d1 d2 R1 R2)
     rw[l1,l2] at this
     by_cases hl:l.length=m.length
     ·rw[<- hl,Nat.min_self,CQ hl,beq_self_eq_true,Bool.and_true] at this
      exact this
     ·rw[CU hl]
      rw[show (l.length==m.length)=false by simpa using hl,Bool.and_false] at this
      exact this
  | _=>exact absurd (show (0:Nat)<=n from Nat.zero_le _) hd
theorem Ra (I:Inv X pins σ H s) {n:Nat} : ∀ (d e:Dd) {A:Around} {v x:V} {u w:Value},Gb d<=n+1->A.units+(n+1)<cLine->DAt X.K H d v->DAt X.K H e x->Be v u->Be x w->SeqAt.RcAt A s u w (eqD d e):= by
 intro d e A v x u w hn hu h1 h2 r1 r2
 have hu':A.units<cLine:=by omega
 cases d with
 | non=>
  rw[DAt] at h1;subst h1;cases r1
  cases e with
  | non=>rw[DAt] at h2;subst h2;cases r2;exact SeqAt.RcAt.none_none
  | bl b=>rw[DAt] at h2;subst h2;cases r2;exact SeqAt.RcAt.none_bool b
  | int b=>rw[DAt] at h2;subst h2;obtain ⟨t,rfl⟩:=r2;exact SeqAt.RcAt.none_int b t
  | str b=>rw[DAt] at h2;subst h2;obtain ⟨t,rfl⟩:=r2;exact SeqAt.RcAt.none_str b t
  | lst m=>rw[DAt] at h2;obtain ⟨b,ws,rfl,hS2,_⟩:=h2;cases r2;obtain ⟨_,_,p2,_⟩:=I.list hS2;exact SeqAt.RcAt.none_list p2.isList hu'
  | tup m=>rw[DAt] at h2;obtain ⟨b,ws,rfl,hS2,_⟩:=h2;cases r2;obtain ⟨_,_,p2,_⟩:=I.tuple hS2;exact SeqAt.RcAt.none_tuple p2 hu'
 | bl a=>
  rw[DAt] at h1;subst h1;cases r1
  cases e with
  | non=>rw[DAt] at h2;subst h2;cases r2;exact SeqAt.RcAt.bool_none a
  | bl b=>rw[DAt] at h2;subst h2;cases r2;exact SeqAt.RcAt.bool_bool a b
  | int b=>rw[DAt] at h2;subst h2;obtain ⟨t,rfl⟩:=r2;exact SeqAt.RcAt.bool_int a b t
  | str b=>rw[DAt] at h2;subst h2;obtain ⟨t,rfl⟩:=r2;exact SeqAt.RcAt.bool_str a b t
  | lst m=>rw[DAt] at h2;obtain ⟨b,ws,rfl,hS2,_⟩:=h2;cases r2;obtain ⟨_,_,p2,_⟩:=I.list hS2;exact SeqAt.RcAt.bool_list a p2.isList hu'
  | tup m=>rw[DAt] at h2;obtain ⟨b,ws,rfl,hS2,_⟩:=h2;cases r2;obtain ⟨_,_,p2,_⟩:=I.tuple hS2;exact SeqAt.RcAt.bool_tuple a p2 hu'
 | int a=>
  rw[DAt] at h1;subst h1;obtain ⟨t',rfl⟩:=r1
  cases e with
  | non=>rw[DAt] at h2;subst h2;cases r2;exact SeqAt.RcAt.int_none a t'
  | bl b=>rw[DAt] at h2;subst h2;cases r2;exact SeqAt.RcAt.int_bool a t' b
  | int b=>rw[DAt] at h2;subst h2;obtain ⟨t,rfl⟩:=r2;exact SeqAt.RcAt.int_int a t' b t
  | str b=>rw[DAt] at h2;subst h2;obtain ⟨t,rfl⟩:=r2;exact SeqAt.RcAt.int_str a t' b t
  | lst m=>rw[DAt] at h2;obtain ⟨b,ws,rfl,hS2,_⟩:=h2;cases r2;obtain ⟨_,_,p2,_⟩:=I.list hS2;exact SeqAt.RcAt.int_list a t' p2.isList hu'
  | tup m=>rw[DAt] at h2;obtain ⟨b,ws,rfl,hS2,_⟩:=h2;cases r2;obtain ⟨_,_,p2,_⟩:=I.tuple hS2;exact SeqAt.RcAt.int_tuple a t' p2 hu'
 | str a=>
  rw[DAt] at h1;subst h1;obtain ⟨t',rfl⟩:=r1
  cases e with
  | non=>rw[DAt] at h2;subst h2;cases r2;exact SeqAt.RcAt.str_none a t'
  | bl b=>rw[DAt] at h2;subst h2;cases r2;exact SeqAt.RcAt.str_bool a t' b
  | int b=>rw[DAt] at h2;subst h2;obtain ⟨t,rfl⟩:=r2;exact SeqAt.RcAt.str_int a t' b t
  | str b=>rw[DAt] at h2;subst h2;obtain ⟨t,rfl⟩:=r2;exact SeqAt.RcAt.str_str a t' b t
  | lst m=>rw[DAt] at h2;obtain ⟨b,ws,rfl,hS2,_⟩:=h2;cases r2;obtain ⟨_,_,p2,_⟩:=I.list hS2;exact SeqAt.RcAt.str_list a t' p2.isList hu'
  | tup m=>rw[DAt] at h2;obtain ⟨b,ws,rfl,hS2,_⟩:=h2;cases r2;obtain ⟨_,_,p2,_⟩:=I.tuple hS2;exact SeqAt.RcAt.str_tuple a t' p2 hu'
 | lst l=>
  have hdl:Cz l<=n:=by rw[Gb] at hn;omega
  have h1':=h1
  rw[DAt] at h1
  obtain ⟨a,vs,rfl,hS,hD⟩:=h1
  cases r1
  obtain ⟨its,rv,p1,_⟩:=I.list hS
  cases e with
  | non=>rw[DAt] at h2;subst h2;cases r2;exact SeqAt.RcAt.list_none p1.isList hu'
  | bl b=>rw[DAt] at h2;subst h2;cases r2;exact SeqAt.RcAt.list_bool b p1.isList hu'
  | int b=>rw[DAt] at h2;subst h2;obtain ⟨t,rfl⟩:=r2;exact SeqAt.RcAt.list_int b t p1.isList hu'
  | str b=>rw[DAt] at h2;subst h2;obtain ⟨t,rfl⟩:=r2;exact SeqAt.RcAt.list_str b t p1.isList hu'
  | lst m=>
   have h2':=h2
   rw[DAt] at h2
   obtain ⟨b,ws,rfl,hS2,hD2⟩:=h2
   cases r2
   obtain ⟨its2,rv2,p2,_⟩:=I.list hS2
   have l1:its.toArray.size=l.length:=by rw[List.size_toArray,<- rv.length,hD.length]
   have l2:its2.toArray.size=m.length:=by rw[List.size_toArray,<- rv2.length,hD2.length]
   rw[eqD]
   by_cases hl:l.length=m.length
   ·have:=SeqAt.RcAt.lists (A:=A) (e:=fun j=>eqD (l.getD j .non) (m.getD j .non)) p1.isList p2.isList (by rw[l1,l2,hl]) hu' (fun j q1 q2=>by
    obtain ⟨v1,g1,d1⟩:=hD.get (j:=j) (by omega)
    obtain ⟨v2,g2,d2⟩:=hD2.get (j:=j) (by omega)
    obtain ⟨u1,e1,R1⟩:=rv.get g1
    obtain ⟨u2,e2,R2⟩:=rv2.get g2
    have E1:its.toArray[j]=u1:= by
     have:its.toArray[j]?=some u1:=by rw[List.getElem?_toArray];exact e1
     rw[Array.getElem?_eq_getElem q1] at this;exact Option.some.inj this
    have E2:its2.toArray[j]=u2:= by
     have:its2.toArray[j]?=some u2:=by rw[List.getElem?_toArray];exact e2
     rw[Array.getElem?_eq_getElem q2] at this;exact Option.some.inj this
    rw[E1,E2]
    exact JI I n _ _ (Nat.le_trans (CV (by omega)) hdl) (show A.units+1+n<cLine by omega) d1 d2 R1 R2)
    rw[l1,CQ hl] at this
    exact this
   ·rw[CU hl]
    exact SeqAt.RcAt.lists_lengths p1.isList p2.isList (by rw[l1,l2];simpa using hl) hu'
  | tup m=>rw[DAt] at h2;obtain ⟨b,ws,rfl,hS2,_⟩:=h2;cases r2;obtain ⟨_,_,p2,_⟩:=I.tuple hS2;exact SeqAt.RcAt.list_tuple p1.isList p2 hu'
 | tup l=>
  have hdl:Cz l<=n:=by rw[Gb] at hn;omega
  have h1':=h1
  rw[DAt] at h1
  obtain ⟨a,vs,rfl,hS,hD⟩:=h1
  cases r1
  obtain ⟨its,rv,p1,_⟩:=I.tuple hS
  cases e with
  | non=>rw[DAt] at h2;subst h2;cases r2;exact SeqAt.RcAt.tuple_none p1 hu'
  | bl b=>rw[DAt] at h2;subst h2;cases r2;exact SeqAt.RcAt.tuple_bool b p1 hu'
  | int b=>rw[DAt] at h2;subst h2;obtain ⟨t,rfl⟩:=r2;exact SeqAt.RcAt.tuple_int b t p1 hu'
  | str b=>rw[DAt] at h2;subst h2;obtain ⟨t,rfl⟩:=r2;exact SeqAt.RcAt.tuple_str b t p1 hu'
  | lst m=>rw[DAt] at h2;obtain ⟨b,ws,rfl,hS2,_⟩:=h2;cases r2;obtain ⟨_,_,p2,_⟩:=I.list hS2;exact SeqAt.RcAt.tuple_list p1 p2.isList hu'
  | tup m=>
   have h2':=h2
   rw[DAt] at h2
   obtain ⟨b,ws,rfl,hS2,hD2⟩:=h2
   cases r2
   obtain ⟨its2,rv2,p2,_⟩:=I.tuple hS2
   have l1:its.toArray.size=l.length:=by rw[List.size_toArray,<- rv.length,hD.length]
   have l2:its2.toArray.size=m.length:=by rw[List.size_toArray,<- rv2.length,hD2.length]
   rw[eqD]
   have:=SeqAt.RcAt.tuples (A:=A) (e:=fun j=>eqD (l.getD j .non) (m.getD j .non)) p1 p2 hu' (fun j q1 q2=>by
    obtain ⟨v1,g1,d1⟩:=hD.get (j:=j) (by omega)
    obtain ⟨v2,g2,d2⟩:=hD2.get (j:=j) (by omega)
    obtain ⟨u1,e1,R1⟩:=rv.get g1
    obtain ⟨u2,e2,R2⟩:=rv2.get g2
    have E1:its.toArray[j]=u1:= by
     have:its.toArray[j]?=some u1:=by rw[List.getElem?_toArray];exact e1
     rw[Array.getElem?_eq_getElem q1] at this;exact Option.some.inj this
    have E2:its2.toArray[j]=u2:= by
     have:its2.toArray[j]?=some u2:=by rw[List.getElem?_toArray];exact e2
     rw[Array.getElem?_eq_getElem q2] at this;exact Option.some.inj this
    rw[E1,E2]
    exact JI I n _ _ (Nat.le_trans (CV (by omega)) hdl) (show A.units+1+n<cLine by omega) d1 d2 R1 R2)
   rw[l1,l2] at this
   by_cases hl:l.length=m.length
   ·rw[<- hl,Nat.min_self,CQ hl,beq_self_eq_true,Bool.and_true] at this
    exact this
   ·rw[CU hl]
    rw[show (l.length==m.length)=false by simpa using hl,Bool.and_false] at this
    exact this
theorem NH (I:Inv X pins σ H s) {n:Nat} : ∀ (d e:Dd) {A:Around} {v x:V} {u w:Value},Gb d<=n+1->A.units+(n+1)<cLine->DAt X.K H d v->DAt X.K H e x->Be v u->Be x w->SeqAt.RcNeAt A s u w (!eqD d e):= by
 intro d e A v x u w hn hu h1 h2 r1 r2
 have hu':A.units<cLine:=by omega
 cases d with
 | non=>
  rw[DAt] at h1;subst h1;cases r1
  cases e with
  | non=>rw[DAt] at h2;subst h2;cases r2;exact SeqAt.RcNeAt.none_none
  | bl b=>rw[DAt] at h2;subst h2;cases r2;exact SeqAt.RcNeAt.none_bool b
  | int b=>rw[DAt] at h2;subst h2;obtain ⟨t,rfl⟩:=r2;exact SeqAt.RcNeAt.none_int b t
  | str b=>rw[DAt] at h2;subst h2;obtain ⟨t,rfl⟩:=r2;exact SeqAt.RcNeAt.none_str b t
  | lst m=>rw[DAt] at h2;obtain ⟨b,ws,rfl,hS2,_⟩:=h2;cases r2;obtain ⟨_,_,p2,_⟩:=I.list hS2;exact SeqAt.RcNeAt.none_list p2.isList hu'
  | tup m=>rw[DAt] at h2;obtain ⟨b,ws,rfl,hS2,_⟩:=h2;cases r2;obtain ⟨_,_,p2,_⟩:=I.tuple hS2;exact SeqAt.RcNeAt.none_tuple p2 hu'
 | bl a=>
  rw[DAt] at h1;subst h1;cases r1
  cases e with
  | non=>rw[DAt] at h2;subst h2;cases r2;exact SeqAt.RcNeAt.bool_none a
  | bl b=>rw[DAt] at h2;subst h2;cases r2;exact SeqAt.RcNeAt.bool_bool a b
  | int b=>rw[DAt] at h2;subst h2;obtain ⟨t,rfl⟩:=r2;exact SeqAt.RcNeAt.bool_int a b t
  | str b=>rw[DAt] at h2;subst h2;obtain ⟨t,rfl⟩:=r2;exact SeqAt.RcNeAt.bool_str a b t
  | lst m=>rw[DAt] at h2;obtain ⟨b,ws,rfl,hS2,_⟩:=h2;cases r2;obtain ⟨_,_,p2,_⟩:=I.list hS2;exact SeqAt.RcNeAt.bool_list a p2.isList hu'
  | tup m=>rw[DAt] at h2;obtain ⟨b,ws,rfl,hS2,_⟩:=h2;cases r2;obtain ⟨_,_,p2,_⟩:=I.tuple hS2;exact SeqAt.RcNeAt.bool_tuple a p2 hu'
 | int a=>
  rw[DAt] at h1;subst h1;obtain ⟨t',rfl⟩:=r1
  cases e with
  | non=>rw[DAt] at h2;subst h2;cases r2;exact SeqAt.RcNeAt.int_none a t'
  | bl b=>rw[DAt] at h2;subst h2;cases r2;exact SeqAt.RcNeAt.int_bool a t' b
  | int b=>rw[DAt] at h2;subst h2;obtain ⟨t,rfl⟩:=r2;exact SeqAt.RcNeAt.int_int a t' b t
  | str b=>rw[DAt] at h2;subst h2;obtain ⟨t,rfl⟩:=r2;exact SeqAt.RcNeAt.int_str a t' b t
  | lst m=>rw[DAt] at h2;obtain ⟨b,ws,rfl,hS2,_⟩:=h2;cases r2;obtain ⟨_,_,p2,_⟩:=I.list hS2;exact SeqAt.RcNeAt.int_list a t' p2.isList hu'
  | tup m=>rw[DAt] at h2;obtain ⟨b,ws,rfl,hS2,_⟩:=h2;cases r2;obtain ⟨_,_,p2,_⟩:=I.tuple hS2;exact SeqAt.RcNeAt.int_tuple a t' p2 hu'
 | str a=>
  rw[DAt] at h1;subst h1;obtain ⟨t',rfl⟩:=r1
  cases e with
  | non=>rw[DAt] at h2;subst h2;cases r2;exact SeqAt.RcNeAt.str_none a t'
  | bl b=>rw[DAt] at h2;subst h2;cases r2;exact SeqAt.RcNeAt.str_bool a t' b
  | int b=>rw[DAt] at h2;subst h2;obtain ⟨t,rfl⟩:=r2;exact SeqAt.RcNeAt.str_int a t' b t
  | str b=>rw[DAt] at h2;subst h2;obtain ⟨t,rfl⟩:=r2;exact SeqAt.RcNeAt.str_str a t' b t
  | lst m=>rw[DAt] at h2;obtain ⟨b,ws,rfl,hS2,_⟩:=h2;cases r2;obtain ⟨_,_,p2,_⟩:=I.list hS2;exact SeqAt.RcNeAt.str_list a t' p2.isList hu'
  | tup m=>rw[DAt] at h2;obtain ⟨b,ws,rfl,hS2,_⟩:=h2;cases r2;obtain ⟨_,_,p2,_⟩:=I.tuple hS2;exact SeqAt.RcNeAt.str_tuple a t' p2 hu'
 | lst l=>
  have hdl:Cz l<=n:=by rw[Gb] at hn;omega
  have h1':=h1
  rw[DAt] at h1
  obtain ⟨a,vs,rfl,hS,hD⟩:=h1
  cases r1
  obtain ⟨its,rv,p1,_⟩:=I.list hS
  cases e with
  | non=>rw[DAt] at h2;subst h2;cases r2;exact SeqAt.RcNeAt.list_none p1.isList hu'
  | bl b=>rw[DAt] at h2;subst h2;cases r2;exact SeqAt.RcNeAt.list_bool b p1.isList hu'
  | int b=>rw[DAt] at h2;subst h2;obtain ⟨t,rfl⟩:=r2;exact SeqAt.RcNeAt.list_int b t p1.isList hu'
  | str b=>rw[DAt] at h2;subst h2;obtain ⟨t,rfl⟩:=r2;exact SeqAt.RcNeAt.list_str b t p1.isList hu'
  | lst m=>
   have h2':=h2
   rw[DAt] at h2
   obtain ⟨b,ws,rfl,hS2,hD2⟩:=h2
   cases r2
   obtain ⟨its2,rv2,p2,_⟩:=I.list hS2
   have l1:its.toArray.size=l.length:=by rw[List.size_toArray,<- rv.length,hD.length]
   have l2:its2.toArray.size=m.length:=by rw[List.size_toArray,<- rv2.length,hD2.length]
   rw[eqD]
   by_cases hl:l.length=m.length
   ·have:=SeqAt.RcNeAt.lists (A:=A) (e:=fun j=>eqD (l.getD j .non) (m.getD j .non)) p1.isList p2.isList (by rw[l1,l2,hl]) hu' (fun j q1 q2=>by
    obtain ⟨v1,g1,d1⟩:=hD.get (j:=j) (by omega)
    obtain ⟨v2,g2,d2⟩:=hD2.get (j:=j) (by omega)
    obtain ⟨u1,e1,R1⟩:=rv.get g1
    obtain ⟨u2,e2,R2⟩:=rv2.get g2
    have E1:its.toArray[j]=u1:= by
     have:its.toArray[j]?=some u1:=by rw[List.getElem?_toArray];exact e1
     rw[Array.getElem?_eq_getElem q1] at this;exact Option.some.inj this
    have E2:its2.toArray[j]=u2:= by
     have:its2.toArray[j]?=some u2:=by rw[List.getElem?_toArray];exact e2
     rw[Array.getElem?_eq_getElem q2] at this;exact Option.some.inj this
    rw[E1,E2]
    exact JI I n _ _ (Nat.le_trans (CV (by omega)) hdl) (show A.units+1+n<cLine by omega) d1 d2 R1 R2)
    rw[l1,CQ hl] at this
    exact this
   ·rw[CU hl]
    exact SeqAt.RcNeAt.lists_lengths p1.isList p2.isList (by rw[l1,l2];simpa using hl) hu'
  | tup m=>rw[DAt] at h2;obtain ⟨b,ws,rfl,hS2,_⟩:=h2;cases r2;obtain ⟨_,_,p2,_⟩:=I.tuple hS2;exact SeqAt.RcNeAt.list_tuple p1.isList p2 hu'
 | tup l=>
  have hdl:Cz l<=n:=by rw[Gb] at hn;omega
  have h1':=h1
  rw[DAt] at h1
  obtain ⟨a,vs,rfl,hS,hD⟩:=h1
  cases r1
  obtain ⟨its,rv,p1,_⟩:=I.tuple hS
  cases e with
  | non=>rw[DAt] at h2;subst h2;cases r2;exact SeqAt.RcNeAt.tuple_none p1 hu'
  | bl b=>rw[DAt] at h2;subst h2;cases r2;exact SeqAt.RcNeAt.tuple_bool b p1 hu'
  | int b=>rw[DAt] at h2;subst h2;obtain ⟨t,rfl⟩:=r2;exact SeqAt.RcNeAt.tuple_int b t p1 hu'
  | str b=>rw[DAt] at h2;subst h2;obtain ⟨t,rfl⟩:=r2;exact SeqAt.RcNeAt.tuple_str b t p1 hu'
  | lst m=>rw[DAt] at h2;obtain ⟨b,ws,rfl,hS2,_⟩:=h2;cases r2;obtain ⟨_,_,p2,_⟩:=I.list hS2;exact SeqAt.RcNeAt.tuple_list p1 p2.isList hu'
  | tup m=>
   have h2':=h2
   rw[DAt] at h2
   obtain ⟨b,ws,rfl,hS2,hD2⟩:=h2
   cases r2
   obtain ⟨its2,rv2,p2,_⟩:=I.tuple hS2
   have l1:its.toArray.size=l.length:=by rw[List.size_toArray,<- rv.length,hD.length]
   have l2:its2.toArray.size=m.length:=by rw[List.size_toArray,<- rv2.length,hD2.length]
   rw[eqD]
   have:=SeqAt.RcNeAt.tuples (A:=A) (e:=fun j=>eqD (l.getD j .non) (m.getD j .non)) p1 p2 hu' (fun j q1 q2=>by
    obtain ⟨v1,g1,d1⟩:=hD.get (j:=j) (by omega)
    obtain ⟨v2,g2,d2⟩:=hD2.get (j:=j) (by omega)
    obtain ⟨u1,e1,R1⟩:=rv.get g1
    obtain ⟨u2,e2,R2⟩:=rv2.get g2
    have E1:its.toArray[j]=u1:= by
     have:its.toArray[j]?=some u1:=by rw[List.getElem?_toArray];exact e1
     rw[Array.getElem?_eq_getElem q1] at this;exact Option.some.inj this
    have E2:its2.toArray[j]=u2:= by
     have:its2.toArray[j]?=some u2:=by rw[List.getElem?_toArray];exact e2
     rw[Array.getElem?_eq_getElem q2] at this;exact Option.some.inj this
    rw[E1,E2]
    exact JI I n _ _ (Nat.le_trans (CV (by omega)) hdl) (show A.units+1+n<cLine by omega) d1 d2 R1 R2)
   rw[l1,l2] at this
   by_cases hl:l.length=m.length
   ·rw[<- hl,Nat.min_self,CQ hl,beq_self_eq_true,Bool.and_true] at this
    exact this
   ·rw[CU hl]
    rw[show (l.length==m.length)=false by simpa using hl,Bool.and_false] at this
    exact this
def Sd (K:PySem.W.Frag) (g:Bool->V):R2:=fun x y H Q=>∃ (d e:Dd),DAt K H d x/\DAt K H e y/\Gb d<=30/\Q (g (eqD d e)) H
theorem Sh (hu:X.A.units+40<cLine) (h:X.K=K:=by rfl):OpR X (compareOp .Eq) (Sd K V.bl):= by
 subst h
 intro pins s σ H x y v u Q I rx ry h
 obtain ⟨d,e,h1,h2,hd,q⟩:=h
 exact Ra I (n:=30) d e (by omega) (by omega) h1 h2 rx ry _ _ _ _ ⟨.bl _,H,I,rfl,q⟩
theorem Q1 (hu:X.A.units+40<cLine) (h:X.K=K:=by rfl):OpR X (compareOp .NotEq) (Sd K fun b=>.bl (!b)):= by
 subst h
 intro pins s σ H x y v u Q I rx ry h
 obtain ⟨d,e,h1,h2,hd,q⟩:=h
 exact NH I (n:=30) d e (by omega) (by omega) h1 h2 rx ry _ _ _ _ ⟨.bl _,H,I,rfl,q⟩
theorem SL {A:Around} {k:Nat} (hr:Cw k A):A.units+40<cLine:=Nat.lt_of_le_of_lt (Nat.add_le_add_left (by decide:40<=64) _) hr.units
end
end L2
namespace L2
open PySem PySem.Spec PyProof.Rows
end L2
namespace L2
open PySem
theorem Ay {α β:Type} {F:α->β->Prop} : ∀ {l1:List α} {l2:List β} {j:Nat} {a:α},Paired F l1 l2->l1[j]?=some a -> ∃ b,F a b/\l2[j]?=some b:= by
 intro l1 l2 j a h e
 induction h generalizing j with
 | nil=>simp at e
 | cons r t ih=>
  cases j with
  | zero=>simp at e;subst e;exact ⟨_,r,rfl⟩
  | succ j=>obtain ⟨b,q,e2⟩:=ih (by simpa using e);exact ⟨b,q,by simpa using e2⟩
end L2
namespace L2
open PySem PySem.Spec PyProof.Rows
open PySem.StrLaws (occBody occ_eq subAt_one partsFrom partsBetween_eq strSub_toList)
end L2
namespace L2
open PySem
end L2
namespace L2
open PySem PySem.Spec PyProof.Rows
end L2
namespace L2
open PySem
end L2
namespace L2
open PySem PySem.Spec PyProof.Rows
end L2
namespace L2
open PySem PySem.Spec PyProof.Rows
end L2
namespace L2
open PySem PySem.Spec PyProof.Rows
end L2
namespace L2
open PySem PySem.Spec PyProof.Rows
theorem CF {c:TT} {t u:TS} {D:IL} {σ:St} {H:Hp} (b:Bool) (hc : ∀ N:Bool->Hp->Prop,N b H->c σ H N) (ht:b=true->t D σ H) (hu:b=false->u D σ H):P8 c t u D σ H:= by
 refine hc _ ?_
 cases b
 ·exact FT (hu rfl)
 ·exact FY (ht rfl)
theorem Bz {te:TE} {i:Nat} {B:TS} {D:IL} {σ:St} {H:Hp} (h:te σ H fun x H1=>B D (σ.set i (some x)) H1):P9 (R3 te (Go i)) B D σ H:=h
theorem A5 {A B:TS} {D:IL} {σ:St} {H:Hp} (P:St->Hp->Prop) (hA : ∀ N:St->Hp->Prop,(∀ σ H,P σ H->N σ H)->A { D with nx:=N } σ H) (hB : ∀ σ H,P σ H->B D σ H):P9 A B D σ H:=hA _ hB
end L2
namespace L2
open PySem PySem.Spec PyProof.Rows
structure Fe (P:Program) (w:World) (K:PySem.W.Frag) (mg:Str->Option Value) (base:Heap) (C:Addr) (k:Nat) (m:Str) (sp:Sp):Prop where
 ex : ∃ f fd ps,Bv P w K mg base CX0 k f fd ps sp/\P7 K C m f/\DD K fd ps []
structure Jr (P:Program) (w:World) (K:PySem.W.Frag) (mg:Str->Option Value) (base:Heap) (C:Addr) (k:Nat) (m:Str) (sp:Sp):Prop where
 ex : ∃ f fd ps,Bv P w K mg base (CXE P w) k f fd ps sp/\P7 K C m f/\DD K fd ps []
structure Ri (P:Program) (w:World) (K:PySem.W.Frag) (mg:Str->Option Value) (base:Heap) (C:Addr) (k:Nat) (x:Str) (sp:Sp):Prop where
 ex : ∃ f fd ps,Bv P w K mg base CX0 k f fd ps sp/\Mk K C f/\mg x=some (.ref C)/\DD K fd ps []
structure Oa (P:Program) (w:World) (K:PySem.W.Frag) (mg:Str->Option Value) (base:Heap) (C:Addr) (k:Nat) (x:Str) (sp:Sp):Prop where
 ex : ∃ f fd ps,Bv P w K mg base (CXE P w) k f fd ps sp/\Mk K C f/\mg x=some (.ref C)/\DD K fd ps []
section
variable {X:Cx} {k:Nat} {C:Addr} {x m:Str} {sp:Sp} {E:XK} {e o:Expr} {es:List Expr} {ta:TE} {t:TA} {p pos apos:Pos}
theorem EF {pl:Sem Bool} (c:Fe X.prog X.w X.K X.mg X.base C k m sp) (cl:Cls X.K C) (hr:Cw k X.A) (he:PE X o ta) (ha:PA X (e::es) t)
  (hst:starEach (e::es) X.env=(false,eval e X.env)::starEach es X.env:=by rfl) (hpl:(backTo pos (starEach es X.env)).any (·.1)=false:=by rfl)
  (ht:eval (.Call (.Attribute o m apos) (e::es) [] pos) X.env=(do
   let ov <- eval o X.env
   standAt apos.atName
   let (f,first) <- holding [ov] (getMethod ov m pl)
   callWith pos f first (backTo pos (starEach (e::es) X.env)) (backToKw pos (keywordEach [] X.env))):=by rfl) :
  PE X (.Call (.Attribute o m apos) (e::es) [] pos) (L1 C m sp [] E0 ta t):= by
 obtain ⟨f,fd,ps,F,hm,hb⟩:=c.ex
 exact LL (pl:=pl) he cl hm F hr hb .nil Nn ha hst hpl ht
theorem B0 {pl:Sem Bool} (c:Fe X.prog X.w X.K X.mg X.base C k m sp) (cl:Cls X.K C) (hr:Cw k X.A) (he:PE X o ta)
  (ht:eval (.Call (.Attribute o m apos) [] [] pos) X.env=(do
   let ov <- eval o X.env
   standAt apos.atName
   let (f,first) <- holding [ov] (getMethod ov m pl)
   callWith pos f first (backTo pos (starEach [] X.env)) (backToKw pos (keywordEach [] X.env))):=by rfl) :
  PE X (.Call (.Attribute o m apos) [] [] pos) (L1 C m sp [] E0 ta Qo):= by
 obtain ⟨f,fd,ps,F,hm,hb⟩:=c.ex
 exact NM (pl:=pl) he cl hm F hr hb .nil Nn ht
theorem E8 {pl:Sem Bool} (c:Jr X.prog X.w X.K X.mg X.base C k m sp) (cl:Cls X.K C) (hr:Cw k X.A) (hx:Cf (CXE X.prog X.w) X E) (he:PE X o ta) (ha:PA X (e::es) t)
  (hst:starEach (e::es) X.env=(false,eval e X.env)::starEach es X.env:=by rfl) (hpl:(backTo pos (starEach es X.env)).any (·.1)=false:=by rfl)
  (ht:eval (.Call (.Attribute o m apos) (e::es) [] pos) X.env=(do
   let ov <- eval o X.env
   standAt apos.atName
   let (f,first) <- holding [ov] (getMethod ov m pl)
   callWith pos f first (backTo pos (starEach (e::es) X.env)) (backToKw pos (keywordEach [] X.env))):=by rfl) :
  PE X (.Call (.Attribute o m apos) (e::es) [] pos) (L1 C m sp [] E ta t):= by
 obtain ⟨f,fd,ps,F,hm,hb⟩:=c.ex
 exact LL (pl:=pl) he cl hm F hr hb .nil hx ha hst hpl ht
theorem MU (c : Ri X.prog X.w X.K X.mg X.base C k x sp) (hr : Cw (k + 1) X.A) (hg : Gl X x) (ha : PA X (e :: es) t) (hdb : (x == ("__debug__" : Str)) = false:=by decide)
  (he:starEach (e::es) X.env=(false,eval e X.env)::starEach es X.env:=by rfl) (hpl:(backTo pos (starEach es X.env)).any (·.1)=false:=by rfl) :
  PE X (.Call (.Name x p) (e::es) [] pos) (Pk C sp [] E0 t):= by
 obtain ⟨f,fd,ps,F,M,hm,hb⟩:=c.ex
 exact Mi M F hr hg hm hb .nil Nn ha hdb he hpl
theorem JJ (c : Oa X.prog X.w X.K X.mg X.base C k x sp) (hr : Cw (k + 1) X.A) (hg : Gl X x) (hx : Cf (CXE X.prog X.w) X E) (ha : PA X (e :: es) t) (hdb : (x == ("__debug__" : Str)) = false:=by decide)
  (he:starEach (e::es) X.env=(false,eval e X.env)::starEach es X.env:=by rfl) (hpl:(backTo pos (starEach es X.env)).any (·.1)=false:=by rfl) :
  PE X (.Call (.Name x p) (e::es) [] pos) (Pk C sp [] E t):= by
 obtain ⟨f,fd,ps,F,M,hm,hb⟩:=c.ex
 exact Mi M F hr hg hm hb .nil hx ha hdb he hpl
end
end L2
namespace L2
open PySem PySem.Spec PyProof.Rows
end L2
namespace L2
open PySem PySem.Spec PyProof.Rows
end L2
namespace L2
open PySem PySem.Spec PyProof.Rows
end L2
namespace L2
open PySem PySem.Spec PyProof.Rows
section
variable {c:TT} {t u B:TS} {D:IL} {σ:St} {H H':Hp}
theorem Na (b:Bool) (P:Hp->Prop) (hc : ∀ N:Bool->Hp->Prop,(∀ H',P H'->N b H')->c σ H N) (ht:b=true -> ∀ H',P H'->t D σ H') (hu:b=false -> ∀ H',P H'->u D σ H'):P8 c t u D σ H:= by
 refine hc _ fun H' p=>?_
 cases b
 ·exact FT (hu rfl H' p)
 ·exact FY (ht rfl H' p)
theorem Oc (b:Bool) (P:Hp->Prop) (hc : ∀ N:Bool->Hp->Prop,(∀ H',P H'->N b H')->c σ H N) (ht:b=true -> ∀ H',P H'->t D σ H') (hu:b=false -> ∀ H',P H'->D.nx σ H'):P8 c t PB D σ H:=Na b P hc ht hu
theorem AW (b:Bool) (P:Hp->Prop) (hc : ∀ N:Bool->Hp->Prop,(∀ H',P H'->N b H')->c σ H N) (ht:b=true -> ∀ H',P H'->t { D with nx:=B D } σ H') (hu:b=false -> ∀ H',P H'->B D σ H'):P9 (P8 c t PB) B D σ H:=Na b P hc ht hu
theorem Q4 {te:TE} {lo hi x:Int} {Q:VK} (he : ∀ Q:VK,Q (.int x) H'->te σ H Q) (h:Q (.bl (decide (lo<=x)&&decide (x<=hi))) H') :
  Ke (rI0 fun i j=>V.bl (decide (i<=j))) (rI0 fun i j=>V.bl (decide (i<=j))) (tC (V.int lo)) te (tC (V.int hi)) σ H Q:= by
 refine he _ ⟨lo,x,rfl,rfl,_,rfl,?_⟩
 by_cases g:lo<=x
 ·rw[decide_eq_true g] at h ⊢
  exact FY ⟨x,hi,rfl,rfl,h⟩
 ·rw[decide_eq_false g] at h ⊢
  exact FT h
theorem Op {te:TE} {lo hi x:Int} {N:Bool->Hp->Prop} (he : ∀ Q:VK,Q (.int x) H'->te σ H Q) (h:N (decide (lo<=x)&&decide (x<=hi)) H') :
  Mo (Ke (rI0 fun i j=>V.bl (decide (i<=j))) (rI0 fun i j=>V.bl (decide (i<=j))) (tC (V.int lo)) te (tC (V.int hi))) σ H N:=Q4 he ⟨_,rfl,h⟩
end
theorem DA {l:List Addr} {z:Addr}:l.map V.ref++[V.ref z]=(l++[z]).map V.ref:=by rw[List.map_append];rfl
theorem OW {α:Type} {l:List α} {i:Nat} {x:α} (h:l[i]?=some x):l.drop i=x::l.drop (i+1):= by
 obtain ⟨h1,h2⟩:=List.getElem?_eq_some_iff.mp h
 rw[List.drop_eq_getElem_cons h1,h2]
theorem Fg {α β:Type} {F:α->β->Prop} : ∀ {l1:List α} {l2:List β} {j:Nat} {b:β},Paired F l1 l2->l2[j]?=some b -> ∃ a,F a b/\l1[j]?=some a
 | _,_,j,b,.nil,e=>by simp at e
 | a::_,_::_,0,b,.cons r t,e=>by simp at e;subst e;exact ⟨a,r,rfl⟩
 | _::_,_::_,j+1,b,.cons r t,e=>by
  obtain ⟨a,h1,h2⟩:=Fg t (show _=some b by simpa using e)
  exact ⟨a,h1,by simpa using h2⟩
theorem HP {C:Addr} {H1 H':Hp} {x dx:Addr} (hx:H1 x=none) (hdx:H1 dx=none) (kp : ∀ b o,upd (upd H1 dx (.own x)) x (.ins C dx []) b=some o->b≠x->H' b=some o):Ak H1 H':=fun b o e=>
 kp b o (by rw[Af (Aj e hx),Af (Aj e hdx)];exact e) (Aj e hx)
theorem P5 {c A B:Prop} [Decidable c] (hc:c) (h:A):if decide c=true then A else B:=by rw[if_pos (decide_eq_true hc)];exact h
theorem Lf {c A B:Prop} [Decidable c] (hc : ¬ c) (h:B):if decide c=true then A else B:=by rw[if_neg (fun e=>hc (of_decide_eq_true e))];exact h
theorem Qr {rs:List Int} {j:Nat} {r:Int} (h:rs[j]?=some r):atI (rs.map V.int) (j:Int)=some (V.int r):=Es (by rw[List.getElem?_map,h];rfl)
theorem B2 {rs:List Int} {i:Int} {j:Nat} {r:Int} (e:i=(j:Int)) (h:rs[j]?=some r):atI (rs.map V.int) i=some (V.int r):=by rw[e];exact Qr h
theorem On {ls:List Int} (h:ls.all (fun l=>decide (0<l)&&decide (l.natAbs.log2<9000))=true) : ∀ l ∈ ls,OJ l:=fun l hl=>by
 have:=List.all_eq_true.mp h l hl
 rw[Bool.and_eq_true,decide_eq_true_iff,decide_eq_true_iff] at this
 exact this
theorem RC {wi:TI} {M:List (Option Nat)} {g:TG} {tc:TT} {te:TE} {i:Nat} {B:TS} {D:IL} {σ:St} {H:Hp} (h:tLc wi M g tc te σ H fun ys H'=>∀ p,H' p=none->B D (σ.set i (some (V.ref p))) (upd H' p (.lst ys))) :
  P9 (fun D σ H=>tLc wi M g tc te σ H fun ys H'=>∀ p,H' p=none->D.nx (σ.set i (some (V.ref p))) (upd H' p (.lst ys))) B D σ H:=h
theorem gN {i:Nat} {v:V} {σ:St} {H:Hp} {Q:St->Hp->Prop} (h:Q (σ.set i (some v)) H):Go i v σ H Q:=h
theorem K3 (x y:Str):decide (V.str x=V.str y)=decide (x=y):=decide_eq_decide.mpr ⟨fun e=>V.str.inj e,fun e=>congrArg V.str e⟩
theorem Lp (x y:Int):decide (V.int x=V.int y)=decide (x=y):=decide_eq_decide.mpr ⟨fun e=>V.int.inj e,fun e=>congrArg V.int e⟩
theorem nF {b:Bool} (h:(!b)=false):b=true:= by
 cases b
 ·exact absurd h (by decide)
 ·rfl
end L2
namespace L2
open PySem PySem.Spec PyProof.Rows
end L2
namespace L2
open PySem PySem.Spec PyProof.Rows
theorem nrm {B:TS} {D:IL} {σ σ':St} {H:Hp} (e:σ=σ') (h:B D σ' H):B D σ H:=e ▸ h
end L2
namespace L2
open PySem PySem.Spec PyProof.Rows
end L2
namespace L2
open PySem PySem.Spec PyProof.Rows
theorem ML {K:PySem.W.Frag} {a:Addr} {xs:List V} {g:TG} {tb:TS} {D:IL} {σ:St} {H:Hp} (Pv:Nat->St->Hp->Prop) (h0:Pv 0 σ H) (hl : ∀ i σ H,i<=xs.length->Pv i σ H->SqL K H a xs)
  (hs : ∀ i x σ H t,xs[i]?=some x->Pv i σ H->H t=none->g (.ref t) σ (upd H t (.tup [.int (i:Int),x])) fun σ2 H2=>tb { D with nx:=Pv (i+1),ct:=Pv (i+1),bk:=D.nx } σ2 H2) (hd : ∀ σ H,Pv xs.length σ H->D.nx σ H) :
  ∃ W:Nat->Nat->St->Hp->Prop,(∃ m,W 0 m σ H) /\ ∀ i m σ H,W i m σ H ->
   ((QD K a).stop i H/\D.nx σ H)\/((QD K a).go i H /\ ∃ N:St->Hp->Prop,(∀ σ' H',N σ' H' -> ∃ m',m'<m/\W (i+1) m' σ' H') /\ ∀ x H',(QD K a).yld i H x H'->g x σ H' fun σ2 H2=>tb { D with nx:=N,ct:=N,bk:=D.nx } σ2 H2):= by
 refine ⟨fun i m σ H=>m=xs.length-i/\i<=xs.length/\Pv i σ H,⟨xs.length,by simp,Nat.zero_le _,h0⟩,?_⟩
 rintro i m σ H ⟨rfl,hi,p⟩
 have q:=hl i σ H hi p
 by_cases hlt:i<xs.length
 ·refine .inr ⟨⟨xs,xs[i],q,by simp [hlt]⟩,Pv (i+1),fun σ' H' p'=>⟨xs.length-(i+1),by omega,rfl,hlt,p'⟩,fun x H' y=>?_⟩
  obtain ⟨t,y,ht,rfl,rfl,hy⟩:=y
  exact hs i y σ _ t (hy xs q) p ht
 ·have e:i=xs.length:=by omega
  subst e
  exact .inl ⟨⟨xs,q,Nat.le_refl _⟩,hd σ H p⟩
theorem Ls {X:Cx} {K:PySem.W.Frag} {e:Expr} {f:Str} {ta:TE} {pos:Pos} (he:PE X e ta) (hb:attributeBase e f X.env (eval e X.env)=eval e X.env) (h:X.K=K:=by rfl):PE X (.Attribute e f pos) (Sl K ta f):=by subst h;exact AQ he hb
end L2
namespace L2
open PySem PySem.Spec PyProof.Rows
end L2
namespace L2
open PySem PySem.Spec PyProof.Rows
end L2
namespace L2
open PySem PySem.Spec PyProof.Rows
end L2
namespace L2
open PySem PySem.Spec PyProof.Rows
end L2
namespace L2
open PySem PySem.Spec PyProof.Rows
end L2
namespace L2
open PySem PySem.Spec PyProof.Rows
end L2
namespace PySem
open Sem (wp)
end PySem
namespace L2
open PySem PySem.Spec PyProof.Rows
end L2
namespace PySem
open Sem (wp)
open AutoSeq1 (wpAny_loadPart')
end PySem
namespace L2
open PySem PySem.Spec PyProof.Rows
end L2
namespace L2
open PySem PySem.Spec PyProof.Rows
section
variable {K:PySem.W.Frag} {a:Addr} {xs:List V} {σ0:St} {g:TG} {tc:TT} {tm:TM} {F:List V->Hp->Prop} {H:Hp} {ys0:List V}
theorem JV (Pv:Nat->List V->Hp->Prop) (h0:Pv 0 ys0 H) (hl : ∀ i ys H,i<=xs.length->Pv i ys H->SqL K H a xs/\ys.length<=sizeLine)
  (hs : ∀ i x ys H,xs[i]?=some x->Pv i ys H->g x σ0 H fun σ2 H2=>tc σ2 H2 fun b H3=>if b=true then tm σ2 H3 ys (Pv (i+1)) else Pv (i+1) ys H3)
  (hd : ∀ ys H,Pv xs.length ys H->F ys H):LcW (Itl K a) g tc tm σ0 ys0 H F:= by
 refine ⟨fun i m ys H=>m=xs.length-i/\i<=xs.length/\Pv i ys H,⟨xs.length,by simp,Nat.zero_le _,h0⟩,?_⟩
 rintro i m ys H ⟨rfl,hi,p⟩
 obtain ⟨q,hy⟩:=hl i ys H hi p
 refine ⟨hy,?_⟩
 by_cases hlt:i<xs.length
 ·refine .inr ⟨⟨xs,xs[i],q,by simp [hlt]⟩,Pv (i+1),fun ys' H' p'=>⟨xs.length-(i+1),by omega,rfl,hlt,p'⟩,fun x H' y=>?_⟩
  obtain ⟨e,y⟩:=y
  subst e
  exact hs i x ys _ (y xs q) p
 ·have e:i=xs.length:=by omega
  subst e
  exact .inl ⟨⟨xs,q,Nat.le_refl _⟩,hd ys H p⟩
theorem lcM {i:Nat} {x:V} {σ:St} {ys:List V} {N:List V->Hp->Prop} (h:tm (σ.set i (some x)) H ys N):Go i x σ H fun σ2 H2=>Rk σ2 H2 fun b H3=>if b=true then tm σ2 H3 ys N else N ys H3:= by
 show if true=true then tm (σ.set i (some x)) H ys N else N ys H
 rw[if_pos rfl];exact h
end
theorem HC {K:PySem.W.Frag} {H:Hp} : ∀ (r:List Int),EB K H (r.map .int) (r.map V.int)
 | []=>by rw[List.map_nil,EB];rfl
 | z::r=>by rw[List.map_cons,EB];exact ⟨_,_,rfl,by rw[DAt],HC r⟩
end L2
namespace L2
open PySem
end L2
namespace L2
open PySem PySem.Spec PyProof.Rows
end L2
namespace L2
open PySem
end L2
namespace L2
open PySem PySem.Spec PyProof.Rows
end L2
namespace L2
open PySem PySem.Spec PyProof.Rows
def FrP (H H':Hp) (p:Addr):Prop:=∀ x u,H x=some u->x≠p->H' x=some u
theorem Qh {c A B:Prop} [Decidable c] (hc : ¬ c) (h:A):if (!decide c)=true then A else B:= by
 rw[if_pos (by rw[decide_eq_false hc];rfl)];exact h
end L2
namespace L2
open PySem PySem.Spec PyProof.Rows
theorem EL {α β:Type} {F:α->β->Prop} : ∀ {l1:List α} {l2:List β} (i:Nat),Paired F l1 l2->Paired F (l1.take i) (l2.take i)
 | _,_,0,_=>.nil
 | _,_,_+1,.nil=>.nil
 | _,_,i+1,.cons e t=>.cons e (EL i t)
end L2
namespace PySem
open Sem (wp)
end PySem
namespace PySem
open Sem (wp)
end PySem
namespace PySem
end PySem
namespace L2
open PySem PySem.Spec PyProof.Rows
end L2
namespace L2
open PySem PySem.Spec PyProof.Rows
section
variable {X:Cx} {K:PySem.W.Frag}
def QL (C D F:Addr) (n:Nat) (tb:XK->TS) (th tk tl:TS):TS:=fun Z σ H=>tb (fun c _ H'=>(c = .ref C/\th Z (List.replicate n none) H')\/(c = .ref D/\tk Z (List.replicate n none) H')\/(c = .ref F/\tl Z (List.replicate n none) H')) Z σ H
end
end L2
namespace L2
open PySem PySem.Spec PyProof.Rows
end L2
namespace L2
open PySem PySem.Spec PyProof.Rows
end L2
namespace L2
open PySem PySem.Spec PyProof.Rows
end L2
namespace PySem
open Sem (wp)
end PySem
namespace L2
open PySem PySem.Spec PyProof.Rows
end L2
namespace L2
open PySem PySem.Spec PyProof.Rows
end L2
namespace L2
open PySem PySem.Spec PyProof.Rows
end L2
namespace L2
open PySem PySem.Spec PyProof.Rows
end L2
namespace L2
open PySem PySem.Spec PyProof.Rows
end L2
namespace L2
open PySem PySem.Spec PyProof.Rows
theorem FJ : ∀ S:List Str,Mf (S.map V.str) (S.map V.str)=true
 | []=>rfl
 | z::S=>by
  show (eqV (.str z) (.str z)&&Mf (S.map V.str) (S.map V.str))=true
  rw[FJ S]
  show ((z==z)&&true)=true
  simp
end L2
namespace PySem
open Sem (wp)
end PySem
namespace L2
open PySem PySem.Spec PyProof.Rows
section
variable {X:Cx} {K:PySem.W.Frag}
theorem Inv.freeze {pins:List (Addr × Obj)} {σ:St} {H:Hp} {s:Shared} {d:Addr} {kvs:List (List Key × V)} {o:Obj} (I:Inv X pins σ H s) (h:H d=some (.dT kvs)) (ho:s.heap.get? d=some o):Inv X pins σ (upd H d (.frz o (.dT kvs))) s:= by
 have nt : ∀ {b:Addr} {u:HO},H b=some u->(∀ kvs,u ≠ .dT kvs)->b≠d:=fun {b u} e n z=>by rw[z,h] at e;cases e;exact n _ rfl
 refine I.step (h':=s.heap) (g':=s.gens) (t':=s.toks) (d':=s.drawn) (ch:=[]) (fun b hb=>absurd hb (by simp)) (fun b o _ _ _ e _=>e) (fun b o _ _ _ e _=>⟨o.slots,e⟩) (fun b o _ e n=>?_) (fun b o _ e=>⟨o,e⟩)
  (fun b xs e=>by rw[Af (nt e fun _ z=>by cases z)];exact e) (fun b o u e=>by rw[Af (nt e fun _ z=>by cases z)];exact e) (fun b ps e=>⟨#[],by rw[Af (nt e fun _ z=>by cases z),e];simp⟩) (fun m hm=>hm) ?_ I.bare
 ·have:b≠d:=fun z=>by rw[z,h] at n;cases n
  rw[Af this];exact n
 ·intro b u e
  by_cases hb:b=d
  ·subst hb
   rw[Ab] at e;cases e
   refine ⟨ho,(I.hok b _ h).stay (fun c v _ q=>q) (fun c q=>?_) fun c xs q=>?_⟩
   ·rw[Af (nt q fun _ z=>by cases z)];exact q
   ·rw[Af (nt q fun _ z=>by cases z)];exact q
  ·rw[Af hb] at e
   refine (I.hok b u e).stay (fun c v _ q=>q) (fun c q=>?_) fun c xs q=>?_
   ·rw[Af (nt q fun _ z=>by cases z)];exact q
   ·rw[Af (nt q fun _ z=>by cases z)];exact q
theorem Inv.dictF {pins:List (Addr × Obj)} {σ:St} {H:Hp} {s:Shared} {d:Addr} {kvs:List (List Key × V)} {o:Obj} (I:Inv X pins σ H s) (h:H d=some (.frz o (.dT kvs))) :
  s.heap.get? d=some o/\kvs.length<=sizeLine/\(d==sysModules)=false /\ ∃ (ps:List Addr) (vs:List Value) (es:Array DictEntry) (ep:Nat),o.data = .dict es ep/\Paired (fun (p:List Key × V) a=>H a=some (.tup (p.1.map kV))) kvs ps/\s.heap.DictE d ((ps.map Value.ref).zip vs) ep/\Bf (kvs.map (·.2)) vs:= by
 obtain ⟨ho,z,lo,xs,r,o1,es,ep,h1,h2,h3,h4,hnd⟩:=(show s.heap.get? d=some o/\A8 X.prog X.w H s.heap d (.dT kvs) from I.hok d _ h)
 have eo:o1=o:=by rw[ho] at h1;cases h1;rfl
 subst eo
 refine ⟨ho,z,lo,xs.map (·.2.1),xs.map (·.2.2),es,ep,h3,?_,⟨o1,es,h1,h2,h3,?_⟩,?_⟩
 ·clear h h4 z hnd
  induction r with
  | nil=>exact .nil
  | cons q _ ih=>exact .cons q.2.1 ih
 ·rw[h4,List.map_map]
  clear h h4 z r hnd
  induction xs with
  | nil=>rfl
  | cons x xs ih=>rw[List.map_cons,ih];rfl
 ·clear h h4 z hnd
  induction r with
  | nil=>exact .nil
  | cons q _ ih=>exact .cons q.2.2 ih
end
end L2
namespace PySem
open Sem (wp)
theorem GF {α β:Type} [BEq β] [LawfulBEq β] (f:α->β) : ∀ (l:List α) (b:β),(l.map f).Nodup->(l.filter fun x=>f x==b).length<=1
 | [],_,_=>by simp
 | a::l,b,h=>by
  rw[List.map_cons,List.nodup_cons] at h
  rw[List.filter_cons]
  split
  ·rename_i e
   have e:f a=b:=eq_of_beq e
   have:(l.filter fun x=>f x==b)=[]:= by
    rw[List.filter_eq_nil_iff]
    intro x hx q
    have q:=eq_of_beq q
    exact h.1 (by rw[e,<- q];exact List.mem_map.mpr ⟨x,hx,rfl⟩)
   rw[this];simp
  ·exact GF f l b h.2
section
variable {prog:Program} {w:World} {A:Around} {E:Value->Shared->Prop} {s:Shared}
theorem EG {b : Addr} {Q : Bool -> Shared -> Prop} (hT : s.TypeIs (.ref b) "tuple") (h : Q false s) : wpAny (model prog w) A (Builtin.Dict.quietEq (.ref b)) Q E s:= by
 unfold Builtin.Dict.quietEq
 refine wpAny_bind (wpAny_specialOf hT F.slot_tuple_eq.lookup (wpAny_pure ?_))
 exact h
theorem Db {id:String} {d:Addr} {o:Obj} {es ep} {Q:Array DictEntry->Shared->Prop} (ho:s.heap.get? d=some o) (hd:o.data = .dict es ep)
  (hk : ∀ e ∈ es.toList,∃ b,e.key = .ref b /\ s.TypeIs (.ref b) "tuple") (hn : (es.toList.map (·.hash)).Nodup) (h : Q es s) : wpAny (model prog w) A (Builtin.Dict.entriesForEmpty id d) Q E s:= by
 unfold Builtin.Dict.entriesForEmpty
 refine wpAny_bind (wpAny_dictEntries ho hd ?_)
 refine wpAny_bind ?_
 rw[<- Array.forIn_toList]
 refine wpAny_forIn_list _ (fun rest _ s'=>s'=s /\ ∀ e ∈ rest,e ∈ es.toList) _ ?_ ?_ _ _ ⟨rfl,fun e he=>he⟩
 ·rintro x rest b s' ⟨rfl,hin⟩
  obtain ⟨a,ek,hT⟩:=hk x (hin x List.mem_cons_self)
  have ex : ∀ {P:Shared->Prop},P s'->P s':=fun h=>h
  rw[ek]
  refine wpAny_bind (EG hT ?_)
  rw[if_pos (by rfl)]
  have hf : ¬ ((es.filter (fun y=>y.hash==x.hash)).size > 1):= by
   have:=GF (fun e:DictEntry=>e.hash) es.toList x.hash hn
   rw[<- Array.length_toList,Array.toList_filter]
   omega
  rw[if_neg hf]
  exact wpAny_pure ⟨rfl,fun e he=>hin e (List.mem_cons_of_mem _ he)⟩
 ·rintro b s' ⟨rfl,_⟩
  exact wpAny_pure h
theorem EY {nm:String} {d o:Addr} {od oo:Obj} {eso:Array DictEntry} {epd epo:Nat} {Q:Unit->Shared->Prop} (hdo:d≠o) (hoS:(o==sysModules)=false)
  (hod:s.heap.get? d=some od) (hdd:od.data = .dict #[] epd) (hoo:s.heap.get? o=some oo) (hdo':oo.data = .dict eso epo) (hne:eso ≠ #[])
  (hk : ∀ e ∈ eso.toList,∃ b,e.key = .ref b /\ s.TypeIs (.ref b) "tuple") (hn : (eso.toList.map (·.hash)).Nodup) (hz : eso.size <= sizeLine)
  (hQ : ∀ h',h'.get? d=some (od.mapDictKeys fun _=>eso)->Heap.SameBut d s.heap h'->Q () { s with heap:=h' }) :
  wpAny (model prog w) A (Builtin.Dict.mergeDict nm d o) Q E s:= by
 unfold Builtin.Dict.mergeDict
 rw[if_neg (by simpa using hdo)]
 unfold Builtin.Dict.showsAll
 rw[if_neg (by rw[hoS];exact Bool.false_ne_true)]
 refine wpAny_bind (wpAny_pure ?_)
 refine wpAny_bind (wpAny_dictEntries hoo hdo' ?_)
 have hfew:(decide (eso.size<=8)&&eso.all fun e=>(keyPart e.key).isSome)=false:= by
  have:(eso.all fun e=>(keyPart e.key).isSome)=false:= by
   rw[<- Array.all_toList]
   cases e:eso.toList with
   | nil=>exact absurd (by rw[<- Array.toList_inj,e]) hne
   | cons x t=>
    obtain ⟨b,ek,_⟩:=hk x (by rw[e];exact List.mem_cons_self)
    rw[List.all_cons,ek];rfl
  rw[this,Bool.and_false]
 dsimp only
 rw[hfew,if_pos (by rfl)]
 refine wpAny_bind (wpAny_dictEntries hod hdd ?_)
 rw[if_pos (by rfl)]
 refine wpAny_bind (Db hoo hdo' hk hn ?_)
 have hemp:(!eso.isEmpty)=true:= by
  cases e:eso.isEmpty with
  | false=>rfl
  | true=>exact absurd (Array.isEmpty_iff.mp e) hne
 rw[if_pos hemp]
 exact wpAny_bind (wpAny_updateDictKeysTo hod hdd (wpAny_pure (hQ _ (Heap.get?_update_self _ hod (Obj.isFreed_of_dict (Obj.data_mapDictKeys hdd _))) (Heap.SameBut.update ..))) (by omega))
theorem KY {o:Addr} {oo:Obj} {eso:Array DictEntry} {epo:Nat} {Q:Value->Shared->Prop} (hoS:(o==sysModules)=false) (hoo:s.heap.get? o=some oo) (hoc:oo.ExactDict) (hdo':oo.data = .dict eso epo) (hne:eso ≠ #[])
  (hk : ∀ e ∈ eso.toList,∃ b,e.key = .ref b /\ s.TypeIs (.ref b) "tuple") (hn : (eso.toList.map (·.hash)).Nodup) (hz : eso.size <= sizeLine)
  (h : ∀ h' od,h'.get? s.heap.objs.size = some od -> od.ExactDict -> (∃ ep,od.data = .dict eso ep) -> Heap.SameBut s.heap.objs.size (s.heap.push { cls:=.type "dict",data:=.dict #[] }) h' -> Q (.ref s.heap.objs.size) { s with heap:=h' }) :
  wpAny (model prog w) A (call (.type "dict") [.ref o]) Q E s:= by
 refine callType_codes (Q₁:=fun obj s₁=>obj = .ref s.heap.objs.size /\ s₁ = { s with heap:=s.heap.push { cls:=.type "dict",data:=.dict #[] } }) F.kt_called_dict (F.kt_typeCall_dict_1 _) F.entry_dict_init (kt_code_dict_new _ ⟨rfl,rfl⟩) ?_
 rintro obj s₁ ⟨rfl,rfl⟩
 have hnew : (s.heap.push { cls:=.type "dict",data:=.dict #[] }).get? s.heap.objs.size = some { cls:=.type "dict",data:=.dict #[] }:=Heap.get?_push_size _ rfl
 have hT1 : (⟨s.heap.push { cls:=.type "dict",data:=.dict #[] },s.gens,s.drawn,s.toks,s.os⟩ : Shared).TypeIs (.ref s.heap.objs.size) "dict":=⟨_,hnew,rfl⟩
 have hoo':=Heap.get?_push_of_some { cls:=.type "dict",data:=.dict #[] } hoo
 have hT2 : (⟨s.heap.push { cls:=.type "dict",data:=.dict #[] },s.gens,s.drawn,s.toks,s.os⟩ : Shared).TypeIs (.ref o) "dict":=⟨_,hoo',hoc.1⟩
 have hdo:s.heap.objs.size≠o:=fun e=>absurd (Heap.lt_size hoo) (by rw[e];exact Nat.lt_irrefl _)
 refine ⟨hT1,F.args_dict_init_2 _ _,?_⟩
 unfold Builtin.«dict.__init__»
 refine wpAny_bind ?_
 unfold Builtin.Dict.selfAndRest
 refine wpAny_bind (wpAny_notOrdered_dict hT1 ?_)
 show wpAny _ _ (pure (s.heap.objs.size,[Value.ref o])) _ _ _
 refine wpAny_pure ?_
 show wpAny _ _ (Builtin.Dict.updateFrom "dict.__init__" s.heap.objs.size (.ref o) [] .none) _ _ _
 unfold Builtin.Dict.updateFrom
 refine wpAny_bind (wpAny_typeOf hT2 ?_)
 rw[if_neg (by decide)]
 refine wpAny_bind ?_
 unfold Builtin.Dict.merge
 refine wpAny_bind ?_
 unfold Builtin.Dict.readDirectly
 refine wpAny_bind (wpAny_isInstance hT2 isSubtype_dict_dict ?_)
 simp only [Bool.not_true,Bool.false_eq_true,if_false]
 refine wpAny_bind (wpAny_specialOf hT2 F.slot_dict_iter.lookup (wpAny_pure ?_))
 simp only [beq_self_eq_true,if_true]
 refine wpAny_bind (wpAny_pure ?_)
 refine EY hdo hoS hnew rfl hoo' hdo' hne (fun e he=>?_) hn hz fun h' hd' hs'=>?_
 ·obtain ⟨b,ek,ob,hb,hc⟩:=hk e he
  exact ⟨b,ek,ob,Heap.get?_push_of_some _ hb,hc⟩
 show wpAny _ _ (Builtin.Dict.addKeywords s.heap.objs.size [] >>= _) _ _ _
 refine wpAny_bind (wpAny_pure (wpAny_pure ⟨rfl,h h' _ hd' ⟨rfl,rfl,rfl⟩ ⟨_,Obj.data_mapDictKeys rfl _⟩ hs'⟩))
end
end PySem
namespace L2
open PySem PySem.Spec PyProof.Rows
section
variable {X:Cx} {K:PySem.W.Frag}
abbrev hT (P:Program) (w:World) (k:List Key):Int:=(tupleKind (Bb P w)).hash k
theorem Ku : BW X (.type "dict") (fun xs H Q=>∃ (d : Addr) (kvs : List (List Key × V)),xs = [.ref d] /\ H d = some (.dT kvs) /\ kvs ≠ [] /\ (kvs.map fun kv=>hT X.prog X.w kv.1).Nodup /\ ∀ p,H p = none -> Q (.ref p) (upd H p (.dT kvs))):= by
 intro pins s σ H xs us Q I r h
 obtain ⟨d,kvs,rfl,hd,hne,hnd,q⟩:=h
 obtain ⟨u,rfl,ru⟩:=DE r
 cases (show u=Value.ref d from ru)
 obtain ⟨z,lo,xs,rel,o,es,ep,h1,h2,h3,h4,h5⟩:=(show A8 X.prog X.w H s.heap d (.dT kvs) from I.hok d _ hd)
 have hl:kvs.length=xs.length:=Paired.length rel
 have hes:es.size=xs.length:=by rw[<- Array.length_toList,h4,List.length_map]
 have hk:xs.map (·.1)=kvs.map (·.1):= by
  clear hd hne hnd z h4 h5 hl hes q
  induction rel with
  | nil=>rfl
  | cons a _ ih=>rw[List.map_cons,List.map_cons,ih,a.1]
 refine KY lo h1 h2 h3 (fun e=>hne ?_) (fun e he=>?_) ?_ (by omega) fun h' od hod hc hdat hs=>?_
 ·rw[e] at hes
  exact List.length_eq_zero_iff.mp (by rw[hl,<- hes];rfl)
 ·rw[h4] at he
  obtain ⟨x,hx,rfl⟩:=List.mem_map.mp he
  have all : ∀ {l:List (List Key × V)} {m:List (List Key × Addr × Value)},KT H l m -> ∀ x ∈ m,∃ ys,H x.2.1=some (.tup ys):= by
   intro l m q
   induction q with
   | nil=>intro x hx;exact nomatch hx
   | @cons p q ps qs hq t ih=>
    intro x hx
    rcases List.mem_cons.mp hx with e | hx
    ·subst e;exact ⟨_,hq.2.1⟩
    ·exact ih x hx
  obtain ⟨ys,hy⟩:=all rel x hx
  obtain ⟨_,its,rv,ob,e1,e2,_⟩:=(show A8 X.prog X.w H s.heap x.2.1 (.tup ys) from I.hok _ _ hy)
  exact ⟨x.2.1,rfl,ob,e1,e2⟩
 ·rw[h4,List.map_map]
  have:xs.map ((fun e:DictEntry=>e.hash)∘entryOfKey (tupleKind (Bb X.prog X.w)))=kvs.map fun kv=>hT X.prog X.w kv.1:= by
   have e1:xs.map ((fun e:DictEntry=>e.hash)∘entryOfKey (tupleKind (Bb X.prog X.w)))=(xs.map (·.1)).map (hT X.prog X.w):=by rw[List.map_map];rfl
   rw[e1,hk,List.map_map];rfl
  rw[this];exact hnd
 ·obtain ⟨ep',hdat⟩:=hdat
  have hn:=I.hok.fresh (Nat.le_refl s.heap.objs.size)
  refine ⟨.ref s.heap.objs.size,_,I.laid (a:=s.heap.objs.size) (o:=.dT kvs) (t':=s.toks) (fun b q hq=>(hs.2 b (Nat.ne_of_lt (Heap.lt_size hq))).trans (Heap.get?_push_of_some _ hq)) (Nat.le_refl _) ?_,rfl,q _ hn⟩
  exact ⟨z,beq_eq_false_iff_ne.mpr (Ne.symm (Nat.ne_of_lt I.big)),xs,KT.keeps rel (fun b ys e=>by rw[Af (Aj e hn)];exact e),od,es,ep',hod,hc,hdat,h4,h5⟩
def Q0 (tk tv:TE):TE:=fun σ H Q=>∀ p,H p=none->tk σ (upd H p (.dT [])) fun x H1=>tv σ H1 fun y H2=>H2 p=some (.dT []) /\ ∃ b ks,x = .ref b/\H2 b=some (.tup (ks.map kV))/\Q (.ref p) (upd H2 p (.dT [(ks,y)]))
theorem N9 {k v:Expr} {tk tv:TE} {pos:Pos} (hu:X.A.units+1<cLine) (hk:PE X k tk) (hv:PE X v tv):PE X (.Dict [some k] [v] pos) (Q0 tk tv):= by
 intro pins s σ H Q I q
 have hn:=I.hok.fresh (Nat.le_refl s.heap.objs.size)
 have I1:=I.laid (a:=s.heap.objs.size) (o:=.dT []) (h':=s.heap.push { cls:=.type "dict",data:=.dict #[] }) (t':=s.toks) (fun _ _ q=>Heap.get?_push_of_some _ q) (Nat.le_refl _) (E7 s.heap I.big)
 have hP:PPs X pos [some k] [v] [(tk,tv)]:=Ng hk hv OP
 have q1:=q _ hn
 rw[arm_eval_Dict,zip_pairTrees [some k] [v] X.env pos rfl rfl,dictDisplay_pairs _ (by intro e;have:=congrArg List.length e;rw[pairTrees_length [some k] [v] X.env pos rfl rfl] at this;cases this) (by rw[pairTrees_length [some k] [v] X.env pos rfl rfl];show 1<17;decide)]
 refine wpAny_bind (wpAny_standAt (wpAny_bind ?_))
 unfold subDict
 refine wpAny_bind (wpAny_alloc ?_)
 refine wpAny_bind (wpAny_holding ?_)
 rw[if_pos (by rw[pairTrees_length [some k] [v] X.env pos rfl rfl];show 1<=15;decide)]
 refine wpAny_bind (thn (hP pins _ σ _ (fun ps H3=>match ps with | [(x,y)]=>H3 s.heap.objs.size=some (.dT []) /\ ∃ b ks,x = .ref b/\H3 b=some (.tup (ks.map kV))/\Q (.ref s.heap.objs.size) (upd H3 s.heap.objs.size (.dT [(ks,y)])) | _=>False) I1 q1) fun ws s2 ⟨ps,H2,I2,rel,qq⟩=>?_)
 match ps,qq with
 | [],z=>exact z.elim
 | _::_::_,z=>exact z.elim
 | [(x,y)],⟨e2,b,ks,e3,e4,q2⟩=>
  subst e3
  obtain ⟨kw,vw,rfl,rk,rv⟩ : ∃ kw vw,ws=[(kw,vw)]/\Be (V.ref b) kw/\Be y vw:= by
   cases rel with
   | cons a t=>cases t;exact ⟨_,_,rfl,a.1,a.2⟩
  cases (show kw=Value.ref b from rk)
  refine wpAny_holding ?_
  obtain ⟨z,hd,xs,rl,dd⟩:=O2 I2.hok e2
  cases rl
  rw[List.forIn_cons]
  refine wpAny_bind ?_
  refine wpAny_bind (wpAny_bind (wpAny_dictSet_heap (hsz:=Nat.zero_le _) (by show X.A.units<cLine;omega) (Fo I2.hok e4) dd fun h' dd' hs=>?_))
  refine wpAny_pure ?_
  refine wpAny_pure (wpAny_pure (wpAny_pure (wpAny_pure ⟨.ref s.heap.objs.size,_,?_,rfl,q2⟩)))
  obtain ⟨qo,es,ep,hq,h2,h3,h4,_,h5⟩:=dd'
  have r1:KT H2 [(ks,y)] (storedH [] ks b vw):=KT.put (kvs:=[]) .nil ks e4 rv
  refine FS I2 (by rw[e2];exact True.intro) hs ⟨qo,hq⟩ ⟨by show 1<=sizeLine;decide,hd,_,r1.keeps fun c ys ec=>?_,qo,es,ep,hq,h2,h3,h4,h5⟩
  rw[Af (Cv ec e2 (fun z=>nomatch z))]
  exact ec
end
end L2
namespace L2
open PySem PySem.Spec PyProof.Rows
def hI (L:List Int):Int:=reduceHash (Builtin.Tuple.tupleHashOf (L.map hashInt))
theorem Qg (P:Program) (w:World) (L:List Int):hT P w (L.map Sum.inl)=hI L:= by
 show reduceHash (Builtin.Tuple.tupleHashOf ((L.map (Sum.inl:Int->Key)).map (Si w)))=_
 rw[List.map_map];rfl
theorem J0 {α β:Type} (f:α->β) : ∀ {l:List α},(l.map f).Nodup -> ∀ {x y:α},x ∈ l->y ∈ l->f x=f y->x=y
 | [],_,_,_,hx,_,_=>by simp at hx
 | a::l,h,x,y,hx,hy,e=>by
  rw[List.map_cons,List.nodup_cons] at h
  rcases List.mem_cons.mp hx with e1 | h1
  ·rcases List.mem_cons.mp hy with e2 | h2
   ·rw[e1,e2]
   ·exact absurd (List.mem_map.mpr ⟨y,h2,by rw[<- e,e1]⟩) h.1
  ·rcases List.mem_cons.mp hy with e2 | h2
   ·exact absurd (List.mem_map.mpr ⟨x,h1,by rw[e,e2]⟩) h.1
   ·exact J0 f h.2 h1 h2 e
theorem Ck {α:Type} [DecidableEq α] : ∀ {l m:List α},l.Nodup->(∀ x ∈ l,x ∈ m)->l.length<=m.length
 | [],_,_,_=>Nat.zero_le _
 | a::l,m,hn,hs=>by
  rw[List.nodup_cons] at hn
  have ha:=hs a List.mem_cons_self
  have:=Ck (m:=m.erase a) hn.2 fun x hx=>(List.mem_erase_of_ne (show x≠a from fun e=>hn.1 (by rw[<- e];exact hx))).mpr (hs x (List.mem_cons_of_mem _ hx))
  rw[List.length_erase_of_mem ha] at this
  have h0:0<m.length:=List.length_pos_of_mem ha
  rw[List.length_cons];omega
end L2
namespace L2
open PySem PySem.Spec PyProof.Rows
end L2
namespace L2
open PySem PySem.Spec PyProof.Rows
end L2
namespace L2
open PySem PySem.Spec PyProof.Rows
end L2
namespace L2
end L2
namespace L2
open PySem PySem.Spec PyProof.Rows
end L2
namespace L2
open PySem PySem.Spec PyProof.Rows
end L2
namespace L2
open PySem PySem.Spec PyProof.Rows
end L2
namespace L2
open PySem PySem.Spec PyProof.Rows
end L2
namespace L2
open PySem PySem.Spec PyProof.Rows
end L2
namespace L2
open PySem PySem.Spec PyProof.Rows
end L2
namespace L2
open PySem PySem.Spec PyProof.Rows
end L2
namespace L2
open PySem PySem.Spec PyProof.Rows
end L2
namespace L2
open PySem PySem.Spec PyProof.Rows
end L2
namespace L2
open PySem PySem.Spec PyProof.Rows
end L2
namespace L2
open PySem PySem.Spec PyProof.Rows
end L2
namespace L2
open PySem PySem.Spec PyProof.Rows
end L2
namespace L2
open PySem PySem.Spec PyProof.Rows
end L2
namespace L2
open PySem PySem.Spec PyProof.Rows
def Bp (H:Hp) (a:Addr):Hp:=fun b=>if b=a then none else H b
end L2
namespace L2
open PySem PySem.Spec PyProof.Rows
def Ge (c:Addr) (qual:Str):HO:=.ext fun h=>∃ o vs t,h.get? c=some o/\o.data = .fields vs/\vs[1]?=some (.str qual t)
def AM (H:Hp) (P:Addr) (pos:Pos) (qual:Str):Prop:=∃ ps:Array Value,H P=some (.tbl ps)/\TriplesOk ps.toList/\(codeAmong pos ps.toList=none \/ ∃ c,codeAmong pos ps.toList=some (.ref c)/\H c=some (Ge c qual))
def NU (mg : Str -> Option Value) (base : Heap) : Prop:=∃ bm ob,mg "__builtins__" = some (.ref bm) /\ bm ≠ builtinsNs /\ base.get? bm = some ob /\ ob.cls = .type "module" /\ ob.dict = some builtinsNs /\ ob.data = .plain
theorem AM.same {H H':Hp} {P:Addr} {pos:Pos} {qual:Str} (h:AM H P pos qual) (s:Ak H H'):AM H' P pos qual:= by
 obtain ⟨ps,h1,h2,h3⟩:=h
 refine ⟨ps,s _ _ h1,h2,?_⟩
 rcases h3 with h3 | ⟨c,h3,h4⟩
 ·exact .inl h3
 ·exact .inr ⟨c,h3,s _ _ h4⟩
theorem MR {H H':Hp} {P:Addr} (s:Ak H H'):Ak (Bp H P) (Bp H' P):=fun b o e=>by
 unfold Bp at e ⊢
 by_cases q:b=P
 ·rw[if_pos q] at e;cases e
 ·rw[if_neg q] at e ⊢;exact s b o e
theorem DO (H:Hp) (P:Addr):Ak (Bp H P) H:=fun b o e=>by
 unfold Bp at e
 by_cases q:b=P
 ·rw[if_pos q] at e;cases e
 ·rw[if_neg q] at e;exact e
section
variable {X:Cx} {pins:List (Addr × Obj)} {σ:St} {H:Hp} {s:Shared}
theorem Inv.pin1 (I:Inv X pins σ H s) {a:Addr} {o:Obj} (h1:s.heap.get? a=some o) (h2:H a=none) (h3:a≠X.env.locals) (h4:a ∉ X.fs) (h5 : ∀ v,o.data ≠ .cell v):Inv X ((a,o)::pins) σ H s:=
 I.pins_of fun p hp=>by
  rcases List.mem_cons.mp hp with rfl | hp
  ·exact ⟨h1,h2,h3,h4,h5⟩
  ·exact I.pin p (List.mem_append_right _ hp)
theorem Inv.unpin {p:Addr × Obj} (I:Inv X (p::pins) σ H s):Inv X pins σ H s:=I.pins_of fun q hq=>I.pin q (List.mem_append_right _ (List.mem_cons_of_mem _ hq))
structure NO (X:Cx) (pins:List (Addr × Obj)) (a:Addr):Prop where
 ab:X.s₀.heap.objs.size<=a
 nl:a≠X.env.locals
 nc : ∀ x c,X.env.cells.lookup x=some c->c≠a
 np : ∀ p ∈ X.pn++pins,p.1≠a
 nf:a ∉ X.fs
theorem Inv.ownR (I:Inv X pins σ H s) {a:Addr} (h:s.heap.objs.size<=a):NO X pins a where
 ab:=Nat.le_trans I.sz h
 nl:=Nat.ne_of_gt (Nat.lt_of_lt_of_le I.lt h)
 nc:=fun x c e=>by
  obtain ⟨v,o,ho,_⟩:=I.cell x c e
  exact Nat.ne_of_lt (Nat.lt_of_lt_of_le (Heap.lt_size ho) h)
 np:=fun p hp=>Nat.ne_of_lt (Nat.lt_of_lt_of_le (Heap.lt_size (I.pin p hp).1) h)
 nf:=I.nofs h
theorem Inv.repin {a:Addr} {o o':Obj} {h':Heap} {t':Nat} (I:Inv X ((a,o)::pins) σ H s) (O:NO X pins a) (k : ∀ b u,b≠a->s.heap.get? b=some u->h'.get? b=some u) (e:h'.get? a=some o') (hd : ∀ v,o'.data ≠ .cell v) :
  Inv X ((a,o')::pins) σ H { s with heap:=h',toks:=t' }:= by
 obtain ⟨_,h2,h3,h4,_⟩:=I.pin (a,o) (List.mem_append_right _ List.mem_cons_self)
 exact ((Inv.unpin I).turned (t':=t') k h2 h3 (.inr O.ab) O.nc O.np).pin1 e h2 h3 h4 hd
theorem Inv.swap {p q:Addr × Obj} (I:Inv X (p::q::pins) σ H s):Inv X (q::p::pins) σ H s:=I.pins_of fun r hr=>I.pin r (List.mem_append_right _ (by
 rcases List.mem_cons.mp hr with rfl | hr
 ·exact List.mem_cons_of_mem _ List.mem_cons_self
 ·rcases List.mem_cons.mp hr with rfl | hr
  ·exact List.mem_cons_self
  ·exact List.mem_cons_of_mem _ (List.mem_cons_of_mem _ hr)))
end
section
variable {X:Cx} {pins:List (Addr × Obj)} {σ:St} {H:Hp} {s:Shared} {lps:Arguments} {lb:Expr} {lsc:Scope} {lpos:Pos} {cl:List (Str × Addr)} {c P:Addr} {E:Value->Shared->Prop} {Qv:Value->Shared->Prop}
abbrev Il (X : Cx) (lps : Arguments) (lb : Expr) (lsc : Scope) (cl : List (Str × Addr)) (c' : Addr) (ctv : Value) : Obj:=PySem.W.kla_obj "<lambda>" (X.env.qual ++ "<lambda>") lps lb lsc cl ((X.mg "__name__").getD .none) c' ctv
theorem Qm (I : Inv X pins σ H s) (hdef : defaultsOf lps X.env = ([],[])) (hcl : closureFor lsc X.env = pure cl) (hcode : X.env.code = .ref c) (hC : PySem.W.CodeHd X.base c P) (hbm : NU X.mg X.base) (hT : AM H P lpos (X.env.qual ++ "<lambda>"))
  (h : ∀ (f c' : Addr) (ctv : Value) (H' : Hp) (s' : Shared),Inv X ((f,Il X lps lb lsc cl c' ctv) :: pins) σ H' s' -> H' c' = some (Ge c' (X.env.qual ++ "<lambda>")) -> AM H' P lpos (X.env.qual ++ "<lambda>") -> Ak (Bp H P) H' -> Qv (.ref f) s') :
  wpAny (model X.prog X.w) X.A (eval (.Lambda lps lb lsc lpos) X.env) Qv E s:= by
 obtain ⟨ps,hP,htr,hor⟩:=hT
 have hPh:s.heap.get? P=some (PySem.W.tabObj ps):=I.hok P _ hP
 obtain ⟨bm,ob,b1,b2,b3,b4,b5,b6⟩:=hbm
 have hg:s.heap.Ns mainGlobals X.mg:=I.ok.mod.glob.keeps I.bk
 have hbm':=I.bs bm ob b3
 have hgP:mainGlobals≠P:=fun q=>by
  obtain ⟨o,es,ep,e,hd,_⟩:=hg
  rw[q,hPh] at e;cases e;cases hd
 have hbP:bm≠P:=fun q=>by
  have:=hbm'.2
  rw[q,hP] at this;cases this
 have hbG:bm≠mainGlobals:=fun q=>by
  obtain ⟨o,es,ep,e,hd,_⟩:=hg
  rw[q,e] at hbm';cases hbm'.1;rw[hd] at b6;cases b6
 have hb:s.heap.BuiltinsAt X.mg P:=⟨bm,ob,b1,b2,hbG,hbP,hbm'.1,b4,b5,b6⟩
 have hC':PySem.W.CodeHd s.heap c P:=hC.keeps I.bk
 refine PySem.W.kla_eval hdef ?_
 rcases hor with hno | ⟨c',hyes,hc'⟩
 ·refine PySem.W.kla_makeFunction (mg:=X.mg) hcl I.ok.glob hg hcode hC' hPh htr hno hgP hb fun c' ctv h' tk hx hge hlt hrec htb=>?_
  have hc0:H c'=none:=I.hok.fresh hge
  have cP:c'≠P:=fun e=>by rw[e,hP] at hc0;cases hc0
  have kk : ∀ b o,b≠P->s.heap.get? b=some o->(h'.push (Il X lps lb lsc cl c' ctv)).get? b=some o:=fun b o hb e=>Heap.get?_push_of_some _ (hx b o hb e)
  have hH' : ∀ b u,H b = some u -> b ≠ P -> upd (upd H P (.tbl (ps ++ #[rawInt lpos.line,rawInt lpos.col,.ref c']))) c' (Ge c' (X.env.qual ++ "<lambda>")) b = some u:=fun b u e hb=>by
   rw[Af (Aj e hc0),Af hb];exact e
  have hPn : upd (upd H P (.tbl (ps ++ #[rawInt lpos.line,rawInt lpos.col,.ref c']))) c' (Ge c' (X.env.qual ++ "<lambda>")) P = some (.tbl (ps ++ #[rawInt lpos.line,rawInt lpos.col,.ref c'])):= by
   rw[Af cP.symm,Ab]
  have hcn : upd (upd H P (.tbl (ps ++ #[rawInt lpos.line,rawInt lpos.col,.ref c']))) c' (Ge c' (X.env.qual ++ "<lambda>")) c' = some (Ge c' (X.env.qual ++ "<lambda>")):=Ab
  have hno' : ∀ b,H b = none -> b ≠ c' -> upd (upd H P (.tbl (ps ++ #[rawInt lpos.line,rawInt lpos.col,.ref c']))) c' (Ge c' (X.env.qual ++ "<lambda>")) b = none:=fun b e hb=>by
   rw[Af hb,Af (fun z=>by rw[z,hP] at e;cases e)];exact e
  have hcd2 : ∀ b u,upd (upd H P (.tbl (ps ++ #[rawInt lpos.line,rawInt lpos.col,.ref c']))) c' (Ge c' (X.env.qual ++ "<lambda>")) b = some u -> b = c' \/ b = P \/ (H b = some u /\ b ≠ P /\ b ≠ c'):=fun b u e=>by
   by_cases h1:b=c'
   ·exact .inl h1
   ·by_cases h2:b=P
    ·exact .inr (.inl h2)
    ·rw[Af h1,Af h2] at e;exact .inr (.inr ⟨e,h2,h1⟩)
  generalize upd (upd H P (.tbl (ps ++ #[rawInt lpos.line,rawInt lpos.col,.ref c']))) c' (Ge c' (X.env.qual ++ "<lambda>")) = H' at hH' hPn hcn hno' hcd2
  have hsz:s.heap.objs.size<=h'.objs.size:=Nat.le_trans hge (Nat.le_of_lt hlt)
  have I':Inv X pins σ H' { s with heap:=h'.push (Il X lps lb lsc cl c' ctv),toks:=tk }:= by
   refine I.un (t':=tk) ⟨fun b o e n hb _=>kk b o (fun z=>by rw[z,hP] at n;cases n) e,fun b o e n hb _=>⟨o.slots,kk b o (fun z=>by rw[z,hP] at n;cases n) e⟩,
    fun b o e n _=>hno' b n (fun z=>by rw[z] at e;exact absurd (Heap.lt_size e) (Nat.not_lt.mpr hge)),fun b o e _=>?_,fun b xs e=>hH' b _ e (fun z=>by rw[z,hP] at e;cases e),fun b o u e=>hH' b _ e (fun z=>by rw[z,hP] at e;cases e),fun b qs e=>?_⟩ (fun b u e=>?_)
   ·by_cases hb:b=P
    ·exact ⟨_,by rw[hb];exact Heap.get?_push_of_some _ htb⟩
    ·exact ⟨o,kk b o hb e⟩
   ·by_cases hb:b=P
    ·rw[hb,hP] at e;cases e
     exact ⟨_,by rw[hb];exact hPn⟩
    ·exact ⟨#[],by rw[hH' b _ e hb];simp⟩
   ·rcases hcd2 b u e with rfl | rfl | ⟨e1,e2,e3⟩
    ·rw[hcn] at e;cases e
     obtain ⟨c2,oc,vs,t,q1,q2,q3,q4⟩:=hrec
     cases q1
     refine ⟨⟨oc,vs,t,Heap.get?_push_of_some _ q2,q3,q4⟩,⟨oc,Heap.get?_push_of_some _ q2⟩,fun h1 h2 ⟨o1,v1,t1,z1,z2,z3⟩ kp=>⟨o1,v1,t1,kp _ z1,z2,z3⟩⟩
    ·rw[hPn] at e;cases e
     exact Heap.get?_push_of_some _ htb
    ·refine (I.hok b u e1).stay (fun d v hd q=>kk d v (fun z=>?_) q) (fun d q=>hH' d _ q (fun z=>by rw[z,hP] at q;cases q)) fun d xs q=>hH' d _ q (fun z=>by rw[z,hP] at q;cases q)
     rcases hd with hd | hd
     ·exact e2 (hd.symm.trans z)
     ·rw[z,hP] at hd;cases hd
  have hfn:H' h'.objs.size=none:=hno' _ (I.hok.fresh hsz) (Nat.ne_of_gt hlt)
  refine h _ c' ctv H' _ (I'.pin1 (Heap.get?_push_size _ rfl) hfn (I.ownR hsz).nl (I.ownR hsz).nf fun v z=>by cases z) hcn ⟨_,hPn,?_,.inr ⟨c',?_,hcn⟩⟩ fun b o e=>?_
  ·rw[Array.toList_append];exact TriplesOk_snoc _ _ _ _ htr
  ·rw[Array.toList_append];exact codeAmong_snoc _ htr hno
  ·have hb:b≠P:=fun z=>by rw[z] at e;unfold Bp at e;rw[if_pos rfl] at e;cases e
   exact hH' b o (DO H P b o e) hb
 ·refine PySem.W.kla_makeFunctionHit (mg:=X.mg) hcl I.ok.glob hg hcode hC' hPh htr hyes hb fun ctv h' tk hk hsz=>?_
  have I':Inv X pins σ H { s with heap:=h'.push (Il X lps lb lsc cl c' ctv),toks:=tk }:=I.kept (t':=tk) fun b u e=>Heap.get?_push_of_some _ (hk b u e)
  exact h _ c' ctv H _ (I'.pin1 (Heap.get?_push_size _ rfl) (I.hok.fresh hsz) (I.ownR hsz).nl (I.ownR hsz).nf fun v z=>by cases z) hc' ⟨ps,hP,htr,.inr ⟨c',hyes,hc'⟩⟩ (DO H P)
end
section
variable {X:Cx} {pins:List (Addr × Obj)} {σ:St} {H:Hp} {s:Shared} {lps:Arguments} {lb:Expr} {lsc:Scope} {lpos:Pos} {cl:List (Str × Addr)}
def OV (X:Cx) (N:List Str) (qual:Str) (sc:Scope) (f c':Addr) (cl:List (Str × Addr)) (A:Around) (s:Shared) (H:Hp):Cx where
 prog:=X.prog
 w:=X.w
 K:=X.K
 mg:=X.mg
 base:=X.base
 A:=A.deeper (PySem.W.envX qual sc s.heap.objs.size f (.ref c') cl)
 N:=N
 s₀:=s
 H₀:=H
 env:=PySem.W.envX qual sc s.heap.objs.size f (.ref c') cl
 outer:=X.stack
 stack:=PySem.W.envX qual sc s.heap.objs.size f (.ref c') cl::X.stack
 ex:=[]
 calm:=true
 fn:=fun _=>false
 pn:=[]
 xe:=fun _ _=>False
structure QS (X:Cx) (lps:Arguments) (lb:Expr) (lsc:Scope) (cl:List (Str × Addr)) (x:Str) (fr:List Str) (ix:List Nat):Prop where
 kind:lsc.kind = .function
 co:lsc.isCoroutine=false
 gen:lsc.isGenerator=false
 par:lsc.names.lookup x=some .local
 nocell : ∀ y ∈ lsc.names,y.2 ≠ .cell
 free : ∀ q ∈ lsc.names,q.2 = .free->q.1 ∈ fr
 sub : ∀ q ∈ cl,X.env.cells.lookup q.1=some q.2
 has : ∀ y ∈ fr,∃ c,cl.lookup y=some c
 isf : ∀ y ∈ fr,lsc.names.lookup y=some .free/\X.env.scope.names.lookup y=some .cell
 pl:Paired (fun i y=>X.N[i]?=some y) ix fr
 bind : ∀ (qual : Str) (pm cdv ctv u : Value),bindArgs (PySem.W.kla_fn "<lambda>" qual lps lb lsc cl pm cdv ctv) ⟨[u],[]⟩ = pure [(x,u)]
abbrev P3 (σ:St) (ix:List Nat) (v:V):St:=some v::ix.map fun i=>(σ[i]?).getD none
theorem OM {x:Str} {fr:List Str} {ix:List Nat} {te:TE} {A:Around} {v:V} {u:Value} {f c':Addr} {ctv:Value} {Q:VK} {E:Value->Shared->Prop} (L:QS X lps lb lsc cl x fr ix) (I:Inv X pins σ H s) (hf:(f,Il X lps lb lsc cl c' ctv) ∈ X.pn++pins)
  (hc : H c' = some (Ge c' (X.env.qual ++ "<lambda>"))) (hA : A.frames = some X.stack) (hAh : A.handled = none) (hdp : A.depth < recursionLimit) (hb : PE (OV X (x :: fr) (X.env.qual ++ "<lambda>") lsc f c' cl A s H) lb te) (r : Be v u) (q : te (P3 σ ix v) H Q) :
  wpAny (model X.prog X.w) A (call (.ref f) [u]) (EP X pins σ Q) E s:= by
 obtain ⟨⟨oc,vs,t,e1,e2,e3⟩,_,_⟩:=I.hok c' _ hc
 refine wpAny_call (PySem.W.kla_callFunE hdp (I.pin _ hf).1 rfl L.co L.gen rfl ⟨c',oc,vs,t,rfl,e1,e2,e3⟩ ?_)
 rw[L.bind]
 refine wpAny_pure (wpAny_newFunctionEnv L.nocell (fun y hy=>by rw[List.mem_singleton.mp hy];exact L.par) (fun h₁ hns hsb=>⟨(I.nolimit).fresh _ hsb,?_⟩) L.kind)
 show codeAny _ _ (.expr lb (PySem.W.envX (X.env.qual ++ "<lambda>") lsc s.heap.objs.size f (.ref c') cl)) _ _
 have hk₁ : ∀ b o,s.heap.get? b=some o->h₁.get? b=some o:=fun b o e=>hsb.extBut b o (Nat.ne_of_lt (Heap.lt_size e)) (Heap.get?_push_of_some _ e)
 have cls : ∀ y c,cl.lookup y=some c->X.env.cells.lookup y=some c:=fun y c e=>L.sub (y,c) (PySem.mem_of_lookup e)
 have J : Inv (OV X (x :: fr) (X.env.qual ++ "<lambda>") lsc f c' cl A s H) [] (P3 σ ix v) H { s with heap:=h₁,toks:=s.toks + [(x,u)].length }:= by
  refine ⟨⟨I.ok.mod,L.kind,rfl,rfl,Nat.le_refl _,fun y z c h1 h2=>I.ok.inj y z c (cls y c h1) (cls z c h2),fun y hy=>?_,fun y c h=>absurd h (by show ¬ (false=true);decide),fun _=>hAh,Around.frames_deeper hA,.inr ⟨rfl,rfl⟩,fun b z=>absurd (show b ∈ ([]:List Addr) from z) (by simp),I.bs,Nat.le_trans I.ok.bsz I.sz,fun b _ _ z=>absurd (show b ∈ ([]:List Addr) from z) (by simp),fun b z=>absurd (show b ∈ ([]:List Addr) from z) (by simp),I.stack,I.stkFree⟩,
   rfl,I.bare,Un.kept hk₁,⟨_,hns,fun i y v' h1 h2 h3=>?_⟩,fun y c e=>?_,I.hok.fresh (Nat.le_refl _),fun y c e=>I.freeC y c (cls y c e),fun p hp=>absurd (show p ∈ ([]:List (Addr × Obj)) from hp) (by simp),I.hok.kept hk₁,?_⟩
  ·have hy:lsc.names.lookup y=some .cell\/lsc.names.lookup y=some .free:=hy
   rcases hy with hy | hy
   ·exact absurd rfl (L.nocell _ (PySem.mem_of_lookup hy))
   ·exact L.has y (L.free _ (PySem.mem_of_lookup hy) rfl)
  ·cases i with
   | zero=>
    have h1:some x=some y:=h1
    have h2:some (some v)=some (some v'):=h2
    cases h1;cases h2
    exact ⟨u,r,.inl ⟨L.par,by simp⟩⟩
   | succ j=>
    have h1:fr[j]?=some y:=h1
    have h2:(ix.map fun i=>(σ[i]?).getD none)[j]?=some (some v'):=h2
    obtain ⟨n,hn,hj⟩:=Fg L.pl h1
    rw[List.getElem?_map,hj] at h2
    have h2:(σ[n]?).getD none=some v':=by injection h2
    have h2:σ[n]?=some (some v'):= by
     cases e:σ[n]? with
     | none=>rw[e] at h2;cases h2
     | some z=>rw[e] at h2;rw[show z=some v' from h2]
    obtain ⟨g1,g2⟩:=L.isf y (List.mem_of_getElem? h1)
    obtain ⟨m,hm,hl⟩:=I.loc
    obtain ⟨u',r',l⟩:=hl n y v' hn h2 (.inr (.inl g2))
    rcases l with ⟨k,_⟩ | ⟨_,c,e,z⟩
    ·have k:X.env.scope.names.lookup y=some .local:=k
     rw[g2] at k;cases k
    ·obtain ⟨c2,e2⟩:=L.has y (List.mem_of_getElem? h1)
     have:=cls y c2 e2
     rw[e] at this
     cases this
     obtain ⟨oz,z1,z2⟩:=z
     exact ⟨u',r',.inr ⟨.inr g1,c,e2,oz,hk₁ _ _ z1,z2⟩⟩
  ·obtain ⟨w0,o,ho,hd⟩:=I.cell y c (cls y c e)
   exact ⟨w0,o,hk₁ _ _ ho,hd⟩
  ·show (some v::ix.map fun i=>(σ[i]?).getD none).length=(x::fr).length
   rw[List.length_cons,List.length_cons,List.length_map,L.pl.length]
 refine PySem.W.kla_codeExpr (wpAny_mono (hb [] _ _ H _ J q) (fun u2 s2 hs=>?_) fun _ _ z=>False.elim z)
 obtain ⟨v2,H2,J2,r2,q2⟩:=hs
 exact ⟨v2,H2,I.call' J2.os J2.base J2.hok J2.bare (fun b z=>absurd (show b ∈ ([]:List Addr) from z) (by simp)),r2,q2⟩
theorem Ho : ∀ {as:List Addr} {its:List Value},Bf (as.map V.ref) its->its=as.map Value.ref
 | [],_,.nil=>rfl
 | a::as,_,.cons r t=>by
  obtain rfl:_=Value.ref a:=r
  rw[Ho t];rfl
end
def PR (kf:Nat->Int) (n i:Nat):Prop:=∀ j,j<n->kf i >= kf j/\(j<i->kf i > kf j)
section
variable {X:Cx} {P0:List (Addr × Obj)} {σ:St} {H2:Hp} {l It S q:Addr} {as:List Addr} {R:Result->Shared->Prop} {kf:Nat->Int}
theorem Ln (hh:X.A.handled=none) (hsq:SqL X.K H2 l (as.map V.ref)) (hlI:l≠It) (hSI:S≠It) (oI:NO X P0 It) (oS:NO X P0 S)
  (turn : ∀ (i:Nat) (a:Addr),as[i]?=some a -> ∀ (pins:List (Addr × Obj)) (s:Shared) (H:Hp),Inv X pins σ H s->(∀ p ∈ P0,p ∈ pins)->Ak H2 H ->
   wpAny (model X.prog X.w) X.A.in1 (call (.ref q) [.ref a]) (EP X pins σ fun v H'=>v = .int (kf i)/\Ak H H') (fun _ _=>False) s)
  (hR : ∀ i a s' H',as[i]?=some a->PR kf as.length i->Inv X P0 σ H' s'->Ak H2 H'->R (.ok (.ret (.ref a))) s') :
  ∀ (r j i : Nat) (s : Shared) (H : Hp) (ab : Addr) (tb : Tok) (c : Nat) (ob : Obj),as.length - (j + 1) = r -> j + 1 <= as.length -> Inv X ((S,seqObj "list" #[.ref ab,.int (kf i) tb] c) :: (It,ob) :: P0) σ H s -> Ak H2 H ->
   s.heap.IsListIter It l (j+1)->as[i]?=some ab->i<=j->(∀ j',j'<=j->kf i >= kf j'/\(j'<i->kf i > kf j')) ->
   codeAny (model X.prog X.w) X.A (.builtin "max.loop" ⟨[.ref It,.ref q,.ref S],[]⟩) R s:= by
 have hname : (toString "max" ++ toString ".loop" : String) = "max.loop":=by decide
 have W:=Walks.list (prog:=X.prog) (w:=X.w) (A:=X.A.in1) hh It l hlI (as.map Value.ref).toArray
 have hsz:(as.map Value.ref).toArray.size=as.length:=by rw[List.size_toArray,List.length_map]
 have islist : ∀ {pins:List (Addr × Obj)} {s:Shared} {H:Hp},Inv X pins σ H s->Ak H2 H->s.heap.IsList l (as.map Value.ref).toArray:=fun {pins s H} I sm=>by
  obtain ⟨its,r',pl,_⟩:=I.list (sm.seq hsq)
  rw[Ho r'] at pl
  exact pl.isList
 have oS1 : ∀ ob:Obj,NO X ((It,ob)::P0) S:=fun ob=>⟨oS.ab,oS.nl,oS.nc,fun p hp=>by
  rcases List.mem_append.mp hp with hp | hp
  ·exact oS.np p (List.mem_append_left _ hp)
  ·rcases List.mem_cons.mp hp with rfl | hp
   ·exact fun z=>hSI z.symm
   ·exact oS.np p (List.mem_append_right _ hp),oS.nf⟩
 have oI1 : ∀ ob:Obj,NO X ((S,ob)::P0) It:=fun ob=>⟨oI.ab,oI.nl,oI.nc,fun p hp=>by
  rcases List.mem_append.mp hp with hp | hp
  ·exact oI.np p (List.mem_append_left _ hp)
  ·rcases List.mem_cons.mp hp with rfl | hp
   ·exact hSI
   ·exact oI.np p (List.mem_append_right _ hp),oI.nf⟩
 intro r
 induction r with
 | zero=>
  intro j i s H ab tb c ob hr hj I sm hit hab hij hbest
  have hin:j+1=as.length:=by omega
  have pS:=I.pin (S,seqObj "list" #[.ref ab,.int (kf i) tb] c) (List.mem_append_right _ List.mem_cons_self)
  have pI:=I.pin (It,ob) (List.mem_append_right _ (List.mem_cons_of_mem _ List.mem_cons_self))
  refine codeAny_builtin PySem.F.entry_max_loop ?_
  rw[Around.under_plainId PySem.F.plain_max_loop _]
  show wpAny _ X.A.in1 (seqItems? (.ref S) >>= _) _ _ _
  refine wpAny_bind (wpAny_seqItems pS.1 rfl ?_)
  show wpAny _ X.A.in1 (tryCatch (pyNext (.ref It)) _ >>= _) _ _ _
  refine wpAny_bind (wpAny_tryCatch (W.done _ _ _ ⟨by rw[hsz,<- hin];exact hit,islist I sm⟩ fun h' tk' hk'=>?_))
  have hk1 : ∀ b u,b≠It->s.heap.get? b=some u->h'.get? b=some u:=fun b u hb e=>hk' b u (by simpa using hb) e
  have I1 : Inv X ((S,seqObj "list" #[.ref ab,.int (kf i) tb] c) :: P0) σ H { s with heap:=h',toks:=tk' }:=(Inv.unpin (Inv.swap I)).turned (t':=tk') hk1 pI.2.1 pI.2.2.1 (.inr oI.ab) oI.nc (oI1 _).np
  have hS':=hk1 S _ hSI pS.1
  have s1:=Heap.SameBut.update h' S (Obj.mapSeq fun _=>(#[]:Array Value))
  show wpAny _ X.A.in1 (updateSeq S (fun _=>#[]) >>= _) _ _ _
  refine wpAny_bind ?_
  refine wpAny_updateSeq hS' rfl (wpAny_bind (wpAny_letGo (wpAny_pure ?_)))
  exact hR i ab _ H hab (fun j' hj'=>hbest j' (by omega)) ((Inv.unpin I1).turned (t':=tk') (fun b u hb e=>(s1.2 b hb).trans e) pS.2.1 pS.2.2.1 (.inr oS.ab) oS.nc oS.np) sm
 | succ r ih=>
  intro j i s H ab tb c ob hr hj I sm hit hab hij hbest
  have hlt:j+1<as.length:=by omega
  have pS:=I.pin (S,seqObj "list" #[.ref ab,.int (kf i) tb] c) (List.mem_append_right _ List.mem_cons_self)
  have pI:=I.pin (It,ob) (List.mem_append_right _ (List.mem_cons_of_mem _ List.mem_cons_self))
  refine codeAny_builtin PySem.F.entry_max_loop ?_
  rw[Around.under_plainId PySem.F.plain_max_loop _]
  show wpAny _ X.A.in1 (seqItems? (.ref S) >>= _) _ _ _
  refine wpAny_bind (wpAny_seqItems pS.1 rfl ?_)
  show wpAny _ X.A.in1 (tryCatch (pyNext (.ref It)) _ >>= _) _ _ _
  refine wpAny_bind (wpAny_tryCatch (W.item (j+1) _ _ _ (by rw[hsz];exact hlt) ⟨hit,islist I sm⟩ fun v h' tk' hP hst' hk'=>?_))
  obtain ⟨a1,ha1,rfl⟩ : ∃ a1,as[j+1]?=some a1/\v = .ref a1:= by
   have hP:(as.map Value.ref)[j+1]?=some v:=by simpa using hP
   rw[List.getElem?_map] at hP
   cases e:as[j+1]? with
   | none=>rw[e] at hP;cases hP
   | some z=>rw[e] at hP;cases hP;exact ⟨z,rfl,rfl⟩
  obtain ⟨oI',hoI',hoc,hod⟩:=id hst'.1
  have hk1 : ∀ b u,b≠It->s.heap.get? b=some u->h'.get? b=some u:=fun b u hb e=>hk' b u (by simpa using hb) e
  have I1 : Inv X ((S,seqObj "list" #[.ref ab,.int (kf i) tb] c) :: (It,oI') :: P0) σ H { s with heap:=h',toks:=tk' }:=Inv.swap (Inv.repin (t':=tk') (Inv.swap I) (oI1 _) hk1 hoI' (fun v z=>by rw[hod] at z; cases z))
  show wpAny _ X.A.in1 (tryCatch (holding [.ref a1] (call (.ref q) [.ref a1])) _ >>= _) _ _ _
  refine wpAny_bind (wpAny_tryCatch (wpAny_holding (wpAny_mono (turn (j+1) a1 ha1 _ _ H I1 (fun p hp=>List.mem_cons_of_mem _ (List.mem_cons_of_mem _ hp)) sm) (fun x s'' he=>?_) fun _ _ hF=>hF.elim)))
  obtain ⟨v2,H',I2,r2,rfl,sm2⟩:=he
  obtain ⟨t2,rfl⟩:=r2
  have pS2:=I2.pin (S,seqObj "list" #[.ref ab,.int (kf i) tb] c) (List.mem_append_right _ List.mem_cons_self)
  have pI2:=I2.pin (It,oI') (List.mem_append_right _ (List.mem_cons_of_mem _ List.mem_cons_self))
  have hit2:s''.heap.IsListIter It l (j+1+1):=⟨oI',pI2.1,hoc,hod⟩
  show wpAny _ X.A.in1 (tryCatch (holding [.ref a1,.int (kf (j+1)) t2] (richCompare .Gt (.int (kf (j+1)) t2) (.int (kf i) tb) >>= _)) _ >>= _) _ _ _
  refine wpAny_bind (wpAny_tryCatch (wpAny_holding (wpAny_bind (CmpOf.ints_gt (prog:=X.prog) (w:=X.w) (A:=X.A.in1) (P:=fun i v=>∃ t,v = .int (kf i) t) kf (fun i v h=>h) (j+1) i _ _ _ _ _ ⟨t2,rfl⟩ ⟨tb,rfl⟩ ?_))))
  refine wpAny_bind (wpAny_holding (wpAny_truthy_bool ?_))
  refine wpAny_bind (wpAny_letGo (wpAny_pure ?_))
  by_cases hb':kf (j+1) > kf i
  ·have s1:=Heap.SameBut.update s''.heap S (Obj.mapSeq fun _=>#[.ref a1,.int (kf (j+1)) t2])
   obtain ⟨c2,hc2⟩ : ∃ c2,(s''.heap.update S (Obj.mapSeq fun _=>#[.ref a1,.int (kf (j + 1)) t2])).get? S = some (seqObj "list" #[.ref a1,.int (kf (j + 1)) t2] c2):=⟨_,get?_update_seq pS2.1 fun _=>#[.ref a1,.int (kf (j + 1)) t2]⟩
   simp only [hb',decide_true,if_true]
   refine wpAny_bind ?_
   refine wpAny_updateSeq pS2.1 rfl (wpAny_bind (wpAny_letGo ?_))
   rw[hname]
   refine wpAny_pure ⟨plainId_quiet PySem.F.plain_max_loop _,ih (j+1) (j+1) _ H' a1 t2 c2 oI' (by omega) hlt (Inv.repin (t':=s''.toks) I2 (oS1 _) (fun b u hb e=>(s1.2 b hb).trans e) hc2 (fun v z=>by cases z)) (sm.trans sm2) ⟨oI',(s1.2 It hSI.symm).trans pI2.1,hoc,hod⟩ ha1 (Nat.le_refl _) fun j' hj'=>?_⟩
   by_cases e:j'=j+1
   ·subst e
    exact ⟨by omega,fun _=>by omega⟩
   ·have hb1:=hbest j' (by omega)
    have hb2:=hb1.1
    exact ⟨by omega,fun _=>by omega⟩
  ·simp only [hb',decide_false,Bool.false_eq_true,if_false]
   refine wpAny_bind (wpAny_letGo ?_)
   rw[hname]
   refine wpAny_pure ⟨plainId_quiet PySem.F.plain_max_loop _,ih (j+1) i _ H' ab tb c oI' (by omega) hlt I2 (sm.trans sm2) hit2 hab (by omega) fun j' hj'=>?_⟩
   by_cases e:j'=j+1
   ·subst e
    exact ⟨by omega,fun _=>by omega⟩
   ·exact hbest j' (by omega)
theorem OS {s:Shared} {Q:Value->Shared->Prop} {E:Value->Shared->Prop} (hh:X.A.handled=none) (I:Inv X P0 σ H2 s) (hsq:SqL X.K H2 l (as.map V.ref)) (hne:0<as.length)
  (turn : ∀ (i:Nat) (a:Addr),as[i]?=some a -> ∀ (pins:List (Addr × Obj)) (s:Shared) (H:Hp),Inv X pins σ H s->(∀ p ∈ P0,p ∈ pins)->Ak H2 H ->
   wpAny (model X.prog X.w) X.A.in1 (call (.ref q) [.ref a]) (EP X pins σ fun v H'=>v = .int (kf i)/\Ak H H') (fun _ _=>False) s)
  (hQ : ∀ i a s' H',as[i]?=some a->PR kf as.length i->Inv X P0 σ H' s'->Ak H2 H'->Q (.ref a) s') :
  wpAny (model X.prog X.w) X.A (call (.builtin "max") [.ref l] [(Str.ofString "key",.ref q)]) Q E s:= by
 have hname : (toString "max" ++ toString ".loop" : String) = "max.loop":=by decide
 have islist : ∀ {pins:List (Addr × Obj)} {s:Shared} {H:Hp},Inv X pins σ H s->Ak H2 H->s.heap.IsList l (as.map Value.ref).toArray:=fun {pins s H} I sm=>by
  obtain ⟨its,r',pl,_⟩:=I.list (sm.seq hsq)
  rw[Ho r'] at pl
  exact pl.isList
 have hls:=islist I (Ak.refl H2)
 obtain ⟨ol,hol,_⟩:=id hls
 have hll:l<s.heap.objs.size:=Heap.lt_size hol
 refine kmk_tree PySem.F.kind_max PySem.F.plain_max PySem.F.entry_max (kmk_max_key _ _) ?_
 show wpAny _ X.A.in1 (Builtin.Builtins.bindParams "max" ["key","default"] 0 ⟨[],[(Str.ofString "key",.ref q)]⟩ >>= _) _ _ s
 refine wpAny_bind (wpAny_of_eq (show Builtin.Builtins.bindParams "max" ["key","default"] 0 ⟨[],[(Str.ofString "key",.ref q)]⟩ = pure [some (.ref q),none] from rfl) ?_)
 refine wpAny_bind (wpAny_pure ?_)
 refine wpAny_bind (wpAny_pyIter_list hls ?_)
 refine wpAny_bind (wpAny_newList ?_ (Nat.zero_le _))
 rw[hname]
 generalize hio : ({ cls:=.type "list_iterator",data:=.fields #[.ref l,.int 0 0] } : Obj) = io
 have hS:(s.heap.push io).objs.size=s.heap.objs.size+1:=size_push' ..
 have hlI:l≠s.heap.objs.size:=Nat.ne_of_lt hll
 have hSI:(s.heap.push io).objs.size≠s.heap.objs.size:=by rw[hS];exact Nat.ne_of_gt (Nat.lt_succ_self _)
 have oI:=I.ownR (Nat.le_refl s.heap.objs.size)
 have oS:NO X P0 (s.heap.push io).objs.size:=I.ownR (by rw[hS];exact Nat.le_succ _)
 have gI : ((s.heap.push io).push (seqObj "list" #[] 0)).get? s.heap.objs.size = some io:=Heap.get?_push_of_some _ (Heap.get?_push_size _ (by rw[<- hio]; rfl))
 have gS : ((s.heap.push io).push (seqObj "list" #[] 0)).get? (s.heap.push io).objs.size = some (seqObj "list" #[] 0):=Heap.get?_push_size _ rfl
 have I0 : Inv X P0 σ H2 { s with heap:=(s.heap.push io).push (seqObj "list" #[] 0) }:=I.kept (t':=s.toks) fun b u e=>Heap.get?_push_of_some _ (Heap.get?_push_of_some _ e)
 have iod : ∀ v,io.data ≠ .cell v:=fun v z=>by rw[<- hio] at z;cases z
 have I1 : Inv X ((s.heap.objs.size,io) :: P0) σ H2 { s with heap:=(s.heap.push io).push (seqObj "list" #[] 0) }:=I0.pin1 gI (I.hok.fresh (Nat.le_refl _)) oI.nl oI.nf iod
 have I2 : Inv X (((s.heap.push io).objs.size,seqObj "list" #[] 0) :: (s.heap.objs.size,io) :: P0) σ H2 { s with heap:=(s.heap.push io).push (seqObj "list" #[] 0) }:=I1.pin1 gS (I.hok.fresh (by rw[hS]; exact Nat.le_succ _)) oS.nl oS.nf fun v z=>by cases z
 have oI1 : ∀ ob:Obj,NO X (((s.heap.push io).objs.size,ob)::P0) s.heap.objs.size:=fun ob=>⟨oI.ab,oI.nl,oI.nc,fun p hp=>by
  rcases List.mem_append.mp hp with hp | hp
  ·exact oI.np p (List.mem_append_left _ hp)
  ·rcases List.mem_cons.mp hp with rfl | hp
   ·exact hSI
   ·exact oI.np p (List.mem_append_right _ hp),oI.nf⟩
 have oS1 : ∀ ob:Obj,NO X ((s.heap.objs.size,ob)::P0) (s.heap.push io).objs.size:=fun ob=>⟨oS.ab,oS.nl,oS.nc,fun p hp=>by
  rcases List.mem_append.mp hp with hp | hp
  ·exact oS.np p (List.mem_append_left _ hp)
  ·rcases List.mem_cons.mp hp with rfl | hp
   ·exact fun z=>hSI z.symm
   ·exact oS.np p (List.mem_append_right _ hp),oS.nf⟩
 generalize hSa:(s.heap.push io).objs.size=S at hSI oS gS I2 oI1 oS1
 generalize hIa:s.heap.objs.size=It at hlI hSI oI gI I1 I2 oI1 oS1
 refine wpAny_pure ⟨plainId_quiet PySem.F.plain_max_loop _,?_⟩
 have W:=Walks.list (prog:=X.prog) (w:=X.w) (A:=X.A.in1) hh It l hlI (as.map Value.ref).toArray
 have hsz:(as.map Value.ref).toArray.size=as.length:=by rw[List.size_toArray,List.length_map]
 refine codeAny_builtin PySem.F.entry_max_loop ?_
 rw[Around.under_plainId PySem.F.plain_max_loop _]
 show wpAny _ X.A.in1 (seqItems? (.ref S) >>= _) _ _ _
 refine wpAny_bind (wpAny_seqItems gS rfl ?_)
 show wpAny _ X.A.in1 (tryCatch (pyNext (.ref It)) _ >>= _) _ _ _
 refine wpAny_bind (wpAny_tryCatch (W.item 0 _ _ _ (by rw[hsz];exact hne) ⟨⟨_,gI,by rw[<- hio],by rw[<- hio];rfl⟩,islist I2 (Ak.refl H2)⟩ fun v h' tk' hP hst' hk'=>?_))
 obtain ⟨a1,ha1,rfl⟩ : ∃ a1,as[0]?=some a1/\v = .ref a1:= by
  have hP:(as.map Value.ref)[0]?=some v:=by simpa using hP
  rw[List.getElem?_map] at hP
  cases e:as[0]? with
  | none=>rw[e] at hP;cases hP
  | some z=>rw[e] at hP;cases hP;exact ⟨z,rfl,rfl⟩
 obtain ⟨oI',hoI',hoc,hod⟩:=id hst'.1
 have I3 : Inv X ((S,seqObj "list" #[] 0) :: (It,oI') :: P0) σ H2 { s with heap:=h',toks:=tk' }:=Inv.swap (Inv.repin (s:={ s with heap:=(s.heap.push io).push (seqObj "list" #[] 0) }) (t':=tk') (Inv.swap I2) (oI1 _) (fun b u hb e=>hk' b u (by simpa using hb) e) hoI' (fun v z=>by rw[hod] at z; cases z))
 show wpAny _ X.A.in1 (tryCatch (holding [.ref a1] (call (.ref q) [.ref a1])) _ >>= _) _ _ _
 refine wpAny_bind (wpAny_tryCatch (wpAny_holding (wpAny_mono (turn 0 a1 ha1 _ _ H2 I3 (fun p hp=>List.mem_cons_of_mem _ (List.mem_cons_of_mem _ hp)) (Ak.refl H2)) (fun x s'' he=>?_) fun _ _ hF=>hF.elim)))
 obtain ⟨v2,H',I4,r2,rfl,sm2⟩:=he
 obtain ⟨t2,rfl⟩:=r2
 have pS2:=I4.pin (S,seqObj "list" #[] 0) (List.mem_append_right _ List.mem_cons_self)
 have pI2:=I4.pin (It,oI') (List.mem_append_right _ (List.mem_cons_of_mem _ List.mem_cons_self))
 have s1:=Heap.SameBut.update s''.heap S (Obj.mapSeq fun _=>#[.ref a1,.int (kf 0) t2])
 obtain ⟨c2,hc2⟩ : ∃ c2,(s''.heap.update S (Obj.mapSeq fun _=>#[.ref a1,.int (kf 0) t2])).get? S = some (seqObj "list" #[.ref a1,.int (kf 0) t2] c2):=⟨_,get?_update_seq pS2.1 fun _=>#[.ref a1,.int (kf 0) t2]⟩
 show wpAny _ X.A.in1 (updateSeq S (fun _=>#[.ref a1,.int (kf 0) t2]) >>= _) _ _ _
 refine wpAny_bind ?_
 refine wpAny_updateSeq pS2.1 rfl ?_
 rw[hname]
 refine wpAny_pure ⟨plainId_quiet PySem.F.plain_max_loop _,Ln hh hsq hlI hSI oI oS turn (fun i a s' H'' h1 h2 h3 h4=>hQ i a s' H'' h1 h2 h3 h4) _ 0 0 _ H' a1 t2 c2 oI' rfl hne (Inv.repin (t':=s''.toks) I4 (oS1 _) (fun b u hb e=>(s1.2 b hb).trans e) hc2 (fun v z=>by cases z)) sm2 ⟨oI',(s1.2 It hSI.symm).trans pI2.1,hoc,hod⟩ ha1 (Nat.le_refl _) fun j' hj'=>?_⟩
 have e:j'=0:=by omega
 subst e
 exact ⟨by omega,fun h=>absurd h (Nat.lt_irrefl _)⟩
end
section
variable {X:Cx} {lps:Arguments} {lb:Expr} {lsc:Scope} {lpos:Pos} {cl:List (Str × Addr)} {c P:Addr} {x:Str} {fr:List Str} {ix:List Nat} {te:TE}
def RF (K:PySem.W.Frag) (P:Addr) (lpos:Pos) (qual:Str) (ix:List Nat) (te:TE) (t:TA):TE:=fun σ H Q=>t σ H fun vs H1=>∃ (l:Addr) (as:List Addr) (kf:Nat->Int),vs=[.ref l]/\SqL K (Bp H1 P) l (as.map V.ref)/\0<as.length/\AM H1 P lpos qual /\
 (∀ (i:Nat) (a:Addr),as[i]?=some a -> ∀ H',Ak (Bp H1 P) H'->te (P3 σ ix (.ref a)) H' fun v H''=>v = .int (kf i)/\Ak H' H'') /\
 ∀ (i:Nat) (a:Addr) (H':Hp),as[i]?=some a->PR kf as.length i->Ak (Bp H1 P) H'->AM H' P lpos qual->Q (.ref a) H'
theorem Pu {e : Expr} {t : TA} {p pos kpos : Pos} {k : Nat} (hr : Cw (k + 1) X.A) (hg : Gl X "max") (hm : X.mg "max" = none) (hdef : defaultsOf lps X.env = ([],[])) (hcl : closureFor lsc X.env = pure cl) (hcode : X.env.code = .ref c) (hC : PySem.W.CodeHd X.base c P) (hbm : NU X.mg X.base)
  (L : QS X lps lb lsc cl x fr ix) (hb : ∀ (f c' : Addr) (s : Shared) (H : Hp),PE (OV X (x :: fr) (X.env.qual ++ "<lambda>") lsc f c' cl X.A.in1 s H) lb te) (ha : PA X [e] t) (he : starEach [e] X.env = [(false,eval e X.env)]:=by rfl) :
  PE X (.Call (.Name "max" p) [e] [⟨some "key",.Lambda lps lb lsc lpos,kpos⟩] pos) (RF X.K P lpos (X.env.qual ++ "<lambda>") ix te t):= by
 intro pins s σ H Q I hh
 refine wpAny_Call_Name_kw (Gq I hg hm PyProof.Rows.Boot.«max» ?_ (by decide) (by decide))
 refine PyProof.Rows.callWith_kw (thn (ha pos pins s σ H _ I hh) fun us s1 ⟨vs,H1,I1,r,q⟩=>?_) (by rw[he];rfl) (by rw[he];rfl)
 obtain ⟨l,as,kf,rfl,hsq,hne,hT,ht,hQ⟩:=q
 obtain ⟨u,rfl,ru⟩:=DE r
 cases ru
 show wpAny _ _ (evalAll ((do let v <- eval (.Lambda lps lb lsc lpos) X.env;standAt pos;pure v)::(backToKw pos (keywordEach [] X.env)).map (·.2))) _ _ s1
 refine wpAny_evalAll_cons (wpAny_bind (Qm I1 hdef hcl hcode hC hbm hT fun f c' ctv H' s' I' hc' hT' sm=>wpAny_bind (wpAny_standAt (wpAny_pure ?_))))
 refine wpAny_evalAll_nil ?_
 have hsq':SqL X.K H' l (as.map V.ref):=sm.seq hsq
 refine OS (kf:=kf) hr.hd I' hsq' hne (fun i a hi pins2 s2 H2 I2 hp sm2=>?_) fun i a s2 H2 hi htop I2 sm2=>?_
 ·exact OM L I2 (List.mem_append_right _ (hp _ List.mem_cons_self)) (sm2 _ _ hc') I2.ok.frames hr.hd (by have:=hr.in1.depth;exact this) (hb f c' s2 H2) (v:=.ref a) rfl (ht i a hi H2 (sm.trans sm2))
 ·exact ⟨.ref a,H2,Inv.unpin I2,rfl,hQ i a H2 hi htop (sm.trans sm2) (hT'.same sm2)⟩
end
end L2
namespace L2
open PySem PySem.Spec PyProof.Rows
section
variable {P:Program} {w:World} {K:PySem.W.Frag} {mg:Str->Option Value} {base:Heap}
theorem Fun.okC {x qual:Str} {st:Stmt} {f c:Addr} {fd:FuncData} {N ps:List Str} {k:Nat} {sp:Sp} (F:Fun K x qual st f fd) (hc:fd.code = .ref c) (S:Ap N ps (Ae st)) (len : ∀ vs H Q E,sp vs H Q E->vs.length=ps.length)
  (hbody : ∀ (cdv:Value),cdv = .ref c -> ∀ (A:Around) (outer:List Env) (s:Shared) (H:Hp) (vs:List V) (Q:VK) (E:XK),Cw k (A.deeper (envOfC qual (Ae st) s.heap.objs.size f cdv))->sp vs H Q E ->
   ∃ t,PSs (M4 CX0 P w K mg base N qual (Ae st) f cdv A outer s H E).nox (Al st) t/\t { nx:=fun _ H'=>Q .non H',rt:=Q } (FH N vs) H):Bv P w K mg base CX0 (k+1) f fd ps sp:= by
 obtain ⟨oc,od,kV,doc,pm,an,cdv,ct,osl,rfl,lk,hcd⟩:=F.ex
 refine Nk lk hcd S len fun A outer s H vs Q E hr hsp=>?_
 obtain ⟨t,h,q⟩:=hbody cdv hc A outer s H vs Q E hr hsp
 exact ⟨t,h.nox,q⟩
end
theorem Mu {P:Program} {w:World} {K:PySem.W.Frag} {mg mb:Str->Option Value} {CX:CXT} {k:Nat} {fa a:Addr} {fd:FuncData} {x:Str} {sp:Sp} {s₁:Shared} {vs:List Value} {ns:List Int} {tabs:List (Addr × Addr)}
  (KX : K.In s₁.heap) (hns : s₁.heap.Ns mainGlobals mg) (hb : s₁.heap.Ns builtinsNs mb) (hbb : ∀ x : Str,x ≠ "__name__" -> mb x = bootBuiltins x) (hlim : s₁.heap.NoLimit) (hg : s₁.gens = #[]) (hbm : NU mg s₁.heap)
  (ha : s₁.heap.get? a = some { cls:=.type "list",data:=.seq vs.toArray }) (hi : IntsAre vs ns) (hl : ns.length <= sizeLine) (hr : Cw k callerA)
  (hT : ∀ q ∈ tabs,PySem.W.CodeHd s₁.heap q.1 q.2/\s₁.heap.get? q.2=some (PySem.W.tabObj #[])/\K.lookup q.2=none)
  (F : ∀ base:Heap,K.In base->base.Ns mainGlobals mg->NU mg base->Bv P w K mg base CX k fa fd [x] sp) (hbind : ∀ (s:Shared) (u:Value),BindsTo s fd ⟨[u],[]⟩ [(x,u)])
  (hsp : ∀ H:Hp,(∀ q ∈ tabs,H q.2=some (.tbl #[]))->SqL K H a (ns.map V.int)->sp [.ref a] H (fun v _=>v = .bl true) fun _ _ _=>False)
  (hCX : ∀ H e s',CX [] H s₁ (fun _ _ _=>False) e s'->False) :
  codeAny (model P w) callerA (.call (.ref fa) ⟨[.ref a],[]⟩) (fun r s'=>r = .ok (.ret (.bool true))/\OldK s₁.heap s'.heap/\s'.os=s₁.os/\AllBare s'.gens) s₁:= by
 have rv:=Dg hi
 have lenV:=hi.length
 have core : ∀ H:Hp,(∀ b,H b=none\/(∃ o xs,H b=some (.frz o (.lst xs))/\b=a)\/(H b=some (.tbl #[])/\b ∈ tabs.map (·.2)))->(∀ q ∈ tabs,H q.2=some (.tbl #[]))->SqL K H a (ns.map V.int)->HOk P w H s₁.heap->(∀ b,H b≠none->K.lookup b=none) ->
   codeAny (model P w) callerA (.call (.ref fa) ⟨[.ref a],[]⟩) (fun r s'=>r = .ok (.ret (.bool true))/\OldK s₁.heap s'.heap/\s'.os=s₁.os/\AllBare s'.gens) s₁:= by
  intro H hO hTH hS hok hK
  have base_of : ∀ {b:Addr} {o:Obj},s₁.heap.get? b=some o->H b=none->(M5 s₁.heap H).get? b=some o:=fun e n=>M9 e n
  have noA : ∀ {b:Addr} {o:Obj},s₁.heap.get? b=some o->(∀ ys n,o.data ≠ .seq ys n)->(∀ ys,o.data ≠ .fields ys)->H b=none:=fun {b o} e d1 d2=>by
   rcases hO b with z | ⟨ob,xs,z,rfl⟩ | ⟨z,_⟩
   ·exact z
   ·rw[ha] at e;cases e
    exact absurd rfl (d1 _ _)
   ·have:=hok b _ z
    have this:s₁.heap.get? b=some { cls:=.none,data:=.fields #[] }:=this
    rw[this] at e;cases e
    exact absurd rfl (d2 _)
  have nsK : ∀ {b:Addr} {m:Str->Option Value},s₁.heap.Ns b m->(M5 s₁.heap H).Ns b m:=fun {b m} ⟨o,es,ep,e,d,r⟩=>⟨o,es,ep,base_of e (noA e (fun _ _ z=>by rw[d] at z;cases z) (fun _ z=>by rw[d] at z;cases z)),d,r⟩
  have hKb:K.In (M5 s₁.heap H):=fun b o e=>base_of (KX b o e) (by
   cases q:H b with
   | none=>rfl
   | some u=>rw[hK b (by rw[q];simp)] at e;cases e)
  have hM:Mod K mg (M5 s₁.heap H):=⟨hKb,nsK hns,⟨mb,nsK hb,hbb⟩,let ⟨mc,h1,h2⟩:=hlim;⟨mc,nsK h1,h2⟩⟩
  have hbm':NU mg (M5 s₁.heap H):= by
   obtain ⟨bm,ob,b1,b2,b3,b4,b5,b6⟩:=hbm
   exact ⟨bm,ob,b1,b2,base_of b3 (noA b3 (fun _ _ z=>by rw[b6] at z;cases z) (fun _ z=>by rw[b6] at z;cases z)),b4,b5,b6⟩
  have e0:PJ P w K mg (M5 s₁.heap H) callerA [] s₁ H:=⟨rfl,hM,fun b o e=>OT e,Nat.le_of_eq (MH _ _),trivial,fun b hb=>absurd (show b ∈ ([]:List Addr) from hb) (by simp),hok,.of_eq hg⟩
  refine codeAny_mono ((F _ hKb (nsK hns) hbm').run callerA [] s₁ H ⟨[.ref a],[]⟩ [.ref a] [.ref a] _ _ hr e0 (hbind s₁ (.ref a)) (.cons rfl .nil) (hsp H hTH hS)) fun r s' h=>?_
  cases r with
  | error e=>exact (hCX H e s' h).elim
  | ok fl=>
   cases fl with
   | next=>exact False.elim h
   | brk=>exact False.elim h
   | cont=>exact False.elim h
   | ret u=>
    obtain ⟨v,H',os,bare,un,hok',r',q⟩:=h
    have q':v = .bl true:=q
    subst q'
    obtain rfl:u=Value.bool true:=r'
    refine ⟨rfl,⟨fun b o e=>?_,fun b o e=>un.there b o e (by simp)⟩,os,bare⟩
    rcases hO b with z | ⟨ob,xs,z,_⟩ | ⟨z,hm⟩
    ·exact .inl (un.keep b o e z (by intro z;exact absurd (show b ∈ ([]:List Addr) from z) (by simp)) (by simp))
    ·have z2:=un.frzs b ob _ z
     obtain ⟨e1,_⟩:=hok b _ z
     obtain ⟨e2,_⟩:=hok' b _ z2
     rw[e] at e1;cases e1
     exact .inl e2
    ·obtain ⟨p,hp,rfl⟩:=List.mem_map.mp hm
     obtain ⟨more,z2⟩:=un.tbls _ _ z
     obtain ⟨c1,c2,_⟩:=hT p hp
     have e2:s'.heap.get? p.2=some { cls:=.none,data:=.fields (#[]++more) }:=hok' _ _ z2
     rw[c2] at e;cases e
     exact .inr (.inl ⟨(c1.tab c2).isCodeTable,rfl,#[],more,rfl,e2⟩)
 have hTa : ∀ q ∈ tabs,q.2≠a:=fun q hq e=>by
  have:=(hT q hq).2.1
  rw[e,ha] at this;cases this
 have inT : ∀ b,b ∈ tabs.map (·.2)->b≠a:=fun b hb=>by
  obtain ⟨q,hq,rfl⟩:=List.mem_map.mp hb
  exact hTa q hq
 cases hk:K.lookup a with
 | some o=>
  have e:=KX a o hk
  rw[ha] at e
  cases e
  refine core (fun b=>if b ∈ tabs.map (·.2) then some (.tbl #[]) else none) (fun b=>?_) (fun q hq=>if_pos (List.mem_map.mpr ⟨q,hq,rfl⟩)) (.inr ⟨_,vs.toArray,_,hk,rfl,rfl,rfl,by rw[List.size_toArray,lenV];exact hl,by simpa using rv⟩) (fun b u z=>?_) fun b z=>?_
  ·by_cases hb':b ∈ tabs.map (·.2)
   ·exact .inr (.inr ⟨if_pos hb',hb'⟩)
   ·exact .inl (if_neg hb')
  ·by_cases hb':b ∈ tabs.map (·.2)
   ·have z':=(if_pos hb').symm.trans z
    cases z'
    obtain ⟨q,hq,rfl⟩:=List.mem_map.mp hb'
    exact (hT q hq).2.1
   ·have z':=(if_neg hb').symm.trans z
    cases z'
  ·by_cases hb':b ∈ tabs.map (·.2)
   ·obtain ⟨q,hq,rfl⟩:=List.mem_map.mp hb'
    exact (hT q hq).2.2
   ·exact absurd (if_neg hb') z
 | none=>
  refine core (fun b=>if b ∈ tabs.map (·.2) then some (.tbl #[]) else if b = a then some (.frz { cls:=.type "list",data:=.seq vs.toArray } (.lst (ns.map V.int))) else none) (fun b=>?_) (fun q hq=>if_pos (List.mem_map.mpr ⟨q,hq,rfl⟩)) (.inl (.inr ⟨{ cls:=.type "list",data:=.seq vs.toArray },?_⟩)) (fun b u z=>?_) fun b z=>?_
  ·by_cases hb':b ∈ tabs.map (·.2)
   ·exact .inr (.inr ⟨if_pos hb',hb'⟩)
   ·by_cases hba:b=a
    ·exact .inr (.inl ⟨_,_,by (try dsimp only);rw[if_neg hb',if_pos hba],hba⟩)
    ·exact .inl (by (try dsimp only);rw[if_neg hb',if_neg hba])
  ·dsimp only
   rw[if_neg (fun hm=>inT a hm rfl),if_pos rfl]
  ·try dsimp only at z
   by_cases hb':b ∈ tabs.map (·.2)
   ·rw[if_pos hb'] at z
    cases z
    obtain ⟨q,hq,rfl⟩:=List.mem_map.mp hb'
    exact (hT q hq).2.1
   ·rw[if_neg hb'] at z
    by_cases hba:b=a
    ·rw[if_pos hba] at z
     cases z
     subst hba
     exact ⟨ha,by rw[List.length_map];exact hl,vs,_,rv,ha⟩
    ·rw[if_neg hba] at z;cases z
  ·try dsimp only at z
   by_cases hb':b ∈ tabs.map (·.2)
   ·obtain ⟨q,hq,rfl⟩:=List.mem_map.mp hb'
    exact (hT q hq).2.2
   ·rw[if_neg hb'] at z
    by_cases hba:b=a
    ·rw[hba];exact hk
    ·exact absurd (if_neg hba) z
theorem NL {l:PySem.W.OpenLaw} {n k:Nat} {q:Program} {loose:List Str} {XP:(Str->Option Value)->Heap->Prop} {YP:World->Heap->Prop} {d:DefRec} {K:Params->PySem.W.Frag} {CX:World->CXT} {sp:World->List (Addr × Addr)->Sp} {x:Str} {ts:List Addr}
  (hn:l.most=some n) (hn2:n<=sizeLine) (hdf:d.params.defaults=[]) (hr:Cw k callerA)
  (hY : ∀ (w:World) (h:Heap),YP w h->(K w.params).In h /\ ∀ P ∈ ts,h.get? P=some (PySem.W.tabObj #[]))
  (F : ∀ (w:World) (mg:Str->Option Value) (fa:Addr) (h:Heap),(K w.params).In h->h.Ns mainGlobals mg->mg d.name=some (.ref fa) ->
   ∃ (fd:FuncData) (tabs:List (Addr × Addr)),(∀ q ∈ tabs,PySem.W.codeHdIn (K w.params) q.1 q.2=true/\q.2 ∈ ts/\(K w.params).lookup q.2=none)/\(∀ (s:Shared) (u:Value),BindsTo s fd ⟨[u],[]⟩ [(x,u)]) /\
    ∀ base:Heap,(K w.params).In base->base.Ns mainGlobals mg->NU mg base->Bv l.prog w (K w.params) mg base (CX w) k fa fd [x] (sp w tabs))
  (hsp : ∀ (w:World) (tabs:List (Addr × Addr)) (H:Hp) (a:Addr) (ns:List Int),ns.length<=n->(∀ q ∈ tabs,H q.2=some (.tbl #[]))->SqL (K w.params) H a (ns.map V.int)->sp w tabs [.ref a] H (fun v _=>v = .bl true) fun _ _ _=>False)
  (hCX : ∀ (w:World) (H:Hp) (s:Shared) (e:Value) (s':Shared),CX w [] H s (fun _ _ _=>False) e s'->False) :
  PySem.W.WalkO q loose XP YP l.row.toRowW d [] (fun f vs=>PySem.call f vs):= by
 refine Att.attach_call hn hdf fun w s₀ s₁ mg mb fa o pm cd doc a vs ns G Y ho hd hcd hmg hobj hints hlen hg=>?_
 obtain ⟨KX,hts⟩:=hY w _ Y
 obtain ⟨fd,tabs,hT,hb,hF⟩:=F w mg fa _ KX G.T.g hmg
 obtain ⟨bm,ob,b1,b2,b3,b4,b5,b6⟩:=G.T.bmain
 exact Mu KX G.T.g G.T.b G.T.builtins G.T.nolimit hg ⟨bm,ob,b1,b2,b3,b4,b5,b6⟩ hobj hints (Nat.le_trans hlen hn2) hr (fun q hq=>⟨PySem.W.codeHd_of_K KX (hT q hq).1,hts _ (hT q hq).2.1,(hT q hq).2.2⟩) hF hb (fun H hO hS=>hsp w tabs H a ns hlen hO hS) fun H e s'=>hCX w H s₁ e s'
end L2
namespace L2
open PySem PySem.Spec PyProof.Rows
end L2
namespace L2
open PySem PySem.Spec PyProof.Rows
end L2
namespace PyProof.Rows
open PySem
end PyProof.Rows
namespace PyProof.Rows
open PySem
end PyProof.Rows
namespace L2
open PySem PySem.Spec PyProof.Rows
end L2
namespace L2
open PySem PySem.Spec PyProof.Rows
end L2
namespace L2
open PySem PySem.Spec PyProof.Rows
section
variable {X:Cx} {K:PySem.W.Frag}
theorem FP : ∀ {vs:List V} {its:List Value},vs.length=its.length->(∀ (j:Nat) v,vs[j]?=some v -> ∃ u,its[j]?=some u/\Be v u)->Bf vs its
 | [],[],_,_=>.nil
 | [],_::_,h,_=>by simp at h
 | _::_,[],h,_=>by simp at h
 | v::vs,u::its,h,g=>by
  obtain ⟨u',e,r⟩:=g 0 v rfl
  cases e
  exact .cons r (FP (by simpa using h) fun j v hv=>g (j+1) v (by simpa using hv))
end
end L2
namespace L2
open PySem PySem.Spec PyProof.Rows
end L2
namespace L2
open PySem PySem.Spec PyProof.Rows
end L2
namespace L2
open PySem PySem.Spec PyProof.Rows
def FrL (A:List Addr) (H H':Hp):Prop:=∀ x u,H x=some u->x ∉ A->H' x=some u
theorem FrL.of {A:List Addr} {H H':Hp} (s:Ak H H'):FrL A H H':=fun x u e _=>s x u e
theorem FrL.trans {A:List Addr} {H H1 H2:Hp} (a:FrL A H H1) (b:FrL A H1 H2):FrL A H H2:=fun x u e n=>b x u (a x u e n) n
theorem FrL.put {A:List Addr} {H H':Hp} {d:Addr} {o:HO} (a:FrL A H H') (h:d ∈ A):FrL A H (upd H' d o):=fun x u e n=>by
 rw[Af (fun z=>n (by rw[z];exact h))];exact a x u e n
def Ld (o:HO):Prop:=(∃ xs,o = .lst xs) \/ ∃ kvs,o = .dK kvs
def LdA (H:Hp) (A:List Addr):Prop:=∀ a ∈ A,∃ o,H a=some o/\Ld o
theorem FrL.ins {A:List Addr} {H H':Hp} (f:FrL A H H') (hA:LdA H A) {x:Addr} {o:HO} (e:H x=some o) (n : ¬ Ld o):H' x=some o:=
 f x o e fun z=>by
  obtain ⟨o',e',l⟩:=hA x z
  rw[e] at e';cases e'
  exact n l
theorem AM.fr {A:List Addr} {H H':Hp} {P:Addr} {pos:Pos} {q:Str} (h:AM H P pos q) (f:FrL A H H') (hA:LdA H A):AM H' P pos q:= by
 obtain ⟨ps,h1,h2,h3⟩:=h
 refine ⟨ps,f.ins hA h1 (fun z=>by rcases z with ⟨_,z⟩ | ⟨_,z⟩ <;> cases z),h2,?_⟩
 rcases h3 with h3 | ⟨c,h3,h4⟩
 ·exact .inl h3
 ·exact .inr ⟨c,h3,f.ins hA h4 (fun z=>by rcases z with ⟨_,z⟩ | ⟨_,z⟩ <;> cases z)⟩
end L2
namespace L2
open PySem PySem.Spec PyProof.Rows
end L2
namespace L2
open PySem PySem.Spec PyProof.Rows
end L2
namespace L2
open PySem PySem.Spec PyProof.Rows
end L2
namespace L2
open PySem PySem.Spec PyProof.Rows
end L2
namespace L2
open PySem PySem.Spec PyProof.Rows
end L2
namespace L2
open PySem PySem.Spec PyProof.Rows
theorem Ak.frL {Hz H H':Hp} {A:List Addr} (s:Ak Hz H) (f:FrL A H H') (h : ∀ a ∈ A,Hz a=none):Ak Hz H':=fun b u e=>f b u (s b u e) fun z=>by rw[h b z] at e;cases e
end L2
namespace PySem
def Ris (xs:Array Nat):Prop:=∀ i j,i<j->j<xs.size->xs.getD i 0<xs.getD j 0
theorem PN:Ris #[]:=fun i j _ h=>by simp at h
theorem Mw (n:Nat):Ris (Array.range n):=fun i j h hj=>by
 rw[Array.size_range] at hj
 have e : ∀ k,k<n->(Array.range n).getD k 0=k:=fun k hk=>by simp [Array.getD,hk]
 rw[e i (by omega),e j hj];exact h
theorem Hq {xs:Array Nat} {j:Nat} (h:Ris xs) : ∀ (fuel lo hi:Nat),hi-lo<=fuel->lo<=hi->hi<=xs.size->(∀ k,k<lo->xs.getD k 0<j)->(∀ k,hi<=k->k<xs.size->j<=xs.getD k 0) ->
  let p:=SetTable.below.go xs j fuel lo hi
  p<=xs.size/\(∀ k,k<p->xs.getD k 0<j) /\ ∀ k,p<=k->k<xs.size->j<=xs.getD k 0
 | 0,lo,hi,hf,h1,h2,h3,h4=>by
  have e:lo=hi:=by omega
  subst e
  exact ⟨h2,h3,h4⟩
 | fuel+1,lo,hi,hf,h1,h2,h3,h4=>by
  unfold SetTable.below.go
  by_cases hlt:lo<hi
  ·rw[if_pos hlt]
   dsimp only
   have hm:(lo+hi) / 2<xs.size:=by omega
   have eg:xs.getD ((lo+hi) / 2) j=xs.getD ((lo+hi) / 2) 0:=by simp [Array.getD,hm]
   rw[eg]
   by_cases hc:xs.getD ((lo+hi) / 2) 0<j
   ·rw[if_pos hc]
    refine Hq h fuel ((lo+hi) / 2+1) hi (by omega) (by omega) h2 (fun k hk=>?_) h4
    rcases Nat.lt_or_eq_of_le (Nat.le_of_lt_succ hk) with e | e
    ·exact Nat.lt_trans (h k _ e hm) hc
    ·rw[e];exact hc
   ·rw[if_neg hc]
    refine Hq h fuel lo ((lo+hi) / 2) (by omega) (by omega) (by omega) h3 (fun k hk hk2=>?_)
    rcases Nat.lt_or_eq_of_le hk with e | e
    ·have:=h _ k e hk2;omega
    ·rw[<- e];omega
  ·rw[if_neg hlt]
   have e:lo=hi:=by omega
   subst e
   exact ⟨h2,h3,h4⟩
theorem Ds {xs:Array Nat} (h:Ris xs) (j:Nat):SetTable.below xs j<=xs.size/\(∀ k,k<SetTable.below xs j->xs.getD k 0<j) /\ ∀ k,SetTable.below xs j<=k->k<xs.size->j<=xs.getD k 0:=
 Hq h xs.size 0 xs.size (by omega) (Nat.zero_le _) (Nat.le_refl _) (fun k hk=>by omega) (fun k h1 h2=>by omega)
theorem Ks {xs:Array Nat} (h:Ris xs) {i:Nat} (hi:i<xs.size):SetTable.below xs (xs.getD i 0+1)=i+1:= by
 obtain ⟨h1,h2,h3⟩:=Ds h (xs.getD i 0+1)
 generalize SetTable.below xs (xs.getD i 0+1)=p at h1 h2 h3
 rcases Nat.lt_trichotomy p (i+1) with e | e | e
 ·have:=h3 i (by omega) hi;omega
 ·exact e
 ·have:=h2 (i+1) e
  have h4:=h i (i+1) (Nat.lt_succ_self _) (by omega)
  omega
theorem KU {xs:Array Nat} (h:Ris xs):SetTable.below xs 0=0:= by
 obtain ⟨h1,h2,h3⟩:=Ds h 0
 generalize SetTable.below xs 0=p at h1 h2 h3
 by_cases e:p=0
 ·exact e
 ·have:=h2 0 (by omega);omega
end PySem
namespace PySem
theorem Km {l:List Nat} (h:l.Pairwise (· < ·)):Ris l.toArray:=fun i j hij hj=>by
 rw[List.size_toArray] at hj
 have e : ∀ k (hk:k<l.length),l.toArray.getD k 0=l[k]:=fun k hk=>by simp [Array.getD,hk]
 rw[e i (by omega),e j hj]
 exact List.pairwise_iff_getElem.mp h i j (by omega) hj hij
theorem NZ {xs:Array Nat} (h:Ris xs):xs.toList.Pairwise (· < ·):= by
 rw[List.pairwise_iff_getElem]
 intro i j hi hj hij
 rw[Array.length_toList] at hi hj
 have:=h i j hij hj
 simpa [Array.getD,hi,hj] using this
theorem KH {xs:Array Nat} (h:Ris xs) {j:Nat} (hj : ∀ k,k<xs.size->xs.getD k 0≠j):Ris (SetTable.insertAt xs (SetTable.below xs j) j):= by
 obtain ⟨h1,h2,h3⟩:=Ds h j
 generalize SetTable.below xs j=p at h1 h2 h3
 have hl:=NZ h
 have e:SetTable.insertAt xs p j=(xs.toList.take p++j::xs.toList.drop p).toArray:= by
  apply Array.toList_inj.mp
  rw[SetTable.toList_insertAt]
 rw[e]
 refine Km ?_
 have g : ∀ k (hk:k<xs.size),xs.toList[k]'(by rw[Array.length_toList];exact hk)=xs.getD k 0:=fun k hk=>by simp [Array.getD,hk]
 rw[List.pairwise_append]
 refine ⟨hl.sublist (List.take_sublist _ _),?_,?_⟩
 ·rw[List.pairwise_cons]
  refine ⟨fun b hb=>?_,hl.sublist (List.drop_sublist _ _)⟩
  obtain ⟨k,hk,rfl⟩:=List.getElem_of_mem hb
  rw[List.length_drop,Array.length_toList] at hk
  rw[List.getElem_drop,g (p+k) (by omega)]
  have:=h3 (p+k) (by omega) (by omega)
  have:=hj (p+k) (by omega)
  omega
 ·intro a ha b hb
  obtain ⟨k,hk,rfl⟩:=List.getElem_of_mem ha
  rw[List.length_take,Array.length_toList] at hk
  rw[List.getElem_take,g k (by omega)]
  have h4:=h2 k (by omega)
  rcases List.mem_cons.mp hb with rfl | hb
  ·exact h4
  ·obtain ⟨m,hm,rfl⟩:=List.getElem_of_mem hb
   rw[List.length_drop,Array.length_toList] at hm
   rw[List.getElem_drop,g (p+m) (by omega)]
   have:=h3 (p+m) (by omega) (by omega)
   omega
theorem Np {t:SetTable} (h:Ris t.place) {j:Nat} (hs : ∀ i,t.slot j ≠ .live i) : ∀ k,k<t.place.size->t.place.getD k 0≠j:=fun k hk e=>by
 obtain ⟨h1,h2,h3⟩:=Ds h j
 have hb:SetTable.below t.place j=k:= by
  rcases Nat.lt_trichotomy (SetTable.below t.place j) k with z | z | z
  ·have a:=h3 (SetTable.below t.place j) (Nat.le_refl _) (by omega)
   have b:=h _ k z hk
   omega
  ·exact z
  ·have:=h2 k z;omega
 refine hs k ?_
 unfold SetTable.slot
 simp only [hb]
 have:t.place[k]?=some j:= by
  rw[Array.getElem?_eq_getElem hk]
  have:t.place.getD k 0=t.place[k]:=by simp [Array.getD,hk]
  rw[<- this,e]
 rw[this]
 simp
theorem Eu {t:SetTable} {ha:Nat->Int} {h:Int} : ∀ (fuel:Nat) (p:SetTable.Probe) (j:Nat) (dm:Option Nat),(∀ d,p.dummy=some d -> ∀ i,t.slot d ≠ .live i)->SetTable.probe.go t ha h fuel p=some (.empty j dm) ->
  (∀ i,t.slot j ≠ .live i) /\ ∀ d,dm=some d -> ∀ i,t.slot d ≠ .live i
 | 0,p,j,dm,_,e=>by cases e
 | fuel+1,p,j,dm,hp,e=>by
  unfold SetTable.probe.go at e
  cases hs:t.slot p.j with
  | empty=>
   rw[hs] at e
   simp only [Option.some.injEq,SetTable.Met.empty.injEq] at e
   obtain ⟨rfl,rfl⟩:=e
   exact ⟨fun i z=>(by rw[hs] at z;cases z),hp⟩
  | dummy=>
   rw[hs] at e
   refine Eu fuel _ j dm (fun d hd i z=>?_) e
   unfold SetTable.advance at hd
   split at hd
   ·simp only [Option.some.injEq] at hd
    rw[<- hd,hs] at z;cases z
   ·simp only [Option.some.injEq] at hd
    rw[<- hd,hs] at z;cases z
  | live i0=>
   rw[hs] at e
   dsimp only at e
   split at e
   ·cases e
   ·refine Eu fuel _ j dm (fun d hd=>?_) e
    unfold SetTable.advance at hd
    split at hd
    ·exact hp d hd
    ·exact hp d hd
theorem IA {t:SetTable} {h:Int} {slot:Nat} {b:Bool} (hr:Ris t.place) (e:t.freeSlot h=some (slot,b)) : ∀ k,k<t.place.size->t.place.getD k 0≠slot:= by
 unfold SetTable.freeSlot at e
 split at e
 ·rename_i j dm hm
  unfold SetTable.probe at hm
  obtain ⟨a,c⟩:=Eu _ _ _ _ (fun d hd=>by unfold SetTable.probeStart at hd;cases hd) hm
  simp only [Option.some.injEq,Prod.mk.injEq] at e
  obtain ⟨rfl,_⟩:=e
  refine Np hr ?_
  cases dm with
  | none=>exact a
  | some d=>exact c d rfl
 ·cases e
def TOk (led:Bool) (t:SetTable):Prop:=Ris t.place/\t.led=led
theorem Dv {t:SetTable} {led:Bool} (h:t.led=led) (n:Nat):TOk led (t.standIn n):=⟨Mw n,h⟩
theorem MF {t:SetTable} {led:Bool} (h:TOk led t) (es:Array (Int × Value)) (k:Int) (x:Value):TOk led (layNew t es k x).2.1:= by
 unfold layNew
 split
 ·rename_i slot wd e
  have hp:TOk led (t.put slot).1:=⟨KH h.1 (IA h.1 e),h.2⟩
  show TOk led ((t.put slot).1.orStandIn _)
  unfold SetTable.orStandIn
  split
  ·exact hp
  ·exact Dv hp.2 _
 ·exact Dv h.2 _
theorem JG {t:SetTable} {led:Bool} (h:TOk led t) (es:Array (Int × Value)) (n:Nat):TOk led (relayAll t es n).2.1:= by
 unfold relayAll
 split
 ·rename_i t' order e
  dsimp only
  split
  ·unfold SetTable.relaid SetTable.laid at e
   cases hc:SetTable.layClean (SetTable.sizeAbove n-1) (es.map (·.1)) with
   | none=>rw[hc] at e;cases e
   | some owner=>
    rw[hc] at e
    simp only [Option.bind_eq_bind,Option.bind_some,Option.pure_def,Option.some.injEq,Prod.mk.injEq] at e
    obtain ⟨rfl,_⟩:=e
    refine ⟨Km ?_,h.2⟩
    rw[List.pairwise_map]
    refine List.Pairwise.filterMap _ (R:=fun a b=>a<b) (fun a a' haa b hb b' hb'=>?_) List.pairwise_lt_range
    simp only [Option.map_eq_some_iff] at hb hb'
    obtain ⟨_,_,rfl⟩:=hb
    obtain ⟨_,_,rfl⟩:=hb'
    exact haa
  ·exact Dv h.2 _
 ·exact Dv h.2 _
end PySem
namespace PySem
section
variable {prog:Program} {w:World} {K:Type} [DecidableEq K] (knd:KeyKind prog w K) (I:Array (Int × Value)->SetTable->Prop)
def Heap.SetI (h:Heap) (a:Addr) (S:K->Bool) (n:Nat):Prop:=
 ∃ o es ep t,h.get? a=some o/\o.ExactSet/\o.data = .set es ep t/\ElemsOf knd es.toList/\(∀ k,S k=true ↔ ∃ e ∈ es.toList,knd.is k e.2=true)
  /\ es.size<scanBound/\t.fits es.size=true/\es.size=n/\I es t
variable {knd I}
variable {A:Around} {E:Value->Shared->Prop} {s:Shared}
theorem GE {h:Heap} {a:Addr} {o:Obj} {es:Array (Int × Value)} {ep:Nat} {t:SetTable} (ho:h.get? a=some o) (hex:o.ExactSet) (hd:o.data = .set es ep t)
  {es':Array (Int × Value)} {t':SetTable} {S':K->Bool} (hel:ElemsOf knd es'.toList) (hmem : ∀ k,S' k=true ↔ ∃ e ∈ es'.toList,knd.is k e.2=true) (hb:es'.size<scanBound) (hf:t'.fits es'.size=true) (hI:I es' t') :
  (h.update a (Obj.putSet es' t')).get? a=some { o with data:=.set es' (ep+1) t' }/\(h.update a (Obj.putSet es' t')).SetI knd I a S' es'.size:= by
 have hg:(h.update a (Obj.putSet es' t')).get? a=some { o with data:=.set es' (ep+1) t' }:= by
  have:=Heap.get?_update_self (Obj.putSet es' t') ho (by rw[putSet_of es' t' hd];rfl)
  rw[putSet_of es' t' hd] at this;exact this
 exact ⟨hg,_,es',ep+1,t',hg,hex,rfl,hel,hmem,hb,hf,rfl,hI⟩
theorem DI {g:Bool->Sem Unit} (hI3 : ∀ es t n,I es t->I (relayAll t es n).1 (relayAll t es n).2.1) (hg : ∀ (b:Bool) (s₁:Shared) (Q':Unit->Shared->Prop),Q' () s₁->wpAny (model prog w) A (g b) Q' E s₁)
  {a:Addr} {o:Obj} {es:Array (Int × Value)} {ep:Nat} {t:SetTable} (ho:s.heap.get? a=some o) (hex:o.ExactSet) (hd:o.data = .set es ep t)
  {es1:Array (Int × Value)} {t2:SetTable} {S':K->Bool} (hel1:ElemsOf knd es1.toList) (hmem1 : ∀ k',S' k'=true ↔ ∃ e ∈ es1.toList,knd.is k' e.2=true)
  (hb1:es1.size<scanBound) (hf2:t2.fits es1.size=true) (hI2:I es1 t2) {wasDummy:Bool} {R:Option Bool->Shared->Prop}
  (h : ∀ h',Heap.SameBut a s.heap h'->h'.SetI knd I a S' es1.size->R (some true) { s with heap:=h' }) :
  wpAny (model prog w) A (do
    storeSet a es1 t2
    if (!wasDummy&&t2.tooFull)=true then do
      g (relayAll t2 es1 (SetTable.grown es1.size)).2.2
      storeSet a (relayAll t2 es1 (SetTable.grown es1.size)).1 (relayAll t2 es1 (SetTable.grown es1.size)).2.1
      pure (some true)
     else pure (some true)) R E s:= by
 refine wpAny_bind (wpAny_storeSet_of ho hd ?_ (fits_of_scanBound hb1))
 obtain ⟨ho1,hS1⟩:=GE (knd:=knd) ho hex hd hel1 hmem1 hb1 hf2 hI2
 have hsb1:=Heap.SameBut.update s.heap a (Obj.putSet es1 t2)
 split
 ·
  have hp:=relayAll_perm t2 es1 (SetTable.grown es1.size)
  have hfr:=relayAll_fits t2 es1 (SetTable.grown es1.size)
  have hir:=hI3 es1 t2 (SetTable.grown es1.size) hI2
  generalize hRl:relayAll t2 es1 (SetTable.grown es1.size)=Rl at hp hfr hir ⊢
  obtain ⟨es2,t3,gave2⟩:=Rl
  dsimp only at hp hfr hir ⊢
  have hel2:ElemsOf knd es2.toList:=hel1.perm hp
  have hmem2 : ∀ k',S' k'=true ↔ ∃ e ∈ es2.toList,knd.is k' e.2=true:=fun k'=>(hmem1 k').trans ⟨fun ⟨e,he,q⟩=>⟨e,hp.mem_iff.mpr he,q⟩,fun ⟨e,he,q⟩=>⟨e,hp.mem_iff.mp he,q⟩⟩
  have hsz:es2.size=es1.size:=by rw[<- Array.length_toList,hp.length_eq,Array.length_toList]
  have hb2:es2.size<scanBound:=by rw[hsz];exact hb1
  refine wpAny_bind (hg _ _ _ ?_)
  refine wpAny_bind (wpAny_storeSet_of ho1 rfl ?_ (fits_of_scanBound hb2))
  obtain ⟨_,hS2⟩:=GE (knd:=knd) ho1 hex rfl hel2 hmem2 hb2 hfr hir
  rw[hsz] at hS2
  exact wpAny_pure (h _ (hsb1.trans (Heap.SameBut.update _ a _)) hS2)
 ·exact wpAny_pure (h _ hsb1 hS1)
theorem DU (hI1 : ∀ es t k x,I es t->knd.is k x=true->(∀ e ∈ es.toList,knd.is k e.2=false)->I (layNew t es (knd.hash k) x).1 (layNew t es (knd.hash k) x).2.1) (hI2 : ∀ es t,I es t->I es { t with plain:=false }) (hI3 : ∀ es t n,I es t->I (relayAll t es n).1 (relayAll t es n).2.1) {a:Addr} {S:K->Bool} {n:Nat} {k:K} {x:Value} {Q:Bool->Shared->Prop} (hkey:knd.is k x=true) (hsc:x.scannable=true) (hS:s.heap.SetI knd I a S n)
  (hroom:n+1<scanBound)
  (h : ∀ h',Heap.SameBut a s.heap h'->h'.SetI knd I a (fun k'=>S k'||decide (k'=k)) (if S k then n else n+1)->Q (!S k) { s with heap:=h' }) :
  wpAny (model prog w) A (setAddHashed a x (knd.hash k)) Q E s:= by
 obtain ⟨o,es,ep,t,ho,hex,hd,hel,hmem,hb,hf,hn,hI⟩:=hS
 have hb1:es.size+1<scanBound:=by rw[hn];exact hroom
 unfold setAddHashed setAddHashedIn
 refine wpAny_holding (wpAny_bind (wpAny_setState_of ho hd hf ?_))
 dsimp only
 rw[byScan_of hsc hb hel]
 simp only [↓reduceIte]
 unfold setAddByScan
 refine wpAny_bind ?_
 refine wpAny_bind (wpAny_rule ?_)
 refine wpAny_bind (wpAny_setScan_of hkey ho hd hf hel ?_)
 cases hr:List.findIdx? (fun e=>knd.is k e.2) es.toList with
 | some j=>
  dsimp only
  obtain ⟨hj,hpj,_⟩:=List.findIdx?_eq_some_iff_getElem.mp hr
  have hSk:S k=true:=(hmem k).mpr ⟨es.toList[j],List.getElem_mem hj,hpj⟩
  refine wpAny_pure (wpAny_pure ?_)
  have e:s={ s with heap:=s.heap }:=by cases s;rfl
  have:=h s.heap (Heap.SameBut.refl a s.heap) ⟨o,es,ep,t,ho,hex,hd,hel,fun k'=>by
   rw[Bool.or_eq_true,decide_eq_true_eq,<- hmem k']
   exact ⟨fun hk=>hk.elim id (fun e=>e ▸ hSk),.inl⟩,hb,hf,by rw[hSk];exact hn,hI⟩
  rw[hSk] at this;rw[e];exact this
 | none=>
  dsimp only
  have hSk:S k=false:= by
   cases hk:S k with
   | false=>rfl
   | true=>obtain ⟨e,he,hp⟩:=(hmem k).mp hk;have:=List.findIdx?_eq_none_iff.mp hr e he;rw[hp] at this;exact Bool.noConfusion this
  have hgw : ∀ (b : Bool) {s₁ : Shared} {Q' : Unit -> Shared -> Prop},Q' () s₁ -> wpAny (model prog w) A (match b with | true=>rule "set.scan.the-table-gave-way" | false=>pure ()) Q' E s₁:=
   fun b s₁ Q' hq=>by cases b <;> first | exact wpAny_pure hq | exact wpAny_rule hq
  have hperm:=layNew_perm t es (knd.hash k) x
  have hfits:=layNew_fits t es (knd.hash k) x
  have hlay:=hI1 es t k x hI hkey (fun e he=>by simpa using List.findIdx?_eq_none_iff.mp hr e he)
  generalize hL:layNew t es (knd.hash k) x=L at hperm hfits hlay ⊢
  obtain ⟨es1,t1,wasDummy,gave⟩:=L
  dsimp only at hperm hfits hlay ⊢
  rw[Array.toList_push] at hperm
  have hel1:ElemsOf knd es1.toList:=(hel.push hkey hsc).perm hperm
  have hmem1 : ∀ k',(S k'||decide (k'=k))=true ↔ ∃ e ∈ es1.toList,knd.is k' e.2=true:=mem_push_iff hkey hmem hperm
  have hb1':es1.size<scanBound:=by rw[<- Array.length_toList,hperm.length_eq,List.length_append,Array.length_toList];simpa using hb1
  refine wpAny_bind (hgw _ ?_)
  have hsz1:es1.size=n+1:=by rw[<- Array.length_toList,hperm.length_eq,List.length_append,Array.length_toList,hn];rfl
  have hend : ∀ h',Heap.SameBut a s.heap h'->h'.SetI knd I a (fun k'=>S k'||decide (k'=k)) es1.size->Q true { s with heap:=h' }:= by
   intro h' hsb hS';have:=h h' hsb;rw[hSk] at this;rw[hsz1] at hS';exact this hS'
  split
  ·refine wpAny_bind ?_
   rw[hashByValue_scannable 8 hsc]
   refine wpAny_pure ?_
   refine DI hI3 ?_ ho hex hd hel1 hmem1 hb1' ?_ ?_ ?_
   ·intro b s₁ Q' hq;cases b <;> first | exact wpAny_pure hq | exact wpAny_rule hq
   ·split
    ·exact hfits
    ·exact SetTable.fits_plain_off hfits
   ·split
    ·exact hlay
    ·exact hI2 _ _ hlay
   ·intro h' hsb hS';dsimp only;exact wpAny_pure (hend h' hsb hS')
  ·refine wpAny_bind (wpAny_pure ?_)
   simp only [↓reduceIte]
   refine DI hI3 ?_ ho hex hd hel1 hmem1 hb1' hfits hlay ?_
   ·intro b s₁ Q' hq;cases b <;> first | exact wpAny_pure hq | exact wpAny_rule hq
   ·intro h' hsb hS';dsimp only;exact wpAny_pure (hend h' hsb hS')
end
end PySem
namespace PyProof.Rows
open PySem
theorem K7 {prog:Program} {w:World} {K:Type} [DecidableEq K] [BEq K] [LawfulBEq K] {knd:PySem.KeyKind prog w K} {J:Array (Int × Value)->SetTable->Prop} {h:Heap} {a:Addr} {S S':K->Bool} {n n':Nat}
  (hS:h.SetI knd J a S n) (e : ∀ k,S k=S' k) (en:n=n'):h.SetI knd J a S' n':= by
 have:S=S':=funext e
 subst this;subst en;exact hS
section
variable {prog:Program} {w:World} {A:Around} {R:Result->Shared->Prop} {I:Addr} {fp wr:List Addr} {G:Array GenState->Array GenState->Prop} {n:Nat} {P:Nat->Value->Prop} {St:Nat->Shared->Prop}
theorem codeAny_set_update_loopI {J:Array (Int × Value)->SetTable->Prop} (hJ1 : ∀ es t k x,J es t->(intKind prog w).is k x=true->(∀ e ∈ es.toList,(intKind prog w).is k e.2=false)->J (layNew t es ((intKind prog w).hash k) x).1 (layNew t es ((intKind prog w).hash k) x).2.1) (hJ2 : ∀ es t,J es t->J es { t with plain:=false }) (hJ3 : ∀ es t n,J es t->J (relayAll t es n).1 (relayAll t es n).2.1) (W:WalksS prog w A.in1 I fp wr G n P St) (S:Addr) (hSf:S ∉ fp)
  (val:Nat->Int) (hval : ∀ i v,P i v -> ∃ t,v = .int (val i) t) (hb:n+1<scanBound) :
  ∀ (k i:Nat) (s:Shared),n-i=k->i<=n->St i s ->
   s.heap.SetI (intKind prog w) J S (fun k'=>(firstMet val i).any (· == k')) (firstMet val i).length ->
   (∀ s',Moved (S::wr) G s s'->s'.heap.SetI (intKind prog w) J S (fun k'=>(firstMet val n).any (· == k')) (firstMet val n).length->R (.ok (.ret .none)) s') ->
   codeAny (model prog w) A (.builtin "set.update.loop" ⟨[.ref S,.ref I],[]⟩) R s:= by
 have hSw:S ∉ wr:=fun h=>hSf (W.sub _ h)
 have hsub : ∀ b ∈ wr,b ∈ S::wr:=fun b hb=>List.mem_cons_of_mem _ hb
 intro k
 induction k with
 | zero=>
  intro i s hk hi hst hS hR
  have hin:i=n:=by omega
  subst hin
  refine codeAny_builtin F.entry_set_update_loop ?_
  rw[Around.under_plainId F.plain_set_update_loop _]
  show wpAny _ A.in1 (pyNext (.ref I) >>= _) _ _ s
  refine wpAny_bind (W.done s _ _ hst fun s' hm=>?_)
  show wpAny _ A.in1 (ret Value.none) _ _ s'
  exact wpAny_pure (hR s' (hm.mono hsub) (by
   obtain ⟨o,es,ep,t,ho,rest⟩:=hS
   exact ⟨o,es,ep,t,hm.heap S _ hSw ho,rest⟩))
 | succ k ih=>
  intro i s hk hi hst hS hR
  have hlt:i<n:=by omega
  refine codeAny_builtin F.entry_set_update_loop ?_
  rw[Around.under_plainId F.plain_set_update_loop _]
  show wpAny _ A.in1 (pyNext (.ref I) >>= _) _ _ s
  refine wpAny_bind (W.item i s _ _ hlt hst fun v s' hP hst' hm=>?_)
  obtain ⟨t,rfl⟩:=hval i v hP
  have hS':s'.heap.SetI (intKind prog w) J S (fun k'=>(firstMet val i).any (· == k')) (firstMet val i).length:= by
   obtain ⟨o,es,ep,tb,ho,rest⟩:=hS
   exact ⟨o,es,ep,tb,hm.heap S _ hSw ho,rest⟩
  show wpAny _ A.in1 (holding [Value.int (val i) t] (setAdd S (.int (val i) t)) >>= _) _ _ s'
  refine wpAny_bind (wpAny_holding ?_)
  unfold setAdd
  refine wpAny_holding ?_
  refine wpAny_bind ((intKind prog w).pyHash (k:=val i) (intKind_is _ _ _ _) ?_)
  have hroom:(firstMet val i).length+1<scanBound:=by have:=firstMet_length_le val i;omega
  refine DU hJ1 hJ2 hJ3 (knd:=intKind prog w) (s:={ s' with toks:=s'.toks+1 }) (intKind_is _ _ _ _) rfl hS' hroom fun h' hsb hS2=>?_
  have hSi:h'.SetI (intKind prog w) J S (fun k'=>(firstMet val (i+1)).any (· == k')) (firstMet val (i+1)).length:=
   K7 hS2 (fun k'=>by rw[firstMet_succ,step_any]) (by rw[firstMet_succ,step_length])
  refine wpAny_pure ⟨plainId_quiet F.plain_set_update_loop _,ih (i+1) _ (by omega) hlt (W.frame _ s' _ _ hst' (Nat.le_succ _) fun b hb o e=>?_) hSi fun s'' hm'' hS''=>?_⟩
  ·rw[hsb.2 b (fun h:b=S=>hSf (by rw[<- h];exact hb))];exact e
  ·refine hR s'' (Moved.trans W.gtrans ((hm.mono hsub).then_heap (Nat.le_succ _) fun b o hb e=>?_) hm'') hS''
   rw[hsb.2 b (fun h:b=S=>hb (by rw[h];exact List.mem_cons_self))];exact e
end
end PyProof.Rows
namespace PySem
section
variable {prog:Program} {w:World} {A:Around} {E:Value->Shared->Prop} {s:Shared}
def P4 (w : World) : Bool:=!w.params.followText "set-order"
theorem E3 (a:Value) {Q₁:Value->Shared->Prop}
  (h : Q₁ (.ref s.heap.objs.size) { s with heap:=s.heap.push { cls:=.type "set",dict:=none,data:=.set #[] 0 (.fresh 0 0 (P4 w)) } }) :
  codeAny (model prog w) A (.call (.builtin "set.__new__") ⟨[.type "set",a],[]⟩) (wants Q₁ E) s:= by
 refine codeAny_of_tree ?_
 show wpAny _ A.in1 (do checkBuiltinCall "set.__new__" ⟨[.type "set",a],[]⟩; again (.builtin "set.__new__" ⟨[.type "set",a],[]⟩)) _ _ s
 refine wpAny_bind (wpAny_of_eq (F.newCall_set_1 a) (wpAny_pure ⟨plainId_quiet F.plain_set_new _,codeAny_builtin F.entry_set_new ?_⟩))
 rw[Around.under_plainId F.plain_set_new _]
 unfold Builtin.«set.__new__» Builtin.Frozenset.newClass
 have hsub:=sub_set_self
 obtain ⟨hp,g,d,tk,os⟩:=s
 dsimp only
 wp_walk
 refine wpAny_askSetting (wpAny_pure ?_)
 dsimp only
 simp only [newObj]
 refine wpAny_bind (wpAny_alloc (wpAny_pure ?_))
 exact wpAny_pure h
set_option maxRecDepth 100000 in
set_option maxHeartbeats 3200000 in
theorem Gn {J:Array (Int × Value)->SetTable->Prop} (hJ1 : ∀ es t k x,J es t->(intKind prog w).is k x=true->(∀ e ∈ es.toList,(intKind prog w).is k e.2=false)->J (layNew t es ((intKind prog w).hash k) x).1 (layNew t es ((intKind prog w).hash k) x).2.1) (hJ2 : ∀ es t,J es t->J es { t with plain:=false }) (hJ3 : ∀ es t n,J es t->J (relayAll t es n).1 (relayAll t es n).2.1) (hJ0:J #[] (.fresh 0 0 (P4 w))) {l:Addr} {items:Array Value} {ns:List Int} {Q:Value->Shared->Prop}
  (hh:A.handled=none) (hl:s.heap.IsList l items) (hi:PyProof.Rows.IntsAre items.toList ns) (hb:items.size+1<scanBound)
  (h : ∀ (h':Heap) (tk:Nat),h'.SetI (intKind prog w) J s.heap.objs.size (fun k'=>(PyProof.Rows.firstMet (fun i=>ns.getD i 0) items.size).any (· == k')) (PyProof.Rows.firstMet (fun i=>ns.getD i 0) items.size).length ->
   (∀ b o,b<s.heap.objs.size->s.heap.get? b=some o->h'.get? b=some o)->Q (.ref s.heap.objs.size) { s with heap:=h',toks:=tk }) :
  wpAny (model prog w) A (call (.type "set") [.ref l]) Q E s:= by
 obtain ⟨c,tl,hmro⟩:=F.called_set.mro
 have hmade:=F.called_set.made
 have hsub:=F.called_set.sub
 refine wpAny_call (codeAny_of_tree ?_)
 show wpAny _ _ (callAny (.type "set") _) _ _ _
 refine wpAny_pure ⟨Code.quiet_builtin _ (by decide +kernel),codeAny_builtin F.entry_type_call ?_⟩
 rw[Around.under_plain (weight_type_call_type "set" [.ref l] []) rfl]
 have h1:=F.called_set.notType
 have h2:=F.called_set.canCreate
 have hct:=F.typeCall_set_1 (.ref l)
 repeat (any_goals (first | assumption | wp_step))
 refine codeAny_mono (E3 (.ref l) (E:=E) (Q₁:=fun obj s₁=>∃ led : Bool,led = P4 w /\ obj = .ref s.heap.objs.size /\ s₁ = { s with heap:=s.heap.push { cls:=.type "set",dict:=none,data:=.set #[] 0 (.fresh 0 0 led) } }) ⟨_,rfl,rfl,rfl⟩) fun r s₁ hr=>?_
 cases r with
 | error e=>exact hr
 | ok fl=>
  cases fl with
  | ret obj=>
   obtain ⟨led,hled,rfl,rfl⟩:=hr
   have hS : (s.heap.push { cls:=.type "set",dict:=none,data:=.set #[] 0 (.fresh 0 0 led) }).get? s.heap.objs.size = some { cls:=.type "set",dict:=none,data:=.set #[] 0 (.fresh 0 0 led) }:=Heap.get?_push_size _ rfl
   have hT : Shared.TypeIs { s with heap:=s.heap.push { cls:=.type "set",dict:=none,data:=.set #[] 0 (.fresh 0 0 led) } } (.ref s.heap.objs.size) "set":=⟨_,hS,rfl⟩
   have hli:=F.called_set.init.lookup
   have hbi:=F.called_set.init.bind (.ref s.heap.objs.size)
   repeat (any_goals (first | assumption | wp_step))
   refine codeAny_mono (codeAny_call_builtin (R:=wants (fun r s₂=>r = .none /\ ∃ h' tk,s₂={ s with heap:=h',toks:=tk } /\
     h'.SetI (intKind prog w) J s.heap.objs.size (fun k'=>(PyProof.Rows.firstMet (fun i=>ns.getD i 0) items.size).any (· == k')) (PyProof.Rows.firstMet (fun i=>ns.getD i 0) items.size).length /\
     (∀ b o,b<s.heap.objs.size->s.heap.get? b=some o->h'.get? b=some o)) E) F.called_set.init.plain F.entry_set_init (check_set_init_1 hT ?_)) fun r₂ s₂ hr₂=>?_
   ·obtain ⟨ol,hol,hcl,nl,hdl⟩:=hl
    obtain ⟨ocls,odict,odata,oslots⟩:=ol
    simp only at hcl hdl
    subst hcl;subst hdl
    have hol' : (s.heap.push { cls:=.type "set",dict:=none,data:=.set #[] 0 (.fresh 0 0 led) }).get? l = some { cls:=.type "list",dict:=odict,data:=.seq items nl,slots:=oslots }:=Heap.get?_push_of_some _ hol
    have hsls:=F.sub_list_set
    have hslf:=F.sub_list_frozenset
    have hne : (Value.type "list" == Value.type "dict") = false:=by decide
    have hl1 : (s.heap.push { cls:=.type "set",dict:=none,data:=.set #[] 0 (.fresh 0 0 led) }).IsList l items:=⟨_,hol',rfl,nl,rfl⟩
    unfold Builtin.«set.__init__» noKeywords Builtin.Frozenset.updateFrom
    generalize hPI:pyIter=PI
    wp_walk
    subst hPI
    refine wpAny_pyIter_list hl1 ?_
    refine wpAny_bind (wpAny_runValue ?_)
    have hlS:l<s.heap.objs.size:=Heap.lt_size hol
    have hh3:A.in1.in1.in1.handled=none:=by simp [hh]
    have hneI : l ≠ (s.heap.push { cls:=.type "set",dict:=none,data:=.set #[] 0 (.fresh 0 0 led) }).objs.size:= by
     rw[Heap.size_push];exact Nat.ne_of_lt (Nat.lt_succ_of_lt hlS)
    have hSf : s.heap.objs.size ∉ [(s.heap.push { cls:=.type "set",dict:=none,data:=.set #[] 0 (.fresh 0 0 led) }).objs.size,l]:= by
     rw[Heap.size_push];simp only [List.mem_cons,List.mem_singleton,List.not_mem_nil,or_false,not_or]
     exact ⟨Nat.ne_of_lt (Nat.lt_succ_self _),Nat.ne_of_gt hlS⟩
    have hval : ∀ (i:Nat) (v:Value),items[i]?=some v -> ∃ t,v = .int ((fun i=>ns.getD i 0) i) t:=fun i v hv=>
     PyProof.Rows.IntsAre.int_at hi i v (by rw[Array.getElem?_toList];exact hv)
    refine PyProof.Rows.codeAny_set_update_loopI hJ1 hJ2 hJ3 ((Walks.list hh3 _ l hneI items).toS) s.heap.objs.size
     hSf (fun i=>ns.getD i 0) hval hb (items.size-0) 0 _ (by omega) (Nat.zero_le _)
     ⟨⟨_,Heap.get?_push_size _ rfl,rfl,rfl⟩,(hl1.push _)⟩ ?hS0 ?hR
    case hS0=>
     have hget : ((s.heap.push { cls:=.type "set",dict:=none,data:=.set #[] 0 (.fresh 0 0 led) }).push { cls:=.type "list_iterator",data:=.fields #[.ref l,.int 0 0] }).get? s.heap.objs.size
       = some { cls:=.type "set",dict:=none,data:=.set #[] 0 (.fresh 0 0 led) }:=Heap.get?_push_of_some _ hS
     exact ⟨_,#[],0,_,hget,⟨rfl,rfl,rfl⟩,rfl,fun e he=>by simp at he,fun k=>by simp [PyProof.Rows.firstMet],by decide,by rfl,rfl,by rw[hled];exact hJ0⟩
    case hR=>
     intro s' hm hS'
     obtain ⟨h',g',d',tk',os'⟩:=s'
     have eg:g'=s.gens:=hm.gens
     have ed:d'=s.drawn:=hm.drawn
     have eo:os'=s.os:=hm.os
     subst eg;subst ed;subst eo
     show wpAny _ _ _ _ _ _
     refine wpAny_pure ?_
     show wpAny _ _ (ret Value.none) _ _ _
     refine wpAny_pure ⟨rfl,h',tk',rfl,hS',fun b o hb e=>?_⟩
     have hb1:b≠s.heap.objs.size:=Nat.ne_of_lt hb
     have hb2 : b ≠ (s.heap.push { cls:=.type "set",dict:=none,data:=.set #[] 0 (.fresh 0 0 led) }).objs.size:= by
      rw[Heap.size_push];exact Nat.ne_of_lt (Nat.lt_succ_of_lt hb)
     exact hm.heap b o (by simp only [List.mem_cons,List.mem_singleton,List.not_mem_nil,or_false,not_or];exact ⟨hb1,hb2⟩) (Heap.get?_push_of_some _ (Heap.get?_push_of_some _ e))
   ·cases r₂ with
    | error e=>exact hr₂
    | ok fl₂=>
     cases fl₂ with
     | ret r=>
      obtain ⟨rfl,h',tk,rfl,hS',hk'⟩:=hr₂
      repeat (any_goals (first | assumption | wp_step))
      exact h _ _ hS' hk'
     | _=>exact hr₂.elim
  | _=>exact hr.elim
end
end PySem
namespace PySem
open PyProof.Rows
def SJ (led:Bool) (es:Array (Int × Value)) (t:SetTable):Prop:=TOk led t/\(∀ e ∈ es.toList,∃ n tk,e.2=Value.int n tk)/\(es.toList.map fun e=>numOf e.2).Nodup
theorem PQ {led:Bool} {es es':Array (Int × Value)} {t t':SetTable} (h:SJ led es t) (ht:TOk led t') (p:es'.toList.Perm es.toList):SJ led es' t':=
 ⟨ht,fun e he=>h.2.1 e (p.mem_iff.mp he),((p.map fun e=>numOf e.2).nodup_iff).mpr h.2.2⟩
theorem Oj (led:Bool):SJ led #[] (.fresh 0 0 led):=⟨⟨PN,rfl⟩,fun e he=>by simp at he,by simp⟩
theorem QH {prog:Program} {w:World} {led:Bool} (es:Array (Int × Value)) (t:SetTable) (k:Int) (x:Value) (h:SJ led es t) (hk:(intKind prog w).is k x=true) (hn : ∀ e ∈ es.toList,(intKind prog w).is k e.2=false) :
  SJ led (layNew t es ((intKind prog w).hash k) x).1 (layNew t es ((intKind prog w).hash k) x).2.1:= by
 obtain ⟨tk,rfl⟩:=Value.isInt_shape (show Value.isInt k x=true from hk)
 have p:=layNew_perm t es ((intKind prog w).hash k) (.int k tk)
 rw[Array.toList_push] at p
 refine ⟨MF h.1 es _ _,fun e he=>?_,?_⟩
 ·rcases List.mem_append.mp (p.mem_iff.mp he) with he | he
  ·exact h.2.1 e he
  ·rw[List.mem_singleton.mp he];exact ⟨k,tk,rfl⟩
 ·refine ((p.map fun e=>numOf e.2).nodup_iff).mpr ?_
  rw[List.map_append]
  refine L2.MS h.2.2 fun hm=>?_
  obtain ⟨e,he,z⟩:=List.mem_map.mp hm
  obtain ⟨n,tk',e2⟩:=h.2.1 e he
  have h1:=hn e he
  rw[e2] at h1 z
  have z:n=k:=z
  subst z
  have:(intKind prog w).is n (.int n tk')=true:=intKind_is _ _ _ _
  rw[h1] at this;cases this
theorem Qf {led:Bool} (es:Array (Int × Value)) (t:SetTable) (h:SJ led es t):SJ led es { t with plain:=false }:=⟨⟨h.1.1,h.1.2⟩,h.2⟩
theorem NX {led:Bool} (es:Array (Int × Value)) (t:SetTable) (n:Nat) (h:SJ led es t):SJ led (relayAll t es n).1 (relayAll t es n).2.1:=PQ h (JG h.1 es n) (relayAll_perm t es n)
theorem Lz {α:Type} (next:Nat->Nat) : ∀ (fuel k:Nat) (left:List α) (out:Array α),left.length=fuel->(pickOrder.go next fuel k left out).toList.Perm (out.toList++left)
 | 0,k,left,out,h=>by
  have:left=[]:=List.length_eq_zero_iff.mp h
  subst this
  unfold pickOrder.go
  simp
 | fuel+1,k,left,out,h=>by
  unfold pickOrder.go
  have hlt:next k % left.length<left.length:=Nat.mod_lt _ (by omega)
  rw[List.getElem?_eq_getElem hlt]
  dsimp only
  refine (Lz next fuel (k+1) _ _ (by rw[List.length_eraseIdx,if_pos hlt];omega)).trans ?_
  rw[Array.toList_push,List.append_assoc]
  refine List.Perm.append_left _ ?_
  have e:left=left.take (next k % left.length)++left[next k % left.length]::left.drop (next k % left.length+1):= by
   rw[<- List.drop_eq_getElem_cons hlt,List.take_append_drop]
  rw[List.eraseIdx_eq_take_drop_succ]
  show (left[next k % left.length]::(left.take (next k % left.length)++left.drop (next k % left.length+1))).Perm left
  refine (List.perm_middle.symm).trans ?_
  rw[<- e]
theorem L8 {α:Type} (next:Nat->Nat) (xs:Array α):(pickOrder next xs).toList.Perm xs.toList:= by
 have:=Lz next xs.size 0 xs.toList #[] (Array.length_toList ..)
 unfold pickOrder
 simpa using this
end PySem
namespace L2
open PySem PySem.Spec PyProof.Rows
def Qz (w:World) (a:Addr) (ms:List Int):HO:=.ext fun h=>∃ o es ep t,h.get? a=some o/\o.ExactSet/\o.data = .set es ep t/\es.size<scanBound/\t.fits es.size=true/\PySem.SJ (P4 w) es t/\es.toList.map (fun e=>numOf e.2)=ms
theorem O4 {P:Program} {w:World} {H:Hp} {h:Heap} {a:Addr} {ms:List Int} (e : ∃ o es ep t,h.get? a=some o/\o.ExactSet/\o.data = .set es ep t/\es.size<scanBound/\t.fits es.size=true/\PySem.SJ (P4 w) es t/\es.toList.map (fun e=>numOf e.2)=ms):A8 P w H h a (Qz w a ms):= by
 refine ⟨e,?_,fun h1 h2 ⟨o,es,ep,t,g,r⟩ k=>⟨o,es,ep,t,k o g,r⟩⟩
 obtain ⟨o,_,_,_,g,_⟩:=e
 exact ⟨o,g⟩
section
variable {X:Cx} {K:PySem.W.Frag}
theorem OY (hc : X.calm = true:=by rfl) (h : X.K = K:=by rfl) : BW X (.type "set") (fun xs H Q=>∃ (a : Addr) (ns : List Int),xs = [.ref a] /\ SqL K H a (ns.map V.int) /\ ns.length <= 1000 /\
  ∀ (p:Addr) (ms:List Int),H p=none->ms.Nodup->(∀ k,k ∈ ms ↔ k ∈ ns)->Q (.ref p) (upd H p (Qz X.w p ms))):= by
 subst h
 intro pins s σ H xs us Q I r h
 obtain ⟨a,ns,rfl,ha,hl,q⟩:=h
 obtain ⟨u,rfl,ru⟩:=DE r
 cases ru
 obtain ⟨its,r1,p1,_⟩:=I.list ha
 have l1:its.toArray.size=ns.length:=by rw[List.size_toArray,<- r1.length,ltm]
 refine Gn (J:=PySem.SJ (P4 X.w)) (fun es t k x h1 h2 h3=>QH es t k x h1 h2 h3) (fun es t h=>Qf es t h) (fun es t n h=>NX es t n h) (Oj _) (items:=its.toArray) (ns:=ns) (I.ok.hd hc) p1.isList (KS r1) (by rw[l1];unfold scanBound;omega) fun h' tk hS hk=>?_
 obtain ⟨o,es,ep,t,g1,g2,g3,g4,g5,g6,g7,g8,g9⟩:=hS
 refine ⟨.ref s.heap.objs.size,_,I.laid (t':=tk) (o:=Qz X.w s.heap.objs.size (es.toList.map fun e=>numOf e.2)) (fun b o e=>hk b o (Heap.lt_size e) e) (Nat.le_refl _) (O4 ⟨o,es,ep,t,g1,g2,g3,g6,g7,g9,rfl⟩),rfl,q _ _ (I.hok.fresh (Nat.le_refl _)) g9.2.2 fun k=>?_⟩
 have hm:(firstMet (fun i=>ns.getD i 0) its.toArray.size).any (· == k)=true ↔ k ∈ ns:= by
  rw[firstMet_any,l1]
  have e:(List.range ns.length).map (fun i=>ns.getD i 0)=ns:=KB ns 0
  rw[e]
  simp [List.any_eq_true]
 rw[<- hm,g5 k]
 constructor
 ·intro hk2
  obtain ⟨e,he,z⟩:=List.mem_map.mp hk2
  obtain ⟨n,tk',e2⟩:=g9.2.1 e he
  refine ⟨e,he,?_⟩
  rw[e2] at z ⊢
  have z:n=k:=z
  subst z
  exact intKind_is _ _ _ _
 ·rintro ⟨e,he,z⟩
  obtain ⟨tk',e2⟩:=Value.isInt_shape (show Value.isInt k e.2=true from z)
  exact List.mem_map.mpr ⟨e,he,by rw[e2];rfl⟩
end
end L2
namespace PySem.F
theorem Cn:Manifest.owners.lookup (String.ofList ['r','o','t','a','r','e','t','i','_','t','e','s'].reverse)=some Manifest.sig_set_iterator:=by kernel_rfl
theorem slot_set_iterator_next : Slot "set_iterator" "__next__" "set_iterator.__next__":=
 .of (owner:="set_iterator") (n:="__next__") (by rw[typeLookup_type,builtinLookup_eq_fast]; kernel_rfl) (by decide +kernel) (by decide +kernel) (by decide +kernel)
  (by first | exact .inl (by decide +kernel) | exact .inr (by decide +kernel)) (by rw[isSubtype_type];kernel_rfl)
theorem entry_set_iterator_next : entryFor table "set_iterator.__next__" = some Builtin.«set_iterator.__next__»:=entryFor_of_tree (by kernel_rfl)
theorem args_set_iterator_next_1 (a : Value) : argsOk "set_iterator.__next__" ⟨[a],[]⟩:= by
 unfold argsOk; rw[signature?_of (id:="set_iterator.__next__") (n:=['_','_','t','x','e','n','_','_']) (o:=['r','o','t','a','r','e','t','i','_','t','e','s']) (by kernel_rfl) Cn]; kernel_rfl
theorem slot_set_iterator_iter : Slot "set_iterator" "__iter__" "set_iterator.__iter__":=
 .of (owner:="set_iterator") (n:="__iter__") (by rw[typeLookup_type,builtinLookup_eq_fast]; kernel_rfl) (by decide +kernel) (by decide +kernel) (by decide +kernel)
  (by first | exact .inl (by decide +kernel) | exact .inr (by decide +kernel)) (by rw[isSubtype_type];kernel_rfl)
theorem entry_set_iterator_iter : entryFor table "set_iterator.__iter__" = some Builtin.«dict_keyiterator.__iter__»:=entryFor_alias (id':="dict_keyiterator.__iter__") (by kernel_rfl) rfl (by decide +kernel) (by kernel_rfl)
theorem args_set_iterator_iter_1 (a : Value) : argsOk "set_iterator.__iter__" ⟨[a],[]⟩:= by
 unfold argsOk; rw[signature?_of (id:="set_iterator.__iter__") (n:=['_','_','r','e','t','i','_','_']) (o:=['r','o','t','a','r','e','t','i','_','t','e','s']) (by kernel_rfl) Cn]; kernel_rfl
theorem entry_set_iter : entryFor table "set.__iter__" = some Builtin.«frozenset.__iter__»:=entryFor_alias (id':="frozenset.__iter__") (by kernel_rfl) rfl (by decide +kernel) (by kernel_rfl)
end PySem.F
namespace PySem
open Sem (wp)
section
variable {prog:Program} {w:World} {A:Around} {E:Value->Shared->Prop} {s:Shared}
theorem Iy {M:Model} {src:Source} {n:Nat} {Q:Nat->Shared->Prop} (hn:n≠0) (h : ∀ i d,i<n->Q i { s with drawn:=d }):wpAny M A (choose src n) Q E s:=fun Γ p hΓ=>by
 unfold choose
 rw[Sem.wp_choose]
 exact ⟨hn,h _ _ (Nat.mod_lt _ (Nat.pos_of_ne_zero hn))⟩
theorem KO {α:Type} {xs:List α} {i:Nat} (h:i<xs.length):(xs[i]::xs.eraseIdx i).Perm xs:= by
 rw[List.eraseIdx_eq_take_drop_succ]
 have e:xs=xs.take i++xs[i]::xs.drop (i+1):=by rw[<- List.drop_eq_getElem_cons h,List.take_append_drop]
 refine (List.perm_middle.symm).trans ?_
 rw[<- e]
theorem Do {M:Model} {α:Type} : ∀ (n:Nat) (xs:List α) (s:Shared) (Q:List α->Shared->Prop),xs.length=n->(∀ ys d,ys.Perm xs->Q ys { s with drawn:=d })->wpAny M A (drawOrder n xs) Q E s
 | 0,xs,s,Q,hl,h=>by
  have e:xs=[]:=List.length_eq_zero_iff.mp hl
  subst e
  unfold drawOrder
  exact wpAny_pure (h [] s.drawn (.refl _))
 | n+1,[],s,Q,hl,h=>by cases hl
 | n+1,x::xs,s,Q,hl,h=>by
  unfold drawOrder
  refine wpAny_bind (Iy (by simp) fun i d hi=>?_)
  rw[List.getElem?_eq_getElem hi]
  dsimp only
  refine wpAny_bind (Do n _ _ _ (by rw[List.length_eraseIdx,if_pos hi];simp at hl ⊢;exact hl) fun ys d' hp=>wpAny_pure ?_)
  exact h _ _ ((List.Perm.cons _ hp).trans (KO hi))
def Heap.IsSetIter (h:Heap) (it:Addr) (first:Value) (i:Nat) (a:Addr) (n ep:Nat):Prop:=
 ∃ o,h.get? it = some o /\ o.cls = .type "set_iterator" /\ o.data = .fields #[first,.int i 0,.ref a,.int n 0,.int ep 0]
def Heap.SetA (h:Heap) (a:Addr) (es:Array (Int × Value)) (ep:Nat) (t:SetTable):Prop:=∃ o,h.get? a=some o/\o.ExactSet/\o.data = .set es ep t
theorem Heap.IsSetIter.typeIs {s : Shared} {it f i a n ep} (x : s.heap.IsSetIter it f i a n ep) : s.TypeIs (.ref it) "set_iterator":=let ⟨o,ho,hc,_⟩:=x; ⟨o,ho,hc⟩
theorem Heap.IsSetIter.at {h h':Heap} {it f i a n ep} (x:h.IsSetIter it f i a n ep) (e : ∀ o,h.get? it=some o->h'.get? it=some o):h'.IsSetIter it f i a n ep:=let ⟨o,ho,r⟩:=x;⟨o,e _ ho,r⟩
theorem Heap.SetA.typeIs {s : Shared} {a es ep t} (x : s.heap.SetA a es ep t) : s.TypeIs (.ref a) "set":=let ⟨o,ho,hc,_⟩:=x; ⟨o,ho,hc.1⟩
theorem Heap.SetA.at {h h':Heap} {a es ep t} (x:h.SetA a es ep t) (e : ∀ o,h.get? a=some o->h'.get? a=some o):h'.SetA a es ep t:=let ⟨o,ho,r⟩:=x;⟨o,e _ ho,r⟩
theorem Heap.SetA.lt_size {h:Heap} {a es ep t} (x:h.SetA a es ep t):a<h.objs.size:=let ⟨_,ho,_⟩:=x;Heap.lt_size ho
theorem BY {M : Model} {Q : Bool -> Shared -> Prop} (h : Q (M.w.params.followText "set-order") s) : wpAny M A setsByText Q E s:= by
 unfold setsByText
 exact wpAny_bind (wpAny_askSetting (wpAny_pure h))
def AY (w : World) : Bool:=w.params.followText "set-order"
def DJ (w:World) (es:Array (Int × Value)) (t:SetTable):Bool:=!AY w&&(!t.plain&&decide (es.size > 1))
def Fp (first : Value) (a : Addr) (n ep : Nat) : Obj:={ cls:=.type "set_iterator",data:=.fields #[first,.int 0 0,.ref a,.int n 0,.int ep 0] }
theorem Ek {a:Addr} {es:Array (Int × Value)} {ep:Nat} {t:SetTable} {Q:Value->Shared->Prop} (hm:s.heap.SetA a es ep t) (hf:t.fits es.size=true) (hz:es.size<=sizeLine)
  (hD : DJ w es t = true -> ∀ (ps : List Nat) d,ps.Perm (List.range es.size) -> Q (.ref (s.heap.objs.size + 1)) { s with drawn:=d,heap:=(s.heap.push { cls:=.type "tuple",data:=.seq (ps.map fun (i : Nat)=>Value.int i 0).toArray }).push (Fp (.ref s.heap.objs.size) a es.size ep) })
  (hN:DJ w es t=false->Q (.ref s.heap.objs.size) { s with heap:=s.heap.push (Fp (.int 0 0) a es.size ep) }):wpAny (model prog w) A (pyIter (.ref a)) Q E s:= by
 obtain ⟨o,ho,hex,hd⟩:=id hm
 have hT:=hm.typeIs
 refine wpAny_pyIter_slot hT F.slot_set_iter (wpAny_call_entry F.slot_set_iter hT F.entry_set_iter ?_ (F.args_set_iter_1 _))
 unfold Builtin.«frozenset.__iter__» Builtin.Frozenset.slot0 slotArgs
 simp only [List.isEmpty_nil,Bool.not_true,Bool.false_eq_true,↓reduceIte,bind_assoc,List.length_nil,bne_self_eq_false]
 unfold Builtin.Frozenset.addrOf Builtin.Frozenset.sizeOf
 refine wpAny_bind (wpAny_pure ?_)
 try dsimp only
 refine wpAny_bind (wpAny_pure ?_)
 refine wpAny_bind (wpAny_bind (wpAny_setEntries_of ho hd hf (wpAny_pure ?_)))
 refine wpAny_bind ?_
 unfold setDrawn
 refine wpAny_bind (wpAny_setState_of ho hd hf ?_)
 refine wpAny_bind (BY (wpAny_pure ?_))
 show wpAny _ _ (if DJ w es t=true then _ else _) _ _ _
 cases hdr:DJ w es t with
 | true=>
  rw[if_pos rfl]
  refine wpAny_bind (Do _ _ _ _ (by simp) fun ps d hp=>?_)
  refine wpAny_bind (wpAny_newTuple ?_ (by rw[List.length_map,hp.length_eq,List.length_range];exact hz))
  refine wpAny_bind (wpAny_setEpoch_of (s:={ s with drawn:=d,heap:=s.heap.push _ }) (Heap.get?_push_of_some _ ho) hd hf ?_)
  simp only [newFields]
  refine wpAny_bind (wpAny_newObj_type (wpAny_pure ⟨_,rfl,"set_iterator",_,⟨_,Heap.get?_push_size _ rfl,rfl⟩,F.slot_set_iterator_next.lookup,?_⟩))
  have:=hD hdr ps d hp
  rw[PyProof.Rows.size_push']
  simpa [rawInt,Fp] using this
 | false=>
  rw[if_neg (by simp)]
  refine wpAny_bind (wpAny_pure ?_)
  refine wpAny_bind (wpAny_setEpoch_of ho hd hf ?_)
  simp only [newFields]
  refine wpAny_bind (wpAny_newObj_type (wpAny_pure ⟨_,rfl,"set_iterator",_,⟨_,Heap.get?_push_size _ rfl,rfl⟩,F.slot_set_iterator_next.lookup,?_⟩))
  have:=hN hdr
  simpa [rawInt,Fp] using this
theorem DX {a:Addr} {es:Array (Int × Value)} {ep:Nat} {t:SetTable} {slot given:Nat} {Q:Option (Value × Nat)->Shared->Prop} (hm:s.heap.SetA a es ep t) (hf:t.fits es.size=true) (hnd:DJ w es t=false) (hled:t.led = !AY w)
  (hT:AY w=true->Q (((pickOrder (w.params.setOrder a ep) es)[given]?).map fun e=>(e.2,slot)) s)
  (hP:AY w=false->Q (match es[SetTable.below t.place slot]?,t.place[SetTable.below t.place slot]? with | some (_,x),some j=>some (x,j+1) | _,_=>none) s):wpAny (model prog w) A (setNext a slot given ep) Q E s:= by
 obtain ⟨o,ho,hex,hd⟩:=id hm
 unfold setNext
 refine wpAny_bind (wpAny_setState_of ho hd hf ?_)
 dsimp only
 refine wpAny_bind (BY ?_)
 show wpAny _ _ (if AY w=true then _ else _) _ _ _
 cases hb:AY w with
 | true=>
  rw[if_pos rfl]
  rw[if_neg (by simp)]
  refine wpAny_bind ?_
  unfold setWalk
  refine wpAny_bind (wpAny_setState_of ho hd hf ?_)
  dsimp only
  refine wpAny_bind (BY ?_)
  show wpAny _ _ (if AY w=true then _ else _) _ _ _
  rw[hb,if_pos rfl]
  refine wpAny_bind (wpAny_askSetting (wpAny_pure ?_))
  exact wpAny_pure (hT hb)
 | false=>
  rw[if_neg (by simp)]
  have hdr:(!t.plain&&decide (es.size > 1))=false:= by
   unfold DJ at hnd
   rw[hb] at hnd
   simpa using hnd
  show wpAny _ _ (if (!t.plain&&decide (es.size > 1))=true then _ else _) _ _ _
  rw[hdr,if_neg (by simp)]
  refine wpAny_bind ?_
  show wpAny _ _ (if (!t.led && !es.isEmpty)=true then _ else _) _ _ _
  have hl:(!t.led && !es.isEmpty)=false:=by rw[hled,hb];rfl
  rw[hl,if_neg (by simp)]
  refine wpAny_pure ?_
  exact wpAny_pure (hP hb)
theorem CZ {it a:Addr} {i ep:Nat} {es:Array (Int × Value)} {t:SetTable} {x:Value} {nx:Nat} {fr:Nat} {Q:Option Value->Shared->Prop} (hit:s.heap.IsSetIter it (.int fr 0) i a es.size ep)
  (hm:s.heap.SetA a es ep t) (hf:t.fits es.size=true) (hnd:DJ w es t=false) (hled:t.led = !AY w)
  (hT:AY w=true->(((pickOrder (w.params.setOrder a ep) es)[i]?).map fun e=>(e.2,fr))=some (x,nx))
  (hP:AY w=false->(match es[SetTable.below t.place fr]?,t.place[SetTable.below t.place fr]? with | some (_,x),some j=>some (x,j+1) | _,_=>none)=some (x,nx))
  (hQ : ∀ h',h'.IsSetIter it (.int nx 0) (i+1) a es.size ep->Heap.SameBut it s.heap h'->Q (some x) { s with heap:=h' }) :
  wpAny (model prog w) A (pyNext (.ref it)) Q E s:= by
 obtain ⟨o,ho,hc,hd⟩:=id hit
 obtain ⟨oa,hoa,hexa,hda⟩:=id hm
 unfold pyNext
 refine wpAny_bind (wpAny_attempt (wpAny_callSpecial?_slot (name:=Str.ofString "__next__") hit.typeIs F.slot_set_iterator_next
  (wpAny_call_entry F.slot_set_iterator_next hit.typeIs F.entry_set_iterator_next ?_ (F.args_set_iterator_next_1 _))))
 unfold Builtin.«set_iterator.__next__» slotArgs
 simp only [List.isEmpty_nil,Bool.not_true,Bool.false_eq_true,↓reduceIte,bind_assoc,List.length_nil,bne_self_eq_false]
 refine wpAny_bind (wpAny_pure ?_)
 try dsimp only
 refine wpAny_bind (wpAny_fieldsOf ho hd ?_)
 dsimp only
 refine wpAny_bind (wpAny_setEntries_of hoa hda hf ?_)
 rw[if_neg (by simp)]
 have key:wpAny (model prog w) A.in1 (setNext a (fr:Int).toNat (i:Int).toNat (ep:Int).toNat) (fun r s'=>r=some (x,nx)/\s'=s) (fun _ _=>False) s:= by
  rw[Int.toNat_natCast,Int.toNat_natCast,Int.toNat_natCast]
  exact DX hm hf hnd hled (fun hb=>⟨hT hb,rfl⟩) fun hb=>⟨hP hb,rfl⟩
 refine wpAny_bind (wpAny_mono key (fun r s' hr=>?_) fun _ _ e=>e.elim)
 obtain ⟨rfl,rfl⟩:=hr
 dsimp only
 refine wpAny_bind (wpAny_setField ho hd (by simp) ?_)
 have ho1:=Heap.get?_update_self (Obj.mapFields (·.setIfInBounds 0 (rawInt (nx:Int)))) ho (Obj.isFreed_of_fields (Obj.data_mapFields hd _))
 have hd1:(Obj.mapFields (·.setIfInBounds 0 (rawInt (nx:Int))) o).data = .fields #[.int nx 0,.int i 0,.ref a,.int es.size 0,.int ep 0]:=by rw[Obj.data_mapFields hd];simp [rawInt]
 refine wpAny_bind (wpAny_setField (s:={ s' with heap:=s'.heap.update it _ }) ho1 hd1 (by simp) ?_)
 have ho2:=Heap.get?_update_self (Obj.mapFields (·.setIfInBounds 1 (rawInt ((i:Int)+1)))) ho1 (Obj.isFreed_of_fields (Obj.data_mapFields hd1 _))
 refine wpAny_pure ⟨_,rfl,wpAny_pure (hQ _ ⟨_,ho2,(Obj.cls_mapFields ..).trans ((Obj.cls_mapFields ..).trans hc),by rw[Obj.data_mapFields hd1];simp [rawInt]⟩ ((Heap.SameBut.update ..).trans (Heap.SameBut.update ..)))⟩
theorem Kg {A0:Around} {it a:Addr} {o:Obj} {v0 v1 v3 v4:Value} {s:Shared} {Q:Option Value->Shared->Prop} (hh:A0.handled=none) (ho:s.heap.get? it=some o) (hd:o.data = .fields #[v0,v1,.ref a,v3,v4])
  (hQ : ∀ h',Heap.ExtBut it s.heap h'->Q none { s with heap:=h' }) :
  wpAny (model prog w) A0.in1 (do setField (.ref it) 2 .none; raiseNew (<- newExc (.type "StopIteration") []) : Sem Fin) (fun fin s'=>∃ v,fin = Fin.done (Flow.ret v) /\ wpAny (model prog w) A0 (pure (some v)) Q E s')
   (fun e s'=>wpAny (model prog w) A0 (do let b <- isInstance e (Value.type "StopIteration"); if b = true then pure none else throw e) Q E s') s:= by
 refine wpAny_bind (wpAny_setField ho hd (by simp) ?_)
 refine wpAny_bind ?_
 simp only [newExc,newTuple]
 refine wpAny_bind (wpAny_newObj_type ?_ (by size_fits))
 refine wpAny_bind (m:=firstArgMember _ _) (wpAny_of_eq (a:=Value.none) (by first | rfl | (simp only [firstArgMember];rfl)) ?_)
 refine wpAny_newObj_type ?_ (by size_fits)
 simp only [raiseNew]
 refine wpAny_bind (wpAny_handled ?_)
 rw[show A0.in1.handled=none from hh]
 refine wpAny_bind (wpAny_pure (wpAny_throw ?_))
 refine wpAny_bind (wpAny_isInstance (T:="StopIteration") (b:=true) ⟨_,Heap.get?_push_size _ rfl,rfl⟩ isSubtype_stop ?_)
 exact wpAny_pure (hQ _ (((Heap.SameBut.update ..).extBut.push _).push _))
theorem Cb {it a:Addr} {i ep:Nat} {es:Array (Int × Value)} {t:SetTable} {fr:Nat} {Q:Option Value->Shared->Prop} (hh:A.handled=none) (hit:s.heap.IsSetIter it (.int fr 0) i a es.size ep)
  (hm:s.heap.SetA a es ep t) (hf:t.fits es.size=true) (hnd:DJ w es t=false) (hled:t.led = !AY w)
  (hT:AY w=true->(((pickOrder (w.params.setOrder a ep) es)[i]?).map fun e=>(e.2,fr))=none)
  (hP:AY w=false->(match es[SetTable.below t.place fr]?,t.place[SetTable.below t.place fr]? with | some (_,x),some j=>some (x,j+1) | _,_=>none)=none)
  (hQ : ∀ h',Heap.ExtBut it s.heap h'->Q none { s with heap:=h' }) :
  wpAny (model prog w) A (pyNext (.ref it)) Q E s:= by
 obtain ⟨o,ho,hc,hd⟩:=id hit
 obtain ⟨oa,hoa,hexa,hda⟩:=id hm
 unfold pyNext
 refine wpAny_bind (wpAny_attempt (wpAny_callSpecial?_slot (name:=Str.ofString "__next__") hit.typeIs F.slot_set_iterator_next
  (wpAny_call_entry F.slot_set_iterator_next hit.typeIs F.entry_set_iterator_next ?_ (F.args_set_iterator_next_1 _))))
 unfold Builtin.«set_iterator.__next__» slotArgs
 simp only [List.isEmpty_nil,Bool.not_true,Bool.false_eq_true,↓reduceIte,bind_assoc,List.length_nil,bne_self_eq_false]
 refine wpAny_bind (wpAny_pure ?_)
 try dsimp only
 refine wpAny_bind (wpAny_fieldsOf ho hd ?_)
 dsimp only
 refine wpAny_bind (wpAny_setEntries_of hoa hda hf ?_)
 rw[if_neg (by simp)]
 have key:wpAny (model prog w) A.in1 (setNext a (fr:Int).toNat (i:Int).toNat (ep:Int).toNat) (fun r s'=>r=none/\s'=s) (fun _ _=>False) s:= by
  rw[Int.toNat_natCast,Int.toNat_natCast,Int.toNat_natCast]
  exact DX hm hf hnd hled (fun hb=>⟨hT hb,rfl⟩) fun hb=>⟨hP hb,rfl⟩
 refine wpAny_bind (wpAny_mono key (fun r s' hr=>?_) fun _ _ e=>e.elim)
 obtain ⟨rfl,rfl⟩:=hr
 dsimp only
 exact Kg hh ho hd hQ
theorem Ev {it a T:Addr} {i ep p:Nat} {es:Array (Int × Value)} {t:SetTable} {oT:Obj} {nT:Nat} {ps:List Nat} {e:Int × Value} {Q:Option Value->Shared->Prop} (hit:s.heap.IsSetIter it (.ref T) i a es.size ep)
  (hm:s.heap.SetA a es ep t) (hf:t.fits es.size=true) (hT:s.heap.get? T=some oT) (hTd:oT.data = .seq (ps.map fun (i:Nat)=>Value.int i 0).toArray nT) (hp:ps[i]?=some p) (he:es[p]?=some e)
  (hQ : ∀ h',h'.IsSetIter it (.ref T) (i+1) a es.size ep->Heap.SameBut it s.heap h'->Q (some e.2) { s with heap:=h' }) :
  wpAny (model prog w) A (pyNext (.ref it)) Q E s:= by
 obtain ⟨o,ho,hc,hd⟩:=id hit
 obtain ⟨oa,hoa,hexa,hda⟩:=id hm
 unfold pyNext
 refine wpAny_bind (wpAny_attempt (wpAny_callSpecial?_slot (name:=Str.ofString "__next__") hit.typeIs F.slot_set_iterator_next
  (wpAny_call_entry F.slot_set_iterator_next hit.typeIs F.entry_set_iterator_next ?_ (F.args_set_iterator_next_1 _))))
 unfold Builtin.«set_iterator.__next__» slotArgs
 simp only [List.isEmpty_nil,Bool.not_true,Bool.false_eq_true,↓reduceIte,bind_assoc,List.length_nil,bne_self_eq_false]
 refine wpAny_bind (wpAny_pure ?_)
 try dsimp only
 refine wpAny_bind (wpAny_fieldsOf ho hd ?_)
 dsimp only
 refine wpAny_bind (wpAny_setEntries_of hoa hda hf ?_)
 rw[if_neg (by simp)]
 refine wpAny_bind (wpAny_seqItems hT hTd ?_)
 dsimp only
 have e1:(ps.map fun (i:Nat)=>Value.int i 0).toArray[(i:Int).toNat]?=some (Value.int p 0):= by
  rw[Int.toNat_natCast,List.getElem?_toArray,List.getElem?_map,hp];rfl
 rw[e1]
 dsimp only
 refine wpAny_bind ?_
 rw[Int.toNat_natCast,Int.toNat_natCast]
 unfold setNextDrawn
 refine wpAny_bind (wpAny_setState_of hoa hda hf ?_)
 dsimp only
 rw[if_neg (by simp)]
 rw[he]
 dsimp only
 refine wpAny_pure ?_
 refine wpAny_bind (wpAny_setField ho hd (by simp) ?_)
 have ho2:=Heap.get?_update_self (Obj.mapFields (·.setIfInBounds 1 (rawInt ((i:Int)+1)))) ho (Obj.isFreed_of_fields (Obj.data_mapFields hd _))
 exact wpAny_pure ⟨_,rfl,wpAny_pure (hQ _ ⟨_,ho2,(Obj.cls_mapFields ..).trans hc,by rw[Obj.data_mapFields hd];simp [rawInt]⟩ (Heap.SameBut.update ..))⟩
theorem DF {it a T:Addr} {i ep:Nat} {es:Array (Int × Value)} {t:SetTable} {oT:Obj} {nT:Nat} {ps:List Nat} {Q:Option Value->Shared->Prop} (hh:A.handled=none) (hit:s.heap.IsSetIter it (.ref T) i a es.size ep)
  (hm:s.heap.SetA a es ep t) (hf:t.fits es.size=true) (hT:s.heap.get? T=some oT) (hTd:oT.data = .seq (ps.map fun (i:Nat)=>Value.int i 0).toArray nT) (hp:ps[i]?=none)
  (hQ : ∀ h',Heap.ExtBut it s.heap h'->Q none { s with heap:=h' }) :
  wpAny (model prog w) A (pyNext (.ref it)) Q E s:= by
 obtain ⟨o,ho,hc,hd⟩:=id hit
 obtain ⟨oa,hoa,hexa,hda⟩:=id hm
 unfold pyNext
 refine wpAny_bind (wpAny_attempt (wpAny_callSpecial?_slot (name:=Str.ofString "__next__") hit.typeIs F.slot_set_iterator_next
  (wpAny_call_entry F.slot_set_iterator_next hit.typeIs F.entry_set_iterator_next ?_ (F.args_set_iterator_next_1 _))))
 unfold Builtin.«set_iterator.__next__» slotArgs
 simp only [List.isEmpty_nil,Bool.not_true,Bool.false_eq_true,↓reduceIte,bind_assoc,List.length_nil,bne_self_eq_false]
 refine wpAny_bind (wpAny_pure ?_)
 try dsimp only
 refine wpAny_bind (wpAny_fieldsOf ho hd ?_)
 dsimp only
 refine wpAny_bind (wpAny_setEntries_of hoa hda hf ?_)
 rw[if_neg (by simp)]
 refine wpAny_bind (wpAny_seqItems hT hTd ?_)
 dsimp only
 have e1:(ps.map fun (i:Nat)=>Value.int i 0).toArray[(i:Int).toNat]?=none:= by
  rw[Int.toNat_natCast,List.getElem?_toArray,List.getElem?_map,hp];rfl
 rw[e1]
 dsimp only
 refine wpAny_bind (wpAny_setField ho hd (by simp) ?_)
 have ho1:=Heap.get?_update_self (Obj.mapFields (·.setIfInBounds 0 (rawInt 0))) ho (Obj.isFreed_of_fields (Obj.data_mapFields hd _))
 have hd1:(Obj.mapFields (·.setIfInBounds 0 (rawInt 0)) o).data = .fields #[.int 0 0,.int i 0,.ref a,.int es.size 0,.int ep 0]:=by rw[Obj.data_mapFields hd];simp [rawInt]
 exact Kg (s:={ s with heap:=s.heap.update it _ }) hh ho1 hd1 fun h' he=>hQ h' fun b o hb e=>he b o hb ((Heap.get?_update_other _ _ (Ne.symm hb)).trans e)
theorem Bo {it a:Addr} {f:Value} {i n ep:Nat} {Q:Value->Shared->Prop} (hit:s.heap.IsSetIter it f i a n ep) (h:Q (.ref it) s):wpAny (model prog w) A (pyIter (.ref it)) Q E s:= by
 refine wpAny_pyIter_slot hit.typeIs F.slot_set_iterator_iter (wpAny_call_entry F.slot_set_iterator_iter hit.typeIs F.entry_set_iterator_iter ?_ (F.args_set_iterator_iter_1 _))
 show wpAny _ _ (ret (.ref it)) _ _ s
 exact wpAny_pure ⟨_,rfl,"set_iterator",_,hit.typeIs,F.slot_set_iterator_next.lookup,h⟩
theorem SetTable.fits_size {t:SetTable} {n:Nat} (h:t.fits n=true):t.place.size=n:= by
 simp only [SetTable.fits,Bool.and_eq_true,beq_iff_eq,decide_eq_true_eq] at h
 exact h.1
theorem Walks.setD (hh:A.handled=none) (I a T:Addr) (hne:a≠I) (hTI:T≠I) (es:Array (Int × Value)) (t:SetTable) (ep:Nat) (hf:t.fits es.size=true) (ps:List Nat) (hps:ps.Perm (List.range es.size)) :
  Walks prog w A I [I,a,T] [I] es.size (fun i v=>(ps.map fun p=>(es.getD p default).2)[i]? = some v) (fun i h=>h.IsSetIter I (.ref T) i a es.size ep /\ h.SetA a es ep t /\ h.get? T = some { cls:=.type "tuple",data:=.seq (ps.map fun (i : Nat)=>Value.int i 0).toArray }) where
 sub:=fun b hb=>by simp at hb;simp [hb]
 frame:=fun _ _ _ st hk=>⟨st.1.at fun o e=>hk I (by simp) o e,st.2.1.at fun o e=>hk a (by simp) o e,hk T (by simp) _ st.2.2⟩
 item:=fun i s Q E hi st hQ=>by
  have hl:i<ps.length:=by rw[hps.length_eq,List.length_range];exact hi
  have hp:ps[i]?=some ps[i]:=List.getElem?_eq_getElem hl
  have hlt:ps[i]<es.size:=List.mem_range.mp (hps.mem_iff.mp (List.getElem_mem hl))
  refine Ev st.1 st.2.1 hf st.2.2 rfl hp (Array.getElem?_eq_getElem hlt) fun h' hit' hs'=>?_
  refine hQ _ h' s.toks ?_ ⟨hit',st.2.1.at fun o e=>hs'.extBut a o hne e,hs'.extBut T _ hTI st.2.2⟩ fun b o hb e=>hs'.extBut b o (fun h=>hb (by simp [h])) e
  rw[List.getElem?_map,hp]
  simp [Array.getD,hlt]
 done:=fun s Q E st hQ=>DF hh st.1 st.2.1 hf st.2.2 rfl (List.getElem?_eq_none (by rw[hps.length_eq,List.length_range];exact Nat.le_refl _)) fun h' he'=>hQ h' s.toks fun b o hb e=>he' b o (fun h=>hb (by simp [h])) e
 self:=fun _ _ _ _ st hQ=>Bo st.1 hQ
theorem Walks.setT (hh:A.handled=none) (I a:Addr) (hne:a≠I) (es:Array (Int × Value)) (t:SetTable) (ep:Nat) (hf:t.fits es.size=true) (hnd:DJ w es t=false) (hled:t.led = !AY w) (hb:AY w=true) (hsz:(pickOrder (w.params.setOrder a ep) es).size=es.size) :
  Walks prog w A I [I,a] [I] es.size (fun i v=>((pickOrder (w.params.setOrder a ep) es).toList.map (·.2))[i]?=some v) (fun i h=>h.IsSetIter I (.int 0 0) i a es.size ep/\h.SetA a es ep t) where
 sub:=fun b hb=>by simp at hb;simp [hb]
 frame:=fun _ _ _ st hk=>⟨st.1.at fun o e=>hk I (by simp) o e,st.2.at fun o e=>hk a (by simp) o e⟩
 item:=fun i s Q E hi st hQ=>by
  have hl:i<(pickOrder (w.params.setOrder a ep) es).size:=by rw[hsz];exact hi
  refine CZ (x:=(pickOrder (w.params.setOrder a ep) es)[i].2) (nx:=0) (fr:=0) st.1 st.2 hf hnd hled (fun _=>by rw[Array.getElem?_eq_getElem hl];rfl) (fun e=>by rw[hb] at e;cases e) fun h' hit' hs'=>?_
  refine hQ _ h' s.toks ?_ ⟨hit',st.2.at fun o e=>hs'.extBut a o hne e⟩ fun b o hb e=>hs'.extBut b o (fun h=>hb (by simp [h])) e
  rw[List.getElem?_map,Array.getElem?_toList,Array.getElem?_eq_getElem hl];rfl
 done:=fun s Q E st hQ=>Cb (fr:=0) hh st.1 st.2 hf hnd hled (fun _=>by rw[Array.getElem?_eq_none (by rw[hsz];exact Nat.le_refl _)];rfl) (fun e=>by rw[hb] at e;cases e) fun h' he'=>hQ h' s.toks fun b o hb e=>he' b o (fun h=>hb (by simp [h])) e
 self:=fun _ _ _ _ st hQ=>Bo st.1 hQ
def GC (t:SetTable):Nat->Nat
 | 0=>0
 | i+1=>t.place.getD i 0+1
theorem EQ {t:SetTable} (h:Ris t.place) : ∀ i,i<=t.place.size->SetTable.below t.place (GC t i)=i
 | 0,_=>KU h
 | i+1,hi=>Ks h (by omega)
theorem Walks.setP (hh:A.handled=none) (I a:Addr) (hne:a≠I) (es:Array (Int × Value)) (t:SetTable) (ep:Nat) (hf:t.fits es.size=true) (hr:Ris t.place) (hnd:DJ w es t=false) (hled:t.led = !AY w) (hb:AY w=false) :
  Walks prog w A I [I,a] [I] es.size (fun i v=>(es.toList.map (·.2))[i]?=some v) (fun i h=>h.IsSetIter I (.int (GC t i) 0) i a es.size ep/\h.SetA a es ep t) where
 sub:=fun b hb=>by simp at hb;simp [hb]
 frame:=fun _ _ _ st hk=>⟨st.1.at fun o e=>hk I (by simp) o e,st.2.at fun o e=>hk a (by simp) o e⟩
 item:=fun i s Q E hi st hQ=>by
  have hpl:i<t.place.size:=by rw[SetTable.fits_size hf];exact hi
  refine CZ (x:=es[i].2) (nx:=GC t (i+1)) (fr:=GC t i) st.1 st.2 hf hnd hled (fun e=>by rw[hb] at e;cases e) (fun _=>?_) fun h' hit' hs'=>?_
  ·rw[EQ hr i (by omega),Array.getElem?_eq_getElem hi,Array.getElem?_eq_getElem hpl]
   simp [GC,Array.getD,hpl]
  ·refine hQ _ h' s.toks ?_ ⟨hit',st.2.at fun o e=>hs'.extBut a o hne e⟩ fun b o hb e=>hs'.extBut b o (fun h=>hb (by simp [h])) e
   rw[List.getElem?_map,Array.getElem?_toList,Array.getElem?_eq_getElem hi];rfl
 done:=fun s Q E st hQ=>by
  refine Cb (fr:=GC t es.size) hh st.1 st.2 hf hnd hled (fun e=>by rw[hb] at e;cases e) (fun _=>?_) fun h' he'=>hQ h' s.toks fun b o hb e=>he' b o (fun h=>hb (by simp [h])) e
  rw[EQ hr es.size (by rw[SetTable.fits_size hf];exact Nat.le_refl _),Array.getElem?_eq_none (Nat.le_refl _)]
 self:=fun _ _ _ _ st hQ=>Bo st.1 hQ
theorem FI {I:Addr} {fp wr:List Addr} {m n:Nat} {P:Nat->Value->Prop} {St:Nat->Heap->Prop} (h:m=n) (W:Walks prog w A I fp wr n P St):Walks prog w A I fp wr m P St:=h ▸ W
theorem EZ {a:Addr} {es:Array (Int × Value)} {ep:Nat} {t:SetTable} {Q:Value->Shared->Prop} (hh:A.handled=none) (hm:s.heap.SetA a es ep t) (hf:t.fits es.size=true) (hr:Ris t.place) (hled:t.led = !AY w) (hz:es.size<=sizeLine)
  (hQ : ∀ (I:Addr) (fp:List Addr) (vs:List Value) (St:Nat->Heap->Prop) (h':Heap) d,Walks prog w A I fp [I] vs.length (fun i v=>vs[i]?=some v) St->St 0 h'->vs.Perm (es.toList.map (·.2))->(∀ b o,s.heap.get? b=some o->h'.get? b=some o) ->
   s.heap.objs.size<=I->(∀ b ∈ fp,b=a\/s.heap.objs.size<=b)->Q (.ref I) { s with heap:=h',drawn:=d }):wpAny (model prog w) A (pyIter (.ref a)) Q E s:= by
 have hlt:=hm.lt_size
 refine Ek hm hf hz (fun hd ps d hp=>?_) fun hnd=>?_
 ·have hT : (s.heap.push { cls:=.type "tuple",data:=.seq (ps.map fun (i : Nat)=>Value.int i 0).toArray }).get? s.heap.objs.size = some { cls:=.type "tuple",data:=.seq (ps.map fun (i : Nat)=>Value.int i 0).toArray }:=Heap.get?_push_size _ rfl
  have hsz : (s.heap.push { cls:=.type "tuple",data:=.seq (ps.map fun (i : Nat)=>Value.int i 0).toArray }).objs.size = s.heap.objs.size + 1:=PyProof.Rows.size_push' ..
  have hl:(ps.map fun p=>(es.getD p default).2).length=es.size:=by rw[List.length_map,hp.length_eq,List.length_range]
  refine hQ (s.heap.objs.size+1) [s.heap.objs.size+1,a,s.heap.objs.size] (ps.map fun p=>(es.getD p default).2) _ _ d (FI hl (Walks.setD hh (s.heap.objs.size+1) a s.heap.objs.size (Nat.ne_of_lt (Nat.lt_succ_of_lt hlt)) (Nat.ne_of_lt (Nat.lt_succ_self _)) es t ep hf ps hp)) ?_ ?_ ?_ (Nat.le_succ _) ?_
  ·refine ⟨⟨Fp (.ref s.heap.objs.size) a es.size ep,?_,rfl,rfl⟩,hm.at fun o e=>Heap.get?_push_of_some _ (Heap.get?_push_of_some _ e),Heap.get?_push_of_some _ hT⟩
   rw[<- hsz];exact Heap.get?_push_size _ rfl
  ·refine (hp.map _).trans ?_
   refine List.Perm.of_eq (List.ext_getElem (by simp) fun i h1 h2=>?_)
   simp at h1 h2 ⊢
   simp [h2]
  ·exact fun b o e=>Heap.get?_push_of_some _ (Heap.get?_push_of_some _ e)
  ·intro b hb;simp at hb;rcases hb with rfl | rfl | rfl
   ·exact .inr (Nat.le_succ _)
   ·exact .inl rfl
   ·exact .inr (Nat.le_refl _)
 ·cases hb:AY w with
  | true=>
   have hp:=L8 (w.params.setOrder a ep) es
   have hsz:(pickOrder (w.params.setOrder a ep) es).size=es.size:=by rw[<- Array.length_toList,hp.length_eq,Array.length_toList]
   have hl:((pickOrder (w.params.setOrder a ep) es).toList.map (·.2)).length=es.size:=by rw[List.length_map,Array.length_toList,hsz]
   refine hQ s.heap.objs.size [s.heap.objs.size,a] _ _ _ s.drawn (FI hl (Walks.setT hh s.heap.objs.size a (Nat.ne_of_lt hlt) es t ep hf hnd hled hb hsz)) ⟨⟨_,Heap.get?_push_size _ rfl,rfl,rfl⟩,hm.at fun o e=>Heap.get?_push_of_some _ e⟩ (hp.map _) (fun b o e=>Heap.get?_push_of_some _ e) (Nat.le_refl _) ?_
   intro b hb;simp at hb;rcases hb with rfl | rfl
   ·exact .inr (Nat.le_refl _)
   ·exact .inl rfl
  | false=>
   have hl:(es.toList.map (·.2)).length=es.size:=by rw[List.length_map,Array.length_toList]
   refine hQ s.heap.objs.size [s.heap.objs.size,a] _ _ _ s.drawn (FI hl (Walks.setP hh s.heap.objs.size a (Nat.ne_of_lt hlt) es t ep hf hr hnd hled hb)) ⟨⟨_,Heap.get?_push_size _ rfl,rfl,rfl⟩,hm.at fun o e=>Heap.get?_push_of_some _ e⟩ (.refl _) (fun b o e=>Heap.get?_push_of_some _ e) (Nat.le_refl _) ?_
   intro b hb;simp at hb;rcases hb with rfl | rfl
   ·exact .inr (Nat.le_refl _)
   ·exact .inl rfl
theorem N0 {r : Addr} {Q : Bool -> Shared -> Prop} (hT : s.TypeIs (.ref r) "set") (h : Q false s) : wpAny (model prog w) A (Builtin.List.listLengthHint (.ref r)) Q E s:= by
 unfold Builtin.List.listLengthHint
 refine wpAny_bind (wpAny_specialOf hT PySem.F.slot_set_len.lookup ?_)
 generalize hid : ("set.__len__" : String) = id0
 wp_delta
 rw[show splitId id0 = some ("set","__len__") from by subst hid; decide +kernel]
 subst hid
 refine wpAny_bind (wpAny_isInstance (T:="set") (b:=true) hT (by rw[isSubtype_type]; kernel_rfl) ?_)
 refine wpAny_ite_split (fun hab=>absurd hab (by decide)) (fun _=>?_)
 refine wpAny_ite_split (fun _=>?_) (fun hab=>absurd (by decide +kernel) hab)
 refine wpAny_bind (wpAny_typeOf hT ?_)
 exact wpAny_pure h
end
end PySem
namespace PySem.W
open PySem PySem.Calls PyProof.Rows PyProof.V PySem.Spec
section
variable {prog:Program} {w:World} {A:Around} {E:Value->Shared->Prop} {s:Shared} {a:Addr} {es:Array (Int × Value)} {ep:Nat} {t:SetTable}
theorem JZ : ∀ {vs:List Value} {ns:List Int},IntsAre vs ns->(∀ v ∈ vs,∃ n t,v=Value.int n t)/\ns=vs.map numOf
 | _,_,.nil=>⟨fun v hv=>by simp at hv,rfl⟩
 | _,_,.cons n t r=>by
  obtain ⟨h1,h2⟩:=JZ r
  refine ⟨fun v hv=>?_,by rw[List.map_cons,h2];rfl⟩
  rcases List.mem_cons.mp hv with e | e
  ·exact ⟨n,t,e⟩
  ·exact h1 v e
theorem num_ints : ∀ {vs:List Value},(∀ v ∈ vs,∃ n t,v=Value.int n t)->IntsAre vs (vs.map numOf)
 | [],_=>.nil
 | v::vs,h=>by
  obtain ⟨n,t,rfl⟩:=h v (.head _)
  exact .cons n t (num_ints fun u hu=>h u (.tail _ hu))
theorem KM {R : Result -> Shared -> Prop} (hh : A.handled = none) (hm : s.heap.SetA a es ep t) (hf : t.fits es.size = true) (hr : Ris t.place) (hled : t.led = !AY w) (hn : es.size <= sizeLine) (S : Addr) (hSr : S ≠ a) (res : Value) (c₀ : Nat) (hS : s.heap.get? S = some { cls:=.type "list",data:=.seq #[] c₀ })
  (hR : ∀ h' tk d acc' c',(∀ b o,b ≠ S -> s.heap.get? b = some o -> h'.get? b = some o) -> h'.get? S = some { cls:=.type "list",dict:=none,data:=.seq acc' c',slots:=#[] } -> acc'.toList.Perm (es.toList.map (·.2)) -> R (.ok (.ret res)) { s with heap:=h',toks:=tk,drawn:=d }) :
  wpAny (model prog w) A.in1 (Builtin.List.listExtendWith (.ref S) (.ref a) res)
   (fun fin s'=>match fin with | .done f=>R (.ok f) s' | .again c'=>c'.quiet=true/\codeAny (model prog w) A c' R s') (fun e s'=>R (.error e) s') s:= by
 unfold Builtin.List.listExtendWith
 refine wpAny_bind (wpAny_typeOf (T:="set") hm.typeIs ?_)
 have h1:Builtin.List.listSameRef (.ref S) (.ref a)=false:=by simp [Builtin.List.listSameRef,hSr]
 have notList : (Value.type "set" == Value.type "list") = false:=by decide
 have notTuple : (Value.type "set" == Value.type "tuple") = false:=by decide
 simp only [h1,notList,notTuple,Bool.or_false,Bool.false_eq_true,if_false]
 refine wpAny_bind (EZ (A:=A.in1) hh hm hf hr hled hn fun I fp vs St h₁ d W st hp hk hI hfp=>?_)
 have hSlt:S<s.heap.objs.size:=Heap.lt_size hS
 have hSf:S ∉ fp:=fun hc=>(hfp S hc).elim hSr fun e=>absurd hSlt (Nat.not_lt.mpr e)
 have hvl:vs.length=es.size:=by rw[hp.length_eq,List.length_map,Array.length_toList]
 have key : ∀ (h:Heap) (c₁ tk:Nat),St 0 h->(∀ b o,b≠S->s.heap.get? b=some o->h.get? b=some o) ->
   h.get? S = some { cls:=.type "list",data:=.seq #[] c₁ } -> codeAny (model prog w) A (.builtin "list.extend.loop" ⟨[.ref S,.ref I,res],[]⟩) R { s with heap:=h,toks:=tk,drawn:=d }:= by
  intro h c₁ tk hst hk hS₁
  refine codeAny_extend_loopS W.toS (by rw[hvl];exact hn) S hSf res vs.length 0 _ #[] c₁ rfl (Nat.zero_le _) hst hS₁ (ItemsOf.nil _) fun s' acc' c' hm' hS' hacc=>?_
  rw[Moved.eq_with hm']
  have e:acc'.toList=vs:= by
   refine List.ext_getElem? fun j=>?_
   by_cases hj:j<acc'.size
   ·have h2:=hacc.2 j acc'[j] (Array.getElem?_eq_getElem hj)
    rw[Array.getElem?_toList,Array.getElem?_eq_getElem hj,h2]
   ·rw[List.getElem?_eq_none (by rw[Array.length_toList];omega),List.getElem?_eq_none (by have:=hacc.1;omega)]
  refine hR s'.heap s'.toks d acc' c' (fun b o hb e=>hm'.heap b o (fun hmem=>?_) (hk b o hb e)) hS' (e ▸ hp)
  rcases List.mem_cons.mp hmem with e' | hmem
  ·exact hb e'
  ·have:=Heap.lt_size e
   rw[List.mem_singleton.mp hmem] at this
   exact absurd this (Nat.not_lt.mpr hI)
 have hS₁:=hk _ _ hS
 refine wpAny_bind (wpAny_holding (N0 (s:={ s with heap:=h₁,drawn:=d }) (hm.at fun o e=>hk _ _ e:h₁.SetA a es ep t).typeIs ?_))
 refine wpAny_ite_split (fun _=>?_) (fun _=>wpAny_pure ⟨plainId_quiet PySem.F.plain_extend_loop _,key _ c₀ _ st (fun b o _ e=>hk b o e) hS₁⟩)
 refine wpAny_bind (wpAny_rule ?_)
 refine wpAny_bind ?_
 show wpAny _ _ (updateSeq S (·.push .none) >>= fun _=>updateSeq S (·.pop)) _ _ _
 refine wpAny_bind (wpAny_updateSeq (s:={ s with heap:=h₁,drawn:=d }) hS₁ rfl ?_)
 have hS₂:=Heap.get?_update_self (Obj.mapSeq (·.push Value.none)) hS₁ rfl
 refine wpAny_updateSeq (s:={ s with heap:=h₁.update S (Obj.mapSeq (·.push Value.none)),drawn:=d }) (hz:=by seq_fits) hS₂ rfl ?_
 have hS₃:=Heap.get?_update_self (Obj.mapSeq (·.pop)) hS₂ rfl
 refine wpAny_pure ⟨plainId_quiet PySem.F.plain_extend_loop _,key _ _ _ ?_ (fun b o hb e=>?_) hS₃⟩
 ·refine W.frame 0 _ _ st fun b hb o e=>?_
  have hbS:b≠S:=fun h=>hSf (h ▸ hb)
  exact (Heap.get?_update_other _ _ (Ne.symm hbS)).trans ((Heap.get?_update_other _ _ (Ne.symm hbS)).trans e)
 ·exact (Heap.get?_update_other _ _ (Ne.symm hb)).trans ((Heap.get?_update_other _ _ (Ne.symm hb)).trans (hk b o e))
theorem IP {R:List Value->Shared->Prop} (hh:A.handled=none) (hm:s.heap.SetA a es ep t) (hf:t.fits es.size=true) (hr:Ris t.place) (hled:t.led = !AY w) (hn:es.size<=sizeLine)
  (h : ∀ (h':Heap) (tk:Nat) d (acc:List Value),(∀ b o,s.heap.get? b=some o->h'.get? b=some o)->s.heap.objs.size<=h'.objs.size->acc.Perm (es.toList.map (·.2))->R acc { s with heap:=h',toks:=tk,drawn:=d }) :
  wpAny (model prog w) A (collect (.ref a)) R E s:= by
 have hlt:=hm.lt_size
 unfold collect
 refine wpAny_bind (wpAny_runValue (codeAny_builtin entry_proto_collect' ?_))
 rw[Around.under_plainId PySem.F.plain_proto_collect _]
 show wpAny _ A.in1 (newList [] >>= fun l=>again (.builtin "list.__iadd__" ⟨[l,.ref a],[]⟩)) _ _ s
 refine wpAny_bind (wpAny_newObj_type ?_)
 refine wpAny_pure ⟨plainId_quiet PySem.F.plain_list_iadd _,codeAny_builtin entry_list_iadd' ?_⟩
 rw[Around.under_plainId PySem.F.plain_list_iadd _]
 have hS₁ : (s.heap.push { cls:=.type "list",data:=.seq ([] : List Value).toArray }).get? s.heap.objs.size = some { cls:=.type "list",data:=.seq #[] }:=Heap.get?_push_size _ rfl
 show wpAny _ A.in1 (Builtin.List.listExtendWith (.ref s.heap.objs.size) (.ref a) (.ref s.heap.objs.size)) _ _ _
 have key:=KM (A:=A) (s:={ s with heap:=s.heap.push { cls:=.type "list",data:=.seq ([] : List Value).toArray } }) (prog:=prog) (w:=w) (t:=t)
  (R:=fun (q:Result) (s':Shared)=>∃ (h':Heap) (tk:Nat) (d:_) (acc':Array Value) (c':Nat),q = .ok (.ret (.ref s.heap.objs.size))/\s'={ s with heap:=h',toks:=tk,drawn:=d } /\
   (∀ b o,s.heap.get? b = some o -> h'.get? b = some o) /\ h'.get? s.heap.objs.size = some { cls:=.type "list",dict:=none,data:=.seq acc' c',slots:=#[] } /\ acc'.toList.Perm (es.toList.map (·.2)))
  hh (hm.at fun o e=>Heap.get?_push_of_some _ e) hf hr hled hn s.heap.objs.size (Nat.ne_of_gt hlt) (.ref s.heap.objs.size) 0 hS₁
  (fun h' tk d acc' c' hk hS' hacc=>⟨h',tk,d,acc',c',rfl,rfl,fun b o e=>hk b o (Nat.ne_of_lt (Heap.lt_size e)) (Heap.get?_push_of_some _ e),hS',hacc⟩)
 refine wpAny_mono key (fun fin s' x=>?_) fun e s' x=>?_
 ·cases fin with
  | done f=>
   obtain ⟨h',tk,d,acc',c',e,rfl,hk,hS',hacc⟩:=x
   cases e
   show wpAny _ A (load s.heap.objs.size >>= _) _ _ _
   refine wpAny_bind (wpAny_load hS' ?_)
   exact wpAny_pure (h h' tk d acc'.toList hk (Nat.le_of_lt (Heap.lt_size hS')) hacc)
  | again c₁=>
   refine ⟨x.1,codeAny_mono x.2 fun q s₂ y=>?_⟩
   obtain ⟨h',tk,d,acc',c',rfl,rfl,hk,hS',hacc⟩:=y
   show wpAny _ A (load s.heap.objs.size >>= _) _ _ _
   refine wpAny_bind (wpAny_load hS' ?_)
   exact wpAny_pure (h h' tk d acc'.toList hk (Nat.le_of_lt (Heap.lt_size hS')) hacc)
 ·obtain ⟨_,_,_,_,_,e',_⟩:=x
  cases e'
theorem sorted_set {ns:List Int} {Q:Value->Shared->Prop} (hh:A.handled=none) (hm:s.heap.SetA a es ep t) (hf:t.fits es.size=true) (hr:Ris t.place) (hled:t.led = !AY w) (h64:es.size<64) (hI:IntsAre (es.toList.map (·.2)) ns)
  (h : ∀ (h':Heap) (tk:Nat) d (D:Addr) (e:Nat) (out:List Value) (ns':List Int),IntsAre out ns'->ns'.Perm ns->ns'.Pairwise (· <= ·)->(∀ b o,s.heap.get? b=some o->h'.get? b=some o)->s.heap.objs.size<=D ->
   h'.get? D = some (seqObj "list" out.toArray e) -> Q (.ref D) { s with heap:=h',toks:=tk,drawn:=d }) :
  wpAny (model prog w) A (call (.builtin "sorted") [.ref a]) Q E s:= by
 refine call_function_entry kind_sorted plain_sorted entry_sorted (args_sorted1 _) ?_
 unfold Builtin.«sorted»
 refine wpAny_bind (m:=checkCount "sorted" 1 1 _) (wpAny_pure ?_)
 refine wpAny_bind (IP (A:=A.in1) hh hm hf hr hled (by rw[sizeLine_eq];omega) fun h' tk d acc hk hDs hacc=>?_)
 have hl:acc.length=es.size:=by rw[hacc.length_eq,List.length_map,Array.length_toList]
 obtain ⟨ms,hms,hmp⟩ : ∃ ms,IntsAre acc ms/\ms.Perm ns:= by
  obtain ⟨g1,g2⟩:=JZ hI
  refine ⟨acc.map numOf,num_ints fun v hv=>g1 v (hacc.mem_iff.mp hv),?_⟩
  rw[g2]
  exact hacc.map numOf
 refine wpAny_bind (wpAny_newList ?_ (by rw[hl,sizeLine_eq];omega))
 have hoL : (h'.push (seqObj "list" acc.toArray 0)).get? h'.objs.size = some (seqObj "list" acc.toArray 0):=Heap.get?_push_size _ rfl
 refine wpAny_bind (wpAny_holding (wpAny_call_entry slot_list_sort ⟨_,hoL,rfl⟩ entry_list_sort (list_sort_tree (s:={ s with heap:=h'.push (seqObj "list" acc.toArray 0),toks:=tk,drawn:=d }) hoL hms (by rw[hl]; exact h64) fun out ns' a1 a2 a3=>⟨_,rfl,?_⟩) (args_list_sort _)))
 obtain ⟨e,he⟩:=sortedHeap_at (out:=out) hoL (vs:=acc)
 refine wpAny_pure ⟨_,rfl,h _ tk d h'.objs.size e out.toList ns' a1 (a2.trans hmp) a3 (fun b o e'=>?_) hDs (by rw[Array.toArray_toList];exact he)⟩
 have h2:=Heap.get?_push_of_some (seqObj "list" acc.toArray 0) (hk b o e')
 rw[sortedHeap_old (Nat.ne_of_lt (Heap.lt_size (hk b o e'))) (Heap.lt_size h2)]
 exact h2
end
end PySem.W
namespace L2
open PySem PySem.Spec PyProof.Rows
section
variable {X:Cx} {K:PySem.W.Frag}
theorem Inv.drawn {pins:List (Addr × Obj)} {σ:St} {H:Hp} {s:Shared} (I:Inv X pins σ H s) (d:PySem.Drawn):Inv X pins σ H { s with drawn:=d }:=
 ⟨I.ok,I.os,I.bare,I.base,I.loc,I.cell,I.free,I.freeC,I.pin,I.hok,I.len⟩
theorem Iw (hc : X.calm = true:=by rfl) (h : X.K = K:=by rfl) : BW X (.builtin "sorted") (fun xs H Q=>∃ (a : Addr) (ms : List Int),xs = [.ref a] /\ H a = some (Qz X.w a ms) /\ ms.length < 64 /\
  ∀ (l:Addr) (ks:List Int),ks.Perm ms->ks.Pairwise (· <= ·)->H l=none->Q (.ref l) (upd H l (.lst (ks.map V.int)))):= by
 subst h
 intro pins s σ H xs us Q I r h
 obtain ⟨a,ms,rfl,ha,hl,q⟩:=h
 obtain ⟨u,rfl,ru⟩:=DE r
 cases ru
 obtain ⟨⟨o,es,ep,t,g1,g2,g3,g4,g5,g6,g7⟩,_⟩:=(show A8 X.prog X.w H s.heap a (Qz X.w a ms) from I.hok a _ ha)
 have h64:es.size<64:=by rw[<- Array.length_toList,<- List.length_map (f:=fun e=>numOf e.2),g7];exact hl
 have hI:IntsAre (es.toList.map (·.2)) ms:= by
  have:=PySem.W.num_ints (vs:=es.toList.map (·.2)) fun v hv=>by
   obtain ⟨e,he,rfl⟩:=List.mem_map.mp hv
   exact g6.2.1 e he
  rw[List.map_map] at this
  rw[<- g7];exact this
 refine PySem.W.sorted_set (I.ok.hd hc) ⟨o,g1,g2,g3⟩ g5 g6.1.1 g6.1.2 h64 hI fun h' tk d D e out ns' a1 a2 a3 hk hD he=>?_
 have hl2:ns'.length<64:=by rw[a2.length_eq];exact hl
 exact ⟨.ref D,_,(I.laid (t':=tk) (o:=.lst (ns'.map V.int)) hk hD (show A8 X.prog X.w _ _ _ (.lst (ns'.map V.int)) from ⟨Ah (by rw[List.length_map];omega),out,e,Dg a1,he⟩)).drawn d,rfl,q D ns' a2 a3 (I.hok.fresh hD)⟩
end
end L2
namespace L2
open PySem PySem.Spec PyProof.Rows
section
variable {prog:Program} {w:World} {A:Around} {R:Result->Shared->Prop} {s:Shared}
theorem Hd {kx vx target iter:Expr} {ifs:List Expr} {scope:Scope} {pos:Pos} {it:Value} {D:Addr} {env:Env} (Iv:Nat->Shared->Prop)
  (turn : ∀ n s,Iv n s->wpAny (model prog w) A (pyNext it) (fun r s₁=>match r with
   | none=>R (.ok .next) s₁
   | some v=>wpAny (model prog w) A (letOwnedTupleGo target it v) (fun _ s₁'=>wpAny (model prog w) A (assign target env v) (fun _ s₂=>
     wpAny (model prog w) A (forIn ifs true fun c r=>if r=true then do let ok <- isTrue c env (eval c env);pure (ForInStep.yield ok) else pure (ForInStep.yield r)) (fun ok s₃=>
      if ok=true then wpAny (model prog w) A (eval kx env) (fun kv s₄=>wpAny (model prog w) A (eval vx env) (fun vv s₅=>
       wpAny (model prog w) A (dictSet D kv vv) (fun _ s₆=>∃ m,m<n/\Iv m s₆) (fun _ _=>False) s₅) (fun _ _=>False) s₄) (fun _ _=>False) s₃
      else ∃ m,m<n/\Iv m s₃) (fun _ _=>False) s₂) (fun _ _=>False) s₁') (fun _ _=>False) s₁) (fun _ _=>False) s)
  (n:Nat) (h:Iv n s) :
  codeAny (model prog w) A (.compLoop (.DictComp kx vx [⟨target,iter,ifs,0⟩] scope pos) 0 it (.ref D) env) R s:= by
 refine codeAny_loop rfl Iv (fun n s hI=>?_) n h
 show wpAny _ A ((compTurn (.DictComp kx vx [⟨target,iter,ifs,0⟩] scope pos) 0 it (.ref D) env).onRaise (fun x=>do noteFrame x env;theTreesLotGoes x)) _ _ s
 refine wpAny_noted ?_
 rw[compTurn_dict]
 refine wpAny_bind (wpAny_standAt (wpAny_bind (wpAny_mono (turn n s hI) (fun r s₁ h₁=>?_) fun _ _ z=>z.elim)))
 cases r with
 | none=>exact wpAny_pure h₁
 | some v=>
  refine wpAny_bind (wpAny_mono h₁ (fun _ s₁' h₁'=>?_) fun _ _ z=>z.elim)
  refine wpAny_bind (wpAny_mono h₁' (fun _ s₂ h₂=>wpAny_bind (wpAny_mono h₂ (fun ok s₃ h₃=>?_) fun _ _ z=>z.elim)) fun _ _ z=>z.elim)
  cases ok with
  | false=>exact wpAny_pure ⟨rfl,h₃⟩
  | true=>
   exact wpAny_bind (wpAny_bind (wpAny_mono h₃ (fun kv s₄ h₄=>wpAny_bind (wpAny_holding (wpAny_mono h₄ (fun vv s₅ h₅=>wpAny_bind (wpAny_standAt (wpAny_holding (wpAny_mono h₅ (fun _ s₆ h₆=>wpAny_pure ⟨rfl,h₆⟩) fun _ _ z=>z.elim)))) fun _ _ z=>z.elim))) fun _ _ z=>z.elim))
end
section
variable {X:Cx} {pins:List (Addr × Obj)} {σ:St} {H:Hp} {s:Shared} {a:Addr} {A:Around} {E:Value->Shared->Prop} {y v:V} {u r:Value}
theorem MO {H':Hp} {Q:Unit->Shared->Prop} (hu:A.units<cLine) (I:Inv X pins σ H s) (g:KF H a y v H') (ry:Be y u) (rv:Be v r) (h : ∀ s',Inv X pins σ H' s'->Q () s') :
  wpAny (model X.prog X.w) A (dictSet a u r) Q E s:= by
 rcases g with ⟨kvs,k,e,ey,l,eH⟩ | ⟨kvs,k,b,e,ey,eb,l,eH⟩
 ·subst ey eH
  obtain ⟨z,hd,vs,rel,dd⟩:=Qc I.hok e
  have hz:vs.length<=sizeLine:=by rw[<- rel.length];exact z
  have hl:(EU kvs k v).length<=sizeLine:=by have:=CI kvs k v;omega
  refine wpAny_dictSet_pairs (hsz:=hz) (Kv ry) dd fun h' dd' hs=>h _ ?_
  have he : ∃ q,h'.get? a=some q:=let ⟨q,_,_,hq,_⟩:=dd';⟨q,hq⟩
  exact FS I (by rw[e];exact True.intro) hs he (Om hl hd (rel.put k rv) dd')
 ·subst ey eH
  cases (show u=Value.ref b from ry)
  obtain ⟨z,hd,xs,rel,dd⟩:=O2 I.hok e
  have hz:xs.length<=sizeLine:=by rw[<- Paired.length rel];exact z
  have hl:(EU kvs k v).length<=sizeLine:=by have:=CI kvs k v;omega
  refine wpAny_dictSet_heap (hsz:=hz) (show (tupleKind (Bb X.prog X.w)).room A from hu) (Fo I.hok eb) dd fun h' dd' hs=>h _ ?_
  obtain ⟨q,es,ep,hq,h2,h3,h4,_,h5⟩:=dd'
  refine FS I (by rw[e];exact True.intro) hs ⟨q,hq⟩ ⟨hl,hd,_,(rel.put k eb rv).keeps fun c ys ec=>?_,q,es,ep,hq,h2,h3,h4,h5⟩
  rw[Af (Cv ec e (fun z=>nomatch z))]
  exact ec
end
theorem NC {X:Cx} {N':List Str} {M:List (Option Nat)} {scope:Scope} {cl:List (Str × Addr)} {tg kx vx iter:Expr} {ifs:List Expr} {pos:Pos} {g:TG} {tc:TT} {tk tv:TE} {pins:List (Addr × Obj)} {σ:St} {H2:Hp} {s2:Shared}
  {it D:Addr} {fp:List Addr} {tn:Nat->Heap->Prop} {J:It} {F:Hp->Prop} {RR:Value->Addr->Result->Shared->Prop} {E:Value->Shared->Prop} (hu:X.A.units<cLine)
  (S:M3 X.N N' M scope X.env.scope) (hc:X.calm=true) (q1 : ∀ y c,cl.lookup y=some c->X.env.cells.lookup y=some c) (q2 : ∀ y,(y,NameKind.free) ∈ scope.names -> ∃ c,cl.lookup y=some c)
  (hg : ∀ C s H fp,PG (CY X N' scope cl C s H fp) tg g) (hf:Frm M g) (ht : ∀ C s H fp,PTs (CY X N' scope cl C s H fp) ifs tc) (hk : ∀ C s H fp,PE (CY X N' scope cl C s H fp) kx tk) (hv : ∀ C s H fp,PE (CY X N' scope cl C s H fp) vx tv)
  (I2:Inv X pins σ H2 s2) (T:MA X.prog X.w X.K tg J fp it tn) (st2:tn 0 s2.heap) (f2 : ∀ b ∈ fp,ES X pins H2 b)
  (hw : ∃ W:Nat->Nat->Hp->Prop,(∃ m,W 0 m H2) /\ ∀ i m H,W i m H ->
   ((J.stop i H/\F H)\/(J.go i H /\ ∃ N:Hp->Prop,(∀ H',N H' -> ∃ m',m'<m/\W (i+1) m' H') /\ ∀ x H',J.yld i H x H'->g x (Et M σ) H' fun σ2 H2=>tc σ2 H2 fun b H3=>
    if b=true then tk σ2 H3 fun kv H4=>tv σ2 H4 fun vv H5=>∃ H6,KF H5 D kv vv H6/\N H6 else N H3)))
  (hend : ∀ (C:Addr) (s':Shared) (H':Hp),Inv X pins σ H' s'->s2.heap.objs.size<=C->(∃ m,s'.heap.Ns C m)->H' C=none->F H'->RR (.ref D) C (.ok .next) s') :
  wpAny (model X.prog X.w) X.A (newFunctionEnv scope X.env.globals cl [] X.env.qual none .none (some X.env)) (fun cenv s₄=>
   codeAny (model X.prog X.w) X.A (.compStart (.DictComp kx vx [⟨tg,iter,ifs,0⟩] scope pos) 0 (.ref it) (.ref D) { cenv with scope:=relabel scope X.env }) (RR (.ref D) cenv.locals) s₄) E s2:= by
 obtain ⟨W,⟨m0,w0⟩,turn⟩:=hw
 refine wpAny_newFunctionEnv S.cell (by intro y hy;simp at hy) (fun h₁ hns₁ hsb₁=>?_) S.kind
 try dsimp only at hns₁ hsb₁ ⊢
 generalize hCC:s2.heap.objs.size=C at *
 have lo : ∀ b o,s2.heap.get? b=some o->b<C:=fun b o e=>hCC ▸ Heap.lt_size e
 have old : ∀ b o,s2.heap.get? b=some o->h₁.get? b=some o:=fun b o e=>hsb₁.extBut b o (Nat.ne_of_lt (lo b o e)) (Heap.get?_push_of_some _ e)
 have fpl : ∀ b ∈ fp,b<C:=fun b hb=>by
  obtain ⟨o,e,_⟩:=T.obj _ _ st2 b hb
  exact lo b o e
 have cel : ∀ y c,cl.lookup y=some c->c<C:=fun y c e=>by
  obtain ⟨v,z⟩:=I2.cell y c (q1 y c e)
  exact hCC ▸ z.lt
 generalize hX':CY X N' scope cl C s2 H2 fp=X'
 have envE:X'.env=compEnvC scope cl C X.env:=by rw[<- hX'];rfl
 have locE:X'.env.locals=C:=by rw[envE];rfl
 have fsE:X'.fs=frs X.stack:=by rw[<- hX'];rfl
 have fsl : ∀ b ∈ frs X.stack,b<C:=fun b hb=>by
  rcases List.mem_cons.mp (I2.stkSub b hb) with z | z
  ·rw[z];exact hCC ▸ I2.lt
  ·exact Nat.lt_of_not_le fun q=>I2.nofs (hCC ▸ q) z
 have relS : ∀ x k,scope.names.lookup x=some k -> ∃ k',X'.env.kindOf x=some k'/\(k'=k\/(k = .free/\k' = .cell)):=fun x k e=>by
  obtain ⟨k',e',q⟩:=Ch (env:=X.env) e
  exact ⟨k',by rw[envE];exact e',q⟩
 have relN : ∀ x,scope.names.lookup x=none->X'.env.kindOf x=none:=fun x e=>by
  rw[envE];exact Cl (env:=X.env) e
 have cellsE:X'.env.cells=cl:=by rw[envE];rfl
 have ok':X'.Ok:= by
  refine ⟨?mod,?kind,?glob,?blt,?above,?inj,?has,?cab,?hd,?frames,?stk,?exf,?bs,?bsz,?noex,?exfs,?funs,?frf⟩
  case mod=>rw[<- hX'];exact I2.ok.mod
  case kind=>rw[envE];exact S.kind
  case glob=>rw[envE];exact I2.ok.glob
  case blt=>rw[envE];exact I2.ok.blt
  case above=>rw[locE,<- hX'];show s2.heap.objs.size<=C;rw[hCC];exact Nat.le_refl _
  case inj=>intro x y c e1 e2;rw[cellsE] at e1 e2;exact I2.ok.inj x y c (q1 x c e1) (q1 y c e2)
  case has=>
   intro x hx
   rw[cellsE]
   cases e:scope.names.lookup x with
   | none=>rw[relN x e] at hx;rcases hx with z | z <;> cases z
   | some k=>
    obtain ⟨k',e',q⟩:=relS x k e
    rw[e'] at hx
    have kf:k = .free:= by
     rcases q with q | q
     ·rcases hx with z | z
      ·cases z;exact absurd q.symm (S.cell _ (PySem.mem_of_lookup e))
      ·cases z;exact q.symm
     ·exact q.1
    subst kf
    exact q2 x (PySem.mem_of_lookup e)
  case cab=>intro x c h;rw[<- hX'] at h;exact absurd h (by show ¬ (false=true);decide)
  case hd=>rw[<- hX'];exact I2.ok.hd
  case frames=>rw[<- hX'];exact I2.ok.frames
  case stk=>rw[<- hX'];exact .inl rfl
  case exf=>
   intro b hb
   have hb':b ∈ fp:=by rw[<- hX'] at hb;exact hb
   refine ⟨by rw[locE];exact Nat.ne_of_lt (fpl b hb'),fun x c e=>?_⟩
   rw[cellsE] at e
   exact (f2 b hb').2.2.2.2.1 x c (q1 x c e)
  case bs=>rw[<- hX'];exact I2.bs
  case bsz=>rw[<- hX'];exact Nat.le_trans I2.ok.bsz I2.sz
  case noex=>
   intro b o e hb
   have hb':b ∈ fp:=by rw[<- hX'] at hb;exact hb
   have e':X.base.get? b=some o:=by rw[<- hX'] at e;exact e
   rcases (f2 b hb').2.2.2.1 with z | z
   ·exact I2.ok.noex b o e' z
   ·exact absurd (Nat.lt_of_lt_of_le (Heap.lt_size e') (Nat.le_trans I2.ok.bsz z)) (Nat.lt_irrefl _)
  case exfs=>
   intro b hb
   have hb':b ∈ fp:=by rw[<- hX'] at hb;exact hb
   rw[fsE]
   intro z
   rcases List.mem_cons.mp (I2.stkSub b z) with q | q
   ·exact (f2 b hb').2.1 q
   ·exact (f2 b hb').2.2.1 q
  case funs=>rw[<- hX'];exact I2.stack
  case frf=>rw[fsE,<- hX'];exact I2.stkFree
 have c0:H2 C=none:=I2.hok.fresh (by rw[hCC];exact Nat.le_refl _)
 have I3:Inv X' [] (Et M σ) H2 { s2 with heap:=h₁,toks:=s2.toks+([]:List (Str × Value)).length }:= by
  refine ⟨ok',?os,?bare,?base,?loc,?cell,?free,?freeC,?pin,?hok,?len⟩
  case os=>rw[<- hX'];rfl
  case bare=>exact I2.bare
  case base=>rw[fsE,<- hX'];exact Un.kept old
  case loc=>
   refine ⟨_,by rw[locE];exact hns₁,fun i x v e1 e2 _=>?_⟩
   obtain ⟨j,eM,eσ⟩:=Ei e2
   obtain ⟨y,n1,n2,n3⟩:=S.at_ i j eM
   have e1':N'[i]?=some x:=by rw[<- hX'] at e1;exact e1
   rw[n1] at e1';cases e1'
   have hyf:(x,NameKind.free) ∈ scope.names:=PySem.mem_of_lookup n3
   have kd:=S.fre _ hyf rfl
   obtain ⟨m,hn,hl⟩:=id I2.loc
   obtain ⟨u,ru,lk⟩:=hl j x v n2 eσ (kd.elim (fun z=>.inr (.inl z)) fun z=>.inr (.inr z))
   refine ⟨u,ru,?_⟩
   rcases lk with ⟨k,_⟩ | ⟨k,c,ec,z⟩
   ·have k':X.env.scope.names.lookup x=some NameKind.local:=k
    rcases kd with q | q <;> (rw[k'] at q;cases q)
   ·obtain ⟨c',ec'⟩:=q2 x hyf
    have hcc:=q1 x c' ec'
    rw[ec] at hcc;cases hcc
    obtain ⟨k',e',q⟩:=relS x _ n3
    refine .inr ⟨?_,c,by rw[cellsE];exact ec',?_⟩
    ·rw[e'];rcases q with q | q
     ·right;rw[q]
     ·left;rw[q.2]
    ·obtain ⟨o,ho,hd'⟩:=z
     exact ⟨o,old _ _ ho,hd'⟩
  case cell=>
   intro x c e
   rw[cellsE] at e
   obtain ⟨v,o,ho,hd'⟩:=I2.cell x c (q1 x c e)
   exact ⟨v,o,old _ _ ho,hd'⟩
  case free=>rw[locE];exact c0
  case freeC=>intro x c e;rw[cellsE] at e;exact I2.freeC x c (q1 x c e)
  case pin=>intro p hp;rw[<- hX'] at hp;exact absurd (show p ∈ ([]:List (Addr × Obj)) from hp) (by simp)
  case hok=>rw[<- hX'];exact I2.hok.kept old
  case len=>rw[DQ,<- hX'];exact S.len.symm
 have xE : ∀ (e:Value) (s':Shared),¬ X'.xe e s':=fun e s' z=>by rw[<- hX'] at z;exact z
 have progE:X'.prog=X.prog:=by rw[<- hX'];rfl
 have wE:X'.w=X.w:=by rw[<- hX'];rfl
 have KE':X'.K=X.K:=by rw[<- hX'];rfl
 have AE:X'.A=X.A:=by rw[<- hX'];rfl
 have cE:X'.calm=true:=by rw[<- hX'];exact hc
 have exE:X'.ex=fp:=by rw[<- hX'];rfl
 have s0E:X'.s₀=s2:=by rw[<- hX'];rfl
 have pnE:X'.pn=[]:=by rw[<- hX'];rfl
 have hgX:PG X' tg g:=by rw[<- hX'];exact hg C s2 H2 fp
 have htX:PTs X' ifs tc:=by rw[<- hX'];exact ht C s2 H2 fp
 have hkX:PE X' kx tk:=by rw[<- hX'];exact hk C s2 H2 fp
 have hvX:PE X' vx tv:=by rw[<- hX'];exact hv C s2 H2 fp
 have stat : ∀ {H':Hp},(∀ b ∈ fp,H' b=none) -> ∀ b ∈ fp,ES X' [] H' b:=fun {H'} hn b hb=>by
  refine ⟨hn b hb,by rw[locE];exact Nat.ne_of_lt (fpl b hb),?_,.inl (by rw[exE];exact hb),fun x c e=>?_,fun p hp=>?_⟩
  ·exact ok'.exfs b (by rw[exE];exact hb)
  ·rw[cellsE] at e;exact (f2 b hb).2.2.2.2.1 x c (q1 x c e)
  ·rw[pnE,List.nil_append] at hp
   exact absurd hp (by simp)
 have loop:codeAny (model X.prog X.w) X.A (.compLoop (.DictComp kx vx [⟨tg,iter,ifs,0⟩] scope pos) 0 (.ref it) (.ref D) X'.env) (RR (.ref D) C) { s2 with heap:=h₁,toks:=s2.toks+([]:List (Str × Value)).length }:= by
  refine Hd (fun n s'=>∃ i H',Inv X' [] (Et M σ) H' s'/\tn i s'.heap/\(∀ b ∈ fp,H' b=none)/\W i n H') ?_ m0
   ⟨0,H2,I3,T.keep _ _ _ st2 fun b hb o e=>old b o e,fun b hb=>(f2 b hb).1,w0⟩
  rintro n s3 ⟨i,H3,J3,st3,fr3,w3⟩
  rcases turn i n H3 w3 with ⟨stop,qF⟩ | ⟨go,N,hN,step⟩
  ·have q:=T.done X' progE wE KE' cE i _ s3 _ H3 (fun _ _=>False) J3 (stat fr3) st3 stop
   rw[AE] at q
   refine thn q fun r s4 ⟨hr,J4⟩=>?_
   subst hr
   obtain ⟨mC,hnC,_⟩:=id J4.loc
   rw[locE] at hnC
   have b4:=J4.base
   rw[fsE,exE,s0E,show X'.H₀=H2 by rw[<- hX'];rfl] at b4
   refine hend C s4 H3 ?_ (Nat.le_refl _) ⟨mC,hnC⟩ (by have:=J4.free;rw[locE] at this;exact this) qF
   have hok4:=J4.hok
   rw[progE,wE] at hok4
   refine I2.call' (ch:=fp) (H':=H3) (by rw[J4.os,s0E]) b4 hok4 J4.bare fun b hb=>?_
   obtain ⟨f0,f1,f3,f4,f5,f6⟩:=f2 b hb
   exact ⟨f4,f1,f5,f6⟩
  ·have q:=T.item X' progE wE KE' cE i _ s3 _ H3 (fun _ _=>False) J3 (stat fr3) st3 go
   rw[AE] at q
   refine thn q fun r s4 ⟨u,hr,h4⟩=>?_
   subst hr
   dsimp only
   refine thn h4 fun _ s5 ⟨x,H5,J5,r5,y5,st5,fr5⟩=>?_
   have J5':=J5.pinned (stat fr5) (T.obj _ _ st5)
   have qg:=hgX _ s5 (Et M σ) H5 x u _ J5' r5 (hf _ _ _ _ (step x H5 y5))
   rw[progE,wE,AE] at qg
   refine wpAny_mono qg (fun _ s6 h6=>?_) fun e s' z=>xE e s' z
   obtain ⟨σ6,H6,J6,q6,l6,k6⟩:=h6
   have qt:=htX _ s6 σ6 H6 _ J6 q6
   rw[progE,wE,AE] at qt
   refine wpAny_mono qt (fun b s7 h7=>?_) fun e s' z=>xE e s' z
   obtain ⟨H7,J7,q7⟩:=h7
   have fin : ∀ {σ8:St} {H8:Hp} {s8:Shared},σ8=σ6->Inv X' ([]++Ee fp s5.heap) σ8 H8 s8 ->
     tn (i+1) s8.heap/\(∀ b ∈ fp,H8 b=none)/\Inv X' [] (Et M σ) H8 s8:=fun {σ8 H8 s8} e8 J8=>by
    subst e8
    refine ⟨T.keep _ _ _ st5 fun b hb o e=>(J8.pin (b,o) (List.mem_append_right _ (List.mem_append_right _ (Bt hb e)))).1,fun b hb=>?_,?_⟩
    ·obtain ⟨o,e,d⟩:=T.obj _ _ st5 b hb
     exact (J8.pin (b,o) (List.mem_append_right _ (List.mem_append_right _ (Bt hb e)))).2.1
    ·have J9:Inv X' [] σ8 H8 s8:=J8.pins_of fun p hp=>absurd hp (by simp)
     refine J9.weak (l6.symm) fun a v e=>?_
     obtain ⟨j,eM,_⟩:=Ei e
     rw[k6 a j eM];exact e
   cases b with
   | false=>
    rw[if_neg (by decide)] at q7
    rw[if_neg (by decide)]
    obtain ⟨m',hm,w7⟩:=hN _ q7
    obtain ⟨a3,a4,a5⟩:=fin rfl J7
    exact ⟨m',hm,i+1,H7,a5,a3,a4,w7⟩
   | true=>
    rw[if_pos rfl] at q7
    rw[if_pos rfl]
    have qe:=hkX _ s7 σ6 H7 _ J7 q7
    rw[progE,wE,AE] at qe
    refine wpAny_mono qe (fun v8 s8 h8=>?_) fun e s' z=>xE e s' z
    obtain ⟨y8,H8,J8,r8,n8⟩:=h8
    have qv:=hvX _ s8 σ6 H8 _ J8 n8
    rw[progE,wE,AE] at qv
    refine wpAny_mono qv (fun v9 s9 h9=>?_) fun e s' z=>xE e s' z
    obtain ⟨y9,H9,J9,r9,H10,g10,n10⟩:=h9
    obtain ⟨m',hm,w8⟩:=hN _ n10
    rw[<- progE,<- wE]
    refine MO hu J9 g10 r8 r9 fun s10 J10=>?_
    obtain ⟨a3,a4,a5⟩:=fin rfl J10
    exact ⟨m',hm,i+1,H10,a5,a3,a4,w8⟩
 have loop':codeAny (model X.prog X.w) X.A (.compLoop (.DictComp kx vx [⟨tg,iter,ifs,0⟩] scope pos) 0 (.ref it) (.ref D) (compEnvC scope cl C X.env)) (RR (.ref D) C) { s2 with heap:=h₁,toks:=s2.toks+([]:List (Str × Value)).length }:=envE ▸ loop
 exact codeAny_compStart_dict loop' (T.self _ 0 _ _ _ (T.keep _ _ _ st2 fun b hb o e=>old b o e) loop')
section
variable {X:Cx} {K:PySem.W.Frag} {N':List Str} {M:List (Option Nat)} {scope:Scope} {tg kx vx iter:Expr} {ifs:List Expr} {pos:Pos} {g:TG} {tc:TT} {tk tv:TE} {wi:TI}
def tDc (wi:TI) (M:List (Option Nat)) (g:TG) (tc:TT) (tk tv:TE):TE:=fun σ H Q=>wi σ H fun J H1=>∀ D,H1 D=none ->
 ∃ W:Nat->Nat->Hp->Prop,(∃ m,W 0 m (upd H1 D (.dT []))) /\ ∀ i m H,W i m H ->
  ((J.stop i H/\Q (.ref D) H)\/(J.go i H /\ ∃ N:Hp->Prop,(∀ H',N H' -> ∃ m',m'<m/\W (i+1) m' H') /\ ∀ x H',J.yld i H x H'->g x (Et M σ) H' fun σ2 H2=>tc σ2 H2 fun b H3=>
   if b=true then tk σ2 H3 fun kv H4=>tv σ2 H4 fun vv H5=>∃ H6,KF H5 D kv vv H6/\N H6 else N H3))
theorem RE (hu:X.A.units<cLine) (S:M3 X.N N' M scope X.env.scope) (hc:X.calm=true) (hi:PI X tg iter wi) (hg : ∀ cl C s H fp,PG (CY X N' scope cl C s H fp) tg g) (hf:Frm M g)
  (ht : ∀ cl C s H fp,PTs (CY X N' scope cl C s H fp) ifs tc) (hk : ∀ cl C s H fp,PE (CY X N' scope cl C s H fp) kx tk) (hv : ∀ cl C s H fp,PE (CY X N' scope cl C s H fp) vx tv)
  (hs : ∀ x,foldedSetIterable iter X.env x=pure x:=by intro _;rfl) :
  PE X (.DictComp kx vx [⟨tg,iter,ifs,0⟩] scope pos) (tDc wi M g tc tk tv):= by
 intro pins s σ H Q I h
 obtain ⟨cl,hclos,q1,q2⟩:=Fn S I
 rw[show eval (.DictComp kx vx [⟨tg,iter,ifs,0⟩] scope pos) X.env=comprehension (.DictComp kx vx [⟨tg,iter,ifs,0⟩] scope pos) scope X.env (firstIterPos [⟨tg,iter,ifs,0⟩] pos) newDict (firstAsync [⟨tg,iter,ifs,0⟩]) (firstIter [⟨tg,iter,ifs,0⟩] X.env) from rfl]
 refine wpAny_comprehension_free (use:=none) rfl hs hclos S.kind S.own (thn (hi pins s σ H _ I h) fun v s1 h1=>thn h1 fun itv s2 h2=>?_)
 obtain ⟨it,fp,tn,J,H2,e,I2,T,st2,f2,hw⟩:=h2
 subst e
 have hDn:H2 s2.heap.objs.size=none:=I2.hok.fresh (Nat.le_refl _)
 refine wpAny_newObj_type ?_
 have I3 : Inv X pins σ (upd H2 s2.heap.objs.size (.dT [])) { s2 with heap:=s2.heap.push { cls:=.type "dict",data:=.dict #[] },toks:=s2.toks }:=I2.laid (a:=s2.heap.objs.size) (o:=.dT []) (t':=s2.toks) (fun _ _ q=>Heap.get?_push_of_some _ q) (Nat.le_refl _) (E7 s2.heap I2.big)
 have f3 : ∀ b ∈ fp,ES X pins (upd H2 s2.heap.objs.size (.dT [])) b:=fun b hb=>by
  obtain ⟨f0,f1⟩:=f2 b hb
  obtain ⟨o,e,_⟩:=T.obj _ _ st2 b hb
  exact ⟨by rw[Af (Nat.ne_of_lt (Heap.lt_size e))];exact f0,f1⟩
 refine NC (RR:=fun acc C=>compPost (model X.prog X.w) X.A X.xe none (EP X pins σ Q) acc C) hu S hc q1 q2 (hg cl) hf (ht cl) (hk cl) (hv cl) I3 T (T.keep _ _ _ st2 fun b hb o e=>Heap.get?_push_of_some _ e) f3 (hw _ hDn) ?_
 intro C s' H' I' hC ⟨m,hn⟩ hCn q
 obtain ⟨y1,y2,y3,y4⟩:=I3.young hC
 exact ⟨m,hn,fun h' hs'=>⟨.ref s2.heap.objs.size,_,I'.gone (s':=s') hs' hCn y1 y2 y3 y4,rfl,q⟩⟩
theorem Inv.thawT {pins pins':List (Addr × Obj)} {σ σ':St} {H H':Hp} {s s':Shared} {d:Addr} {kvs kvs':List (List Key × V)} {o:Obj} (I:Inv X pins σ H s) (h:H d=some (.dT kvs)) (J:Inv X pins' σ' H' s') (h':H' d=some (.frz o (.dT kvs'))):Inv X pins' σ' (upd H' d (.dT kvs')) s':= by
 have nf : ∀ b ob u,X.H₀ b=some (.frz ob u)->b≠d:=fun b ob u e z=>by
  have:=I.base.frzs b ob u e
  rw[z,h] at this;cases this
 have nt : ∀ {b:Addr} {u:HO},H' b=some u->(∀ ob,u ≠ .frz ob (.dT kvs'))->b≠d:=fun {b u} e n z=>by rw[z,h'] at e;cases e;exact n _ rfl
 have nn : ∀ {b:Addr},H' b=none->upd H' d (.dT kvs') b=none:=fun {b} e=>by
  rw[Af (fun z=>by rw[z,h'] at e;cases e)];exact e
 refine ⟨J.ok,J.os,J.bare,⟨J.base.keep,J.base.slot,fun b o e n hx=>nn (J.base.free b o e n hx),J.base.there,fun b xs e=>?_,fun b ob u e=>?_,fun b ps e=>?_⟩,J.loc,J.cell,nn J.free,fun x c e=>nn (J.freeC x c e),fun p hp=>?_,fun b u e=>?_,J.len⟩
 ·have:=J.base.tups b xs e
  rw[Af (nt this fun _ z=>by cases z)];exact this
 ·rw[Af (nf b ob u e)];exact J.base.frzs b ob u e
 ·obtain ⟨more,e1⟩:=J.base.tbls b ps e
  exact ⟨more,by rw[Af (nt e1 fun _ z=>by cases z)];exact e1⟩
 ·obtain ⟨a1,a2,a3⟩:=J.pin p hp
  exact ⟨a1,nn a2,a3⟩
 ·by_cases hb:b=d
  ·subst hb
   rw[Ab] at e;cases e
   obtain ⟨_,q⟩:=(show s'.heap.get? b=some o/\A8 X.prog X.w H' s'.heap b (.dT kvs') from J.hok b _ h')
   refine q.stay (fun c v _ q=>q) (fun c q=>?_) fun c xs q=>?_
   ·rw[Af (nt q fun _ z=>by cases z)];exact q
   ·rw[Af (nt q fun _ z=>by cases z)];exact q
  ·rw[Af hb] at e
   refine (J.hok b u e).stay (fun c v _ q=>q) (fun c q=>?_) fun c xs q=>?_
   ·rw[Af (nt q fun _ z=>by cases z)];exact q
   ·rw[Af (nt q fun _ z=>by cases z)];exact q
def QJ (t:TE):TE:=fun σ H Q=>∃ d kvs,H d=some (.dT kvs)/\t σ H fun v H'=>∃ o,H' d=some (.frz o (.dT kvs))/\Q v (upd H' d (.dT kvs))
theorem M7 {e:Expr} {t:TE} (h:PE X e t):PE X e (QJ t):= by
 intro pins s σ H Q I q
 obtain ⟨d,kvs,hd,q⟩:=q
 refine thn (h pins s σ H _ I q) fun u s' ⟨v,H',J,r,o,e1,q1⟩=>?_
 exact ⟨v,_,Inv.thawT I hd J e1,r,q1⟩
def IkT (o:Obj) (d:Addr):It:=
  ⟨fun i H=>∃ kvs kv,H d=some (.frz o (.dT kvs))/\kvs[i]?=some kv,
   fun i H x H'=>∃ b k,x = .ref b/\H'=H/\H b=some (.tup (k.map kV)) /\ ∀ kvs,H d=some (.frz o (.dT kvs)) -> ∃ v,kvs[i]?=some (k,v),
   fun i H=>∃ kvs,H d=some (.frz o (.dT kvs))/\kvs.length<=i⟩
theorem K6 {P:Program} {w:World} {tg:Expr} {es:Array DictEntry} (o:Obj) (d it:Addr) (n ep:Nat) (hod:o.data = .dict es ep) (hn:es.size=n):MA P w K tg (IkT o d) [it] it (fun i h=>h.IsKeyIter it d i n ep) where
 mem:=by simp
 obj:=fun i h st b hb=>by
  have:b=it:=by simpa using hb
  subst this
  obtain ⟨ob,e,_,hd⟩:=st
  exact ⟨ob,e,fun v z=>by rw[hd] at z;cases z⟩
 keep:=fun i h h' st k=>st.at fun o e=>k it (by simp) o e
 item:= by
  intro X hP hw hK hc i pins s σ H E I hf st hg
  subst hP hw
  obtain ⟨kvs,⟨k,v⟩,hd,hx⟩:=hg
  obtain ⟨ho,hz,lo,qs,vs,es',ep',hod',hq,hm,hv⟩:=I.dictF hd
  rw[hod] at hod'
  injection hod' with e1 e2
  subst e1 e2
  obtain ⟨b,hb,hbi⟩:=Ay hq hx
  obtain ⟨u,hu,ru⟩:=hv.get (show (kvs.map (·.2))[i]?=some v by rw[List.getElem?_map,hx];rfl)
  have hz':((qs.map Value.ref).zip vs)[i]?=some (Value.ref b,u):=by rw[List.getElem?_zip_eq_some];exact ⟨by rw[List.getElem?_map,hbi];rfl,hu⟩
  have hlen:((qs.map Value.ref).zip vs).length=n:= by
   obtain ⟨o1,es1,h1,_,h3,h4⟩:=hm
   rw[ho] at h1;cases h1
   rw[hod] at h3;injection h3 with e3 _
   subst e3
   rw[<- h4,List.length_map,Array.length_toList,hn]
  rw[<- hlen] at st
  refine BB st hm hz' fun key h' ek it' hs=>?_
  subst ek
  obtain ⟨f0,f1,f2,f3,f4,f5⟩:=hf it (by simp)
  have I1:Inv X pins σ H { s with heap:=h',toks:=s.toks }:=I.turned (t':=s.toks) (fun c oc hc e=>(hs.2 c hc).trans e) f0 f1 f3 f4 f5
  obtain ⟨oi,hoi,hci,hdi⟩:=id it'
  rw[hlen] at it'
  refine ⟨_,rfl,PK (s:={ s with heap:=h' }) hoi hci hdi (by decide) ⟨.ref b,H,I1,rfl,⟨b,k,rfl,rfl,hb,fun kvs' h'=>?_⟩,it',fun c hc=>(hf c hc).1⟩⟩
  rw[hd] at h';cases h';exact ⟨v,hx⟩
 done:= by
  intro X hP hw hK hc i pins s σ H E I hf st hg
  subst hP hw
  obtain ⟨kvs,hd,hx⟩:=hg
  obtain ⟨ho,hz,lo,qs,vs,es',ep',hod',hq,hm,hv⟩:=I.dictF hd
  rw[hod] at hod'
  injection hod' with e1 e2
  subst e1 e2
  have hlen:((qs.map Value.ref).zip vs).length=n:= by
   obtain ⟨o1,es1,h1,_,h3,h4⟩:=hm
   rw[ho] at h1;cases h1
   rw[hod] at h3;injection h3 with e3 _
   subst e3
   rw[<- h4,List.length_map,Array.length_toList,hn]
  have hle:((qs.map Value.ref).zip vs).length<=i:= by
   rw[List.length_zip,List.length_map,<- hq.length]
   omega
  rw[<- hlen] at st
  obtain ⟨f0,f1,f2,f3,f4,f5⟩:=hf it (by simp)
  exact BF (I.ok.hd hc) st hm (List.getElem?_eq_none hle) fun h' he=>⟨rfl,I.turned (t':=s.toks) (fun c oc hc q=>he c oc hc q) f0 f1 f3 f4 f5⟩
 self:=fun _ _ _ _ _ st h=>wpAny_pyIter_keyiter st h
def QV (te:TE):TI:=fun σ H R=>te σ H fun x H1=>∃ d kvs,x = .ref d/\H1 d=some (.dT kvs) /\ ∀ o,R (IkT o d) (upd H1 d (.frz o (.dT kvs)))
theorem Kj {tg e:Expr} {te:TE} (he:PE X e te):PI X tg e (QV te):= by
 intro pins s σ H R I h
 refine thn (he pins s σ H _ I h) fun v s1 ⟨x1,H1,I1,r1,q1⟩=>?_
 obtain ⟨d,kvs,rfl,hd,hR⟩:=q1
 cases r1
 obtain ⟨hz,lo,qs,vs,ep,hq,hm,hv⟩:=I1.dictT hd
 obtain ⟨o,es,h1,h2,h3,h4⟩:=id hm
 have hn:es.size=((qs.map Value.ref).zip vs).length:=by rw[<- h4,List.length_map,Array.length_toList]
 refine Ci lo hm ?_
 have I2:=I1.freeze hd h1
 refine ⟨s1.heap.objs.size,[s1.heap.objs.size],_,_,_,rfl,I2.kept (t':=s1.toks) fun b ob e=>Heap.get?_push_of_some _ e,K6 o d _ ((qs.map Value.ref).zip vs).length ep h3 hn,⟨_,Heap.get?_push_size _ rfl,rfl,rfl⟩,fun b hb=>?_,hR o⟩
 have e:b=s1.heap.objs.size:=by simpa using hb
 subst e
 exact I2.fpOk (Nat.le_refl _) (I2.hok.fresh (Nat.le_refl _))
def Q3 (t:TS):TS:=fun D σ H=>∃ d kvs,H d=some (.dT kvs)/\t ⟨fun σ' H'=>∃ o,H' d=some (.frz o (.dT kvs))/\D.nx σ' (upd H' d (.dT kvs)),fun v H'=>∃ o,H' d=some (.frz o (.dT kvs))/\D.rt v (upd H' d (.dT kvs)),fun _ _=>False,fun _ _=>False⟩ σ H
theorem Nx {st:Stmt} {t:TS} (h:PS X st t):PS X st (Q3 t):= by
 intro pins s σ H D I q
 obtain ⟨d,kvs,hd,q⟩:=q
 refine thn (h pins s σ H _ I q) fun f s' q=>?_
 cases f with
 | next=>
  obtain ⟨σ',H',J,o,e,q⟩:=q
  exact ⟨σ',_,Inv.thawT I hd J e,q⟩
 | brk=>obtain ⟨_,_,_,z⟩:=q;exact z.elim
 | cont=>obtain ⟨_,_,_,z⟩:=q;exact z.elim
 | ret u=>
  obtain ⟨v,σ',H',J,r,o,e,q⟩:=q
  exact ⟨v,σ',_,Inv.thawT I hd J e,r,q⟩
end
end L2
namespace L2
open PySem PySem.Spec PyProof.Rows
inductive Say where
 | pair (u:Bool) (i j:Int)
 | cnt (m:Bool) (k:Int)
 deriving DecidableEq
def LY:Say->List V
 | .pair u i j=>[.str (if u then "unlike" else "alike"),.int i,.int j]
 | .cnt m k=>[.str (if m then "most" else "least"),.int k]
def Bn (n:Int):Say->Prop
 | .pair _ i j=>0<=i/\i<n/\0<=j/\j<n/\i≠j
 | .cnt _ k=>1<=k/\k<=n
structure Gst where
 L:List Int
 U:List (Int × Int)
 lo:Int
 hi:Int
def gat (L:List Int) (i:Int):Int:=L.getD i.toNat 0
def Iz (U:List (Int × Int)) (p:Int × Int):List (Int × Int):=if p ∈ U then U else U++[p]
theorem AJ {U:List (Int × Int)} {p q:Int × Int}:q ∈ Iz U p ↔ q ∈ U\/q=p:= by
 unfold Iz
 split
 ·rename_i h
  exact ⟨.inl,fun z=>z.elim id fun e=>e ▸ h⟩
 ·rw[List.mem_append,List.mem_singleton]
theorem GR {U:List (Int × Int)} {p:Int × Int} (h:U.Nodup):(Iz U p).Nodup:= by
 unfold Iz
 split
 ·exact h
 ·rename_i hn
  refine List.nodup_append.mpr ⟨h,by simp,fun a ha b hb=>?_⟩
  rw[List.mem_singleton] at hb
  subst hb
  rintro rfl
  exact hn ha
theorem Fk (U:List (Int × Int)) (p:Int × Int):(Iz U p).length<=U.length+1:= by
 unfold Iz;split
 ·omega
 ·simp
def GA (p:Int × Int):List Key:=[.inl p.1,.inl p.2]
theorem ND {p q:Int × Int}:GA p=GA q ↔ p=q:= by
 constructor
 ·intro h
  obtain ⟨a,b⟩:=p;obtain ⟨c,d⟩:=q
  simp [GA] at h
  rw[h.1,h.2]
 ·rintro rfl;rfl
def uKv (U:List (Int × Int)):List (List Key × V):=U.map fun p=>(GA p,.bl true)
theorem CC (U:List (Int × Int)):(uKv U).length=U.length:=by unfold uKv;rw[List.length_map]
theorem Fb (p:Int × Int) : ∀ U:List (Int × Int),Ex (uKv U) (GA p)=if p ∈ U then some (.bl true) else none
 | []=>rfl
 | q::U=>by
  show Ex ((GA q,V.bl true)::uKv U) _=_
  by_cases e:q=p
  ·rw[Du (by rw[e]),if_pos (by rw[e];exact List.mem_cons_self)]
  ·rw[CJ (fun z=>e (ND.mp z)),Fb p U]
   by_cases h:p ∈ U
   ·rw[if_pos h,if_pos (List.mem_cons_of_mem _ h)]
   ·rw[if_neg h,if_neg (fun z=>(List.mem_cons.mp z).elim (fun z=>e z.symm) h)]
theorem GZ (U:List (Int × Int)) (p:Int × Int):EU (uKv U) (GA p) (.bl true)=uKv (Iz U p):= by
 unfold Iz
 by_cases h:p ∈ U
 ·rw[if_pos h]
  unfold EU
  rw[Fc,Fb,if_pos h,if_pos (show (some (V.bl true)).isSome=true from rfl)]
  unfold uKv
  rw[List.map_map]
  refine List.map_congr_left fun q _=>?_
  show (if GA q=GA p then (GA q,V.bl true) else (GA q,V.bl true))=_
  split <;> rfl
 ·rw[if_neg h,Hk _ (by rw[Fb,if_neg h])]
  unfold uKv
  rw[List.map_append];rfl
def Gst.take (g:Gst):Say->Gst
 | .cnt false k=>{ g with lo:=max g.lo k }
 | .cnt true k=>{ g with hi:=min g.hi k }
 | .pair true i j=>{ g with U:=Iz (Iz g.U (i,j)) (j,i) }
 | .pair false i j=>{ g with L:=Cg g.L (max (gat g.L i) (gat g.L j)) (min (gat g.L i) (gat g.L j)) }
def Ky (n:Nat):Gst:=⟨rg n,[],1,n⟩
def By (n:Nat) (ss:List Say):Gst:=ss.foldl Gst.take (Ky n)
theorem IZ (n:Nat) (ss:List Say) (s:Say):By n (ss++[s])=(By n ss).take s:=by unfold By;rw[List.foldl_append];rfl
structure Gok (n:Nat) (g:Gst):Prop where
 len:g.L.length=n
 lab : ∀ i,i<n->0<=g.L.getD i 0/\g.L.getD i 0<=i/\g.L.getD (g.L.getD i 0).toNat 0=g.L.getD i 0
 un : ∀ p ∈ g.U,(0<=p.1/\p.1<n)/\(0<=p.2/\p.2<n)
 sy : ∀ p ∈ g.U,(p.2,p.1) ∈ g.U
 nd:g.U.Nodup
 lo1:1<=g.lo
 hi1:1<=g.hi
 lon:g.lo<=n
 hin:g.hi<=n
theorem Nd {n i:Nat} (h:i<n):(rg n).getD i 0=i:=by rw[List.getD_eq_getElem?_getD,Qx h];rfl
theorem Sk {n:Nat} (h1:1<=n):Gok n (Ky n):= by
 refine ⟨D3 n,fun i hi=>?_,fun p hp=>by simp [Ky] at hp,fun p hp=>by simp [Ky] at hp,List.nodup_nil,Int.le_refl _,?_,?_,Int.le_refl _⟩
 ·show 0<=(rg n).getD i 0/\(rg n).getD i 0<=i/\(rg n).getD ((rg n).getD i 0).toNat 0=(rg n).getD i 0
  rw[Nd hi]
  refine ⟨by omega,by omega,?_⟩
  rw[Int.toNat_natCast,Nd hi]
 ·show (1:Int)<=(n:Int);omega
 ·show (1:Int)<=(n:Int);omega
theorem LO {n:Nat} {L:List Int} {a b:Int} (len:L.length=n) (lab : ∀ i,i<n->0<=L.getD i 0/\L.getD i 0<=i/\L.getD (L.getD i 0).toNat 0=L.getD i 0) (ha:L.getD a.toNat 0=a) (h0:0<=a) (hab:a<=b) (hbn:b<n) :
  ∀ i,i<n->0<=(Cg L b a).getD i 0/\(Cg L b a).getD i 0<=i/\(Cg L b a).getD ((Cg L b a).getD i 0).toNat 0=(Cg L b a).getD i 0:= by
 intro i hi
 obtain ⟨l0,l1,l2⟩:=lab i hi
 rw[BT (by omega)]
 by_cases e:L.getD i 0=b
 ·rw[if_pos e]
  refine ⟨h0,by omega,?_⟩
  rw[BT (by omega),ha]
  split <;> rfl
 ·rw[if_neg e]
  refine ⟨l0,l1,?_⟩
  rw[BT (by omega),l2,if_neg e]
theorem Gok.at {n:Nat} {g:Gst} (h:Gok n g) {i:Int} (h0:0<=i) (hn:i<n):0<=gat g.L i/\gat g.L i<=i/\gat g.L (gat g.L i)=gat g.L i:= by
 have:=h.lab i.toNat (by omega)
 unfold gat
 exact ⟨this.1,by omega,this.2.2⟩
theorem Gok.take {n:Nat} {g:Gst} (h:Gok n g) {s:Say} (hs:Bn n s):Gok n (g.take s):= by
 obtain ⟨len,lab,un,sy,nd,lo1,hi1,lon,hin⟩:=id h
 cases s with
 | cnt m k=>
  obtain ⟨k1,k2⟩:=hs
  cases m
  ·exact ⟨len,lab,un,sy,nd,by show 1<=max _ _;omega,hi1,by show max _ _<=_;omega,hin⟩
  ·exact ⟨len,lab,un,sy,nd,lo1,by show 1<=min _ _;omega,lon,by show min _ _<=_;omega⟩
 | pair u i j=>
  obtain ⟨i0,i1,j0,j1,hij⟩:=hs
  cases u
  ·obtain ⟨a0,a1,a2⟩:=h.at i0 i1
   obtain ⟨b0,b1,b2⟩:=h.at j0 j1
   refine ⟨by show (Cg _ _ _).length=n;rw[EK];exact len,?_,un,sy,nd,lo1,hi1,lon,hin⟩
   refine LO len lab ?_ (by omega) (by omega) (by omega)
   rcases Int.le_total (gat g.L i) (gat g.L j) with e | e
   ·rw[show min (gat g.L i) (gat g.L j)=gat g.L i by omega];exact a2
   ·rw[show min (gat g.L i) (gat g.L j)=gat g.L j by omega];exact b2
  ·refine ⟨len,lab,fun p hp=>?_,fun p hp=>?_,GR (GR nd),lo1,hi1,lon,hin⟩
   ·rcases AJ.mp hp with hp | rfl
    ·rcases AJ.mp hp with hp | rfl
     ·exact un p hp
     ·exact ⟨⟨i0,i1⟩,j0,j1⟩
    ·exact ⟨⟨j0,j1⟩,i0,i1⟩
   ·show (p.2,p.1) ∈ Iz (Iz g.U (i,j)) (j,i)
    rcases AJ.mp hp with hp | rfl
    ·rcases AJ.mp hp with hp | rfl
     ·exact AJ.mpr (.inl (AJ.mpr (.inl (sy p hp))))
     ·exact AJ.mpr (.inr rfl)
    ·exact AJ.mpr (.inl (AJ.mpr (.inr rfl)))
theorem JS {n:Nat} : ∀ (ss:List Say) (g:Gst),Gok n g->(∀ s ∈ ss,Bn n s)->Gok n (ss.foldl Gst.take g)
 | [],_,h,_=>h
 | s::ss,g,h,hs=>JS ss _ (h.take (hs s List.mem_cons_self)) fun t ht=>hs t (List.mem_cons_of_mem _ ht)
theorem MJ {n:Nat} {ss:List Say} (h1:1<=n) (hs : ∀ s ∈ ss,Bn n s):Gok n (By n ss):=JS ss _ (Sk h1) hs
def IU (w:List Int):Say->Prop
 | .pair false i j=>gat w i=gat w j
 | .pair true i j=>gat w i≠gat w j
 | .cnt false k=>k<=fresh 0 w
 | .cnt true k=>fresh 0 w<=k
structure DP (n:Nat) (g:Gst) (w:List Int):Prop where
 al : ∀ i j,i<n->j<n->g.L.getD i 0=g.L.getD j 0->w.getD i 0=w.getD j 0
 un : ∀ p ∈ g.U,gat w p.1≠gat w p.2
 lo:g.lo<=fresh 0 w
 hi:fresh 0 w<=g.hi
theorem Nl {n:Nat} {L:List Int} {i j:Nat} {w:Nat->Int} (len:L.length=n) (hi:i<n) (hj:j<n) :
  (∀ x y,x<n->y<n->(Cg L (max (L.getD i 0) (L.getD j 0)) (min (L.getD i 0) (L.getD j 0))).getD x 0=(Cg L (max (L.getD i 0) (L.getD j 0)) (min (L.getD i 0) (L.getD j 0))).getD y 0->w x=w y) ↔
  (∀ x y,x<n->y<n->L.getD x 0=L.getD y 0->w x=w y)/\w i=w j:= by
 generalize ha:L.getD i 0=a
 generalize hb:L.getD j 0=b
 constructor
 ·intro h
  refine ⟨fun x y hx hy e=>h x y hx hy ?_,h i j hi hj ?_⟩
  ·rw[BT (by omega),BT (by omega),e]
  ·rw[BT (by omega),BT (by omega),ha,hb]
   split <;> split <;> omega
 ·rintro ⟨h1,h2⟩ x y hx hy e
  rw[BT (by omega),BT (by omega)] at e
  have wi : ∀ x,x<n->L.getD x 0=a->w x=w i:=fun x hx e=>h1 x i hx hi (by rw[e,ha])
  have wj : ∀ x,x<n->L.getD x 0=b->w x=w j:=fun x hx e=>h1 x j hx hj (by rw[e,hb])
  have wm : ∀ x,x<n->(L.getD x 0=a\/L.getD x 0=b)->w x=w i:=fun x hx e=>e.elim (wi x hx) fun e=>(wj x hx e).trans h2.symm
  by_cases e1:L.getD x 0=max a b
  ·rw[if_pos e1] at e
   by_cases e2:L.getD y 0=max a b
   ·exact h1 x y hx hy (by rw[e1,e2])
   ·rw[if_neg e2] at e
    rw[wm x hx (by omega),wm y hy (by omega)]
  ·rw[if_neg e1] at e
   by_cases e2:L.getD y 0=max a b
   ·rw[if_pos e2] at e
    rw[wm x hx (by omega),wm y hy (by omega)]
   ·rw[if_neg e2] at e
    exact h1 x y hx hy e
theorem Dl {n:Nat} {g:Gst} {w:List Int} {s:Say} (h:Gok n g) (hs:Bn n s):DP n (g.take s) w ↔ DP n g w/\IU w s:= by
 cases s with
 | cnt m k=>
  cases m
  ·constructor
   ·rintro ⟨a,b,c,d⟩
    have c:max g.lo k<=fresh 0 w:=c
    exact ⟨⟨a,b,by omega,d⟩,by show k<=_;omega⟩
   ·rintro ⟨⟨a,b,c,d⟩,e⟩
    have e:k<=fresh 0 w:=e
    exact ⟨a,b,by show max g.lo k<=_;omega,d⟩
  ·constructor
   ·rintro ⟨a,b,c,d⟩
    have d:fresh 0 w<=min g.hi k:=d
    exact ⟨⟨a,b,c,by omega⟩,by show _<=k;omega⟩
   ·rintro ⟨⟨a,b,c,d⟩,e⟩
    have e:fresh 0 w<=k:=e
    exact ⟨a,b,c,by show _<=min g.hi k;omega⟩
 | pair u i j=>
  obtain ⟨i0,i1,j0,j1,hij⟩:=hs
  cases u
  ·have M:=Nl (L:=g.L) (w:=fun x=>w.getD x 0) h.len (show i.toNat<n by omega) (show j.toNat<n by omega)
   constructor
   ·rintro ⟨a,b,c,d⟩
    obtain ⟨a1,a2⟩:=M.mp a
    exact ⟨⟨a1,b,c,d⟩,a2⟩
   ·rintro ⟨⟨a,b,c,d⟩,e⟩
    exact ⟨M.mpr ⟨a,e⟩,b,c,d⟩
  ·constructor
   ·rintro ⟨a,b,c,d⟩
    exact ⟨⟨a,fun p hp=>b p (AJ.mpr (.inl (AJ.mpr (.inl hp)))),c,d⟩,b (i,j) (AJ.mpr (.inl (AJ.mpr (.inr rfl))))⟩
   ·rintro ⟨⟨a,b,c,d⟩,e⟩
    refine ⟨a,fun p hp=>?_,c,d⟩
    rcases AJ.mp hp with hp | rfl
    ·rcases AJ.mp hp with hp | rfl
     ·exact b p hp
     ·exact e
    ·exact fun z=>e z.symm
theorem Iu {n:Nat} {w:List Int} : ∀ (ss:List Say) (g:Gst),Gok n g->(∀ s ∈ ss,Bn n s)->(DP n (ss.foldl Gst.take g) w ↔ DP n g w /\ ∀ s ∈ ss,IU w s)
 | [],g,h,hs=>⟨fun a=>⟨a,fun s hs=>by simp at hs⟩,fun a=>a.1⟩
 | s::ss,g,h,hs=>by
  have h1:=hs s List.mem_cons_self
  rw[List.foldl_cons,Iu ss _ (h.take h1) fun t ht=>hs t (List.mem_cons_of_mem _ ht),Dl h h1]
  exact ⟨fun ⟨⟨a,b⟩,c⟩=>⟨a,fun t ht=>(List.mem_cons.mp ht).elim (fun e=>e ▸ b) (c t)⟩,fun ⟨a,b⟩=>⟨⟨a,b s List.mem_cons_self⟩,fun t ht=>b t (List.mem_cons_of_mem _ ht)⟩⟩
theorem Ru {n:Nat} {w:List Int} (h1:1<=n) (hw:B3 0 w=true) (hl:w.length=n):DP n (Ky n) w:= by
 refine ⟨fun i j hi hj e=>?_,fun p hp=>by simp [Ky] at hp,?_,?_⟩
 ·have e:(rg n).getD i 0=(rg n).getD j 0:=e
  rw[Nd hi,Nd hj] at e
  rw[show i=j by omega]
 ·exact (L7 hw (by rintro rfl;simp at hl;omega)).1
 ·show fresh 0 w<=(n:Int)
  have:=N3 w;omega
theorem PX {n:Nat} {ss:List Say} {w:List Int} (h1:1<=n) (hs : ∀ s ∈ ss,Bn n s) (hw:B3 0 w=true) (hl:w.length=n):DP n (By n ss) w ↔ ∀ s ∈ ss,IU w s:= by
 unfold By
 rw[Iu ss _ (Sk h1) hs]
 exact ⟨fun a=>a.2,fun a=>⟨Ru h1 hw hl,a⟩⟩
def AV (n:Nat) (L:List Int):List Int:=(rg n).filter fun h=>decide (gat L h=h)
theorem RW (n:Nat):(rg n).Pairwise (· < ·):= by
 unfold rg
 rw[List.pairwise_map]
 exact List.pairwise_lt_range.imp fun h=>by omega
theorem Ed (n:Nat) (L:List Int):(AV n L).Pairwise (· < ·):=(RW n).sublist List.filter_sublist
theorem FO {n:Nat} {g:Gst} (h:Gok n g) {x:Int}:x ∈ AV n g.L ↔ x ∈ g.L:= by
 unfold AV
 rw[List.mem_filter,BV,decide_eq_true_eq]
 constructor
 ·rintro ⟨⟨x0,x1⟩,e⟩
  exact CO.mpr ⟨x.toNat,by rw[h.len];omega,e⟩
 ·intro hx
  obtain ⟨i,hi,e⟩:=CO.mp hx
  rw[h.len] at hi
  obtain ⟨l0,l1,l2⟩:=h.lab i hi
  rw[e] at l0 l1 l2
  exact ⟨⟨l0,by omega⟩,l2⟩
theorem MC : ∀ {xs ys:List Int},xs.Pairwise (· < ·)->ys.Pairwise (· < ·)->(∀ x,x ∈ xs ↔ x ∈ ys)->xs=ys
 | [],[],_,_,_=>rfl
 | [],y::ys,_,_,h=>absurd ((h y).mpr List.mem_cons_self) (by simp)
 | x::xs,[],_,_,h=>absurd ((h x).mp List.mem_cons_self) (by simp)
 | x::xs,y::ys,hx,hy,h=>by
  rw[List.pairwise_cons] at hx hy
  have e:x=y:= by
   rcases List.mem_cons.mp ((h x).mp List.mem_cons_self) with e | e
   ·exact e
   ·rcases List.mem_cons.mp ((h y).mpr List.mem_cons_self) with e2 | e2
    ·exact e2.symm
    ·have:=hy.1 x e;have:=hx.1 y e2;omega
  subst e
  rw[MC hx.2 hy.2 fun z=>⟨fun hz=>?_,fun hz=>?_⟩]
  ·rcases List.mem_cons.mp ((h z).mp (List.mem_cons_of_mem _ hz)) with e | e
   ·have:=hx.1 z hz;omega
   ·exact e
  ·rcases List.mem_cons.mp ((h z).mpr (List.mem_cons_of_mem _ hz)) with e | e
   ·have:=hy.1 z hz;omega
   ·exact e
theorem Nh {xs:List Int} (h:xs.Pairwise (· <= ·)) (hn:xs.Nodup):xs.Pairwise (· < ·):=
 (List.Pairwise.and h hn).imp fun ⟨a,b⟩=>by omega
theorem M8 {n:Nat} {g:Gst} (h:Gok n g) {ms ks:List Int} (hn:ms.Nodup) (hm : ∀ k,k ∈ ms ↔ k ∈ g.L) (hp:ks.Perm ms) (hs:ks.Pairwise (· <= ·)):ks=AV n g.L:=
 MC (Nh hs (hp.nodup_iff.mpr hn)) (Ed n _) fun x=>by rw[hp.mem_iff,hm,FO h]
theorem EH (n:Nat) (L:List Int):(AV n L).length<=n:= by
 have:=List.length_filter_le (fun h=>decide (gat L h=h)) (rg n)
 rw[D3] at this
 exact this
theorem I8 {xs ys:List Int} (hx:xs.Nodup) (hy:ys.Nodup) (h : ∀ z,z ∈ xs ↔ z ∈ ys):xs.Perm ys:=(List.perm_ext_iff_of_nodup hx hy).mpr h
theorem Hf {xs:List Int} (h:xs.Pairwise (· < ·)):xs.Nodup:=h.imp fun h=>by omega
theorem FR {n:Nat} {g:Gst} (h:Gok n g):fresh 0 (Bm g.L)=(AV n g.L).length:= by
 rw[(Gw g.L).2]
 congr 1
 exact (I8 (Kn _) (Hf (Ed n _)) fun z=>by rw[Eb,FO h]).length_eq
def Bc (L:List Int) (U:List (Int × Int)):List (Int × Int):=U.foldl (fun W p=>Iz W (gat L p.1,gat L p.2)) []
theorem EI {L:List Int} {q:Int × Int} : ∀ (U W:List (Int × Int)),q ∈ U.foldl (fun W p=>Iz W (gat L p.1,gat L p.2)) W ↔ q ∈ W \/ ∃ p ∈ U,q=(gat L p.1,gat L p.2)
 | [],W=>⟨.inl,fun z=>z.elim id fun ⟨p,hp,_⟩=>by simp at hp⟩
 | p::U,W=>by
  rw[List.foldl_cons,EI U,AJ]
  constructor
  ·rintro ((h | h) | ⟨p',hp,h⟩)
   ·exact .inl h
   ·exact .inr ⟨p,List.mem_cons_self,h⟩
   ·exact .inr ⟨p',List.mem_cons_of_mem _ hp,h⟩
  ·rintro (h | ⟨p',hp,h⟩)
   ·exact .inl (.inl h)
   ·rcases List.mem_cons.mp hp with rfl | hp
    ·exact .inl (.inr h)
    ·exact .inr ⟨p',hp,h⟩
theorem CB {L:List Int} {U:List (Int × Int)} {q:Int × Int}:q ∈ Bc L U ↔ ∃ p ∈ U,q=(gat L p.1,gat L p.2):= by
 unfold Bc
 rw[EI]
 exact ⟨fun z=>z.elim (fun z=>by simp at z) id,.inr⟩
theorem GJ (L:List Int) (U:List (Int × Int)) (p:Int × Int):Bc L (U++[p])=Iz (Bc L U) (gat L p.1,gat L p.2):=by unfold Bc;rw[List.foldl_append];rfl
theorem HS (L:List Int) : ∀ U:List (Int × Int),(Bc L U).length<=U.length:=fun U=>by
 refine Cj (P:=fun U=>(Bc L U).length<=U.length) (by simp [Bc]) (fun xs z ih=>?_) U
 rw[GJ,List.length_append]
 have:=Fk (Bc L xs) (gat L z.1,gat L z.2)
 simp;omega
inductive Pap where
 | ring (i j:Int)
 | counts
 | few
 | many (c:List Int)
 | cases (i j:Int) (p q:Pap)
def Hy (n:Nat):Gst->Pap->Prop
 | g,.ring i j=>(i,j) ∈ g.U/\gat g.L i=gat g.L j
 | g,.counts=>g.hi<g.lo
 | g,.few=>((AV n g.L).length:Int)<g.lo
 | g,.many c=>c.Nodup/\(∀ x ∈ c,0<=x/\x<n)/\g.hi<c.length/\c.Pairwise fun a b=>(gat g.L a,gat g.L b) ∈ Bc g.L g.U
 | g,.cases i j p q=>(0<=i/\i<n)/\(0<=j/\j<n)/\i≠j/\Hy n (g.take (.pair false i j)) p/\Hy n (g.take (.pair true i j)) q
theorem Nb {w c:List Int} (hw:B3 0 w=true) (hc : ∀ x ∈ c,0<=x/\x<w.length) (hp:c.Pairwise fun a b=>gat w a≠gat w b):(c.length:Int)<=fresh 0 w:= by
 have hn:(c.map (gat w)).Nodup:= by
  unfold List.Nodup
  rw[List.pairwise_map];exact hp
 have hsub : ∀ z ∈ c.map (gat w),z ∈ rg (fresh 0 w).toNat:=fun z hz=>by
  obtain ⟨x,hx,rfl⟩:=List.mem_map.mp hz
  obtain ⟨x0,x1⟩:=hc x hx
  have:=(JY w hw (gat w x)).mp (CO.mpr ⟨x.toNat,by omega,rfl⟩)
  rw[BV];omega
 have h:=Ck hn hsub
 rw[List.length_map,D3] at h
 have:0<=fresh 0 w:= by
  have:=(D4 w hw).2 (-1) List.mem_cons_self;omega
 omega
theorem KC {n:Nat} {g:Gst} {w:List Int} (h:Gok n g) (hf:DP n g w) {a b:Int} (ha:0<=a/\a<n) (hb:0<=b/\b<n) (hm:(gat g.L a,gat g.L b) ∈ Bc g.L g.U):gat w a≠gat w b:= by
 obtain ⟨p,hp,e⟩:=CB.mp hm
 have e1:gat g.L a=gat g.L p.1:=congrArg Prod.fst e
 have e2:gat g.L b=gat g.L p.2:=congrArg Prod.snd e
 obtain ⟨u1,u2⟩:=h.un p hp
 have f1:gat w a=gat w p.1:=hf.al a.toNat p.1.toNat (by omega) (by omega) e1
 have f2:gat w b=gat w p.2:=hf.al b.toNat p.2.toNat (by omega) (by omega) e2
 rw[f1,f2]
 exact hf.un p hp
theorem Jn {n:Nat} {g:Gst} {w:List Int} (h:Gok n g) (hw:B3 0 w=true) (hl:w.length=n) (hf:DP n g w):fresh 0 w<=(AV n g.L).length:= by
 have h0:0<=fresh 0 w:=by have:=(D4 w hw).2 (-1) List.mem_cons_self;omega
 have hsub : ∀ z ∈ rg (fresh 0 w).toNat,z ∈ (AV n g.L).map (gat w):=fun z hz=>by
  rw[BV] at hz
  obtain ⟨i,hi,e⟩:=CO.mp ((JY w hw z).mpr (by omega))
  obtain ⟨l0,l1,l2⟩:=h.lab i (by omega)
  refine List.mem_map.mpr ⟨g.L.getD i 0,(FO h).mpr (CO.mpr ⟨i,by rw[h.len];omega,rfl⟩),?_⟩
  rw[<- e]
  exact hf.al (g.L.getD i 0).toNat i (by omega) (by omega) l2
 have:=Ck (N7 _) hsub
 rw[D3,List.length_map] at this
 omega
theorem Fl {n:Nat} {w:List Int} (hw:B3 0 w=true) (hl:w.length=n) : ∀ (p:Pap) (g:Gst),Gok n g->Hy n g p -> ¬ DP n g w
 | .ring i j,g,h,hp,hf=>by
  obtain ⟨h1,h2⟩:=hp
  obtain ⟨u1,u2⟩:=h.un _ h1
  exact hf.un _ h1 (hf.al i.toNat j.toNat (by omega) (by omega) h2)
 | .counts,g,h,hp,hf=>by
  have hp:g.hi<g.lo:=hp
  have:=hf.lo;have:=hf.hi;omega
 | .few,g,h,hp,hf=>by
  have hp:((AV n g.L).length:Int)<g.lo:=hp
  have:=Jn h hw hl hf;have:=hf.lo;omega
 | .many c,g,h,hp,hf=>by
  obtain ⟨h1,h2,h3,h4⟩:=hp
  have:=Nb hw (c:=c) (fun x hx=>by have:=h2 x hx;omega) (h4.imp_of_mem fun {a b} ha hb q=>KC h hf (h2 a ha) (h2 b hb) q)
  have:=hf.hi;omega
 | .cases i j p q,g,h,hp,hf=>by
  obtain ⟨hi,hj,hij,hp1,hp2⟩:=hp
  have s1:Bn n (.pair false i j):=⟨hi.1,hi.2,hj.1,hj.2,hij⟩
  have s2:Bn n (.pair true i j):=⟨hi.1,hi.2,hj.1,hj.2,hij⟩
  by_cases e:gat w i=gat w j
  ·exact Fl hw hl p _ (h.take s1) hp1 ((Dl h s1).mpr ⟨hf,e⟩)
  ·exact Fl hw hl q _ (h.take s2) hp2 ((Dl h s2).mpr ⟨hf,e⟩)
theorem NG {n:Nat} {g:Gst} (h:Gok n g) (h1 : ∀ p ∈ g.U,gat g.L p.1≠gat g.L p.2) (h2:g.lo<=(AV n g.L).length) (h3:((AV n g.L).length:Int)<=g.hi):DP n g (Bm g.L):= by
 refine ⟨fun i j hi hj e=>(GD (by rw[h.len];exact hi) (by rw[h.len];exact hj)).mpr e,fun p hp e=>?_,by rw[FR h];exact h2,by rw[FR h];exact h3⟩
 obtain ⟨u1,u2⟩:=h.un p hp
 exact h1 p hp ((GD (by rw[h.len];omega) (by rw[h.len];omega)).mp e)
def Bd (n:Nat) (g:Gst):List (Int × Int):=(AV n g.L).flatMap fun x=>((AV n g.L).filter fun y=>decide (x<y) && !decide ((x,y) ∈ Bc g.L g.U)).map fun y=>(x,y)
theorem BA {n:Nat} {g:Gst} {q:Int × Int}:q ∈ Bd n g ↔ q.1 ∈ AV n g.L/\q.2 ∈ AV n g.L/\q.1<q.2/\q ∉ Bc g.L g.U:= by
 unfold Bd
 obtain ⟨a,b⟩:=q
 simp only [List.mem_flatMap,List.mem_map,List.mem_filter,Bool.and_eq_true,decide_eq_true_eq,Bool.not_eq_true',decide_eq_false_iff_not,Prod.mk.injEq]
 constructor
 ·rintro ⟨x,hx,y,⟨hy,h1,h2⟩,rfl,rfl⟩
  exact ⟨hx,hy,h1,h2⟩
 ·rintro ⟨hx,hy,h1,h2⟩
  exact ⟨a,hx,b,⟨hy,h1,h2⟩,rfl,rfl⟩
theorem El (n:Nat) (g:Gst):(Bd n g).Nodup:= by
 unfold Bd
 have hn:=Hf (Ed n g.L)
 generalize AV n g.L=hs at hn ⊢
 suffices h : ∀ (l:List Int),l.Nodup->(l.flatMap fun x=>(hs.filter fun y=>decide (x<y) && !decide ((x,y) ∈ Bc g.L g.U)).map fun y=>(x,y)).Nodup from h hs hn
 intro l
 induction l with
 | nil=>intro _;simp
 | cons a l ih=>
  intro hl
  rw[List.nodup_cons] at hl
  rw[List.flatMap_cons,List.nodup_append]
  refine ⟨?_,ih hl.2,fun p hp q hq e=>?_⟩
  ·unfold List.Nodup
   rw[List.pairwise_map]
   exact (hn.sublist List.filter_sublist).imp fun h e=>h (congrArg Prod.snd e)
  ·obtain ⟨y,_,rfl⟩:=List.mem_map.mp hp
   obtain ⟨x,hx,hq⟩:=List.mem_flatMap.mp hq
   obtain ⟨z,_,rfl⟩:=List.mem_map.mp hq
   exact hl.1 (by rw[show a=x from congrArg Prod.fst e];exact hx)
theorem Lv {α:Type} [DecidableEq α] {xs ys:List α} {a:α} (hx:xs.Nodup) (h : ∀ x ∈ xs,x ∈ ys) (ha:a ∈ ys) (hn:a ∉ xs):xs.length<ys.length:= by
 have:(a::xs).Nodup:=List.nodup_cons.mpr ⟨hn,hx⟩
 have:=Ck this (fun x hx=>(List.mem_cons.mp hx).elim (fun e=>e ▸ ha) (h x))
 rw[List.length_cons] at this;omega
theorem JC {n:Nat} {g:Gst} (hg:Gok n g) {x y:Int} (h:(x,y) ∈ Bd n g):(Bd n (g.take (.pair true x y))).length<(Bd n g).length:= by
 obtain ⟨h1,h2,h3,h4⟩:=BA.mp h
 have fx:gat g.L x=x:=by have:=(List.mem_filter.mp h1).2;simpa using this
 have fy:gat g.L y=y:=by have:=(List.mem_filter.mp h2).2;simpa using this
 have sub : ∀ q,q ∈ Bc g.L g.U->q ∈ Bc g.L (g.take (.pair true x y)).U:=fun q hq=>by
  obtain ⟨p,hp,e⟩:=CB.mp hq
  exact CB.mpr ⟨p,AJ.mpr (.inl (AJ.mpr (.inl hp))),e⟩
 refine Lv (El n _) (fun q hq=>?_) h fun hc=>?_
 ·obtain ⟨a,b,c,d⟩:=BA.mp hq
  exact BA.mpr ⟨a,b,c,fun z=>d (sub q z)⟩
 ·obtain ⟨_,_,_,d⟩:=BA.mp hc
  refine d (CB.mpr ⟨(x,y),AJ.mpr (.inl (AJ.mpr (.inr rfl))),?_⟩)
  show (x,y)=(gat g.L x,gat g.L y)
  rw[fx,fy]
theorem FL {L:List Int} {o m i:Int} {n:Nat} (hl:L.length=n) (h0:0<=i) (h1:i<n):gat (Cg L o m) i=if gat L i=o then m else gat L i:=BT (by omega)
theorem Kq {n:Nat} {g:Gst} (hg:Gok n g) {x y:Int} (h:(x,y) ∈ Bd n g):(Bd n (g.take (.pair false x y))).length<(Bd n g).length:= by
 obtain ⟨h1,h2,h3,h4⟩:=BA.mp h
 have fx:gat g.L x=x:=by have:=(List.mem_filter.mp h1).2;simpa using this
 have fy:gat g.L y=y:=by have:=(List.mem_filter.mp h2).2;simpa using this
 have eL:(g.take (.pair false x y)).L=Cg g.L y x:= by
  show Cg g.L (max (gat g.L x) (gat g.L y)) (min (gat g.L x) (gat g.L y))=_
  rw[fx,fy,show max x y=y by omega,show min x y=x by omega]
 have rx:=BV.mp (List.mem_filter.mp h1).1
 have ry:=BV.mp (List.mem_filter.mp h2).1
 have hh : ∀ z,z ∈ AV n (Cg g.L y x)->z ∈ AV n g.L/\z≠y:=fun z hz=>by
  obtain ⟨a,b⟩:=List.mem_filter.mp hz
  have b:gat (Cg g.L y x) z=z:=by simpa using b
  have rz:=BV.mp a
  rw[FL hg.len rz.1 rz.2] at b
  by_cases e:gat g.L z=y
  ·rw[if_pos e] at b
   subst b
   rw[fx] at e;omega
  ·rw[if_neg e] at b
   exact ⟨List.mem_filter.mpr ⟨a,by simpa using b⟩,fun z'=>e (by rw[b];exact z')⟩
 refine Lv (El n _) (fun q hq=>?_) h fun hc=>?_
 ·obtain ⟨a,b,c,d⟩:=BA.mp hq
  rw[eL] at a b d
  obtain ⟨a1,a2⟩:=hh _ a
  obtain ⟨b1,b2⟩:=hh _ b
  refine BA.mpr ⟨a1,b1,c,fun z=>d ?_⟩
  obtain ⟨p,hp,e⟩:=CB.mp z
  have e1:q.1=gat g.L p.1:=congrArg Prod.fst e
  have e2:q.2=gat g.L p.2:=congrArg Prod.snd e
  obtain ⟨u1,u2⟩:=hg.un p hp
  refine CB.mpr ⟨p,hp,?_⟩
  rw[FL hg.len u1.1 u1.2,FL hg.len u2.1 u2.2,if_neg (by rw[<- e1];exact a2),if_neg (by rw[<- e2];exact b2)]
  exact e
 ·obtain ⟨_,b,_,_⟩:=BA.mp hc
  rw[eL] at b
  exact (hh _ b).2 rfl
def Qj:List (Int × Int):=(rg 9).flatMap fun x=>((rg 9).filter fun y=>decide (x<y)).map fun y=>(x,y)
theorem Ih:Qj.length=36:=by decide +kernel
theorem LH {n:Nat} (g:Gst) (h9:n<=9):(Bd n g).length<=36:= by
 rw[<- Ih]
 refine Ck (El n g) fun q hq=>?_
 obtain ⟨a,b,c,d⟩:=BA.mp hq
 have a:=BV.mp (List.mem_filter.mp a).1
 have b:=BV.mp (List.mem_filter.mp b).1
 unfold Qj
 refine List.mem_flatMap.mpr ⟨q.1,BV.mpr (by omega),List.mem_map.mpr ⟨q.2,List.mem_filter.mpr ⟨BV.mpr (by omega),by simpa using c⟩,rfl⟩⟩
end L2
namespace PySem
section
variable {prog:Program} {w:World} {A:Around} {E:Value->Shared->Prop} {s:Shared}
theorem EX {nm:String} {d o:Addr} {oo:Obj} {epo:Nat} {Q:Unit->Shared->Prop} (hdo:d≠o) (hoS:(o==sysModules)=false)
  (hoo:s.heap.get? o=some oo) (hdo':oo.data = .dict #[] epo) (hQ:Q () s):wpAny (model prog w) A (Builtin.Dict.mergeDict nm d o) Q E s:= by
 unfold Builtin.Dict.mergeDict
 rw[if_neg (by simpa using hdo)]
 unfold Builtin.Dict.showsAll
 rw[if_neg (by rw[hoS];exact Bool.false_ne_true)]
 refine wpAny_bind (wpAny_pure ?_)
 refine wpAny_bind (wpAny_dictEntries hoo hdo' ?_)
 dsimp only
 rw[if_neg (by simp)]
 refine wpAny_bind (wpAny_dictEpoch hoo hdo' ?_)
 refine wpAny_bind (wpAny_dictEntries hoo hdo' ?_)
 refine wpAny_bind ?_
 rw[show (#[]:Array DictEntry).size=0 from rfl]
 simp only [Std.Legacy.Range.forIn_eq_forIn_range',Std.Legacy.Range.size,List.range',List.forIn_nil]
 exact wpAny_pure (wpAny_pure hQ)
theorem K8 {o:Addr} {oo:Obj} {epo:Nat} {Q:Value->Shared->Prop} (hoS:(o==sysModules)=false) (hoo:s.heap.get? o=some oo) (hoc:oo.ExactDict) (hdo':oo.data = .dict #[] epo)
  (h : Q (.ref s.heap.objs.size) { s with heap:=s.heap.push { cls:=.type "dict",data:=.dict #[] } }) :
  wpAny (model prog w) A (call (.type "dict") [.ref o]) Q E s:= by
 refine callType_codes (Q₁:=fun obj s₁=>obj = .ref s.heap.objs.size /\ s₁ = { s with heap:=s.heap.push { cls:=.type "dict",data:=.dict #[] } }) F.kt_called_dict (F.kt_typeCall_dict_1 _) F.entry_dict_init (kt_code_dict_new _ ⟨rfl,rfl⟩) ?_
 rintro obj s₁ ⟨rfl,rfl⟩
 have hnew : (s.heap.push { cls:=.type "dict",data:=.dict #[] }).get? s.heap.objs.size = some { cls:=.type "dict",data:=.dict #[] }:=Heap.get?_push_size _ rfl
 have hT1 : (⟨s.heap.push { cls:=.type "dict",data:=.dict #[] },s.gens,s.drawn,s.toks,s.os⟩ : Shared).TypeIs (.ref s.heap.objs.size) "dict":=⟨_,hnew,rfl⟩
 have hoo':=Heap.get?_push_of_some { cls:=.type "dict",data:=.dict #[] } hoo
 have hT2 : (⟨s.heap.push { cls:=.type "dict",data:=.dict #[] },s.gens,s.drawn,s.toks,s.os⟩ : Shared).TypeIs (.ref o) "dict":=⟨_,hoo',hoc.1⟩
 have hdo:s.heap.objs.size≠o:=fun e=>absurd (Heap.lt_size hoo) (by rw[e];exact Nat.lt_irrefl _)
 refine ⟨hT1,F.args_dict_init_2 _ _,?_⟩
 unfold Builtin.«dict.__init__»
 refine wpAny_bind ?_
 unfold Builtin.Dict.selfAndRest
 refine wpAny_bind (wpAny_notOrdered_dict hT1 ?_)
 show wpAny _ _ (pure (s.heap.objs.size,[Value.ref o])) _ _ _
 refine wpAny_pure ?_
 show wpAny _ _ (Builtin.Dict.updateFrom "dict.__init__" s.heap.objs.size (.ref o) [] .none) _ _ _
 unfold Builtin.Dict.updateFrom
 refine wpAny_bind (wpAny_typeOf hT2 ?_)
 rw[if_neg (by decide)]
 refine wpAny_bind ?_
 unfold Builtin.Dict.merge
 refine wpAny_bind ?_
 unfold Builtin.Dict.readDirectly
 refine wpAny_bind (wpAny_isInstance hT2 isSubtype_dict_dict ?_)
 simp only [Bool.not_true,Bool.false_eq_true,if_false]
 refine wpAny_bind (wpAny_specialOf hT2 F.slot_dict_iter.lookup (wpAny_pure ?_))
 simp only [beq_self_eq_true,if_true]
 refine wpAny_bind (wpAny_pure ?_)
 refine EX hdo hoS hoo' hdo' ?_
 show wpAny _ _ (Builtin.Dict.addKeywords s.heap.objs.size [] >>= _) _ _ _
 refine wpAny_bind (wpAny_pure (wpAny_pure ⟨rfl,h⟩))
end
end PySem
namespace L2
open PySem PySem.Spec PyProof.Rows
section
variable {X:Cx} {K:PySem.W.Frag}
theorem Kp : BW X (.type "dict") (fun xs H Q=>∃ (d : Addr) (kvs : List (List Key × V)),xs = [.ref d] /\ H d = some (.dT kvs) /\ (kvs.map fun kv=>hT X.prog X.w kv.1).Nodup /\ ∀ p,H p = none -> Q (.ref p) (upd H p (.dT kvs))):= by
 intro pins s σ H xs us Q I r h
 obtain ⟨d,kvs,rfl,hd,hnd,q⟩:=h
 by_cases hne:kvs=[]
 ·subst hne
  obtain ⟨u,rfl,ru⟩:=DE r
  cases (show u=Value.ref d from ru)
  obtain ⟨z,lo,xs,rel,o,es,ep,h1,h2,h3,h4,h5⟩:=(show A8 X.prog X.w H s.heap d (.dT []) from I.hok d _ hd)
  cases rel
  have he:es = #[]:=by rw[<- Array.toList_inj];exact h4
  subst he
  refine K8 lo h1 h2 h3 ?_
  exact ⟨.ref s.heap.objs.size,_,I.laid (a:=s.heap.objs.size) (o:=.dT []) (t':=s.toks) (fun _ _ q=>Heap.get?_push_of_some _ q) (Nat.le_refl _) (E7 s.heap I.big),rfl,q _ (I.hok.fresh (Nat.le_refl _))⟩
 ·exact Ku pins s σ H _ us Q I r ⟨d,kvs,rfl,hd,hne,hnd,q⟩
open PyProof.Rows.KTD in
def LN (base:Heap) (a:Addr) (D:List (Str × Int)):Prop:=TextTab base a (D.map fun p=>(p.1,Dat.flat (PyData.int p.2)))
def Ry (e:DictEntry) (p:Str × Int):Bool:=(match e.key with | .str x _=>x==p.1 | _=>false)&&(match e.val with | .int n _=>n==p.2 | _=>false)
def NP:List DictEntry->List (Str × Int)->Bool
 | [],[]=>true
 | e::es,p::D=>Ry e p&&NP es D
 | _,_=>false
def Pa (K:PySem.W.Frag) (a:Addr) (D:List (Str × Int)):Bool:=!(a==sysModules)&&match K.lookup a with
 | some ⟨.type "dict",none,.dict es _,sl⟩=>sl.isEmpty && NP es.toList D
 | _=>false
theorem O9 {e:DictEntry} {p:Str × Int} (h:Ry e p=true) : ∃ t,e.key = .str p.1 t /\ ∃ t',e.val = .int p.2 t':= by
 unfold Ry at h
 rw[Bool.and_eq_true] at h
 obtain ⟨h1,h2⟩:=h
 cases hk:e.key <;> rw[hk] at h1 <;> try cases h1
 cases hv:e.val <;> rw[hv] at h2 <;> try cases h2
 rename_i x t n t'
 have e1:=eq_of_beq h1
 have e2:=eq_of_beq h2
 subst e1 e2
 exact ⟨t,rfl,t',rfl⟩
open PyProof.Rows.KTD in
theorem Lr {h:Heap} : ∀ {es:List DictEntry} {D:List (Str × Int)},NP es D=true->Rows (Dat.At h) es (D.map fun p=>(p.1,Dat.flat (PyData.int p.2)))
 | [],[],_=>.nil
 | [],_::_,h=>by cases h
 | _::_,[],h=>by cases h
 | e::es,p::D,h=>by
  rw[NP,Bool.and_eq_true] at h
  obtain ⟨t,hk,t',hv⟩:=O9 h.1
  refine .cons hk ?_ (Lr h.2)
  rw[hv]
  exact PyProof.V.Flat.int _ _
theorem Mj {K:PySem.W.Frag} {base:Heap} {a:Addr} {D:List (Str × Int)} (kb:K.In base) (h:Pa K a D=true):LN base a D:= by
 unfold Pa at h
 rw[Bool.and_eq_true] at h
 obtain ⟨h1,h2⟩:=h
 split at h2
 ·rename_i es ep sl e
  rw[Bool.and_eq_true] at h2
  refine ⟨by simpa using h1,_,es,ep,kb _ _ e,⟨rfl,rfl,Array.isEmpty_iff.mp h2.1⟩,rfl,Lr h2.2⟩
 ·cases h2
def lkD:List (Str × Int)->Str->V
 | [],_=>.non
 | (x,n)::D,k=>if k=x then .int n else lkD D k
open PyProof.Rows.KTD in
theorem Mr {h:Heap} {P:Value->Prop} {k:Str} : ∀ {D:List (Str × Int)},(∀ v,Be (lkD D k) v->P v)->Each h k P (P .none) (D.map fun p=>(p.1,Dat.flat (PyData.int p.2)))
 | [],q=>q _ rfl
 | (x,n)::D,q=>by
  rw[lkD] at q
  show if decide (k=x)=true then Opened h P (.flat (.int n)) else Each h k P (P .none) _
  by_cases e:k=x
  ·rw[if_pos (decide_eq_true e)]
   rw[if_pos e] at q
   exact opened_int fun t=>q _ ⟨t,rfl⟩
  ·rw[if_neg (by simpa using e)]
   rw[if_neg e] at q
   exact Mr q
def RX (D:List (Str × Int)) (ty:TE):TE:=fun σ H Q=>ty σ H fun y H1=>∃ k,y = .str k/\Q (lkD D k) H1
theorem P1 {o e : Expr} {apos cpos : Pos} {ty : TE} {a : Addr} {D : List (Str × Int)} (T : LN X.base a D) (ho : PE X o (tC (.ref a))) (he : PE X e ty) (m : M1 X o "get" apos e cpos) : PE X (.Call (.Attribute o "get" apos) [e] [] cpos) (RX D ty):= by
 intro pins s σ H Q I h
 refine wpAny_Call_method m.base m.few m.line PySem.F.plainAttrs_dict PySem.F.slot_dict_get PySem.F.type_dict_get (thn (ho pins s σ H (fun x H'=>x = .ref a/\H'=H) I ⟨rfl,rfl⟩) fun u s1 ⟨x,H1,I1,rx,ex,eH⟩=>?_)
 subst ex eH
 obtain rfl:u=Value.ref a:=rx
 have hh : ∀ s':Shared,Inv X pins σ H1 s'->PyProof.Rows.KTD.Here X.base s'.heap a (D.map fun p=>(p.1,PyProof.Rows.KTD.Dat.flat (PyData.int p.2))):=fun s' I'=>⟨T,I'.bk⟩
 refine ⟨(hh s1 I1).typeIs,(hh s1 I1).noDict,?_⟩
 rw[m.trees]
 refine Calls.callWith_builtin rfl (Calls.evalArgs_plain (Calls.spliced_cons (thn (he pins s1 σ H1 _ I1 h) fun iv s2 ⟨y,H2,I2,ry,k,ey,q2⟩=>Calls.spliced_nil ?_)))
 subst ey
 obtain ⟨t,rfl⟩:=ry
 have h2:PyProof.Rows.KTD.Here X.base s2.heap a (D.map fun p=>(p.1,PyProof.Rows.KTD.Dat.flat (PyData.int p.2))):=⟨T,I2.bk⟩
 exact PyProof.Rows.KTD.get1_text h2 (Mr fun v rv=>⟨_,H2,I2.tok _,rv,q2⟩)
end
end L2
namespace L2
open PySem PySem.Spec PyProof.Rows
def gF (l d : Addr) (lo hi : Int) : List (Str × V):=[("labels",.ref l),("unlikes",.ref d),("low",.int lo),("high",.int hi)]
theorem MI (l d : Addr) (lo hi : Int) : CL "high" (.int hi) (CL "low" (.int lo) (CL "unlikes" (.ref d) (CL "labels" (.ref l) []))) = gF l d lo hi:= by
 have n1 : ¬ ("labels" : Str) = "unlikes":=by decide +kernel
 have n2 : ¬ ("labels" : Str) = "low":=by decide +kernel
 have n3 : ¬ ("labels" : Str) = "high":=by decide +kernel
 have n4 : ¬ ("unlikes" : Str) = "low":=by decide +kernel
 have n5 : ¬ ("unlikes" : Str) = "high":=by decide +kernel
 have n6 : ¬ ("low" : Str) = "high":=by decide +kernel
 simp only [CL,if_neg n1,if_neg n2,if_neg n3,if_neg n4,if_neg n5,if_neg n6,gF]
theorem Qt (l d : Addr) (lo hi z : Int) : CL "low" (.int z) (gF l d lo hi) = gF l d z hi:= by
 have n2 : ¬ ("labels" : Str) = "low":=by decide +kernel
 have n4 : ¬ ("unlikes" : Str) = "low":=by decide +kernel
 simp only [gF,CL,if_neg n2,if_neg n4,if_pos]
theorem Pr (l d : Addr) (lo hi z : Int) : CL "high" (.int z) (gF l d lo hi) = gF l d lo z:= by
 have n3 : ¬ ("labels" : Str) = "high":=by decide +kernel
 have n5 : ¬ ("unlikes" : Str) = "high":=by decide +kernel
 have n6 : ¬ ("low" : Str) = "high":=by decide +kernel
 simp only [gF,CL,if_neg n3,if_neg n5,if_neg n6,if_pos]
theorem Mh (l m d : Addr) (lo hi : Int) : CL "labels" (.ref m) (gF l d lo hi) = gF m d lo hi:= by
 simp only [gF,CL,if_pos]
theorem Ms (l d : Addr) (lo hi : Int) (x : Str) : (gF l d lo hi).lookup x = if x = "high" then some (.int hi) else if x = "low" then some (.int lo) else if x = "unlikes" then some (.ref d) else if x = "labels" then some (.ref l) else none:= by
 rw[<- MI];simp only [BM,List.lookup_nil]
theorem DL (l d : Addr) (lo hi : Int) : (gF l d lo hi).lookup ("labels" : Str) = some (.ref l):=by rw[Ms,if_neg (by decide +kernel),if_neg (by decide +kernel),if_neg (by decide +kernel),if_pos rfl]
theorem Ir (l d : Addr) (lo hi : Int) : (gF l d lo hi).lookup ("unlikes" : Str) = some (.ref d):=by rw[Ms,if_neg (by decide +kernel),if_neg (by decide +kernel),if_pos rfl]
theorem Hm (l d : Addr) (lo hi : Int) : (gF l d lo hi).lookup ("low" : Str) = some (.int lo):=by rw[Ms,if_neg (by decide +kernel),if_pos rfl]
theorem FQ (l d : Addr) (lo hi : Int) : (gF l d lo hi).lookup ("high" : Str) = some (.int hi):=by rw[Ms,if_pos rfl]
theorem IW (l d : Addr) (lo hi : Int) {m : Str} (h1 : ¬ m = "high") (h2 : ¬ m = "low") (h3 : ¬ m = "unlikes") (h4 : ¬ m = "labels") : (gF l d lo hi).lookup m = none:=by rw[Ms,if_neg h1,if_neg h2,if_neg h3,if_neg h4]
structure Gr (C:Addr) (H:Hp) (x dx l d:Addr) (g:Gst):Prop where
 ob:H x=some (.ins C dx (gF l d g.lo g.hi))
 hl:H l=some (.lst (g.L.map V.int))
 hd:H d=some (.dT (uKv g.U))
theorem Gr.same {C:Addr} {H H':Hp} {x dx l d:Addr} {g:Gst} (h:Gr C H x dx l d g) (s:Ak H H'):Gr C H' x dx l d g:=⟨s _ _ h.ob,s _ _ h.hl,s _ _ h.hd⟩
abbrev Jd (H:Hp):List Addr->List Say->Prop:=Paired fun a s=>H a=some (.tup (LY s))
theorem Jd.same {H H':Hp} {as:List Addr} {ss:List Say} (h:Jd H as ss) (s:Ak H H'):Jd H' as ss:= by
 induction h with
 | nil=>exact .nil
 | cons a _ ih=>exact .cons (s _ _ a) ih
def Cr (H:Hp):Pap->V->Prop
 | .ring i j,v=>∃ a,v = .ref a /\ H a = some (.tup [.str "ring",.int i,.int j])
 | .counts,v=>∃ a,v = .ref a /\ H a = some (.tup [.str "counts"])
 | .few,v=>∃ a,v = .ref a /\ H a = some (.tup [.str "few"])
 | .many c,v=>∃ a b,v = .ref a /\ H a = some (.tup [.str "many",.ref b]) /\ H b = some (.tup (c.map V.int))
 | .cases i j p q,v=>∃ a v1 v2,v = .ref a /\ H a = some (.tup [.str "cases",.int i,.int j,v1,v2]) /\ Cr H p v1 /\ Cr H q v2
theorem Cr.same {H H':Hp} (s : ∀ a xs,H a=some (.tup xs)->H' a=some (.tup xs)) : ∀ {p:Pap} {v:V},Cr H p v->Cr H' p v
 | .ring i j,v,⟨a,e,h⟩=>⟨a,e,s _ _ h⟩
 | .counts,v,⟨a,e,h⟩=>⟨a,e,s _ _ h⟩
 | .few,v,⟨a,e,h⟩=>⟨a,e,s _ _ h⟩
 | .many c,v,⟨a,b,e,h,h2⟩=>⟨a,b,e,s _ _ h,s _ _ h2⟩
 | .cases i j p q,v,⟨a,v1,v2,e,h,h1,h2⟩=>⟨a,v1,v2,e,s _ _ h,Cr.same s h1,Cr.same s h2⟩
def Rj:List (List Int):=(rg 9).flatMap fun x=>(rg 9).map fun y=>[x,y]
def hs9:List Int:=[-8458139203682520985,-1950498447580522560,7204814214171964562,-4734289103435588629,1773351652666409796,-3119722376306286570,-1010439003188656273,-5903513032161352639,604127723940645786,-5164621852614943976,8389048192121911274,-3550055125485641917,-1440771752368011620,-6333845781340707986,173794974761290439,-4719279054211405927,-2609995681093775630,3897645075008222795,4685526799349444076,6794810172467074373,1901736143494378007,8409376899596376432,3516302870623680066,-8422800446983873125,-6313517073866242828,7240152970870612422,-4698950346736940769,2248468952609198383,8756109708711196808,3863035679738500442,5972319052856130739,1079245023883434373,7586885779985432798,-4352217537622120393,4803095124130366729,-7136008193477186462,-6348126469135965181,159514286966033244,-9131917124991031250,-2624276368889032825,3883364387212965600,-1009709641759730766,1099573731357899531,-3793500297614796835,2714140458487201590,-3054609118068388172,3453031638033610253,-5838399773923454241,669240982178544184,-4223833046794152182,2283807709307846243,-7007623702649218251,-499982946547219826,6007657809554778599,-5491666964808633865,8062003079928221385,-3877100237679331806,2630540518422666619,-6660890893534397875,-153250137432399450,-5046324166405095816,1461316589696902609,3570599962814532906,4358481687155754187,-7580621630451799004,5973048414285056246,8082331787402686543,3189257758429990177,-8749845559177563014,-2242204803075564589,6913107858676922533,-5025995458930630658,1921423840415508494,8429064596517506919,3535990567544810553,-8403112750062742638,752199911689744484,7259840667791742909,-4679262649815810282,8874407394921044968,-7463053305670876351]
theorem Pe:Rj.map hI=hs9:=by decide +kernel
def ndB:List Int->Bool
 | []=>true
 | a::t=>!(t.any fun b=>b==a)&&ndB t
theorem Ow : ∀ {l:List Int},ndB l=true->l.Nodup
 | [],_=>List.nodup_nil
 | a::t,h=>by
  rw[ndB,Bool.and_eq_true,Bool.not_eq_true',<- Bool.not_eq_true,List.any_eq_true] at h
  exact List.nodup_cons.mpr ⟨fun hm=>h.1 ⟨a,hm,by simp⟩,Ow h.2⟩
theorem QT:ndB hs9=true:=by decide +kernel
theorem L6:(Rj.map hI).Nodup:=Pe ▸ Ow QT
theorem Ly {P:Program} {w:World} {U:List (Int × Int)} (hn:U.Nodup) (hu : ∀ p ∈ U,(0<=p.1/\p.1<9)/\(0<=p.2/\p.2<9)):((uKv U).map fun kv=>hT P w kv.1).Nodup:= by
 have e:(uKv U).map (fun kv=>hT P w kv.1)=U.map fun p=>hI [p.1,p.2]:= by
  unfold uKv
  rw[List.map_map]
  refine List.map_congr_left fun p _=>?_
  have e1:GA p=[p.1,p.2].map Sum.inl:=rfl
  have e2:=Qg P w [p.1,p.2]
  rw[<- e1] at e2
  rw[Function.comp_apply]
  exact e2
 rw[e]
 unfold List.Nodup
 rw[List.pairwise_map]
 refine hn.imp_of_mem fun {p q} hp hq ne e=>ne ?_
 have mem : ∀ p ∈ U,[p.1,p.2] ∈ Rj:=fun p hp=>by
  unfold Rj
  rw[List.mem_flatMap]
  refine ⟨p.1,?_,?_⟩
  ·rw[BV];exact (hu p hp).1
  ·rw[List.mem_map]
   refine ⟨p.2,?_,rfl⟩
   rw[BV];exact (hu p hp).2
 have:=J0 hI L6 (mem p hp) (mem q hq) e
 injection this with a b
 injection b with b _
 exact Prod.ext a b
theorem Gok.uLen {n:Nat} {g:Gst} (h:Gok n g) (h9:n<=9):g.U.length<=81:= by
 have:((rg 9).flatMap fun x=>(rg 9).map fun y=>(x,y)).length=81:=by decide +kernel
 rw[<- this]
 refine Ck h.nd fun p hp=>?_
 obtain ⟨a,b⟩:=h.un p hp
 exact List.mem_flatMap.mpr ⟨p.1,BV.mpr (by omega),List.mem_map.mpr ⟨p.2,BV.mpr (by omega),rfl⟩⟩
theorem Gok.hash {n:Nat} {g:Gst} (h:Gok n g) (h9:n<=9) {P:Program} {w:World}:((uKv g.U).map fun kv=>hT P w kv.1).Nodup:=
 Ly h.nd fun p hp=>by have:=h.un p hp;omega
theorem RH {a b:Int} {ms:List Int} (hp:ms.Perm [a,b]) (hs:ms.Pairwise (· <= ·)):ms=[min a b,max a b]:= by
 have hl:=hp.length_eq
 match ms,hl with
 | [x,y],_=>
  have hxy:x<=y:=(List.pairwise_cons.mp hs).1 y (by simp)
  have hx:x ∈ [a,b]:=hp.mem_iff.mp (by simp)
  have ha:a ∈ [x,y]:=hp.mem_iff.mpr (by simp)
  have hb:b ∈ [x,y]:=hp.mem_iff.mpr (by simp)
  have hy:y ∈ [a,b]:=hp.mem_iff.mp (by simp)
  simp at hx ha hb hy
  rw[show min a b=x by omega,show max a b=y by omega]
theorem Sw {σ:St} {H:Hp} {A B:Hp->Prop} (h:A H):Rk σ H fun b H3=>if b=true then A H3 else B H3:= by
 show if true=true then A H else B H
 rw[if_pos rfl];exact h
theorem GN (W:List (Int × Int)) (p:Int × Int):(Ex (uKv W) (GA p)).isSome=decide (p ∈ W):= by
 rw[Fb]
 by_cases h:p ∈ W
 ·rw[if_pos h,decide_eq_true h];rfl
 ·rw[if_neg h,decide_eq_false h];rfl
theorem IT {ta tb td:TE} {σ:St} {H:Hp} {a b:Int} {q:Addr} {W:List (Int × Int)} {N:Bool->Hp->Prop} (ha : ∀ (H:Hp) (Q:VK),Q (.int a) H->ta σ H Q) (hb : ∀ (H:Hp) (Q:VK),Q (.int b) H->tb σ H Q) (hd : ∀ (H:Hp) (Q:VK),Q (.ref q) H->td σ H Q)
  (hq:H q=some (.dT (uKv W))) (h : ∀ H',Ak H H'->N (decide ((a,b) ∈ W)) H'):tB (Sf (Rs (LV ta (LV tb Qo))) td) σ H N:= by
 refine ha _ _ (hb _ _ ⟨Ah (by simp),fun c hc=>hd _ _ ⟨q,_,rfl,Hc.t (k:=GA (a,b)) (by rw[Af (Aj hq hc)];exact hq) Ab,_,rfl,?_⟩⟩)
 rw[GN]
 exact h _ (Ak.new hc)
theorem K2 {ta tb td:TE} {σ:St} {H:Hp} {a b:Int} {q:Addr} {W:List (Int × Int)} {N:Bool->Hp->Prop} (ha : ∀ (H:Hp) (Q:VK),Q (.int a) H->ta σ H Q) (hb : ∀ (H:Hp) (Q:VK),Q (.int b) H->tb σ H Q) (hd : ∀ (H:Hp) (Q:VK),Q (.ref q) H->td σ H Q)
  (hq:H q=some (.dT (uKv W))) (h : ∀ H',Ak H H'->N (!decide ((a,b) ∈ W)) H'):tB (Mn (Rs (LV ta (LV tb Qo))) td) σ H N:= by
 refine ha _ _ (hb _ _ ⟨Ah (by simp),fun c hc=>hd _ _ ⟨q,_,rfl,Hc.t (k:=GA (a,b)) (by rw[Af (Aj hq hc)];exact hq) Ab,_,rfl,?_⟩⟩)
 rw[GN]
 exact h _ (Ak.new hc)
theorem Mp {o:Obj} {d:Addr} {U:List (Int × Int)} {g:TG} {tb:TS} {D:IL} {σ:St} {H:Hp} (Pv:Nat->St->Hp->Prop) (h0:Pv 0 σ H) (hl : ∀ i σ H,i<=U.length->Pv i σ H->H d=some (.frz o (.dT (uKv U))))
  (hs : ∀ i p b σ H,U[i]?=some p->Pv i σ H->H b=some (.tup [.int p.1,.int p.2])->g (.ref b) σ H fun σ2 H2=>tb { D with nx:=Pv (i+1),ct:=Pv (i+1),bk:=D.nx } σ2 H2) (hd : ∀ σ H,Pv U.length σ H->D.nx σ H) :
  ∃ W:Nat->Nat->St->Hp->Prop,(∃ m,W 0 m σ H) /\ ∀ i m σ H,W i m σ H ->
   ((IkT o d).stop i H/\D.nx σ H)\/((IkT o d).go i H /\ ∃ N:St->Hp->Prop,(∀ σ' H',N σ' H' -> ∃ m',m'<m/\W (i+1) m' σ' H') /\ ∀ x H',(IkT o d).yld i H x H'->g x σ H' fun σ2 H2=>tb { D with nx:=N,ct:=N,bk:=D.nx } σ2 H2):= by
 refine ⟨fun i m σ H=>m=U.length-i/\i<=U.length/\Pv i σ H,⟨U.length,by simp,Nat.zero_le _,h0⟩,?_⟩
 rintro i m σ H ⟨rfl,hi,p⟩
 have q:=hl i σ H hi p
 by_cases hlt:i<U.length
 ·have hui:U[i]?=some U[i]:=List.getElem?_eq_getElem hlt
  have hki:(uKv U)[i]?=some (GA U[i],V.bl true):=by unfold uKv;rw[List.getElem?_map,hui];rfl
  refine .inr ⟨⟨_,_,q,hki⟩,Pv (i+1),fun σ' H' p'=>⟨U.length-(i+1),by omega,rfl,hlt,p'⟩,?_⟩
  rintro x H' ⟨b,kk,rfl,rfl,hb,hkk⟩
  obtain ⟨v,hv⟩:=hkk _ q
  rw[hki] at hv
  cases hv
  exact hs i U[i] b σ _ hui p hb
 ·have e:i=U.length:=by omega
  subst e
  exact .inl ⟨⟨_,q,by rw[CC];exact Nat.le_refl _⟩,hd σ H p⟩
abbrev O1 (H:Hp):List Addr->List (Int × Int)->Prop:=Paired fun a p=>H a=some (.tup [.int p.1,.int p.2])
theorem O1.same {H H':Hp} {as:List Addr} {ps:List (Int × Int)} (h:O1 H as ps) (s:Ak H H'):O1 H' as ps:= by
 induction h with
 | nil=>exact .nil
 | cons a _ ih=>exact .cons (s _ _ a) ih
theorem A4 {H:Hp} {P:Addr} {pos:Pos} {q:Str} (h:AM H P pos q) {b:Addr} {o:HO} (e:H b=some o) (hn : ∀ ps,o ≠ .tbl ps):Bp H P b=some o:= by
 obtain ⟨ps,h1,_⟩:=h
 unfold Bp
 rw[if_neg (fun z=>by rw[z,h1] at e;cases e;exact hn _ rfl)];exact e
theorem AX {H H1 H2:Hp} {P:Addr} (a:Ak (Bp H P) H1) (b:Ak (Bp H1 P) H2):Ak (Bp H P) H2:=fun c o e=>by
 have hc:c≠P:=fun z=>by unfold Bp at e;rw[if_pos z] at e;cases e
 exact b c o (by unfold Bp;rw[if_neg hc];exact a c o e)
theorem Gr.beside {C:Addr} {H H':Hp} {x dx l d:Addr} {g:Gst} {P:Addr} {pos:Pos} {q:Str} (h:Gr C H x dx l d g) (ht:AM H P pos q) (s:Ak (Bp H P) H'):Gr C H' x dx l d g:=
 ⟨s _ _ (A4 ht h.ob fun _ z=>nomatch z),s _ _ (A4 ht h.hl fun _ z=>nomatch z),s _ _ (A4 ht h.hd fun _ z=>nomatch z)⟩
theorem Cr.beside {H H':Hp} {P:Addr} {pos:Pos} {q:Str} {p:Pap} {v:V} (h:Cr H p v) (ht:AM H P pos q) (s:Ak (Bp H P) H'):Cr H' p v:=Cr.same (fun a xs e=>s _ _ (A4 ht e fun _ z=>nomatch z)) h
theorem GQ {H H':Hp} {P:Addr} {pos:Pos} {q:Str} {a:Addr} {xs:List V} (h:H a=some (.tup xs)) (ht:AM H P pos q) (s:Ak (Bp H P) H'):H' a=some (.tup xs):=s _ _ (A4 ht h fun _ z=>nomatch z)
theorem Jd.beside {H H':Hp} {P:Addr} {pos:Pos} {q:Str} {as:List Addr} {ss:List Say} (h:Jd H as ss) (ht:AM H P pos q) (s:Ak (Bp H P) H'):Jd H' as ss:=L2.Paired.mapP h fun _ _ z=>GQ z ht s
theorem SqL.beside {K:PySem.W.Frag} {H H':Hp} {P:Addr} {pos:Pos} {q:Str} {a:Addr} {xs:List V} (h:SqL K H a xs) (ht:AM H P pos q) (s:Ak (Bp H P) H'):SqL K H' a xs:= by
 rcases h with (h | ⟨u,h⟩) | h
 ·exact .inl (.inl (s _ _ (A4 ht h fun _ z=>nomatch z)))
 ·exact .inl (.inr ⟨u,s _ _ (A4 ht h fun _ z=>nomatch z)⟩)
 ·exact .inr h
theorem AL {H H':Hp} {P:Addr} (s:Ak H H'):Ak (Bp H P) H':=(DO H P).trans s
theorem NE {n:Nat} {g:Gst} (h:Bd n g=[]):(AV n g.L).Pairwise fun a b=>(a,b) ∈ Bc g.L g.U:= by
 refine (Ed n g.L).imp_of_mem fun {a b} ha hb hab=>?_
 by_cases hw:(a,b) ∈ Bc g.L g.U
 ·exact hw
 ·have:(a,b) ∈ Bd n g:=BA.mpr ⟨ha,hb,hab,hw⟩
  rw[h] at this;cases this
end L2
namespace L2
open PySem PySem.Spec PyProof.Rows
def Nv:Pap->Nat
 | .cases _ _ p q=>max (Nv p) (Nv q)+1
 | _=>0
end L2
namespace L2
open PySem PySem.Spec PyProof.Rows
abbrev Tip:=Int × Bool
structure Lnk where
 nm:Int
 u:Bool
 i:Int
 j:Int
def wd (u : Bool) : Str:=if u then "unlike" else "alike"
theorem Ou {a b:Bool} (h:wd a=wd b):a=b:= by
 cases a <;> cases b <;> first | rfl | (exact absurd h (by decide +kernel))
def Df (t:Tip):List Key:=[.inl t.1,.inr (wd t.2)]
theorem Ob {a b:Tip} (h:Df a=Df b):a=b:= by
 unfold Df at h
 injection h with h1 h2
 injection h2 with h2 _
 injection h1 with h1
 injection h2 with h2
 exact Prod.ext h1 (Ou h2)
abbrev Chs:=List (Tip × List Int)
def Bg:Chs->Tip->Option (List Int)
 | [],_=>none
 | c::r,t=>if c.1=t then some c.2 else Bg r t
def Lnk.at (l:Lnk) (t:Tip):Bool:=(decide (t.1=l.i)||decide (t.1=l.j)) && !(l.u&&t.2)
def Lnk.to (l:Lnk) (t:Tip):Tip:=(l.i+l.j-t.1,t.2||l.u)
def BO (t:Tip) (a:Chs × List Tip) (l:Lnk):Chs × List Tip:=
 if l.at t=true then (if (Bg a.1 (l.to t)).isSome=true then a else (a.1++[(l.to t,(Bg a.1 t).getD []++[l.nm])],a.2++[l.to t])) else a
def Gg (ls:List Lnk) (a:Chs × List Tip) (t:Tip):Chs × List Tip:=ls.foldl (BO t) a
def Fq (ls:List Lnk) (ch:Chs) (ts:List Tip):Chs × List Tip:=ts.foldl (Gg ls) (ch,[])
def Po (ch:Chs):Prop:=∀ c ∈ ch,c.2.length<ch.length
theorem FG {t:Tip} {ns:List Int} : ∀ {ch:Chs},Bg ch t=some ns->(t,ns) ∈ ch
 | c::r,h=>by
  unfold Bg at h
  split at h
  ·rename_i e
   cases h
   rw[<- e];exact List.mem_cons_self
  ·exact List.mem_cons_of_mem _ (FG h)
theorem Ia {t:Tip} {r:Chs} : ∀ {ch:Chs} {ns:List Int},Bg ch t=some ns->Bg (ch++r) t=some ns
 | c::ch,ns,h=>by
  unfold Bg at h
  show (if c.1=t then some c.2 else Bg (ch++r) t)=_
  split
  ·rename_i e;rw[if_pos e] at h;exact h
  ·rename_i e;rw[if_neg e] at h;exact Ia h
theorem Cd (t:Tip) (a:Chs × List Tip) (l:Lnk):BO t a l=a\/(l.at t=true/\Bg a.1 (l.to t)=none/\BO t a l=(a.1++[(l.to t,(Bg a.1 t).getD []++[l.nm])],a.2++[l.to t])):= by
 unfold BO
 split
 ·split
  ·exact .inl rfl
  ·rename_i h1 h2
   refine .inr ⟨h1,?_,rfl⟩
   cases e:Bg a.1 (l.to t) with
   | none=>rfl
   | some _=>rw[e] at h2;exact absurd rfl h2
 ·exact .inl rfl
theorem MB {t t':Tip} {a:Chs × List Tip} {l:Lnk} {ns:List Int} (h:Bg a.1 t'=some ns):Bg (BO t a l).1 t'=some ns:= by
 rcases Cd t a l with e | ⟨_,_,e⟩
 ·rw[e];exact h
 ·rw[e];exact Ia h
theorem MX {t:Tip} {a:Chs × List Tip} {l:Lnk}:(BO t a l).1.length<=a.1.length+1:= by
 rcases Cd t a l with e | ⟨_,_,e⟩
 ·rw[e];omega
 ·rw[e,List.length_append,List.length_singleton];exact Nat.le_refl _
theorem Ki {t:Tip} {a:Chs × List Tip} {l:Lnk} (hk:Po a.1) (ht:(Bg a.1 t).isSome=true):Po (BO t a l).1:= by
 rcases Cd t a l with e | ⟨_,_,e⟩
 ·rw[e];exact hk
 ·rw[e]
  intro c hc
  rw[List.length_append,List.length_singleton]
  rcases List.mem_append.mp hc with hc | hc
  ·have:=hk c hc;omega
  ·rw[List.mem_singleton.mp hc]
   obtain ⟨ns,en⟩:=Option.isSome_iff_exists.mp ht
   have:=hk _ (FG en)
   rw[en]
   simp only [Option.getD_some,List.length_append,List.length_singleton]
   dsimp only at this
   omega
def Ga:Chs->List Addr->List (List Key × V)
 | c::ch,a::as=>(Df c.1,.ref a)::Ga ch as
 | _,_=>[]
theorem JO : ∀ {ch:Chs} {as:List Addr},as.length=ch.length->(Ga ch as).length=ch.length
 | [],[],_=>rfl
 | c::ch,a::as,h=>by
  show (Ga ch as).length+1=_
  rw[JO (by simpa using h)];rfl
theorem IE {c:Tip × List Int} {a:Addr} : ∀ {ch:Chs} {as:List Addr},as.length=ch.length->Ga (ch++[c]) (as++[a])=Ga ch as++[(Df c.1,.ref a)]
 | [],[],_=>rfl
 | d::ch,b::as,h=>by
  show (Df d.1,V.ref b)::Ga (ch++[c]) (as++[a])=_
  rw[IE (by simpa using h)];rfl
structure ChA (H:Hp) (d:Addr) (ch:Chs) (as:List Addr):Prop where
 ob:H d=some (.dT (Ga ch as))
 ls:Paired (fun a (c:Tip × List Int)=>H a=some (.lst (c.2.map V.int))) as ch
theorem ChA.len {H:Hp} {d:Addr} {ch:Chs} {as:List Addr} (h:ChA H d ch as):as.length=ch.length:=h.ls.length
theorem D9 {H:Hp} {t:Tip} : ∀ {ch:Chs} {as:List Addr},Paired (fun a (c:Tip × List Int)=>H a=some (.lst (c.2.map V.int))) as ch ->
  (Bg ch t=none/\Ex (Ga ch as) (Df t)=none) \/ ∃ ns a,Bg ch t=some ns/\a ∈ as/\Ex (Ga ch as) (Df t)=some (.ref a)/\H a=some (.lst (ns.map V.int))
 | [],[],_=>.inl ⟨rfl,rfl⟩
 | c::ch,a::as,h=>by
  obtain ⟨h1,h2⟩:H a=some (.lst (c.2.map V.int))/\Paired (fun a (c:Tip × List Int)=>H a=some (.lst (c.2.map V.int))) as ch:= by
   cases h with
   | cons h1 h2=>exact ⟨h1,h2⟩
  by_cases e:c.1=t
  ·refine .inr ⟨c.2,a,by unfold Bg;rw[if_pos e],List.mem_cons_self,Du (by rw[<- e]),h1⟩
  ·have ne : ¬ Df c.1=Df t:=fun z=>e (Ob z)
   rcases D9 (t:=t) h2 with ⟨x,y⟩ | ⟨ns,b,x,y,z,u⟩
   ·refine .inl ⟨by unfold Bg;rw[if_neg e];exact x,?_⟩
    show Ex ((Df c.1,V.ref a)::Ga ch as) (Df t)=none
    rw[CJ ne];exact y
   ·refine .inr ⟨ns,b,by unfold Bg;rw[if_neg e];exact x,List.mem_cons_of_mem _ y,?_,u⟩
    show Ex ((Df c.1,V.ref a)::Ga ch as) (Df t)=_
    rw[CJ ne];exact z
def M2 (H:Hp) (bs:List Addr) (ts:List Tip):Prop:=Paired (fun b (t:Tip)=>H b=some (.tup [.int t.1,.str (wd t.2)])) bs ts
def NS (H:Hp) (as:List Addr) (ls:List Lnk):Prop:=Paired (fun a (l:Lnk)=>∃ b,H a=some (.tup [.int l.nm,.ref b])/\H b=some (.tup [.str (wd l.u),.int l.i,.int l.j])) as ls
theorem M2.of {H H':Hp} {bs:List Addr} {ts:List Tip} (h:M2 H bs ts) (k : ∀ a xs,H a=some (.tup xs)->H' a=some (.tup xs)):M2 H' bs ts:=L2.Paired.mapP h fun _ _ z=>k _ _ z
theorem NS.of {H H':Hp} {as:List Addr} {ls:List Lnk} (h:NS H as ls) (k : ∀ a xs,H a=some (.tup xs)->H' a=some (.tup xs)):NS H' as ls:=L2.Paired.mapP h fun _ _ ⟨b,z,y⟩=>⟨b,k _ _ z,k _ _ y⟩
theorem FrL.fresh {A:List Addr} {H H':Hp} {r:Addr} {o:HO} (f:FrL A H H') (h:H r=none):FrL A H (upd H' r o):=fun x u e n=>by
 rw[Af (Aj e h)];exact f x u e n
theorem ChA.more {H:Hp} {d:Addr} {ch:Chs} {as:List Addr} (h:ChA H d ch as) {t:Tip} (ht:Bg ch t=none) {a:Addr} {ns:List Int} (ha:H a=some (.lst (ns.map V.int))) :
  ChA (upd H d (.dT (EU (Ga ch as) (Df t) (.ref a)))) d (ch++[(t,ns)]) (as++[a]):= by
 have hv:Ex (Ga ch as) (Df t)=none:= by
  rcases D9 (t:=t) h.ls with ⟨_,y⟩ | ⟨_,_,y,_⟩
  ·exact y
  ·rw[ht] at y;cases y
 have keep : ∀ {b:Addr} {xs:List V},H b=some (.lst xs)->upd H d (.dT (EU (Ga ch as) (Df t) (.ref a))) b=some (.lst xs):=fun {b xs} e=>by
  rw[Af (Cv e h.ob fun z=>nomatch z)];exact e
 refine ⟨by rw[Ab,Hk _ hv,IE h.len],Paired.snoc (L2.Paired.mapP h.ls fun _ _ z=>keep z) (keep ha)⟩
theorem ChA.of {H H':Hp} {d:Addr} {ch:Chs} {as:List Addr} (h:ChA H d ch as) (hd:H' d=H d) (k : ∀ a ∈ as,∀ xs,H a=some (.lst xs)->H' a=some (.lst xs)):ChA H' d ch as:= by
 refine ⟨by rw[hd];exact h.ob,?_⟩
 have : ∀ {as:List Addr} {ch:Chs},Paired (fun a (c:Tip × List Int)=>H a=some (.lst (c.2.map V.int))) as ch->(∀ a ∈ as,∀ xs,H a=some (.lst xs)->H' a=some (.lst xs))->Paired (fun a (c:Tip × List Int)=>H' a=some (.lst (c.2.map V.int))) as ch:= by
  intro as ch p
  induction p with
  | nil=>exact fun _=>.nil
  | cons h1 _ ih=>exact fun k=>.cons (k _ List.mem_cons_self _ h1) (ih fun a ha=>k a (List.mem_cons_of_mem _ ha))
 exact this h.ls k
theorem OL (a i j:Int):inV (.int a) [.int i,.int j]=(decide (a=i)||decide (a=j)):= by
 show (i==a||(j==a||false))=_
 rw[Bool.or_false,Bool.eq_iff_iff]
 simp only [Bool.or_eq_true,beq_iff_eq,decide_eq_true_eq]
 constructor <;> rintro (h | h) <;> first | exact .inl h.symm | exact .inr h.symm
theorem Rv (a b : Bool) : inV (.str "unlike") [.str (wd a),.str (wd b)] = (a || b):= by
 cases a <;> cases b <;> decide +kernel
theorem Ma (a b:Bool):decide (V.str (wd a)=V.str (wd b))=(a==b):= by
 rw[Bool.eq_iff_iff,decide_eq_true_eq,beq_iff_eq]
 exact ⟨fun e=>Ou (V.str.inj e),fun e=>by rw[e]⟩
theorem RG (a : Bool) : decide (V.str (wd a) = V.str "unlike") = a:= by
 have:=Ma a true
 cases a
 ·exact this
 ·exact this
theorem QY {c : TT} {σ : St} {H : Hp} {Q : VK} (b : Bool) (P : Hp -> Prop) (hc : ∀ N : Bool -> Hp -> Prop,(∀ H',P H' -> N b H') -> c σ H N) (h : ∀ H',P H' -> Q (.str (wd b)) H') : tIf c (tC (.str "unlike")) (tC (.str "alike")) σ H Q:=
 hc _ fun H' p=>by
  have:=h H' p
  cases b
  ·exact FT this
  ·exact FY this
end L2
namespace L2
open PySem PySem.Spec PyProof.Rows
section
variable {X:Cx} {K:PySem.W.Frag}
theorem KL (hc : X.calm = true:=by rfl) : BW X (.type "list") (fun xs H Q=>∃ (d : Addr) (kvs : List (List Key × V)),xs = [.ref d] /\ H d = some (.dT kvs) /\ ∀ (l : Addr) (ps : List Addr),Paired (fun (p : List Key × V) a=>H a = some (.tup (p.1.map kV))) kvs ps -> H l = none -> Q (.ref l) (upd H l (.lst (ps.map V.ref)))):= by
 intro pins s σ H xs us Q I r h
 obtain ⟨d,kvs,rfl,hd,q⟩:=h
 obtain ⟨u,rfl,ru⟩:=DE r
 cases ru
 obtain ⟨hz,lo,ps,vs,ep,hP,hE,hV⟩:=I.dictT hd
 have hpl:kvs.length=ps.length:=hP.length
 have hvl:vs.length=ps.length:=by have:=hV.length;rw[List.length_map] at this;omega
 have hzl:((ps.map Value.ref).zip vs).length=ps.length:=by rw[List.length_zip,List.length_map,hvl,Nat.min_self]
 refine PySem.W.kdl_call (PySem.W.kdl_dictE lo) (I.ok.hd hc) hE (by rw[hzl];omega) fun h' tk acc' c' hk hS hacc=>?_
 refine ⟨.ref s.heap.objs.size,_,I.laid (t':=tk) hk (Nat.le_refl _) (show A8 X.prog X.w _ _ _ (.lst (ps.map V.ref)) from ⟨by rw[List.length_map,<- hpl];exact hz,acc'.toList,c',?_,by rw[Array.toArray_toList];exact hS⟩),rfl,q _ ps hP (I.hok.fresh (Nat.le_refl _))⟩
 have hal:acc'.toList.length=ps.length:=by rw[Array.length_toList,hacc.1,hzl]
 refine FP (by rw[List.length_map,hal]) fun j v hv=>?_
 obtain ⟨a,rfl,ha,hj⟩:=CW hv
 have hj':j<acc'.toList.length:=by omega
 obtain ⟨k,x,e1,e2⟩:=hacc.2 j acc'.toList[j] (by rw[<- Array.getElem?_toList,List.getElem?_eq_getElem hj'])
 refine ⟨acc'.toList[j],List.getElem?_eq_getElem hj',?_⟩
 rw[List.getElem?_zip_eq_some,List.getElem?_map,ha] at e1
 have:k=Value.ref a:=(Option.some.inj e1.1).symm
 rw[e2,this]
 rfl
end
theorem ID {ls:List Lnk} {ch:Chs} {ts:List Tip} (P:Chs × List Tip->Prop) (h0:P (ch,[])) (hs : ∀ t ∈ ts,∀ l ∈ ls,∀ a,P a->P (BO t a l)):P (Fq ls ch ts):= by
 have h1 : ∀ (t:Tip),t ∈ ts -> ∀ (ls':List Lnk),(∀ l ∈ ls',l ∈ ls) -> ∀ a,P a->P (ls'.foldl (BO t) a):= by
  intro t ht ls'
  induction ls' with
  | nil=>exact fun _ a h=>h
  | cons l ls' ih=>exact fun hl a h=>ih (fun x hx=>hl x (List.mem_cons_of_mem _ hx)) _ (hs t ht l (hl l List.mem_cons_self) a h)
 have h2 : ∀ (ts':List Tip),(∀ t ∈ ts',t ∈ ts) -> ∀ a,P a->P (ts'.foldl (Gg ls) a):= by
  intro ts'
  induction ts' with
  | nil=>exact fun _ a h=>h
  | cons t ts' ih=>exact fun ht a h=>ih (fun x hx=>ht x (List.mem_cons_of_mem _ hx)) _ (h1 t (ht t List.mem_cons_self) ls (fun _ h=>h) a h)
 exact h2 ts (fun _ h=>h) _ h0
theorem BS {t:Tip} : ∀ {ch:Chs},Bg ch t=none ↔ t ∉ ch.map (·.1)
 | []=>by simp [Bg]
 | c::ch=>by
  unfold Bg
  rw[List.map_cons,List.mem_cons,not_or]
  split
  ·rename_i e;simp [e]
  ·rename_i e
   rw[BS]
   exact ⟨fun h=>⟨fun z=>e z.symm,h⟩,fun h=>h.2⟩
theorem DG {t:Tip} {ch:Chs}:(Bg ch t).isSome=true ↔ t ∈ ch.map (·.1):= by
 have:=BS (t:=t) (ch:=ch)
 cases e:Bg ch t with
 | none=>rw[e] at this;simpa using this.mp rfl
 | some _=>rw[e] at this;simpa using this
def NY (n:Int) (t:Tip):Prop:=0<=t.1/\t.1<n
def PZ (n:Int) (l:Lnk):Prop:=0<=l.i/\l.i<n/\0<=l.j/\l.j<n
structure ChG (n:Nat) (ch:Chs) (ts:List Tip):Prop where
 nd:(ch.map (·.1)).Nodup
 rg : ∀ c ∈ ch,NY n c.1
 ok:Po ch
 tp : ∀ t ∈ ts,t ∈ ch.map (·.1)
 le:ts.length<=ch.length
theorem RA {n:Int} {l:Lnk} {t:Tip} (h:l.at t=true) (hl:PZ n l):NY n (l.to t):= by
 unfold Lnk.at at h
 rw[Bool.and_eq_true,Bool.or_eq_true,decide_eq_true_eq,decide_eq_true_eq] at h
 obtain ⟨h1,h2,h3,h4⟩:=hl
 unfold NY Lnk.to
 dsimp only
 rcases h.1 with e | e <;> rw[e] <;> constructor <;> omega
theorem ChG.grow {n:Nat} {ls:List Lnk} {ch:Chs} {ts:List Tip} (h:ChG n ch ts) (hl : ∀ l ∈ ls,PZ n l):ChG n (Fq ls ch ts).1 (Fq ls ch ts).2/\(Fq ls ch ts).1.length=ch.length+(Fq ls ch ts).2.length:= by
 have:=ID (ls:=ls) (ch:=ch) (ts:=ts) (fun a=>(ChG n a.1 a.2/\a.1.length=ch.length+a.2.length) /\ ∀ t ∈ ts,t ∈ a.1.map (·.1)) ⟨⟨⟨h.nd,h.rg,h.ok,fun t ht=>by simp at ht,Nat.zero_le _⟩,rfl⟩,h.tp⟩ (fun t ht l hl' a ⟨⟨g,e⟩,hts⟩=>by
  rcases Cd t a l with e1 | ⟨x,y,e1⟩
  ·rw[e1];exact ⟨⟨g,e⟩,hts⟩
  ·have hk:=Ki (l:=l) g.ok (DG.mpr (hts t ht))
   rw[e1] at hk ⊢
   refine ⟨⟨⟨?_,fun c hc=>?_,hk,fun t' ht'=>?_,?_⟩,?_⟩,fun t' ht'=>?_⟩
   ·dsimp only
    rw[List.map_append,List.nodup_append]
    refine ⟨g.nd,by simp,fun u hu v hv z=>?_⟩
    rw[List.map_singleton,List.mem_singleton] at hv
    rw[z,hv] at hu
    exact BS.mp y hu
   ·rcases List.mem_append.mp hc with hc | hc
    ·exact g.rg c hc
    ·rw[List.mem_singleton.mp hc];exact RA x (hl l hl')
   ·dsimp only
    rw[List.map_append,List.mem_append]
    rcases List.mem_append.mp ht' with ht' | ht'
    ·exact .inl (g.tp t' ht')
    ·rw[List.mem_singleton.mp ht'];exact .inr (by simp)
   ·dsimp only
    have:=g.le
    rw[List.length_append,List.length_append];simp;omega
   ·dsimp only
    rw[List.length_append,List.length_append,e];simp;omega
   ·dsimp only
    rw[List.map_append,List.mem_append]
    exact .inl (hts t' ht'))
 exact this.1
def Oi (n:Nat):List Tip:=(List.range n).flatMap fun (i:Nat)=>[((i:Int),false),((i:Int),true)]
theorem Mq (n:Nat):(Oi n).length=2*n:= by
 unfold Oi
 rw[List.length_flatMap]
 induction n with
 | zero=>rfl
 | succ n ih=>
  rw[List.range_succ,List.map_append,List.sum_append,ih];simp;omega
theorem Mx {n:Nat} {t:Tip} (h:NY n t):t ∈ Oi n:= by
 unfold Oi
 rw[List.mem_flatMap]
 obtain ⟨i,b⟩:=t
 obtain ⟨h1,h2⟩:=h
 dsimp only at h1 h2
 refine ⟨i.toNat,List.mem_range.mpr (by omega),?_⟩
 have:((i.toNat:Nat):Int)=i:=Int.toNat_of_nonneg h1
 rw[this]
 cases b <;> simp
theorem ChG.len {n:Nat} {ch:Chs} {ts:List Tip} (h:ChG n ch ts):ch.length<=2*n:= by
 have:=Ck h.nd fun t ht=>Mx (n:=n) (by
  obtain ⟨c,hc,e⟩:=List.mem_map.mp ht
  rw[<- e];exact h.rg c hc)
 rw[List.length_map,Mq] at this
 exact this
def MK (ls:List Lnk) (j:Int):Nat->Chs->List Tip->Option (Bool × List Int)
 | 0,_,_=>none
 | f+1,ch,ts=>if ts=[] then none else match ts.find? (fun t=>decide (t.1=j)) with
  | some t=>some (t.2,(Bg ch t).getD [])
  | none=>MK ls j f (Fq ls ch ts).1 (Fq ls ch ts).2
def Fh (ls:List Lnk) (i j:Int):Option (Bool × List Int):=MK ls j 20 [((i,false),[])] [(i,false)]
def saF (n : Int) (l : Addr) : List (Str × V):=[("size",.int n),("given",.ref l)]
def QU (H:Hp) (vs:List V) (gs:List (Option Say)):Prop:=Paired (fun v (o:Option Say)=>match o with | none=>v = .non | some s=>∃ a,v = .ref a/\H a=some (.tup (LY s))) vs gs
structure Gd (C:Addr) (H:Hp) (x dx l:Addr) (n:Int) (gs:List (Option Say)):Prop where
 ob:H x=some (.ins C dx (saF n l))
 ls : ∃ vs,H l=some (.lst vs)/\QU H vs gs
theorem QU.same {H H':Hp} {vs:List V} {gs:List (Option Say)} (h:QU H vs gs) (s:Ak H H'):QU H' vs gs:=L2.Paired.mapP h fun v o z=>by
 cases o with
 | none=>exact z
 | some q=>obtain ⟨a,e,ha⟩:=z;exact ⟨a,e,s _ _ ha⟩
theorem Gd.same {C:Addr} {H H':Hp} {x dx l:Addr} {n:Int} {gs:List (Option Say)} (h:Gd C H x dx l n gs) (s:Ak H H'):Gd C H' x dx l n gs:= by
 obtain ⟨o,vs,h1,h2⟩:=h
 exact ⟨s _ _ o,vs,s _ _ h1,h2.same s⟩
def ME (gs:List (Option Say)):List Say:=gs.filterMap id
def Dh:Nat->List (Option Say)->List (Int × Say)
 | _,[]=>[]
 | i,none::gs=>Dh (i+1) gs
 | i,some s::gs=>(i,s)::Dh (i+1) gs
def stL (gs:List (Option Say)):List (Int × Say):=Dh 0 gs
def QC (H:Hp) (as:List Addr) (qs:List (Int × Say)):Prop:=Paired (fun a (q:Int × Say)=>∃ b,H a=some (.tup [.int q.1,.ref b])/\H b=some (.tup (LY q.2))) as qs
def Qp (q:Int × Say):Option Lnk:=match q.2 with
 | .pair u i j=>some ⟨q.1,u,i,j⟩
 | .cnt _ _=>none
def Hx (gs:List (Option Say)):List Lnk:=(stL gs).filterMap Qp
theorem DN (o:Option Say) : ∀ (i:Nat) (gs:List (Option Say)),Dh i (gs++[o])=Dh i gs++(match o with | none=>[] | some s=>[(((i+gs.length:Nat):Int),s)])
 | i,[]=>by cases o <;> rfl
 | i,none::gs=>by
  show Dh (i+1) (gs++[o])=Dh (i+1) gs++_
  rw[DN o (i+1) gs,List.length_cons,show i+1+gs.length=i+(gs.length+1) by omega]
 | i,some s::gs=>by
  show (_,s)::Dh (i+1) (gs++[o])=(_,s)::Dh (i+1) gs++_
  rw[DN o (i+1) gs,List.length_cons,show i+1+gs.length=i+(gs.length+1) by omega];rfl
theorem E5 (n : Int) (l : Addr) : CL "given" (.ref l) (CL "size" (.int n) []) = saF n l:= by
 have n1 : ¬ ("size" : Str) = "given":=by decide +kernel
 simp only [CL,if_neg n1,saF]
theorem Md (n : Int) (l : Addr) : (saF n l).lookup ("given" : Str) = some (.ref l):=by rw[<- E5]; simp only [BM,List.lookup_nil,if_pos]
theorem MM (n : Int) (l : Addr) : (saF n l).lookup ("size" : Str) = some (.int n):=by rw[<- E5]; simp only [BM,List.lookup_nil]; rw[if_neg (by decide +kernel),if_pos trivial]
theorem Nz (o:Option Say) (gs:List (Option Say)):ME (gs++[o])=ME gs++(match o with | none=>[] | some s=>[s]):= by
 unfold ME
 rw[List.filterMap_append]
 cases o <;> rfl
theorem Lx (gs:List (Option Say)):(ME gs).length<=gs.length:=List.length_filterMap_le _ _
theorem HK : ∀ (i:Nat) (gs:List (Option Say)),(Dh i gs).length<=gs.length
 | _,[]=>Nat.le_refl _
 | i,none::gs=>Nat.le_succ_of_le (HK (i+1) gs)
 | i,some s::gs=>Nat.succ_le_succ (HK (i+1) gs)
theorem QC.same {H H':Hp} {as:List Addr} {qs:List (Int × Say)} (h:QC H as qs) (s:Ak H H'):QC H' as qs:=L2.Paired.mapP h fun _ _ ⟨b,x,y⟩=>⟨b,s _ _ x,s _ _ y⟩
theorem Ej (n : Int) (l : Addr) {m : Str} (h1 : ¬ m = "given") (h2 : ¬ m = "size") : (saF n l).lookup m = none:=by rw[<- E5]; simp only [BM,List.lookup_nil]; rw[if_neg h1,if_neg h2]
theorem J1 {j:Int} : ∀ {ts:List Tip} {m:Nat} {t:Tip},ts[m]?=some t->t.1=j->(∀ t' ∈ ts.take m,t'.1≠j)->ts.find? (fun t=>decide (t.1=j))=some t
 | t0::ts,0,t,h,e,_=>by
  cases h
  rw[List.find?_cons,decide_eq_true e]
 | t0::ts,m+1,t,h,e,hn=>by
  have h0 : ¬ t0.1=j:=hn t0 (by rw[List.take_succ_cons];exact List.mem_cons_self)
  rw[List.find?_cons,decide_eq_false h0]
  exact J1 (m:=m) (by simpa using h) e fun t' ht'=>hn t' (by rw[List.take_succ_cons];exact List.mem_cons_of_mem _ ht')
theorem NB (ls:List Lnk) (j:Int) (m:Nat) (ch:Chs):MK ls j m ch []=none:= by
 cases m
 ·rfl
 ·unfold MK;rw[if_pos rfl]
theorem OG (gs:List (Option Say)):(Hx gs).length<=gs.length:=Nat.le_trans (List.length_filterMap_le _ _) (HK 0 gs)
theorem OK {α β:Type} (f:α->Option β) {l:List α} {m:Nat} {x:α} (h:l[m]?=some x):(l.take (m+1)).filterMap f=(l.take m).filterMap f++(f x).toList:= by
 rw[Aw h,List.filterMap_append]
 cases e:f x <;> simp [e]
theorem Ha : ∀ {i:Nat} {gs:List (Option Say)} {q:Int × Say},q ∈ Dh i gs->some q.2 ∈ gs
 | i,none::gs,q,h=>List.mem_cons_of_mem _ (Ha (i:=i+1) h)
 | i,some s::gs,q,h=>by
  rcases List.mem_cons.mp h with e | h
  ·rw[e];exact List.mem_cons_self
  ·exact List.mem_cons_of_mem _ (Ha (i:=i+1) h)
theorem QI {n:Nat} {gs:List (Option Say)} (hok : ∀ o ∈ gs,∀ s,o=some s->Bn n s) : ∀ l ∈ Hx gs,PZ n l:=fun l hl=>by
 obtain ⟨q,hq,e⟩:=List.mem_filterMap.mp hl
 have:=hok _ (Ha hq) _ rfl
 obtain ⟨nm,s⟩:=q
 cases s with
 | cnt _ _=>cases e
 | pair u i j=>
  cases e
  obtain ⟨h1,h2,h3,h4,_⟩:=this
  exact ⟨h1,h2,h3,h4⟩
end L2
namespace L2
open PySem PySem.Spec PyProof.Rows
def Gc (w:List Int) (i:Int) (t:Tip):Prop:=if t.2=true then gat w i≠gat w t.1 else gat w i=gat w t.1
def HV (w:List Int) (l:Lnk):Prop:=if l.u=true then gat w l.i≠gat w l.j else gat w l.i=gat w l.j
theorem Ko {w:List Int} {i:Int} {t:Tip} {l:Lnk} (h:Gc w i t) (hl:HV w l) (ha:l.at t=true):Gc w i (l.to t):= by
 obtain ⟨nm,u,a,b⟩:=l
 obtain ⟨c,v⟩:=t
 unfold Lnk.at at ha
 rw[Bool.and_eq_true,Bool.or_eq_true,decide_eq_true_eq,decide_eq_true_eq] at ha
 unfold Gc Lnk.to
 unfold Gc at h
 unfold HV at hl
 dsimp only at *
 obtain ⟨ha,hb⟩:=ha
 have e:a+b-c=if c=a then b else a:= by
  rcases ha with e | e
  ·rw[if_pos e];omega
  ·split <;> omega
 rw[e]
 cases u <;> cases v <;> simp at hb hl h ⊢ <;> split <;> rename_i q
 all_goals first | (subst q;simp_all) | (rcases ha with z | z;exact absurd z q;subst z;simp_all;try exact fun e=>hl e.symm)
theorem GP {w:List Int} {i j:Int} {ls:List Lnk} (hl : ∀ l ∈ ls,HV w l) : ∀ (m:Nat) (ch:Chs) (ts:List Tip) (u:Bool) (ns:List Int),(∀ t ∈ ts,Gc w i t)->MK ls j m ch ts=some (u,ns)->Gc w i (j,u)
 | 0,_,_,_,_,_,h=>by cases h
 | m+1,ch,ts,u,ns,ht,h=>by
  unfold MK at h
  split at h
  ·cases h
  ·split at h
   ·rename_i t e
    cases h
    have h1:=List.find?_some e
    have h2:=ht t (List.mem_of_find?_eq_some e)
    have h1:t.1=j:=of_decide_eq_true h1
    obtain ⟨a,b⟩:=t
    dsimp only at h1
    subst h1;exact h2
   ·refine GP hl m _ _ u ns ?_ h
    exact ID (fun a=>∀ t ∈ a.2,Gc w i t) (fun t ht=>by simp at ht) fun t htt l hll a ha=>by
     rcases Cd t a l with e | ⟨x,_,e⟩
     ·rw[e];exact ha
     ·rw[e]
      intro t' ht'
      rcases List.mem_append.mp ht' with ht' | ht'
      ·exact ha t' ht'
      ·rw[List.mem_singleton.mp ht'];exact Ko (ht t htt) (hl l hll) x
theorem JD {w:List Int} {i j:Int} {ls:List Lnk} {u:Bool} {ns:List Int} (hl : ∀ l ∈ ls,HV w l) (h:Fh ls i j=some (u,ns)):Gc w i (j,u):=
 GP hl 20 _ _ u ns (fun t ht=>by rw[List.mem_singleton.mp ht];unfold Gc;simp) h
theorem NT {w:List Int} {gs:List (Option Say)} (h : ∀ o ∈ gs,∀ s,o=some s->IU w s) : ∀ l ∈ Hx gs,HV w l:=fun l hl=>by
 obtain ⟨q,hq,e⟩:=List.mem_filterMap.mp hl
 have:=h _ (Ha hq) _ rfl
 obtain ⟨nm,s⟩:=q
 cases s with
 | cnt _ _=>cases e
 | pair u i j=>
  cases e
  cases u
  ·exact this
  ·exact this
abbrev Raw:=Option (Str × List Int)
def Le:Raw->List V
 | none=>[]
 | some (w,xs)=>.str w::xs.map V.int
def Cp:Say->Raw
 | .pair u i j=>some (if u then "unlike" else "alike",[i,j])
 | .cnt m k=>some (if m then "most" else "least",[k])
theorem Hr (s:Say):Le (Cp s)=LY s:=by cases s <;> rfl
def B8 (n:Int):Raw->Nat
 | none=>1
 | some (w,xs)=>
  if w = "least" \/ w = "most" then (match xs with | [k]=>if 1 <= k /\ k <= n then 0 else 1 | _=>1)
  else if w = "alike" \/ w = "unlike" then (match xs with | [i,j]=>if i = j then 1 else if (0 <= i /\ i < n) /\ (0 <= j /\ j < n) then 0 else 2 | _=>1)
  else 1
theorem Jm {n:Int} {s:Say} (h:Bn n s):B8 n (Cp s)=0:= by
 cases s with
 | pair u i j=>
  obtain ⟨h1,h2,h3,h4,h5⟩:=h
  have e1 : ¬ ((if u then "unlike" else "alike" : Str) = "least" \/ (if u then "unlike" else "alike" : Str) = "most"):=by cases u <;> decide +kernel
  have e2 : (if u then "unlike" else "alike" : Str) = "alike" \/ (if u then "unlike" else "alike" : Str) = "unlike":=by cases u <;> decide +kernel
  show (if _ then _ else _)=0
  rw[if_neg e1,if_pos e2]
  dsimp only
  rw[if_neg h5,if_pos ⟨⟨h1,h2⟩,h3,h4⟩]
 | cnt m k=>
  have e2 : (if m then "most" else "least" : Str) = "least" \/ (if m then "most" else "least" : Str) = "most":=by cases m <;> decide +kernel
  show (if _ then _ else _)=0
  rw[if_pos e2]
  exact if_pos h
abbrev thT : List (Str × Int):=[("alike",3),("unlike",3),("least",2),("most",2)]
theorem Jj {w : Str} (h : w = "alike" \/ w = "unlike") : lkD thT w = .int 3:=by rcases h with rfl | rfl <;> decide +kernel
theorem IY {w : Str} (h : w = "least" \/ w = "most") : lkD thT w = .int 2:=by rcases h with rfl | rfl <;> decide +kernel
theorem OC {w : Str} (h1 : ¬ (w = "alike" \/ w = "unlike")) (h2 : ¬ (w = "least" \/ w = "most")) : lkD thT w = .non:= by
 rw[not_or] at h1 h2
 show (if w = "alike" then _ else if w = "unlike" then _ else if w = "least" then _ else if w = "most" then _ else V.non) = V.non
 rw[if_neg h1.1,if_neg h1.2,if_neg h2.1,if_neg h2.2]
def Kd (n:Int):List Raw->Nat
 | []=>0
 | r::rs=>if B8 n r=0 then Kd n rs else B8 n r
def rdS (n:Int) (rs:List Raw):Nat:=if 1<=n/\n<=9 then Kd n rs else 3
def rdC (CM CS CN:Addr):Nat->Addr
 | 1=>CS
 | 2=>CN
 | _=>CM
def DB (H:Hp) (as:List Addr) (rs:List Raw):Prop:=Paired (fun a (r:Raw)=>H a=some (.tup (Le r))) as rs
theorem Fm {n:Int} : ∀ {rs:List Raw} {m:Nat} {r:Raw},rs[m]?=some r->(∀ q ∈ rs.take m,B8 n q=0)->B8 n r≠0->Kd n rs=B8 n r
 | q::rs,0,r,h,_,hr=>by
  cases h
  unfold Kd;rw[if_neg hr]
 | q::rs,m+1,r,h,hz,hr=>by
  have h0:B8 n q=0:=hz q (by rw[List.take_succ_cons];exact List.mem_cons_self)
  unfold Kd
  rw[if_pos h0]
  exact Fm (m:=m) (by simpa using h) (fun q' hq'=>hz q' (by rw[List.take_succ_cons];exact List.mem_cons_of_mem _ hq')) hr
theorem Fi {n:Int} : ∀ {rs:List Raw},(∀ q ∈ rs,B8 n q=0)->Kd n rs=0
 | [],_=>rfl
 | q::rs,h=>by
  unfold Kd
  rw[if_pos (h q List.mem_cons_self)]
  exact Fi fun q' hq'=>h q' (List.mem_cons_of_mem _ hq')
theorem Ht (n:Int) (r:Raw):B8 n r=0\/B8 n r=1\/B8 n r=2:= by
 rcases r with _ | ⟨w,xs⟩
 ·exact .inr (.inl rfl)
 unfold B8
 dsimp only
 split
 ·split
  ·split <;> simp
  ·simp
 ·split
  ·split
   ·split
    ·simp
    ·split <;> simp
   ·simp
  ·simp
theorem Gd.beside {C:Addr} {H H':Hp} {x dx l:Addr} {n:Int} {gs:List (Option Say)} {P:Addr} {pos:Pos} {q:Str} (h:Gd C H x dx l n gs) (ht:AM H P pos q) (s:Ak (Bp H P) H'):Gd C H' x dx l n gs:= by
 obtain ⟨o,vs,h1,h2⟩:=h
 refine ⟨s _ _ (A4 ht o fun _ z=>nomatch z),vs,s _ _ (A4 ht h1 fun _ z=>nomatch z),L2.Paired.mapP h2 fun v o z=>?_⟩
 cases o with
 | none=>exact z
 | some y=>obtain ⟨a,e,ha⟩:=z;exact ⟨a,e,s _ _ (A4 ht ha fun _ z=>nomatch z)⟩
theorem Gd.app {C:Addr} {H:Hp} {x dx l a:Addr} {n:Int} {gs:List (Option Say)} {vs:List V} {s:Say} (o:H x=some (.ins C dx (saF n l))) (h1:H l=some (.lst vs)) (h2:QU H vs gs) (ha:H a=some (.tup (LY s))):Gd C (upd H l (.lst (vs++[.ref a]))) x dx l n (gs++[some s]):= by
 have keep : ∀ {b:Addr} {xs:List V},H b=some (.tup xs)->upd H l (.lst (vs++[.ref a])) b=some (.tup xs):=fun {b xs} e=>by
  rw[Af (Cv e h1 fun z=>nomatch z)];exact e
 refine ⟨by rw[Af (Cv o h1 fun z=>nomatch z)];exact o,_,Ab,Paired.snoc (L2.Paired.mapP h2 fun v o z=>?_) ⟨a,rfl,keep ha⟩⟩
 cases o with
 | none=>exact z
 | some y=>obtain ⟨b,e,hb⟩:=z;exact ⟨b,e,keep hb⟩
def rdW:Nat->Str
 | 1=>"saying"
 | 2=>"censer"
 | _=>"count"
end L2
namespace L2
open PySem PySem.Spec PyProof.Rows
section
variable {X:Cx} {a b c d:Expr} {ta tb tc td:TE} {pos:Pos}
def O0 (r r' r'':R2) (ta tb tc td:TE):TE:=fun σ H Q=>ta σ H fun x H1=>tb σ H1 fun y H2=>r x y H2 fun z H3=>∃ k,z = .bl k /\
 (if k=true then tc σ H3 fun w' H4=>r' y w' H4 fun z2 H5=>∃ k2,z2 = .bl k2/\(if k2=true then td σ H5 fun v' H6=>r'' w' v' H6 Q else Q (.bl false) H5) else Q (.bl false) H3)
theorem Mz {op op' op'':CmpOp} {r r' r'':R2} (ho:OpR X (compareOp op) r) (ho':OpR X (compareOp op') r') (ho'':OpR X (compareOp op'') r'') (ha:PE X a ta) (hb:PE X b tb) (hc:PE X c tc) (hd:PE X d td)
  (hm:lastMarks [op,op',op''] [b,c,d]=false:=by with_unfolding_all rfl):PT X (.Compare a [op,op',op''] [b,c,d] pos) (Mo (O0 r r' r'' ta tb tc td)):= by
 intro pins s σ H Q I h
 refine isTrue_chain (thn (ha pins s σ H _ I h) fun v s1 ⟨x,H1,I1,r1,q1⟩=>test_link (thn (hb pins s1 σ H1 _ I1 q1) fun u s2 ⟨y,H2,I2,r2,q2⟩=>
  thn (ho pins s2 σ H2 x y v u _ I2 r1 r2 q2) fun d s3 ⟨z,H3,I3,r3,k,e,q3⟩=>?_)) hm
 subst e
 cases r3
 refine wpAny_truthy_bool ?_
 cases k with
 | false=>
  obtain ⟨k',e',q'⟩:=q3
  cases e'
  exact ite_ff ⟨H3,I3,q'⟩
 | true=>
  refine ite_tt (test_link (thn (hc pins s3 σ H3 _ I3 q3) fun w' s4 ⟨z',H4,I4,r4,q4⟩=>thn (ho' pins s4 σ H4 y z' u w' _ I4 r2 r4 q4) fun d' s5 ⟨z2,H5,I5,r5,k2,e2,q5⟩=>?_))
  subst e2
  cases r5
  refine wpAny_truthy_bool ?_
  cases k2 with
  | false=>
   obtain ⟨k',e',q'⟩:=q5
   cases e'
   exact ite_ff ⟨H5,I5,q'⟩
  | true=>
   refine ite_tt (test_last (thn (hd pins s5 σ H5 _ I5 q5) fun w2 s6 ⟨z3,H6,I6,r6,q6⟩=>thn (ho'' pins s6 σ H6 z' z3 w' w2 _ I6 r4 r6 q6) fun d2 s7 ⟨z4,H7,I7,r7,k3,e3,q7⟩=>?_))
   subst e3
   cases r7
   exact wpAny_truthy_bool ⟨H7,I7,q7⟩
end
end L2
namespace L2
open PySem PySem.Spec PyProof.Rows
theorem OU {n : Int} {w : Str} {xs : List Int} (h : w = "alike" \/ w = "unlike") : B8 n (some (w,xs)) = (match xs with | [i,j]=>if i = j then 1 else if (0 <= i /\ i < n) /\ (0 <= j /\ j < n) then 0 else 2 | _=>1):= by
 have e1 : ¬ (w = "least" \/ w = "most"):=by rcases h with rfl | rfl <;> decide +kernel
 show (if _ then _ else _)=_
 rw[if_neg e1,if_pos h]
 try rfl
theorem RD {n : Int} {w : Str} {xs : List Int} (h : w = "least" \/ w = "most") : B8 n (some (w,xs)) = (match xs with | [k]=>if 1 <= k /\ k <= n then 0 else 1 | _=>1):= by
 show (if _ then _ else _)=_
 rw[if_pos h]
 try rfl
theorem Sn {n : Int} {w : Str} {xs : List Int} (h1 : ¬ (w = "alike" \/ w = "unlike")) (h2 : ¬ (w = "least" \/ w = "most")) : B8 n (some (w,xs)) = 1:= by
 show (if _ then _ else _)=_
 rw[if_neg h2,if_neg h1]
def RJ (v w c:Str) (a f k b:Int):List Raw:=[none,some (v,[a,f]),some (w,[a]),some (w,[a,a]),some (w,[f,f]),some (w,[a,f]),some (w,[f,a]),some (c,[k]),some (c,[a,f]),some (w,[a,b,f])]
theorem PM {n : Int} {v w c : Str} {a f k b : Int} (hv1 : ¬ (v = "alike" \/ v = "unlike")) (hv2 : ¬ (v = "least" \/ v = "most")) (hw : w = "alike" \/ w = "unlike") (hc : c = "least" \/ c = "most") (hf : f < 0 \/ n <= f) (hk : k < 1 \/ n < k) (ha : 0 <= a /\ a < n) : ∀ r ∈ RJ v w c a f k b,B8 n r ≠ 0:= by
 intro r hr
 have hf' : ¬ (0<=f/\f<n):=by omega
 simp only [RJ,List.mem_cons,List.not_mem_nil,or_false] at hr
 rcases hr with rfl | rfl | rfl | rfl | rfl | rfl | rfl | rfl | rfl | rfl
 ·exact Nat.one_ne_zero
 ·rw[Sn hv1 hv2];decide
 ·rw[OU hw];exact Nat.one_ne_zero
 ·rw[OU hw];dsimp only;rw[if_pos rfl];decide
 ·rw[OU hw];dsimp only;rw[if_pos rfl];decide
 ·rw[OU hw];dsimp only;rw[if_neg (by omega),if_neg fun z=>hf' z.2];decide
 ·rw[OU hw];dsimp only;rw[if_neg (by omega),if_neg fun z=>hf' z.1];decide
 ·rw[RD hc];dsimp only;rw[if_neg (by omega)];decide
 ·rw[RD hc];exact Nat.one_ne_zero
 ·rw[OU hw];exact Nat.one_ne_zero
def OA (n:Int) (s:Say):Prop:=∃ j,s = .pair true 0 j/\0<j/\j<n
theorem OA.ok {n:Int} {s:Say} (h:OA n s):Bn n s:= by
 obtain ⟨j,rfl,h1,h2⟩:=h
 exact ⟨by omega,by omega,by omega,h2,by omega⟩
def M6 (n:Nat):List Int:=0::List.replicate (n-1) 1
theorem GK {f:Int} (hf:1<=f) : ∀ k:Nat,B3 f (List.replicate k 1)=true
 | 0=>rfl
 | k+1=>by
  rw[List.replicate_succ,B3,GK (by split <;> omega) k]
  simp;omega
theorem E4 {n:Nat} (h:1<=n):(M6 n).length=n:=by simp [M6];omega
theorem Ka {n:Nat} (h:1<=n) (h9:n<=9):FW (M6 n)=true:= by
 refine HH.mpr ⟨by rw[E4 h];exact h,by rw[E4 h];exact h9,?_⟩
 have:=GK (f:=1) (by decide) (n-1)
 rw[M6,B3]
 simpa using this
theorem Ef {n:Nat} {s:Say} (h:OA n s):IU (M6 n) s:= by
 obtain ⟨j,rfl,h1,h2⟩:=h
 obtain ⟨m,rfl⟩ : ∃ m:Nat,j=((m+1:Nat):Int):=⟨(j-1).toNat,by omega⟩
 show gat (M6 n) 0≠gat (M6 n) _
 have:(List.replicate (n-1) (1:Int))[m]?=some 1:=by rw[List.getElem?_replicate,if_pos (by omega)]
 unfold gat M6
 rw[Int.toNat_natCast]
 simp [List.getD,this]
def N8:Raw->Dd
 | none=>.tup []
 | some (w,xs)=>.tup (.str w::xs.map Dd.int)
theorem O6 {K:PySem.W.Frag} {H:Hp} {a:Addr} {r:Raw} (h:H a=some (.tup (Le r))):DAt K H (N8 r) (.ref a):= by
 rcases r with _ | ⟨w,xs⟩
 ·rw[N8,DAt]
  exact ⟨a,_,rfl,SqT.of h,by rw[EB];rfl⟩
 ·rw[N8,DAt]
  refine ⟨a,_,rfl,SqT.of h,?_⟩
  rw[Le,EB]
  exact ⟨_,_,rfl,by rw[DAt],HC xs⟩
theorem NF {K:PySem.W.Frag} {H:Hp} {as:List Addr} {rs:List Raw} (h:DB H as rs):EB K H (rs.map N8) (as.map V.ref):= by
 induction h with
 | nil=>rw[List.map_nil,EB];rfl
 | cons h t ih=>
  rw[List.map_cons,EB]
  exact ⟨_,_,rfl,O6 h,ih⟩
theorem Kl {K:PySem.W.Frag} {H:Hp} {b:Addr} {as:List Addr} {rs:List Raw} (hb:SqL K H b (as.map V.ref)) (h:DB H as rs):DAt K H (.lst (rs.map N8)) (.ref b):= by
 rw[DAt];exact ⟨b,_,rfl,hb,NF h⟩
theorem HJ : ∀ xs:List Int,Cz (xs.map Dd.int)=0
 | []=>by simp [Cz]
 | x::xs=>by rw[List.map_cons,Cz,HJ xs];simp [Gb]
theorem Ny (r:Raw):Gb (N8 r)<=1:= by
 rcases r with _ | ⟨w,xs⟩
 ·simp [N8,Gb,Cz]
 ·rw[N8,Gb,Cz,HJ];simp [Gb]
theorem HQ : ∀ rs:List Raw,Cz (rs.map N8)<=1
 | []=>by simp [Cz]
 | r::rs=>by
  rw[List.map_cons,Cz]
  have:=Ny r
  have:=HQ rs
  omega
theorem DB.same {H H':Hp} {as:List Addr} {rs:List Raw} (h:DB H as rs) (s:Ak H H'):DB H' as rs:=L2.Paired.mapP h fun _ _ z=>s _ _ z
theorem DB.beside {H H':Hp} {as:List Addr} {rs:List Raw} {P:Addr} {pos:Pos} {q:Str} (h:DB H as rs) (ht:AM H P pos q) (s:Ak (Bp H P) H'):DB H' as rs:=L2.Paired.mapP h fun _ _ z=>s _ _ (A4 ht z fun _ z=>nomatch z)
theorem DB.says {H:Hp} {as:List Addr} {ss:List Say} (h:Jd H as ss):DB H as (ss.map Cp):= by
 induction h with
 | nil=>exact .nil
 | cons h t ih=>exact .cons (by rw[Hr];exact h) ih
theorem Co {H0 H:Hp} {row t:Addr} {row9 xs:List V} {as:List Addr} {rs:List Raw} (r:Raw) (S:Ak H0 H) (hR:H row=some (.lst row9)) (hW:DB H as rs) (ht:H t=none) (hx:Le r=xs) : ∃ H',upd H t (.tup xs)=H'/\Ak H H'/\Ak H0 H'/\H' row=some (.lst row9)/\DB H' (as++[t]) (rs++[r]):= by
 have s:=Ak.new (o:=HO.tup xs) ht
 exact ⟨_,rfl,s,S.trans s,s _ _ hR,Paired.snoc (hW.same s) (by rw[hx];exact Ab)⟩
theorem IQ {H0 H:Hp} {row b:Addr} {row9 xs:List V} {as:List Addr} {rs:List Raw} (ys:List V) (S:Ak H0 H) (h0:H0 b=none) (hb:H b=some (.lst xs)) (hR:H row=some (.lst row9)) (nb:row≠b) (hW:DB H as rs) : ∃ H',upd H b (.lst ys)=H'/\Ak H0 H'/\H' row=some (.lst row9)/\DB H' as rs/\H' b=some (.lst ys):= by
 refine ⟨_,rfl,fun a o e=>?_,by rw[Af nb];exact hR,L2.Paired.mapP hW fun a r z=>?_,Ab⟩
 ·rw[Af (fun z=>by rw[z,h0] at e;cases e)];exact S _ _ e
 ·rw[Af (Cv z hb fun z=>nomatch z)];exact z
theorem L3 {H:Hp} : ∀ {as:List Addr} {rs:List Raw},DB H as rs -> ∀ {k:Nat},k<as.length -> ∃ t r,as[k]?=some t/\rs[k]?=some r/\H t=some (.tup (Le r))
 | _,_,.nil,k,h=>absurd h (Nat.not_lt_zero _)
 | _,_,.cons h t,0,_=>⟨_,_,rfl,rfl,h⟩
 | _,_,.cons h t,k+1,hk=>by
  obtain ⟨x,r,h1,h2,h3⟩:=L3 t (k:=k) (by simpa using hk)
  exact ⟨x,r,by simpa using h1,by simpa using h2,h3⟩
theorem Hb (w a b:Str):inV (.str w) [.str a,.str b]=decide (w=a\/w=b):= by
 show (a==w||(b==w||false))=_
 rw[Bool.or_false,Bool.eq_iff_iff]
 simp only [Bool.or_eq_true,beq_iff_eq,decide_eq_true_eq]
 constructor <;> rintro (h | h) <;> first | exact .inl h.symm | exact .inr h.symm
theorem Qn {te th:TE} {σ:St} {H:Hp} {lo hi x:Int} {N:Bool->Hp->Prop} (he : ∀ Q:VK,Q (.int x) H->te σ H Q) (hh : ∀ Q:VK,Q (.int hi) H->th σ H Q) (h:N (decide (lo<=x)&&decide (x<=hi)) H) :
  Mo (Ke (rI0 fun i j=>V.bl (decide (i<=j))) (rI0 fun i j=>V.bl (decide (i<=j))) (tC (V.int lo)) te th) σ H N:= by
 refine he _ ⟨lo,x,rfl,rfl,_,rfl,?_⟩
 by_cases g:lo<=x
 ·rw[decide_eq_true g] at h ⊢
  exact FY (hh _ ⟨x,hi,rfl,rfl,_,rfl,h⟩)
 ·rw[decide_eq_false g] at h ⊢
  exact FT ⟨_,rfl,h⟩
section
variable {X:Cx} {K:PySem.W.Frag}
theorem Of {x y z:Str} {C D F:Addr} {body:List Stmt} {b₀ c₀ d₀:Stmt} {suite tuite vuite:List Stmt} {tb:XK->TS} {th tk tl:TS} {np hpos np2 hpos2 np3 hpos3 pos:Pos} (hst:X.stack=X.env::X.outer) (hfm:X.env.frame=some X.env.locals) (hc:X.calm=true)
  (hg : Gl X x) (hm : X.mg x = some (.ref C)) (hq : PySem.W.excIn X.K C bmV "ValueError.__new__" = true) (hg2 : Gl X y) (hm2 : X.mg y = some (.ref D)) (hq2 : PySem.W.excIn X.K D bmV "ValueError.__new__" = true) (hg3 : Gl X z) (hm3 : X.mg z = some (.ref F)) (hq3 : PySem.W.excIn X.K F bmV "ValueError.__new__" = true) (hne : PySem.W.exmOne X.K (.ref D) (.ref C) = some false) (hne2 : PySem.W.exmOne X.K (.ref F) (.ref C) = some false) (hne3 : PySem.W.exmOne X.K (.ref F) (.ref D) = some false)
  (hb : ∀ pins E XE,PassesOwn (model X.prog X.w) X.A X.env XE -> Cf (CXE X.prog X.w) (X.alt (X.pn ++ pins) X.A X.calm XE) E -> PSs (X.alt (X.pn ++ pins) X.A X.calm XE) body (tb E)) (hh : ∀ pins ea,PSs (EC X pins ea) (b₀ :: suite) th) (hk : ∀ pins ea,PSs (EC X pins ea) (c₀ :: tuite) tk) (hl : ∀ pins ea,PSs (EC X pins ea) (d₀ :: vuite) tl) (hd : (x == ("__debug__" : Str)) = false:=by decide) (hd2 : (y == ("__debug__" : Str)) = false:=by decide) (hd3 : (z == ("__debug__" : Str)) = false:=by decide) :
  PS X (.Try body [.ExceptHandler (some (.Name x np)) none (b₀::suite) hpos,.ExceptHandler (some (.Name y np2)) none (c₀::tuite) hpos2,.ExceptHandler (some (.Name z np3)) none (d₀::vuite) hpos3] [] [] pos) (QL C D F X.N.length tb th tk tl):= by
 intro pins s σ H Z I h
 have back : ∀ {A:Around} {cm:Bool} {E:Value->Shared->Prop} {f:Flow} {s':Shared},SP (X.alt (X.pn++pins) A cm E) [] Z f s'->SP X pins Z f s':=fun {A cm E f s'} q=>by
  have un : ∀ {σ':St} {H':Hp},Inv (X.alt (X.pn++pins) A cm E) [] σ' H' s'->Inv X pins σ' H' s':=fun {σ' H'} J=>
   ⟨I.ok,J.os,J.bare,J.base,J.loc,J.cell,J.free,J.freeC,fun p hp=>J.pin p (by simpa using hp),J.hok,J.len⟩
  cases f with
  | next=>obtain ⟨σ',H',J,q⟩:=q;exact ⟨σ',H',un J,q⟩
  | brk=>obtain ⟨σ',H',J,q⟩:=q;exact ⟨σ',H',un J,q⟩
  | cont=>obtain ⟨σ',H',J,q⟩:=q;exact ⟨σ',H',un J,q⟩
  | ret v=>obtain ⟨x',σ',H',J,r,q⟩:=q;exact ⟨x',σ',H',un J,r,q⟩
 suffices lands : ∀ e s1,XB X pins (fun c _ H'=>(c = .ref C/\th Z (List.replicate X.N.length none) H')\/(c = .ref D/\tk Z (List.replicate X.N.length none) H')\/(c = .ref F/\tl Z (List.replicate X.N.length none) H')) e s1->(fun e s1=>wpAny (model X.prog X.w) X.A (noteFrame e X.env) (fun _ s2=>wpAny (model X.prog X.w) X.A (setFlight e none) (fun _ s3=>wpAny (model X.prog X.w) X.A (handleBy e X.env [.ExceptHandler (some (.Name x np)) none (b₀::suite) hpos,.ExceptHandler (some (.Name y np2)) none (c₀::tuite) hpos2,.ExceptHandler (some (.Name z np3)) none (d₀::vuite) hpos3]) (SP X pins Z) X.xe s3) X.xe s2) X.xe s1) e s1 by
  have hx:Cf (CXE X.prog X.w) (X.alt (X.pn++pins) X.A X.calm (fun e s1=>wpAny (model X.prog X.w) X.A (noteFrame e X.env) (fun _ s2=>wpAny (model X.prog X.w) X.A (setFlight e none) (fun _ s3=>wpAny (model X.prog X.w) X.A (handleBy e X.env [.ExceptHandler (some (.Name x np)) none (b₀::suite) hpos,.ExceptHandler (some (.Name y np2)) none (c₀::tuite) hpos2,.ExceptHandler (some (.Name z np3)) none (d₀::vuite) hpos3]) (SP X pins Z) X.xe s3) X.xe s2) X.xe s1)) (fun c _ H'=>(c = .ref C/\th Z (List.replicate X.N.length none) H')\/(c = .ref D/\tk Z (List.replicate X.N.length none) H')\/(c = .ref F/\tl Z (List.replicate X.N.length none) H')):=fun pins' σ' H' s' e s2 I' hc=>by
   have I2:=Inv.alt (pn:=X.pn++pins) (A:=X.A) (cm:=X.calm) (E:=XB X pins (fun c _ H'=>(c = .ref C/\th Z (List.replicate X.N.length none) H')\/(c = .ref D/\tk Z (List.replicate X.N.length none) H')\/(c = .ref F/\tl Z (List.replicate X.N.length none) H'))) (pins':=pins') I' rfl I'.ok.hd fun p hp=>hp
   exact lands e s2 (JM (X:=X) (pins:=pins) pins' σ' H' s' e s2 I2 hc)
  have I0:Inv (X.alt (X.pn++pins) X.A X.calm (fun e s1=>wpAny (model X.prog X.w) X.A (noteFrame e X.env) (fun _ s2=>wpAny (model X.prog X.w) X.A (setFlight e none) (fun _ s3=>wpAny (model X.prog X.w) X.A (handleBy e X.env [.ExceptHandler (some (.Name x np)) none (b₀::suite) hpos,.ExceptHandler (some (.Name y np2)) none (c₀::tuite) hpos2,.ExceptHandler (some (.Name z np3)) none (d₀::vuite) hpos3]) (SP X pins Z) X.xe s3) X.xe s2) X.xe s1)) [] σ H s:=I.alt rfl I.ok.hd fun p hp=>by simpa using hp
  refine wpAny_Try_except (wpAny_mono (hb pins _ _ PassesOwn.looking hx [] s σ H Z I0 h) (fun f s1 q=>?_) (fun e s1 q=>q))
  have q':=back q
  cases f with
  | next=>exact wpAny_execs_nil q'
  | brk=>exact q'
  | cont=>exact q'
  | ret v=>exact q'
 intro e s1 q
 obtain ⟨ea,cls,H',B,σ',rfl,J,⟨a0,fl⟩,c1,c2,c3,c4,hE⟩:=q
 rw[hst] at fl
 refine wpAny_looks_onW (by rw[I.ok.frames,hst]) hfm fl fun h4 hheld hsm4=>?_
 refine wpAny_landsW hheld fun h5 fl5 hsm5=>?_
 have sm5:=hsm4.trans hsm5
 have J5:=J.slots fl5.1 sm5 c1 c2 c3 (fun p hp=>c4 p (by simpa using hp))
 obtain ⟨ob,hob,hobc⟩:=fl5.there
 have Jh:Inv (EC X pins ea) [] σ' H' { s1 with heap:=h5 }:=J5.alt rfl (fun z=>by cases z) fun p hp=>hp
 have fin : ∀ {bs:List Stmt} {c:Stmt} {t:TS},(∀ pins ea,PSs (EC X pins ea) (c::bs) t)->t Z (List.replicate X.N.length none) H' -> ∀ (hp:Pos),
   codeAny (model X.prog X.w) (X.A.mark (some (.ref ea))) (.handlers (.ref ea) [.ExceptHandler none none (c::bs) hp] X.env) (fun r s₂=>match r with | .ok f=>SP X pins Z f s₂ | .error x=>cameBackBy (model X.prog X.w) X.A X.env X.xe x s₂) { s1 with heap:=h5 }:=fun {bs c t} ht hz hp=>by
  refine codeAny_handlers_suite ?_
  refine lands_againW fl5 fun h6 fl6 hsm6=>?_
  have J6:=J.slots fl6.1 (sm5.trans hsm6) c1 c2 c3 (fun p hp=>c4 p (by simpa using hp))
  have Jh6:Inv (EC X pins ea) [] σ' H' { s1 with heap:=h6 }:=J6.alt rfl (fun z=>by cases z) fun p hp=>hp
  have Jw:Inv (EC X pins ea) [] (List.replicate X.N.length none) H' { s1 with heap:=h6 }:=Jh6.weak (by rw[List.length_replicate];exact Jh6.len.symm) fun i v e=>by
   rw[List.getElem?_replicate] at e
   split at e <;> cases e
  exact wpAny_mono (ht pins ea [] _ _ H' Z Jw hz) (fun f s2 q2=>back q2) fun _ _ z=>z.elim
 refine wpAny_handleBy_cons (codeAny_handlers_test (Cu Jh hg hm ?_ hd)) (by intro q;cases q)
 rcases hE with ⟨hcls,hE⟩ | ⟨hcls,hE⟩ | ⟨hcls,hE⟩
 ·subst hcls
  obtain ⟨bm,N,nm,q,bs,hdct,sn,sub,ab,col,dd,k0,k1,k2,k3,k5,mN,hC,hN,hni,TL⟩:=GG Jh.ok.mod.kin hq
  refine wpAny_excMatches_sub_self (Jh.bk _ _ hC) hob hobc (TL.hasType (by decide +kernel)) ?_
  exact fin hh hE hpos
 ·subst hcls
  have LT:PySem.W.Looks (model X.prog X.w) h5 (typeOf (.ref ea)) (.ref D):= by
   rw[<- hobc]
   exact (PySem.W.Looks.ld hob).andThen .now
  refine (PySem.W.exm_one (M:=model X.prog X.w) (c:=.ref C) Jh.kIn LT hne) _ _ _ { s1 with heap:=h5 } (fun b o e=>e) ?_
  show wpAny _ _ (handleBy _ _ _) _ _ _
  refine wpAny_handleBy_cons (codeAny_handlers_test (Cu Jh hg2 hm2 ?_ hd2)) (by intro q;cases q)
  obtain ⟨bm,N,nm,q,bs,hdct,sn,sub,ab,col,dd,k0,k1,k2,k3,k5,mN,hC,hN,hni,TL⟩:=GG Jh.ok.mod.kin hq2
  refine wpAny_excMatches_sub_self (Jh.bk _ _ hC) hob hobc (TL.hasType (by decide +kernel)) ?_
  exact fin hk hE hpos2
 ·subst hcls
  have LT:PySem.W.Looks (model X.prog X.w) h5 (typeOf (.ref ea)) (.ref F):= by
   rw[<- hobc]
   exact (PySem.W.Looks.ld hob).andThen .now
  refine (PySem.W.exm_one (M:=model X.prog X.w) (c:=.ref C) Jh.kIn LT hne2) _ _ _ { s1 with heap:=h5 } (fun b o e=>e) ?_
  show wpAny _ _ (handleBy _ _ _) _ _ _
  refine wpAny_handleBy_cons (codeAny_handlers_test (Cu Jh hg2 hm2 ?_ hd2)) (by intro q;cases q)
  refine (PySem.W.exm_one (M:=model X.prog X.w) (c:=.ref D) Jh.kIn LT hne3) _ _ _ { s1 with heap:=h5 } (fun b o e=>e) ?_
  show wpAny _ _ (handleBy _ _ _) _ _ _
  refine wpAny_handleBy_cons (codeAny_handlers_test (Cu Jh hg3 hm3 ?_ hd3)) (by intro q;cases q)
  obtain ⟨bm,N,nm,q,bs,hdct,sn,sub,ab,col,dd,k0,k1,k2,k3,k5,mN,hC,hN,hni,TL⟩:=GG Jh.ok.mod.kin hq3
  refine wpAny_excMatches_sub_self (Jh.bk _ _ hC) hob hobc (TL.hasType (by decide +kernel)) ?_
  exact fin hl hE hpos3
end
theorem N1 {C D F:Addr} {n:Nat} {tb:XK->TS} {th tk tl:TS} {Z:IL} {σ:St} {H:Hp} (h : ∀ E:XK,(∀ o H',th Z (List.replicate n none) H'->E (.ref C) o H')->(∀ o H',tk Z (List.replicate n none) H'->E (.ref D) o H')->(∀ o H',tl Z (List.replicate n none) H'->E (.ref F) o H')->tb E Z σ H):QL C D F n tb th tk tl Z σ H:=
 h _ (fun _ _ z=>.inl ⟨rfl,z⟩) (fun _ _ z=>.inr (.inl ⟨rfl,z⟩)) (fun _ _ z=>.inr (.inr ⟨rfl,z⟩))
theorem LG (n:Int) : ∀ rs:List Raw,Kd n rs=0\/Kd n rs=1\/Kd n rs=2
 | []=>.inl rfl
 | r::rs=>by
  unfold Kd
  split
  ·exact LG n rs
  ·exact Ht n r
theorem QZ {n:Int} {rs:List Raw} (h:rdS n rs≠0):rdS n rs=1\/rdS n rs=2\/rdS n rs=3:= by
 unfold rdS at h ⊢
 split at h
 ·rename_i g
  rw[if_pos g]
  rcases LG n rs with e | e | e
  ·exact absurd e h
  ·exact .inl e
  ·exact .inr (.inl e)
 ·rename_i g
  rw[if_neg g]
  exact .inr (.inr rfl)
theorem Fj {n:Int} {ss:List Say} {r:Raw} {tl:List Raw} (hn:1<=n/\n<=9) (hs : ∀ s ∈ ss,Bn n s) (hr:B8 n r≠0):rdS n (ss.map Cp++r::tl)=B8 n r:= by
 unfold rdS
 rw[if_pos hn]
 refine Fm (m:=ss.length) (by rw[List.getElem?_append_right (by simp)];simp) (fun q hq=>?_) hr
 rw[List.take_left' (by simp)] at hq
 obtain ⟨s,h1,rfl⟩:=List.mem_map.mp hq
 exact Jm (hs s h1)
theorem Mm (xs:List V) (ys:List V) (h:ys.length=2):Fd (xs++ys) none (some (-2))=xs:= by
 unfold Fd
 have e1:HT.sIx (xs++ys).length 0 none=0:=rfl
 have e2:HT.sIx (xs++ys).length (xs++ys).length (some (-2))=xs.length:= by
  unfold HT.sIx
  rw[List.length_append,h]
  simp
  omega
 rw[e1,e2,List.drop_zero,Nat.sub_zero,List.take_left']
 rfl
theorem LR (xs:List V) (ys:List V) (h:ys.length=2):Fd (xs++ys) (some (-2)) none=ys:= by
 unfold Fd
 have e2:HT.sIx (xs++ys).length 0 (some (-2))=xs.length:= by
  unfold HT.sIx
  rw[List.length_append,h]
  simp
  omega
 have e1:HT.sIx (xs++ys).length (xs++ys).length none=(xs++ys).length:=rfl
 rw[e1,e2,List.drop_left',List.length_append,h,Nat.add_sub_cancel_left,<- h,List.take_length]
 rfl
theorem Dj {α β:Type} {F:α->β->Prop} : ∀ {as:List α} {xs ys:List β},Paired F as (xs++ys) -> ∃ a1 a2,as=a1++a2/\Paired F a1 xs/\Paired F a2 ys
 | as,[],ys,h=>⟨[],as,rfl,.nil,h⟩
 | _,x::xs,ys,.cons h t=>by
  obtain ⟨a1,a2,rfl,h1,h2⟩:=Dj t
  exact ⟨_::a1,a2,rfl,.cons h h1,h2⟩
end L2
set_option maxHeartbeats 4000000
local macro_rules | `(tactic| trivial)=>`(tactic| exact ⟨rfl,rfl,rfl,by decide +kernel,rfl,by decide +kernel,by decide +kernel⟩)
namespace Lw
open PySem L2
def top (i:Nat):Stmt:=PySem.Challenge.pw_censers_k36_sayings_refused.main.body.getD i (.Pass ⟨0,0,0,0⟩)
abbrev B7:Stmt:=top 38
abbrev B6:Stmt:=top 39
abbrev BL:Stmt:=top 11
abbrev Bi:Stmt:=top 12
abbrev En:Stmt:=top 13
abbrev BH:Stmt:=top 14
abbrev Bh:Stmt:=top 17
abbrev A9:Stmt:=BI (top 18) 0
abbrev B9:Stmt:=BI (top 18) 1
abbrev Bw:Stmt:=BI (top 18) 2
abbrev BQ:Stmt:=BI (top 18) 3
abbrev BJ:Stmt:=BI (top 18) 4
abbrev Dx:Stmt:=top 19
abbrev Bk:Stmt:=top 22
abbrev Gy:Stmt:=top 23
abbrev Bx:Stmt:=top 24
abbrev AZ:Stmt:=top 25
abbrev B5:Stmt:=top 26
abbrev Ew:Stmt:=top 27
abbrev Dt:Stmt:=top 28
abbrev CD:Stmt:=top 31
abbrev GM:Stmt:=top 32
abbrev Gz:Stmt:=top 34
abbrev AT:Stmt:=BI (top 35) 3
abbrev Bj:Stmt:=BI (top 35) 4
abbrev Bl:Stmt:=BI (top 35) 2
abbrev AK:Stmt:=BI (top 35) 9
abbrev Ba:Stmt:=BI (top 35) 10
abbrev AC:Stmt:=BI (top 35) 6
abbrev AR:Stmt:=BI (top 35) 0
abbrev Bu:Stmt:=BI (top 35) 7
abbrev B4:Stmt:=top 37
abbrev BK:Stmt:=top 40
abbrev CG:Stmt:=top 41
abbrev Cy:Stmt:=top 42
abbrev A3:Stmt:=top 45
abbrev BR:Stmt:=top 43
abbrev AS:Stmt:=top 44
abbrev N5:Stmt:=top 46
structure Bs (mg:Str->Option Value):Prop where
 dict : mg "dict" = none
 enumerate : mg "enumerate" = none
 len : mg "len" = none
 list : mg "list" = none
 max : mg "max" = none
 min : mg "min" = none
 range : mg "range" = none
 set : mg "set" = none
 sorted : mg "sorted" = none
 sum : mg "sum" = none
 tuple : mg "tuple" = none
structure Gs (mg:Str->Option Value):Prop where
 yes:True
 MOST_CENSERS : ∃ t,mg "MOST_CENSERS" = some (.int 9 t)
theorem KI {α β:Type} {R:α->β->Prop} : ∀ {l1:List α} {l2:List β} {j:Nat} {a:α},Paired R l1 l2->l1[j]?=some a -> ∃ b,R a b/\l2[j]?=some b
 | _,_,_,_,.nil,h=>by simp at h
 | _,_,0,_,.cons r t,h=>by simp at h;subst h;exact ⟨_,r,rfl⟩
 | _,_,j+1,_,.cons r t,h=>by
  obtain ⟨b,q,e⟩:=KI (j:=j) t (by simpa using h)
  exact ⟨b,q,by simpa using e⟩
theorem Eo {α β:Type} {R:α->β->Prop} : ∀ {l1:List α} {l2:List β} {k1:List α} {k2:List β},Paired R l1 l2->Paired R k1 k2->Paired R (l1++k1) (l2++k2)
 | _,_,_,_,.nil,h=>h
 | _,_,_,_,.cons r t,h=>.cons r (Eo t h)
def GY (K:PySem.W.Frag):Sp:=fun vs H Q _=>∃ (a:Addr) (ns:List Int),vs=[.ref a]/\SqL K H a (ns.map V.int)/\1<=ns.length/\ns.length<=9 /\ ∀ (p:Addr) (H':Hp),H p=none->Ak H H'->H' p=some (.tup ((Bm ns).map V.int))->Q (.ref p) H'
def Jo (K:PySem.W.Frag):Sp:=fun vs H Q _=>∃ (a:Addr) (L:List Int) (o n:Int),vs=[.ref a,.int o,.int n]/\SqL K H a (L.map V.int)/\L.length<=900 /\ ∀ (p:Addr) (H':Hp),H p=none->Ak H H'->H' p=some (.lst ((Cg L o n).map V.int))->Q (.ref p) H'
abbrev DH : Str:=(("open_pair" : Str) ++ ".<locals>.") ++ "<lambda>"
def SO:Sp:=fun vs H Q _=>∃ n:Int,vs=[.int n]/\1<=n/\n<=9/\Q .non H
def SI:Sp:=fun vs H Q _=>∃ n i:Int,vs=[.int n,.int i]/\0<=i/\i<n/\Q .non H
def SH (K:PySem.W.Frag):Sp:=fun vs H Q _=>∃ (n:Int) (a:Addr) (s:Say),vs=[.int n,.ref a]/\H a=some (.tup (LY s))/\Bn n s/\Q .non H
def Rh (K:PySem.W.Frag) (C:Addr):Sp:=fun vs H Q _=>∃ (x dx l d:Addr) (lo hi:Int),vs=[.ref x,.ref l,.ref d,.int lo,.int hi]/\H x=some (.ins C dx []) /\ ∀ H',H' x=some (.ins C dx (gF l d lo hi))->FrP H H' x->Q .non H'
def Rm (K:PySem.W.Frag) (C:Addr):Sp:=fun vs H Q _=>∃ (x dx l d a:Addr) (g:Gst) (n:Nat) (s:Say),vs=[.ref x,.ref a]/\Gr C H x dx l d g/\H a=some (.tup (LY s))/\Gok n g/\Bn n s/\n<=9 /\ ∀ (m:Addr) (H':Hp),Gr C H' x dx m d (g.take s)->FrL [x,d] H H'->Q .non H'
def RT (K:PySem.W.Frag) (C:Addr):Sp:=fun vs H Q _=>∃ (x dx l d a:Addr) (g:Gst) (n:Nat) (s:Say),vs=[.ref x,.ref a]/\Gr C H x dx l d g/\H a=some (.tup (LY s))/\Gok n g/\Bn n s/\n<=9 /\ ∀ (y dy m e:Addr) (H':Hp),Ak H H'->Gr C H' y dy m e (g.take s)->Q (.ref y) H'
def Q7 (K:PySem.W.Frag) (C:Addr):Sp:=fun vs H Q _=>∃ (x dx l d:Addr) (g:Gst) (n:Nat),vs=[.ref x]/\Gr C H x dx l d g/\Gok n g/\n<=9 /\ ∀ (p:Addr) (H':Hp),Ak H H'->H' p=some (.lst ((AV n g.L).map V.int))->Q (.ref p) H'
def Rn (K:PySem.W.Frag) (C:Addr):Sp:=fun vs H Q _=>∃ (x dx l d:Addr) (g:Gst) (n:Nat),vs=[.ref x]/\Gr C H x dx l d g/\Gok n g/\n<=9 /\ ∀ (p:Addr) (H':Hp),Ak H H'->H' p=some (.dT (uKv (Bc g.L g.U)))->Q (.ref p) H'
def Rt (K:PySem.W.Frag) (C:Addr):Sp:=fun vs H Q _=>∃ (n:Nat) (b:Addr) (as:List Addr) (ss:List Say),vs=[.int n,.ref b]/\1<=n/\n<=9/\SqL K H b (as.map V.ref)/\Jd H as ss/\(∀ s ∈ ss,Bn n s)/\ss.length<=1000 /\ ∀ (x dx l d:Addr) (H':Hp),Ak H H'->Gr C H' x dx l d (By n ss)->Q (.ref x) H'
def Re (K:PySem.W.Frag) (dd:Nat):Sp:=fun vs H Q _=>0<dd /\ ∃ (p q:Addr) (hs:List Int) (W:List (Int × Int)) (s:Nat),vs=[.ref p,.ref q,.int s]/\H p=some (.lst (hs.map V.int))/\H q=some (.dT (uKv W))/\s<dd/\hs.length<=9/\(∀ H',Ak H H'->(hs.Pairwise (fun a b=>(a,b) ∈ W)->hs.length<s)->Q .non H') /\ ∀ (r:Addr) (xs:List Int) (H':Hp),Ak H H'->H' r=some (.lst (xs.map V.int))->xs.Sublist hs->xs.length=s->xs.Pairwise (fun a b=>(a,b) ∈ W)->Q (.ref r) H'
def Rp (K:PySem.W.Frag) (C:Addr):Sp:=fun vs H Q _=>∃ (x dx l d:Addr) (g:Gst) (n:Nat),vs=[.ref x]/\Gr C H x dx l d g/\Gok n g/\1<=n/\n<=9/\(∀ H',Ak H H'->(∀ p ∈ g.U,gat g.L p.1≠gat g.L p.2)->g.lo<=(AV n g.L).length->((AV n g.L).Pairwise (fun a b=>(a,b) ∈ Bc g.L g.U)->((AV n g.L).length:Int)<=g.hi)->Q .non H') /\ ∀ (p:Pap) (v:V) (H':Hp),Ak H H'->Cr H' p v->Hy n g p->Nv p=0->Q v H'
def apB (hs:List Int) (W:List (Int × Int)) (a b:Int):Nat:=(hs.filter fun h=>decide ((a,h) ∈ W)&&decide ((b,h) ∈ W)).length
def RK (K:PySem.W.Frag):Sp:=fun vs H Q _=>∃ (p q:Addr) (hs:List Int) (W:List (Int × Int)) (a b:Int),vs=[.ref p,.ref q,.int a,.int b]/\SqL K H p (hs.map V.int)/\H q=some (.dT (uKv W))/\hs.length<=9 /\ ∀ H',Ak H H'->Q (.int (apB hs W a b)) H'
def Rz (K:PySem.W.Frag) (C PT:Addr):Sp:=fun vs H Q _=>∃ (x dx l d:Addr) (g:Gst) (n:Nat),vs=[.ref x]/\Gr C H x dx l d g/\Gok n g/\n<=9/\Bd n g≠[]/\AM H PT ⟨125,26,125,86⟩ DH /\ ∀ (t:Addr) (q:Int × Int) (H':Hp),Ak (Bp H PT) H'->AM H' PT ⟨125,26,125,86⟩ DH->H' t=some (.tup [.int q.1,.int q.2])->q ∈ Bd n g->Q (.ref t) H'
def Rf (K : PySem.W.Frag) (C PT : Addr) (dd : Nat) : Sp:=fun vs H Q _=>0 < dd /\ ∃ (x dx l d : Addr) (g : Gst) (n : Nat),vs = [.ref x] /\ Gr C H x dx l d g /\ Gok n g /\ 1 <= n /\ n <= 9 /\ (Bd n g).length < dd /\ AM H PT ⟨125,26,125,86⟩ DH /\ (∀ (t a : Addr) (w : List Int) (H' : Hp),Ak (Bp H PT) H' -> AM H' PT ⟨125,26,125,86⟩ DH -> H' t = some (.tup [.str "way",.ref a]) -> H' a = some (.tup (w.map V.int)) -> FW w = true -> w.length = n -> DP n g w -> Q (.ref t) H') /\ ∀ (t : Addr) (v : V) (p : Pap) (H' : Hp),Ak (Bp H PT) H' -> AM H' PT ⟨125,26,125,86⟩ DH -> H' t = some (.tup [.str "none",v]) -> Cr H' p v -> Hy n g p -> Nv p <= (Bd n g).length -> Q (.ref t) H'
def SU (K : PySem.W.Frag) (PT : Addr) : Sp:=fun vs H Q _=>∃ (n : Nat) (b : Addr) (as : List Addr) (ss : List Say),vs = [.int n,.ref b] /\ 1 <= n /\ n <= 9 /\ SqL K H b (as.map V.ref) /\ Jd H as ss /\ (∀ s ∈ ss,Bn n s) /\ ss.length <= 1000 /\ AM H PT ⟨125,26,125,86⟩ DH /\ (∀ (t a : Addr) (w : List Int) (H' : Hp),Ak (Bp H PT) H' -> AM H' PT ⟨125,26,125,86⟩ DH -> H' t = some (.tup [.str "way",.ref a]) -> H' a = some (.tup (w.map V.int)) -> FW w = true -> w.length = n -> DP n (By n ss) w -> Q (.ref t) H') /\ ∀ (t : Addr) (v : V) (p : Pap) (H' : Hp),Ak (Bp H PT) H' -> AM H' PT ⟨125,26,125,86⟩ DH -> H' t = some (.tup [.str "none",v]) -> Cr H' p v -> Hy n (By n ss) p -> Nv p <= 36 -> Q (.ref t) H'
def CT (C:Addr):Sp:=fun vs H Q E=>∃ n:Int,vs=[.int n]/\(1<=n->n<=9->Q .non H)/\(¬ (1<=n/\n<=9)->E (.ref C) none H)
def B1 (C:Addr):Sp:=fun vs H Q E=>∃ (n c:Int),vs=[.int n,.int c]/\(0<=c->c<n->Q .non H)/\(¬ (0<=c/\c<n)->E (.ref C) none H)
def Nm (K:PySem.W.Frag) (C1 C2:Addr):Sp:=fun vs H Q E=>∃ (n:Int) (a:Addr) (r:Raw),vs=[.int n,.ref a]/\H a=some (.tup (Le r))/\(B8 n r=0->Q .non H)/\(B8 n r=1->E (.ref C1) none H)/\(B8 n r=2->E (.ref C2) none H)
def Jx:Sp:=fun _ _ _ _=>False
def Oe (K:PySem.W.Frag) (C CM CS CN:Addr):Sp:=fun vs H Q E=>∃ (n:Int) (b:Addr) (as:List Addr),vs=[.int n,.ref b]/\SqL K H b (as.map V.ref)/\((∃ (m:Nat) (ss:List Say),n=m/\1<=m/\m<=9/\Jd H as ss/\(∀ s ∈ ss,Bn m s)/\ss.length<=1000 /\ ∀ (x dx l d:Addr) (H':Hp),Ak H H'->Gr C H' x dx l d (By m ss)->Q (.ref x) H')\/(∃ rs,DB H as rs/\rdS n rs≠0/\E (.ref (rdC CM CS CN (rdS n rs))) none H))
def NI (K : PySem.W.Frag) (CM CS CN PT : Addr) : Sp:=fun vs H Q E=>∃ (n : Int) (b : Addr) (as : List Addr),vs = [.int n,.ref b] /\ SqL K H b (as.map V.ref) /\ ((∃ (m : Nat) (ss : List Say),n = m /\ 1 <= m /\ m <= 9 /\ Jd H as ss /\ (∀ s ∈ ss,Bn m s) /\ ss.length <= 1000 /\ AM H PT ⟨125,26,125,86⟩ DH /\ (∀ (t a : Addr) (w : List Int) (H' : Hp),Ak (Bp H PT) H' -> AM H' PT ⟨125,26,125,86⟩ DH -> H' t = some (.tup [.str "way",.ref a]) -> H' a = some (.tup (w.map V.int)) -> FW w = true -> w.length = m -> DP m (By m ss) w -> Q (.ref t) H') /\ ∀ (t : Addr) (v : V) (p : Pap) (H' : Hp),Ak (Bp H PT) H' -> AM H' PT ⟨125,26,125,86⟩ DH -> H' t = some (.tup [.str "none",v]) -> Cr H' p v -> Hy m (By m ss) p -> Nv p <= 36 -> Q (.ref t) H') \/ (∃ rs,DB H as rs /\ rdS n rs ≠ 0 /\ E (.ref (rdC CM CS CN (rdS n rs))) none H))
def Pz (K:PySem.W.Frag) (CM CS CN:Addr):Sp:=fun vs H Q E=>∃ (n:Int) (b p:Addr) (as:List Addr) (rs:List Raw),vs=[.int n,.ref b,.ref p]/\SqL K H b (as.map V.ref)/\DB H as rs/\rdS n rs≠0/\E (.ref (rdC CM CS CN (rdS n rs))) none H
def Rq (K : PySem.W.Frag) (C PT : Addr) : Sp:=fun vs H Q _=>∃ (x dx l : Addr) (n : Nat) (gs : List (Option Say)) (a : Addr) (s : Say),vs = [.ref x,.ref a] /\ Gd C H x dx l n gs /\ 1 <= n /\ n <= 9 /\ (∀ o ∈ gs,∀ q,o = some q -> Bn n q) /\ gs.length <= 900 /\ H a = some (.tup (LY s)) /\ Bn n s /\ AM H PT ⟨125,26,125,86⟩ DH /\ (∀ (t a : Addr) (w : List Int) (H' : Hp),Ak (Bp H PT) H' -> AM H' PT ⟨125,26,125,86⟩ DH -> H' t = some (.tup [.str "way",.ref a]) -> H' a = some (.tup (w.map V.int)) -> FW w = true -> w.length = n -> DP n (By n (ME gs ++ [s])) w -> Q (.ref t) H') /\ ∀ (t : Addr) (v : V) (p : Pap) (H' : Hp),Ak (Bp H PT) H' -> AM H' PT ⟨125,26,125,86⟩ DH -> H' t = some (.tup [.str "none",v]) -> Cr H' p v -> Hy n (By n (ME gs ++ [s])) p -> Nv p <= 36 -> Q (.ref t) H'
def N2 (K:PySem.W.Frag) (C CM:Addr):Sp:=fun vs H Q E=>∃ (x dx:Addr) (n:Int),vs=[.ref x,.int n]/\H x=some (.ins C dx [])/\(1<=n/\n<=9 -> ∀ (l:Addr) (H':Hp),H l=none->H' x=some (.ins C dx (saF n l))->H' l=some (.lst [])->(∀ b o,H b=some o->b≠x->H' b=some o)->Q .non H')/\(¬ (1<=n/\n<=9)->E (.ref CM) none H)
def Li (K:PySem.W.Frag) (C CS CN PT:Addr):Sp:=fun vs H Q E=>∃ (x dx l:Addr) (n:Nat) (gs:List (Option Say)) (a:Addr) (r:Raw),vs=[.ref x,.ref a]/\Gd C H x dx l n gs/\1<=n/\n<=9/\(∀ o ∈ gs,∀ q,o=some q->Bn n q)/\gs.length<=900/\H a=some (.tup (Le r))/\AM H PT ⟨125,26,125,86⟩ DH/\((B8 n r≠0/\E (.ref (rdC CS CS CN (B8 n r))) none H) \/ ∃ (s:Say) (w:List Int),r=Cp s/\Bn n s/\FW w=true/\w.length=n/\(∀ o ∈ gs,∀ q,o=some q->IU w q)/\IU w s /\ ∀ H',FrL [l,PT] H H'->AM H' PT ⟨125,26,125,86⟩ DH->Gd C H' x dx l n (gs++[some s])->Q (.int gs.length) H')
def Lm:Sp:=fun vs H Q _=>∃ (c:Int) (n:Nat),vs=[.int c,.int n]/\1<=n/\n<=9 /\ ∀ (t:Addr) (r:Raw) (H':Hp),Ak H H'->H' t=some (.tup (Le r))->B8 n r≠0->Q (.ref t) H'
def JL (K:PySem.W.Frag):Sp:=fun vs H Q _=>∃ (n:Int) (b:Addr) (as:List Addr) (rs:List Raw),vs=[.int n,.ref b]/\SqL K H b (as.map V.ref)/\DB H as rs/\rs.length<=1000/\(rdS n rs=0 -> ∀ H',Ak H H'->Q .non H')/\(rdS n rs≠0 -> ∀ (t:Addr) (H':Hp),Ak H H'->H t=none->H' t=some (.lst [.str (rdW (rdS n rs))])->Q (.ref t) H')
def Pj (K:PySem.W.Frag) (C PT:Addr):Sp:=fun vs H Q _=>∃ (x dx l:Addr) (n:Nat) (gs:List (Option Say)) (a:Addr) (r:Raw),vs=[.ref x,.ref a]/\Gd C H x dx l n gs/\1<=n/\n<=9/\(∀ o ∈ gs,∀ q,o=some q->Bn n q)/\gs.length<=900/\H a=some (.tup (Le r))/\AM H PT ⟨125,26,125,86⟩ DH/\B8 n r≠0 /\ ∀ t:Addr,H t=none->Q (.ref t) (upd H t (.lst [.str (rdW (B8 n r))]))
def PD (K:PySem.W.Frag) (PT:Addr):Sp:=fun vs H Q _=>∃ (n:Int) (b:Addr) (as:List Addr) (rs:List Raw) (i:Int),vs=[.int n,.ref b,.int i]/\0<=i/\i<=2/\H b=some (.lst (as.map V.ref))/\DB H as rs/\rs.length<=100/\rdS n rs≠0/\(∃ (ss:List Say) (r:Raw) (tl:List Raw),rs=ss.map Cp++r::tl/\(1<=n/\n<=9->(∀ s ∈ ss,OA n s)/\B8 n r≠0))/\AM H PT ⟨125,26,125,86⟩ DH /\ ∀ (t:Addr) (H':Hp),Ak (Bp H PT) H'->AM H' PT ⟨125,26,125,86⟩ DH->H' t=some (.lst [.str (rdW (rdS n rs))])->Q (.ref t) H'
def Pl (K:PySem.W.Frag) (PT:Addr):Sp:=fun vs H Q _=>∃ (n:Nat) (b:Addr) (as:List Addr) (ss:List Say) (r1 r2:Raw),vs=[.int n,.ref b]/\1<=n/\n<=9/\H b=some (.lst (as.map V.ref))/\DB H as (ss.map Cp++[r1,r2])/\(∀ s ∈ ss,OA n s)/\ss.length<=20/\B8 n r1≠0/\B8 n r2≠0/\AM H PT ⟨125,26,125,86⟩ DH /\ ∀ H':Hp,Ak (Bp H PT) H'->AM H' PT ⟨125,26,125,86⟩ DH->Q (.bl true) H'
def Kb (K:PySem.W.Frag) (tabs:List (Addr × Addr)):Sp:=fun vs H Q _=>∃ (a:Addr) (ns:List Int),vs=[.ref a]/\SqL K H a (ns.map V.int)/\ns.length<=63/\(∀ q ∈ tabs,H q.2=some (.tbl #[])) /\ ∀ H',Q (.bl true) H'
def R8 (K:PySem.W.Frag):Sp:=fun vs H Q _=>∃ (p d q:Addr) (as:List Addr) (ls:List Lnk) (ch:Chs) (ca:List Addr) (ts:List Tip) (bs:List Addr),vs=[.ref p,.ref d,.ref q]/\H p=some (.lst (as.map V.ref))/\NS H as ls/\ChA H d ch ca/\Po ch/\H q=some (.lst (bs.map V.ref))/\M2 H bs ts/\ch.length+ts.length*ls.length<=100000/\(∀ t ∈ ts,(Bg ch t).isSome=true) /\ ∀ (r:Addr) (cs ca':List Addr) (H':Hp),H' r=some (.lst (cs.map V.ref))->M2 H' cs (Fq ls ch ts).2->ChA H' d (Fq ls ch ts).1 ca'->FrL [d] H H'->Q (.ref r) H'
def Pb (K:PySem.W.Frag) (C:Addr):Sp:=fun vs H Q _=>∃ (x dx l:Addr) (n:Int) (gs:List (Option Say)),vs=[.ref x]/\Gd C H x dx l n gs/\gs.length<=1000 /\ ∀ (p:Addr) (as:List Addr) (H':Hp),Ak H H'->H' p=some (.lst (as.map V.ref))->QC H' as (stL gs)->Q (.ref p) H'
def R4 (K:PySem.W.Frag) (C:Addr):Sp:=fun vs H Q _=>∃ (x dx l:Addr) (n:Int) (gs:List (Option Say)),vs=[.ref x]/\Gd C H x dx l n gs/\gs.length<=1000 /\ ∀ (p:Addr) (as:List Addr) (H':Hp),Ak H H'->H' p=some (.lst (as.map V.ref))->Jd H' as (ME gs)->Q (.ref p) H'
def MD (C:Addr):Sp:=fun vs H Q _=>∃ (x dx l:Addr) (n:Int) (gs:List (Option Say)),vs=[.ref x]/\Gd C H x dx l n gs/\Q (.int gs.length) H
def Ro (C C2:Addr):Sp:=fun vs H Q E=>∃ (x dx l:Addr) (n i j:Int) (gs:List (Option Say)),vs=[.ref x,.int i,.int j]/\Gd C H x dx l n gs/\((0<=i/\i<n)/\(0<=j/\j<n)->Q .non H)/\(¬ ((0<=i/\i<n)/\(0<=j/\j<n))->E (.ref C2) none H)
def RQ (K:PySem.W.Frag) (C:Addr):Sp:=fun vs H Q _=>∃ (x dx l:Addr) (n:Nat) (i j:Int) (gs:List (Option Say)),vs=[.ref x,.int i,.int j]/\Gd C H x dx l n gs/\n<=9/\gs.length<=1000/\(∀ o ∈ gs,∀ s,o=some s->Bn n s)/\(0<=i/\i<n)/\(0<=j/\j<n)/\(∀ H',Ak H H'->Fh (Hx gs) i j=none->Q .non H') /\ ∀ (t b:Addr) (u:Bool) (ns:List Int) (H':Hp),Ak H H'->Fh (Hx gs) i j=some (u,ns)->H' t=some (.tup [.str (wd u),.ref b])->H' b=some (.lst (ns.map V.int))->Q (.ref t) H'
section
variable {P:Program} {w:World} {K:PySem.W.Frag} {mg:Str->Option Value} {base:Heap} {CBadMany:Addr} {CBadSaying:Addr} {CNoCenser:Addr} {CGist:Addr} {CSayings:Addr} {DTHINGS:Addr} {CTopen_pair PTopen_pair:Addr}
theorem IO : Ap (["_law_script","_law_k"]) (["_law_script","_law_k"]) (Ae B7):=by trivial
theorem Ju {f : Addr} {fd : FuncData} (F : Fun K "_law_cell" "_law_cell" B7 f fd) (B : Bs mg) (T : Gs mg)   : Bv P w K mg base CX0 1 f fd ["_law_script","_law_k"] (L9 K):= by
 have sc:=IO
 refine F.ok sc (fun vs H Q E h=>?_) (fun cdv A outer s H vs Q E hr h=>?_)
 ·obtain ⟨a,ns,kk,rfl,_⟩:=h;rfl
 ·obtain ⟨a,ns,kk,rfl,hS,h0,h1,hl,k⟩:=h
  refine ⟨_,(Ad (A2 (Ao Lc (pv 1) (As (Br (K:=K)) (by rfl) B.len PyProof.Rows.Boot.«len» (Aa (pv 0) Ac)) (AA _)) (Ag (Aq (AG (Ar (K:=K)) (pv 0) (pv 1) (fun _ _=>rfl)))) Az)
   (Ag (Aq (Ax BD (Ax BD (Ax BC (Ax Ca (As (QM (K:=K)) (by rfl) B.sum PyProof.Rows.Boot.«sum» (Aa (pv 0) Ac)) Ai) Ai) (Ax BC (As (Br (K:=K)) (by rfl) B.len PyProof.Rows.Boot.«len» (Aa (pv 0) Ac)) Ai)) (Ax BC (pv 1) Ai))))),?_⟩
  refine ⟨_,rfl,_,rfl,a,_,rfl,.inl hS,_,_,rfl,rfl,_,rfl,?_⟩
  rw[ltm]
  refine Lk (fun hk=>?_) (fun _=>?_)
  ·have hk:kk<(ns.length:Int):=of_decide_eq_true hk
   obtain ⟨j,rfl⟩:=Int.eq_ofNat_of_zero_le h0
   have hj:j<ns.length:=by omega
   refine ⟨_,rfl,_,rfl,a,_,_,_,rfl,rfl,hS,Es (v:=V.int (ns[j])) (by rw[List.getElem?_map,List.getElem?_eq_getElem hj];rfl),k _⟩
  ·refine ⟨_,rfl,a,ns,rfl,.inl hS,_,_,rfl,rfl,p0,_,_,rfl,rfl,Dk ⟨by decide,by decide⟩,_,rfl,a,_,rfl,.inl hS,_,_,rfl,rfl,Dk ⟨by decide,by decide⟩,_,_,rfl,rfl,_,rfl,_,_,rfl,rfl,Dk ⟨by decide,by decide⟩,_,_,rfl,rfl,k _⟩
theorem JH : Ap (["_law_script","_law_few"]) (["_law_script","_law_few"]) (Ae B6):=by trivial
theorem Je {f : Addr} {fd : FuncData} (F : Fun K "_law_many" "_law_many" B6 f fd) (B : Bs mg) (T : Gs mg)   : Bv P w K mg base CX0 1 f fd ["_law_script","_law_few"] (LX K):= by
 have sc:=JH
 refine F.ok sc (fun vs H Q E h=>?_) (fun cdv A outer s H vs Q E hr h=>?_)
 ·obtain ⟨a,ns,f,rfl,_⟩:=h;rfl
 ·obtain ⟨a,ns,f,rfl,hS,k⟩:=h
  refine ⟨_,(Ag (Aq (As LP (by rfl) B.max PyProof.Rows.Boot.«max» (Aa (pv 1) (Aa (As IN (by rfl) B.min PyProof.Rows.Boot.«min» (Aa (As (Br (K:=K)) (by rfl) B.len PyProof.Rows.Boot.«len» (Aa (pv 0) Ac)) (Aa Ai Ac))) Ac))))),?_⟩
  refine ⟨_,rfl,_,rfl,a,_,rfl,.inl hS,_,_,rfl,_,_,rfl,k _ ?_ ?_⟩
  ·split <;> omega
  ·split <;> split <;> omega
theorem HX : Ap (["censers"]) (["censers"]) (Ae BL):=by trivial
theorem HA {f : Addr} {fd : FuncData} (F : Fun K "check_many" "check_many" BL f fd) (B : Bs mg) (T : Gs mg) (mBadMany : mg "BadMany" = some (.ref CBadMany)) (qBadMany : PySem.W.excIn K CBadMany bmV "ValueError.__new__" = true)  : Bv P w K mg base (CXE P w) 1 f fd ["censers"] (CT CBadMany):= by
 have sc:=HX
 refine F.okE sc (fun vs H Q E h=>?_) (fun cdv A outer s H vs Q E hr F0 h=>?_)
 ·obtain ⟨n,rfl,_⟩:=h;rfl
 ·obtain ⟨tM,gMOST_CENSERS⟩:=T.MOST_CENSERS
  obtain ⟨n,rfl,k,kE⟩:=h
  refine ⟨_,(Ag (A2 (EJ (CH D7 D7 Ai (pv 0) (IX (v:=.int 9) rfl gMOST_CENSERS ⟨_,rfl⟩))) (Ag (D5 F0 rfl rfl mBadMany qBadMany (Aa Av Ac))) Az)),?_⟩
  refine Oc (b:=!(decide (1<=n)&&decide (n<=9))) (P:=fun H'=>H'=H) (fun N hN=>Op (x:=n) (H':=H) (fun Q' h'=>⟨_,rfl,h'⟩) (hN _ rfl)) (fun g H5 e=>?_) (fun g H5 e=>?_)
  ·rw[e]
   exact ⟨Ah (by simp),kE (fun z=>by rw[decide_eq_true z.1,decide_eq_true z.2] at g;simp at g)⟩
  ·rw[e]
   have g:=nF g
   rw[Bool.and_eq_true] at g
   exact k (of_decide_eq_true g.1) (of_decide_eq_true g.2)
theorem FV : Ap (["censers","censer"]) (["censers","censer"]) (Ae Bi):=by trivial
theorem Gk {f : Addr} {fd : FuncData} (F : Fun K "check_censer" "check_censer" Bi f fd) (B : Bs mg) (T : Gs mg) (mNoCenser : mg "NoCenser" = some (.ref CNoCenser)) (qNoCenser : PySem.W.excIn K CNoCenser bmV "ValueError.__new__" = true)  : Bv P w K mg base (CXE P w) 1 f fd ["censers","censer"] (B1 CNoCenser):= by
 have sc:=FV
 refine F.okE sc (fun vs H Q E h=>?_) (fun cdv A outer s H vs Q E hr F0 h=>?_)
 ·obtain ⟨n,c,rfl,_⟩:=h;rfl
 ·obtain ⟨n,c,rfl,k,kE⟩:=h
  refine ⟨_,(Ag (A2 (EJ (CH D7 Lc Ai (pv 1) (pv 0))) (Ag (D5 F0 rfl rfl mNoCenser qNoCenser (Aa Av Ac))) Az)),?_⟩
  refine ⟨_,rfl,_,_,rfl,rfl,_,rfl,?_⟩
  refine Lk (fun h1=>⟨_,rfl,_,_,rfl,rfl,_,rfl,Lk (fun h2=>?_) (fun h2=>?_)⟩) (fun h1=>⟨_,rfl,FY ?_⟩)
  ·exact ⟨Ah (by simp),kE (by simp at h2;omega)⟩
  ·exact k (of_decide_eq_true h1) (by simp at h2;exact h2)
  ·exact ⟨Ah (by simp),kE (fun z=>h1 (decide_eq_true z.1))⟩
theorem No : Ap (["numbers","renamed","given"]) (["numbers"]) (Ae En):=by trivial
theorem NV {f : Addr} {fd : FuncData} (F : Fun K "way_of" "way_of" En f fd) (B : Bs mg) (T : Gs mg)   : Bv P w K mg base CX0 1 f fd ["numbers"] (GY K):= by
 have sc:=No
 refine F.ok sc (fun vs H Q E h=>?_) (fun cdv A outer s H vs Q E hr h=>?_)
 ·obtain ⟨a,ns,rfl,_⟩:=h;rfl
 ·obtain ⟨a,ns,rfl,hS,m1,m9,k0⟩:=h
  obtain ⟨tM,gMOST_CENSERS⟩:=T.MOST_CENSERS
  have k:=fun (_:1<=ns.length/\ns.length<=9)=>k0
  refine ⟨_,(Ad (A2 (EJ (CH D7 D7 Ai (As (Br (K:=K)) (by rfl) B.len PyProof.Rows.Boot.«len» (Aa (pv 0) Ac)) (IX (v:=.int 9) rfl gMOST_CENSERS ⟨_,rfl⟩))) (Ag NA) Az)
   (Ad (AB (i:=1) sc.nd rfl (Or.inr rfl) Nw)
   (Ad (BZ PassesOwn.never rfl (AN (K:=K) (pv 0)) (An (i:=2) sc.nd rfl (Or.inl rfl))
   (Ag (A2 (GO (Fs (DS hr) (pv 2) (pv 1))) (Ag (He (DS hr) (pv 1) (pv 2) (As MY (by rfl) B.len PyProof.Rows.Boot.«len» (Aa (pv 1) Ac)) rfl)) Az)))
   (Ag (Aq (BU (JT (K:=K)) (by rfl) B.tuple PyProof.Rows.Boot.«tuple» (Aa (KQ (N':=["given","renamed"]) (M:=[none,some 1]) (Ct (by rfl)) rfl (AN (K:=K) (pv 0)) (fun _ _ _ _ _=>An (i:=0) (show (["given","renamed"] : List Str).Nodup by decide +kernel) rfl (Or.inl rfl) (.inr rfl)) (Dz rfl) (fun _ _ _ _ _=>FM) (fun _ _ _ _ _=>(Ja (DS hr) (pv 1) (pv 0) (fun _ _=>rfl)))) Ac))))))),?_⟩
  refine ⟨_,rfl,a,_,rfl,.inl hS,_,_,rfl,rfl,_,rfl,?_⟩
  rw[ltm]
  refine Lk (fun h1=>⟨_,_,rfl,rfl,_,rfl,Lk (fun h2=>?_) (fun h2=>?_)⟩) (fun h1=>⟨_,rfl,FY ?_⟩)
  ·exact absurd h2 (by simp;omega)
  ·have h1:(1:Int)<=(ns.length:Int):=of_decide_eq_true h1
   have h2:(ns.length:Int)<=9:=by simp at h2;omega
   intro d hd
   refine ⟨_,rfl,a,rfl,⟨_,(Ak.new hd).seq hS⟩,Bq (K:=K) (a:=a) (xs:=ns.map V.int) (fun i σ H2=>∃ (v:Option V),σ=[some (.ref a),some (.ref d),v]/\H2=upd H d (.dK (Hu (C0 (ns.take i)) 0)))
    ⟨none,rfl,by rw[List.take_zero];rfl⟩ (fun i σ H2 _ ⟨_,_,e⟩=>by rw[e];exact (Ak.new hd).seq hS) ?_ ?_⟩
   ·rintro i y σ H2 hi ⟨v,rfl,rfl⟩
    obtain ⟨z,rfl,hz,hil⟩:=Nf hi
    refine ⟨_,rfl,_,rfl,d,_,rfl,Hc.k (k:=Sum.inl z) Ab,_,rfl,?_⟩
    rw[DZ]
    have hts:=Aw hz
    by_cases hm:z ∈ C0 (ns.take i)
    ·rw[if_pos hm]
     refine FT ?_
     refine ⟨_,rfl,?_⟩
     rw[hts,Ce];unfold Di;rw[if_pos hm]
    ·rw[if_neg hm]
     refine FY ?_
     have hsl:(C0 (ns.take i)).length<=9:=by have:=JB (ns.take i);rw[List.length_take] at this;omega
     refine ⟨_,rfl,d,_,rfl,Ab,_,rfl,_,rfl,d,_,rfl,KF.k (k:=Sum.inl z) Ab (BX (by rw[DR];omega)),?_⟩
     refine ⟨_,rfl,?_⟩
     rw[PU,DR,Hk _ (by rw[DZ,if_neg hm]),hts,Ce]
     have e2:Di (C0 (ns.take i)) z=C0 (ns.take i)++[z]:=by unfold Di;rw[if_neg hm]
     rw[e2,HE,Nat.zero_add]
   ·rintro σ H2 ⟨v,rfl,rfl⟩
    rw[ltm,List.take_length]
    have hS2:SqL K (upd H d (.dK (Hu (C0 ns) 0))) a (ns.map V.int):=(Ak.new hd).seq hS
    refine ⟨_,rfl,a,rfl,⟨_,hS2⟩,Ez (xs:=ns.map V.int) (fun i ys H4=>H4=upd H d (.dK (Hu (C0 ns) 0))/\ys=(Bm ns |>.take i).map V.int) (Ah (by rw[ltm];omega)) ⟨rfl,rfl⟩
     (fun i ys H4 _ ⟨e,e2⟩=>⟨by rw[e];exact hS2,by rw[e2,ltm,List.length_take];omega⟩) ?_ ?_⟩
    ·rintro i y ys H4 hi ⟨rfl,rfl⟩
     obtain ⟨z,rfl,hz,hil⟩:=Nf hi
     refine lcN ?_
     have hzs:z ∈ C0 ns:=(Eb ns z).mpr (List.mem_of_getElem? hz)
     refine ⟨_,rfl,_,rfl,d,V.int ((C0 ns).idxOf z:Int),rfl,?_,rfl,?_⟩
     ·have:=Hc.k (k:=Sum.inl z) (kvs:=Hu (C0 ns) 0) (H:=upd H d (.dK (Hu (C0 ns) 0))) (a:=d) Ab
      rw[DZ,if_pos hzs,Nat.zero_add] at this
      exact this
     ·have:(Bm ns)[i]?=some ((C0 ns).idxOf z:Int):=by unfold Bm;rw[List.getElem?_map,hz];rfl
      rw[Aw this,Qb]
    ·rintro ys H4 ⟨rfl,rfl⟩ p hp
     rw[ltm,<- CP,List.take_length]
     refine ⟨p,_,rfl,.inl ⟨SqL.of Ab,fun t ht=>?_⟩⟩
     have S1:Ak H (upd (upd H d (.dK (Hu (C0 ns) 0))) p (.lst ((Bm ns).map V.int))):=(Ak.new hd).new2 hp
     exact k (by omega) t _ (S1.free ht) (S1.new2 ht) Ab
  ·have h1 : ¬ (1:Int)<=(ns.length:Int):=fun e=>h1 (decide_eq_true e)
   exact absurd m1 (by omega)
theorem Ic : Ap (["labels","old","new"]) (["labels","old","new"]) (Ae BH):=by trivial
theorem IB {f : Addr} {fd : FuncData} (F : Fun K "relabelled" "relabelled" BH f fd) (B : Bs mg) (T : Gs mg)   : Bv P w K mg base CX0 1 f fd ["labels","old","new"] (Jo K):= by
 have sc:=Ic
 refine F.ok sc (fun vs H Q E h=>?_) (fun cdv A outer s H vs Q E hr h=>?_)
 ·obtain ⟨a,L,o,n,rfl,_⟩:=h;rfl
 ·obtain ⟨a,L,o,n,rfl,hS,hl,k⟩:=h
  refine ⟨_,(Ag (Aq (KQ (N':=["label","new","old"]) (M:=[none,some 2,some 1]) (Ct (by rfl)) rfl (AN (K:=K) (pv 0)) (fun _ _ _ _ _=>An (i:=0) (show (["label","new","old"] : List Str).Nodup by decide +kernel) rfl (Or.inl rfl) (.inr rfl)) (Dz rfl) (fun _ _ _ _ _=>FM) (fun _ _ _ _ _=>(D6 (Ao Cq (pv 0) (pv 2) (AA _)) (pv 1) (pv 0)))))),?_⟩
  refine ⟨_,rfl,a,rfl,⟨_,hS⟩,Ez (xs:=L.map V.int) (fun i ys H4=>H4=H/\ys=((Cg L o n).take i).map V.int) (Ah (by rw[ltm];omega)) ⟨rfl,rfl⟩
   (fun i ys H4 _ ⟨e,e2⟩=>⟨by rw[e];exact hS,by rw[e2,ltm,List.length_take];omega⟩) ?_ ?_⟩
  ·rintro i y ys H4 hi ⟨rfl,rfl⟩
   obtain ⟨z,rfl,hz,hil⟩:=Nf hi
   refine lcN ?_
   have hr:(Cg L o n)[i]?=some (if z=o then n else z):=by unfold Cg;rw[List.getElem?_map,hz];rfl
   refine ⟨_,rfl,_,rfl,rfl,_,rfl,Lk (fun g=>⟨_,rfl,rfl,?_⟩) (fun g=>⟨_,rfl,rfl,?_⟩)⟩
   ·have g:z=o:=V.int.inj (of_decide_eq_true g)
    rw[if_pos g] at hr
    rw[Aw hr,Qb]
   ·have g : ¬ z=o:=fun e=>g (decide_eq_true (congrArg V.int e))
    rw[if_neg g] at hr
    rw[Aw hr,Qb]
  ·rintro ys H4 ⟨rfl,rfl⟩ p hp
   rw[ltm,<- EK L o n,List.take_length]
   exact k p _ hp (Ak.new hp) Ab
theorem Gh : Ap (["censers","saying"]) (["censers","saying"]) (Ae Bh):=by trivial
theorem Gp {f : Addr} {fd : FuncData} (F : Fun K "check_saying" "check_saying" Bh f fd) (B : Bs mg) (T : Gs mg) (mBadSaying : mg "BadSaying" = some (.ref CBadSaying)) (qBadSaying : PySem.W.excIn K CBadSaying bmV "ValueError.__new__" = true) (gTHINGS : mg "THINGS" = some (.ref DTHINGS)) (tTHINGS : LN base DTHINGS [("alike",3),("unlike",3),("least",2),("most",2)]) (ccheck_censer : GU P w K mg base 1 "check_censer" [] (B1 CNoCenser)) : Bv P w K mg base (CXE P w) 2 f fd ["censers","saying"] (Nm K CBadSaying CNoCenser):= by
 have sc:=Gh
 refine F.okE sc (fun vs H Q E h=>?_) (fun cdv A outer s H vs Q E hr F0 h=>?_)
 ·obtain ⟨n,a,r,rfl,_⟩:=h;rfl
 ·obtain ⟨n,a,r,rfl,ha,k0,k1,k2⟩:=h
  refine ⟨_,(Ad (A2 (PW.pt (HL (Ao Cq (As (Br (K:=K)) (by rfl) B.len PyProof.Rows.Boot.«len» (Aa (pv 1) Ac)) Ai (AA _)) (GL (Ao MN (P1 tTHINGS (IX (v:=.ref DTHINGS) rfl gTHINGS rfl) (AG (AU (K:=K)) (pv 1) Ai (fun _ _=>rfl)) ⟨rfl,rfl,rfl,rfl⟩) (As (Br (K:=K)) (by rfl) B.len PyProof.Rows.Boot.«len» (Aa (pv 1) Ac)) (AA _))))) (Ag (D5 F0 rfl rfl mBadSaying qBadSaying (Aa Av Ac))) Az)
   (Ad (A2 (Ao Cq (As (Br (K:=K)) (by rfl) B.len PyProof.Rows.Boot.«len» (Aa (pv 1) Ac)) Ai (AA _)) (Ad (A2 (EJ (CH D7 D7 Ai (AG (AU (K:=K)) (pv 1) Ai (fun _ _=>rfl)) (pv 0))) (Ag (D5 F0 rfl rfl mBadSaying qBadSaying (Aa Av Ac))) Az)
   (Ag PY)) Az)
   (Ad (A2 (Ao Cq (AG (AU (K:=K)) (pv 1) Ai (fun _ _=>rfl)) (AG (AU (K:=K)) (pv 1) Ai (fun _ _=>rfl)) (AA _)) (Ag (D5 F0 rfl rfl mBadSaying qBadSaying (Aa Av Ac))) Az)
   (Ad (A1 (BN ccheck_censer (hr.mono (by decide)) rfl (Cs F0) (Aa (pv 0) (Aa (AG (AU (K:=K)) (pv 1) Ai (fun _ _=>rfl)) Ac))))
   (Ag (A1 (BN ccheck_censer (hr.mono (by decide)) rfl (Cs F0) (Aa (pv 0) (Aa (AG (AU (K:=K)) (pv 1) Ai (fun _ _=>rfl)) Ac))))))))),?_⟩
  rcases r with _ | ⟨w,xs⟩
  ·refine AW (b:=true) (P:=fun H'=>H'=H) (fun N hN=>⟨_,rfl,a,_,rfl,.inr (SqT.of ha),rfl,_,rfl,FY (hN _ rfl)⟩) (fun _ H5 e=>?_) (fun g=>absurd g (by decide))
   rw[e];exact ⟨Ah (by simp),k1 rfl⟩
  have ha:H a=some (.tup (V.str w::xs.map V.int)):=ha
  have hln:(V.str w::xs.map V.int).length=xs.length+1:=by rw[List.length_cons,List.length_map]
  have hsc : ∀ z:Int,R9 (lkD thT w) (.int z)=true:=fun z=>by
   by_cases h1 : w = "alike" \/ w = "unlike"
   ·rw[Jj h1];rfl
   ·by_cases h2 : w = "least" \/ w = "most"
    ·rw[IY h2];rfl
    ·rw[OC h1 h2];rfl
  refine AW (b:=!decide (lkD thT w=V.int ((xs.length+1:Nat):Int))) (P:=fun H'=>H'=H) (fun N hN=>⟨_,rfl,a,_,rfl,.inr (SqT.of ha),rfl,_,rfl,?_⟩) (fun g H5 e=>?_) (fun g H5 e=>?_)
  ·rw[Lp,hln,decide_eq_false (by omega)]
   refine FT ⟨_,rfl,a,_,_,_,rfl,rfl,SqT.of ha,Es (j:=0) rfl,w,rfl,_,rfl,a,_,rfl,.inr (SqT.of ha),hsc _,_,rfl,?_⟩
   rw[hln];exact hN _ rfl
  ·rw[e]
   have g : ¬ lkD thT w=V.int ((xs.length+1:Nat):Int):=of_decide_eq_false (by simpa using g)
   refine ⟨Ah (by simp),k1 ?_⟩
   show (if w = "least" \/ w = "most" then _ else _) = 1
   by_cases h2 : w = "least" \/ w = "most"
   ·rw[if_pos h2]
    rw[IY h2] at g
    match xs,g with
    | [],_=>rfl
    | [_],g=>exact absurd rfl g
    | _::_::_,_=>rfl
   ·rw[if_neg h2]
    by_cases h1 : w = "alike" \/ w = "unlike"
    ·rw[if_pos h1]
     rw[Jj h1] at g
     match xs,g with
     | [],_=>rfl
     | [_],_=>rfl
     | [_,_],g=>exact absurd rfl g
     | _::_::_::_,_=>rfl
    ·rw[if_neg h1]
  rw[e]
  have g:lkD thT w=V.int ((xs.length+1:Nat):Int):=of_decide_eq_true (by simpa using g)
  by_cases h2 : w = "least" \/ w = "most"
  ·rw[IY h2] at g
   have hx1:xs.length=1:=by have:=V.int.inj g;omega
   obtain ⟨kk,rfl⟩:=List.length_eq_one_iff.mp hx1
   have hr:B8 n (some (w,[kk]))=if 1<=kk/\kk<=n then 0 else 1:=if_pos h2
   have ha:H a=some (.tup [V.str w,V.int kk]):=ha
   refine AW (b:=true) (P:=fun H'=>H'=H) (fun N hN=>⟨_,rfl,a,_,rfl,.inr (SqT.of ha),rfl,_,rfl,hN _ rfl⟩) (fun _ H5 e=>?_) (fun g=>absurd g (by decide))
   rw[e]
   refine AW (b:=!(decide (1<=kk)&&decide (kk<=n))) (P:=fun H'=>H'=H) (fun N hN=>⟨_,rfl,a,_,_,_,rfl,rfl,SqT.of ha,rfl,_,_,rfl,rfl,_,rfl,Lk (fun g=>⟨_,rfl,_,_,rfl,rfl,_,rfl,?_⟩) (fun g=>⟨_,rfl,?_⟩)⟩) (fun g H5 e=>?_) (fun g H5 e=>?_)
   ·have g:decide (1<=kk)=true:=g
    have:=hN _ rfl
    rw[g,Bool.true_and] at this
    exact this
   ·have g:decide (1<=kk)=false:=Bool.eq_false_iff.mpr g
    have:=hN _ rfl
    rw[g,Bool.false_and] at this
    exact this
   ·rw[e]
    refine ⟨Ah (by simp),k1 ?_⟩
    rw[hr,if_neg (fun z=>by rw[decide_eq_true z.1,decide_eq_true z.2] at g;cases g)]
   ·rw[e]
    have g:=nF g
    rw[Bool.and_eq_true] at g
    exact k0 (by rw[hr,if_pos ⟨of_decide_eq_true g.1,of_decide_eq_true g.2⟩])
  ·by_cases h1 : w = "alike" \/ w = "unlike"
   ·rw[Jj h1] at g
    have hx2:xs.length=2:=by have:=V.int.inj g;omega
    obtain ⟨i,j,rfl⟩ : ∃ i j,xs=[i,j]:= by
     match xs,hx2 with
     | [i,j],_=>exact ⟨i,j,rfl⟩
    have hr:B8 n (some (w,[i,j]))=if i=j then 1 else if (0<=i/\i<n)/\(0<=j/\j<n) then 0 else 2:=(if_neg h2).trans (if_pos h1)
    have ha:H a=some (.tup [V.str w,V.int i,V.int j]):=ha
    refine AW (b:=false) (P:=fun H'=>H'=H) (fun N hN=>⟨_,rfl,a,_,rfl,.inr (SqT.of ha),rfl,_,rfl,hN _ rfl⟩) (fun g=>absurd g (by decide)) (fun _ H5 e=>?_)
    rw[e]
    refine AW (b:=decide (i=j)) (P:=fun H'=>H'=H) (fun N hN=>⟨_,rfl,a,_,_,_,rfl,rfl,SqT.of ha,rfl,_,rfl,a,_,_,_,rfl,rfl,SqT.of ha,rfl,rfl,_,rfl,?_⟩) (fun g H5 e=>?_) (fun g H5 e=>?_)
    ·rw[Lp];exact hN _ rfl
    ·rw[e]
     exact ⟨Ah (by simp),k1 (by rw[hr,if_pos (of_decide_eq_true g)])⟩
    rw[e]
    have hij : ¬ i=j:=of_decide_eq_false g
    refine ⟨_,rfl,_,rfl,a,_,_,_,rfl,rfl,SqT.of ha,rfl,n,i,rfl,fun i0 i1=>⟨_,rfl,_,rfl,a,_,_,_,rfl,rfl,SqT.of ha,rfl,n,j,rfl,fun j0 j1=>k0 ?_,fun hj=>k2 ?_⟩,fun hi=>k2 ?_⟩
    ·rw[hr,if_neg hij,if_pos ⟨⟨i0,i1⟩,j0,j1⟩]
    ·rw[hr,if_neg hij,if_neg fun z=>hj z.2]
    ·rw[hr,if_neg hij,if_neg fun z=>hi z.1]
   ·rw[OC h1 h2] at g;cases g
theorem Fz : Ap (["self","labels","unlikes","low","high"]) (["self","labels","unlikes","low","high"]) (Ae A9):=by trivial
theorem Ft {f : Addr} {fd : FuncData} (F : Fun K "__init__" "Gist.__init__" A9 f fd) (B : Bs mg) (T : Gs mg) (clGist : Cls K CGist) (nGist_labels : AH K CGist "labels") (nGist_unlikes : AH K CGist "unlikes") (nGist_low : AH K CGist "low") (nGist_high : AH K CGist "high")  : Bv P w K mg base CX0 1 f fd ["self","labels","unlikes","low","high"] (Rh K CGist):= by
 have sc:=Fz
 refine F.ok sc (fun vs H Q E h=>?_) (fun cdv A outer s H vs Q E hr h=>?_)
 ·obtain ⟨x,dx,l,d,lo,hi,rfl,_⟩:=h;rfl
 ·obtain ⟨x,dx,l,d,lo,hi,rfl,hx,k⟩:=h
  refine ⟨_,(Ad (Ea (pv 0) (pv 1) rfl)
   (Ad (Ea (pv 0) (pv 2) rfl)
   (Ad (Ea (pv 0) (pv 3) rfl)
   (Ag (Ea (pv 0) (pv 4) rfl))))),?_⟩
  have l1 : (CL "labels" (V.ref l) []).length <= 1:=BP ..
  have l2 : (CL "unlikes" (V.ref d) (CL "labels" (V.ref l) [])).length <= 2:=Nat.le_trans (BP ..) (Nat.succ_le_succ l1)
  have l3 : (CL "low" (V.int lo) (CL "unlikes" (V.ref d) (CL "labels" (V.ref l) []))).length <= 3:=Nat.le_trans (BP ..) (Nat.succ_le_succ l2)
  refine ⟨_,rfl,_,rfl,x,CGist,dx,[],rfl,hx,clGist,nGist_labels,by decide,?_⟩
  refine ⟨_,rfl,_,rfl,x,CGist,dx,_,rfl,Ab,clGist,nGist_unlikes,by omega,?_⟩
  refine ⟨_,rfl,_,rfl,x,CGist,dx,_,rfl,Ab,clGist,nGist_low,by omega,?_⟩
  refine ⟨_,rfl,_,rfl,x,CGist,dx,_,rfl,Ab,clGist,nGist_high,by omega,?_⟩
  refine k _ (by rw[Ab,MI]) fun b o e n=>?_
  rw[Af n,Af n,Af n,Af n];exact e
theorem JF : Ap (["self","saying","word","first","low","high"]) (["self","saying"]) (Ae B9):=by trivial
theorem Jc {f : Addr} {fd : FuncData} (F : Fun K "take" "Gist.take" B9 f fd) (B : Bs mg) (T : Gs mg) (clGist : Cls K CGist) (nGist_labels : AH K CGist "labels") (nGist_unlikes : AH K CGist "unlikes") (nGist_low : AH K CGist "low") (nGist_high : AH K CGist "high") (crelabelled : Cal P w K mg base 1 "relabelled" [] (Jo K)) : Bv P w K mg base CX0 2 f fd ["self","saying"] (Rm K CGist):= by
 have sc:=JF
 refine F.ok sc (fun vs H Q E h=>?_) (fun cdv A outer s H vs Q E hr h=>?_)
 ·obtain ⟨x,dx,l,d,a,g,n,s,rfl,_⟩:=h;rfl
 ·obtain ⟨x,dx,l,d,a,g,n,s,rfl,hG,ha,hg,hs,h9,k⟩:=h
  refine ⟨_,(Ad (IJ (Cm (JA (K:=K)) (pv 1) Dm (Dp Ai)) (DK rfl (Au (An (i:=2) sc.nd rfl (Or.inl rfl)) (Au (An (i:=3) sc.nd rfl (Or.inl rfl)) BE))))
   (Ag (A2 (Ao Cq (pv 2) Av (AA _)) (Ag (Ea (pv 0) (As LP (by rfl) B.max PyProof.Rows.Boot.«max» (Aa (AQ (pv 0) rfl) (Aa (pv 3) Ac))) rfl)) (Ag (A2 (Ao Cq (pv 2) Av (AA _)) (Ag (Ea (pv 0) (As IN (by rfl) B.min PyProof.Rows.Boot.«min» (Aa (AQ (pv 0) rfl) (Aa (pv 3) Ac))) rfl)) (Ag (A2 (Ao Cq (pv 2) Av (AA _)) (Ad (He (DS hr) (AQ (pv 0) rfl) (AD (Aa (pv 3) (Aa (AG (AU (K:=K)) (pv 1) Ai (fun _ _=>rfl)) Ac))) Ie rfl)
   (Ag (He (DS hr) (AQ (pv 0) rfl) (AD (Aa (AG (AU (K:=K)) (pv 1) Ai (fun _ _=>rfl)) (Aa (pv 3) Ac))) Ie rfl))) (Ad (IJ (As (IR (K:=K)) (by rfl) B.sorted PyProof.Rows.Boot.«sorted» (Aa (AI (Aa (AG (Ar (K:=K)) (AQ (pv 0) rfl) (pv 3) (fun _ _=>rfl)) (Aa (AG (Ar (K:=K)) (AQ (pv 0) rfl) (AG (AU (K:=K)) (pv 1) Ai (fun _ _=>rfl)) (fun _ _=>rfl)) Ac))) Ac)) (Oq rfl (Au (An (i:=4) sc.nd rfl (Or.inl rfl)) (Au (An (i:=5) sc.nd rfl (Or.inl rfl)) BE))))
   (Ag (Ea (pv 0) (A7 crelabelled (hr.mono (by decide)) rfl (Aa (AQ (pv 0) rfl) (Aa (pv 5) (Aa (pv 4) Ac)))) rfl)))))))))),?_⟩
  have G1':=hG
  refine ⟨_,rfl,_,rfl,a,_,rfl,SqT.of ha,fun p H1 s1 hp1=>?_⟩
  have G1:=hG.same s1
  have ha1:=s1 _ _ ha
  have nxd:x≠d:=Cv G1.ob G1.hd (fun z=>nomatch z)
  have nxl:x≠l:=Cv G1.ob G1.hl (fun z=>nomatch z)
  have ndl:d≠l:=Cv G1.hd G1.hl (fun z=>nomatch z)
  cases s with
  | cnt m kk=>
   have ecut : Fd (LY (.cnt m kk)) none (some 2) = [V.str (if m = true then "most" else "least"),V.int kk]:=Hh _ 2
   rw[ecut] at hp1
   refine ⟨p,_,rfl,hp1,rfl,_,_,rfl,_,_,rfl,rfl,?_⟩
   try dsimp only
   refine nrm (σ':=[some (.ref x),some (.ref a),some (V.str (if m = true then "most" else "least")),some (.int kk),none,none]) rfl ?_
   cases m with
   | false=>
    refine CF (b:=true) (fun N hN=>⟨_,rfl,rfl,_,rfl,by rw[K3,decide_eq_true (by decide +kernel)];exact hN⟩) (fun _=>?_) (fun g=>absurd g (by decide))
    refine ⟨_,rfl,x,CGist,dx,_,_,rfl,G1.ob,clGist,nGist_low,Hm _ _ _ _,_,rfl,_,_,rfl,_,rfl,x,CGist,dx,_,rfl,G1.ob,clGist,nGist_low,(show 4<1000 by decide),?_⟩
    rw[Qt]
    refine k l _ ⟨?_,?_,?_⟩ fun b o e nb=>?_
    ·rw[Ab]
     have:(if kk > g.lo then kk else g.lo)=max g.lo kk:=by split <;> omega
     rw[this];rfl
    ·rw[Af nxl.symm];exact G1.hl
    ·rw[Af nxd.symm];exact G1.hd
    ·rw[Af (fun z=>nb (by rw[z];simp))];exact s1 _ _ e
   | true=>
    refine CF (b:=false) (fun N hN=>⟨_,rfl,rfl,_,rfl,by rw[K3,decide_eq_false (by decide +kernel)];exact hN⟩) (fun g=>absurd g (by decide)) (fun _=>?_)
    refine CF (b:=true) (fun N hN=>⟨_,rfl,rfl,_,rfl,by rw[K3,decide_eq_true (by decide +kernel)];exact hN⟩) (fun _=>?_) (fun g=>absurd g (by decide))
    refine ⟨_,rfl,x,CGist,dx,_,_,rfl,G1.ob,clGist,nGist_high,FQ _ _ _ _,_,rfl,_,_,rfl,_,rfl,x,CGist,dx,_,rfl,G1.ob,clGist,nGist_high,(show 4<1000 by decide),?_⟩
    rw[Pr]
    refine k l _ ⟨?_,?_,?_⟩ fun b o e nb=>?_
    ·rw[Ab]
     have:(if kk<g.hi then kk else g.hi)=min g.hi kk:=by split <;> omega
     rw[this];rfl
    ·rw[Af nxl.symm];exact G1.hl
    ·rw[Af nxd.symm];exact G1.hd
    ·rw[Af (fun z=>nb (by rw[z];simp))];exact s1 _ _ e
  | pair u i j=>
   have ecut : Fd (LY (.pair u i j)) none (some 2) = [V.str (if u = true then "unlike" else "alike"),V.int i]:=Hh _ 2
   rw[ecut] at hp1
   refine ⟨p,_,rfl,hp1,rfl,_,_,rfl,_,_,rfl,rfl,?_⟩
   try dsimp only
   refine nrm (σ':=[some (.ref x),some (.ref a),some (V.str (if u = true then "unlike" else "alike")),some (.int i),none,none]) rfl ?_
   have ha2 : SqT K H1 a [V.str (if u = true then "unlike" else "alike"),V.int i,V.int j]:=SqT.of ha1
   obtain ⟨i0,i1,j0,j1,hij⟩:=hs
   cases u with
   | true=>
    refine CF (b:=false) (fun N hN=>⟨_,rfl,rfl,_,rfl,by rw[K3,decide_eq_false (by decide +kernel)];exact hN⟩) (fun g=>absurd g (by decide)) (fun _=>?_)
    refine CF (b:=false) (fun N hN=>⟨_,rfl,rfl,_,rfl,by rw[K3,decide_eq_false (by decide +kernel)];exact hN⟩) (fun g=>absurd g (by decide)) (fun _=>?_)
    refine CF (b:=true) (fun N hN=>⟨_,rfl,rfl,_,rfl,by rw[K3,decide_eq_true (by decide +kernel)];exact hN⟩) (fun _=>?_) (fun g=>absurd g (by decide))
    have hul:=hg.uLen h9
    refine ⟨_,rfl,x,CGist,dx,_,_,rfl,G1.ob,clGist,nGist_unlikes,Ir _ _ _ _,_,rfl,_,rfl,a,_,_,_,rfl,rfl,ha2,rfl,Ah (by simp),fun b hb=>?_⟩
    have nb : ∀ {y o},H1 y=some o->y≠b:=fun e=>Aj e hb
    refine ⟨d,_,rfl,KF.t (k:=GA (i,j)) (by rw[Af (nb G1.hd)];exact G1.hd) Ab (BX (by rw[CC];omega)),?_⟩
    rw[GZ]
    generalize hH2:upd (upd H1 b (HO.tup [V.int i,V.int j])) d (HO.dT (uKv (Iz g.U (i,j))))=H2
    have ob2:H2 x=some (.ins CGist dx (gF l d g.lo g.hi)):=by rw[<- hH2,Af nxd,Af (nb G1.ob)];exact G1.ob
    have hl2:H2 l=some (.lst (g.L.map V.int)):=by rw[<- hH2,Af ndl.symm,Af (nb G1.hl)];exact G1.hl
    have hd2:H2 d=some (.dT (uKv (Iz g.U (i,j)))):=by rw[<- hH2,Ab]
    have ha3 : SqT K H2 a [V.str "unlike",V.int i,V.int j]:=SqT.of (by rw[<- hH2,Af (Cv ha1 G1.hd (fun z=>nomatch z)),Af (nb ha1)]; exact ha1)
    have f2:FrL [x,d] H H2:=fun y o e n2=>by rw[<- hH2,Af (fun z=>n2 (by rw[z];simp)),Af (nb (s1 _ _ e))];exact s1 _ _ e
    have hpl:=Fk g.U (i,j)
    refine ⟨_,rfl,x,CGist,dx,_,_,rfl,ob2,clGist,nGist_unlikes,Ir _ _ _ _,_,rfl,a,_,_,_,rfl,rfl,ha3,rfl,_,rfl,Ah (by simp),fun c hc=>?_⟩
    have nc : ∀ {y o},H2 y=some o->y≠c:=fun e=>Aj e hc
    refine ⟨d,_,rfl,KF.t (k:=GA (j,i)) (by rw[Af (nc hd2)];exact hd2) Ab (BX (by rw[CC];omega)),?_⟩
    rw[GZ]
    refine k l _ ⟨?_,?_,Ab⟩ fun y o e n2=>?_
    ·rw[Af nxd,Af (nc ob2)];exact ob2
    ·rw[Af ndl.symm,Af (nc hl2)];exact hl2
    ·rw[Af (fun z=>n2 (by rw[z];simp)),Af (nc (f2 _ _ e n2))];exact f2 _ _ e n2
   | false=>
    refine CF (b:=false) (fun N hN=>⟨_,rfl,rfl,_,rfl,by rw[K3,decide_eq_false (by decide +kernel)];exact hN⟩) (fun g=>absurd g (by decide)) (fun _=>?_)
    refine CF (b:=false) (fun N hN=>⟨_,rfl,rfl,_,rfl,by rw[K3,decide_eq_false (by decide +kernel)];exact hN⟩) (fun g=>absurd g (by decide)) (fun _=>?_)
    refine CF (b:=false) (fun N hN=>⟨_,rfl,rfl,_,rfl,by rw[K3,decide_eq_false (by decide +kernel)];exact hN⟩) (fun g=>absurd g (by decide)) (fun _=>?_)
    have hL1:SqL K H1 l (g.L.map V.int):=SqL.of G1.hl
    have ai:atI (g.L.map V.int) i=some (V.int (gat g.L i)):=GI i0 (by rw[hg.len];omega)
    have aj:atI (g.L.map V.int) j=some (V.int (gat g.L j)):=GI j0 (by rw[hg.len];omega)
    refine ⟨_,rfl,x,CGist,dx,_,_,rfl,G1.ob,clGist,nGist_labels,DL _ _ _ _,_,rfl,l,_,_,_,rfl,rfl,hL1,ai,_,rfl,x,CGist,dx,_,_,rfl,G1.ob,clGist,nGist_labels,DL _ _ _ _,_,rfl,a,_,_,_,rfl,rfl,ha2,rfl,l,_,_,_,rfl,rfl,hL1,aj,Ah (by simp),fun b hb=>?_⟩
    refine ⟨b,[gat g.L i,gat g.L j],rfl,SqL.of Ab,by simp,fun c ms hp hs hc=>?_⟩
    have ems:ms=[min (gat g.L i) (gat g.L j),max (gat g.L i) (gat g.L j)]:=RH hp hs
    subst ems
    have nb : ∀ {y o},H1 y=some o->y≠b:=fun e=>Aj e hb
    generalize hH2:upd H1 b (HO.lst [V.int (gat g.L i),V.int (gat g.L j)])=H2 at hc
    have s2:Ak H1 H2:=by rw[<- hH2];exact Ak.new hb
    have s3:Ak H1 (upd H2 c (HO.lst ([min (gat g.L i) (gat g.L j),max (gat g.L i) (gat g.L j)].map V.int))):=s2.new2 hc
    have hc3:upd H2 c (HO.lst ([min (gat g.L i) (gat g.L j),max (gat g.L i) (gat g.L j)].map V.int)) c=some (.lst [V.int (min (gat g.L i) (gat g.L j)),V.int (max (gat g.L i) (gat g.L j))]):=Ab
    generalize upd H2 c (HO.lst ([min (gat g.L i) (gat g.L j),max (gat g.L i) (gat g.L j)].map V.int))=H3 at s3 hc3 ⊢
    have G3:=G1.same s3
    refine ⟨c,_,rfl,SqL.of hc3,rfl,_,_,rfl,_,_,rfl,rfl,?_⟩
    try dsimp only
    refine ⟨_,rfl,x,CGist,dx,_,_,rfl,G3.ob,clGist,nGist_labels,DL _ _ _ _,_,rfl,_,rfl,l,g.L,_,_,rfl,SqL.of G3.hl,by rw[hg.len];omega,fun m H4 hm s4 hm4=>?_⟩
    have G4:=G3.same s4
    refine ⟨_,rfl,x,CGist,dx,_,rfl,G4.ob,clGist,nGist_labels,(show 4<1000 by decide),?_⟩
    rw[Mh]
    have nxm:x≠m:=Cv G4.ob hm4 (fun z=>nomatch z)
    refine k m _ ⟨Ab,?_,?_⟩ fun y o e n2=>?_
    ·rw[Af nxm.symm];exact hm4
    ·rw[Af nxd.symm];exact G4.hd
    ·rw[Af (fun z=>n2 (by rw[z];simp))];exact s4 _ _ (s3 _ _ (s1 _ _ e))
theorem Hs : Ap (["self","saying","other"]) (["self","saying"]) (Ae Bw):=by trivial
theorem Hj {f : Addr} {fd : FuncData} (F : Fun K "longer" "Gist.longer" Bw f fd) (B : Bs mg) (T : Gs mg) (clGist : Cls K CGist) (nGist_labels : AH K CGist "labels") (nGist_unlikes : AH K CGist "unlikes") (nGist_low : AH K CGist "low") (nGist_high : AH K CGist "high") (kGist : Ri P w K mg base CGist 1 "Gist" (Rh K CGist)) (cGist_take : Fe P w K mg base CGist 2 "take" (Rm K CGist)) : Bv P w K mg base CX0 3 f fd ["self","saying"] (RT K CGist):= by
 have sc:=Hs
 refine F.ok sc (fun vs H Q E h=>?_) (fun cdv A outer s H vs Q E hr h=>?_)
 ·obtain ⟨x,dx,l,d,a,g,n,s,rfl,_⟩:=h;rfl
 ·obtain ⟨x,dx,l,d,a,g,n,s,rfl,hG,ha,hg,hs,h9,k⟩:=h
  refine ⟨_,(Ad (AB (i:=2) sc.nd rfl (Or.inl rfl) (MU kGist (hr.mono (by decide)) rfl (Aa (AQ (pv 0) rfl) (Aa (BU Kp (by rfl) B.dict PyProof.Rows.Boot.«dict» (Aa (AQ (pv 0) rfl) Ac)) (Aa (AQ (pv 0) rfl) (Aa (AQ (pv 0) rfl) Ac))))))
   (Ad (A1 (EF cGist_take clGist (hr.mono (by decide)) (pv 2) (Aa (pv 1) Ac)))
   (Ag (Aq (pv 2))))),?_⟩
  refine ⟨_,rfl,x,CGist,dx,_,_,rfl,hG.ob,clGist,nGist_labels,DL _ _ _ _,_,rfl,x,CGist,dx,_,_,rfl,hG.ob,clGist,nGist_unlikes,Ir _ _ _ _,d,_,rfl,hG.hd,hg.hash h9,fun e he=>?_⟩
  have s1:Ak H (upd H e (.dT (uKv g.U))):=Ak.new he
  have he1:upd H e (.dT (uKv g.U)) e=some (.dT (uKv g.U)):=Ab
  generalize upd H e (.dT (uKv g.U))=H1 at s1 he1
  have G1:=hG.same s1
  refine ⟨_,rfl,x,CGist,dx,_,_,rfl,G1.ob,clGist,nGist_low,Hm _ _ _ _,_,rfl,x,CGist,dx,_,_,rfl,G1.ob,clGist,nGist_high,FQ _ _ _ _,fun y dy hy hdy ne=>?_⟩
  refine ⟨y,dy,l,e,_,_,rfl,Ab,fun H2 hy2 f2=>⟨rfl,?_⟩⟩
  have s2:Ak H1 H2:=HP hy hdy fun b o q n=>f2 b o q n
  have G2:Gr CGist H2 y dy l e g:=⟨hy2,s2 _ _ G1.hl,s2 _ _ he1⟩
  try dsimp only
  refine ⟨_,rfl,y,dy,_,rfl,hy2,IW _ _ _ _ (by decide +kernel) (by decide +kernel) (by decide +kernel) (by decide +kernel),_,rfl,y,dy,l,e,a,g,n,s,rfl,G2,s2 _ _ (s1 _ _ ha),hg,hs,h9,fun m H3 G3 f3=>?_⟩
  refine ⟨_,rfl,k y dy m e H3 (fun b o q=>?_) G3⟩
  refine f3 b o (s2 _ _ (s1 _ _ q)) fun z=>?_
  rcases List.mem_cons.mp z with z | z
  ·rw[z] at q;rw[s1 _ _ q] at hy;cases hy
  ·rw[List.mem_singleton.mp z] at q;rw[q] at he;cases he
theorem IF : Ap (["self"]) (["self"]) (Ae BQ):=by trivial
theorem HR {f : Addr} {fd : FuncData} (F : Fun K "homes" "Gist.homes" BQ f fd) (B : Bs mg) (T : Gs mg) (clGist : Cls K CGist) (nGist_labels : AH K CGist "labels")  : Bv P w K mg base CX0 1 f fd ["self"] (Q7 K CGist):= by
 have sc:=IF
 refine F.ok sc (fun vs H Q E h=>?_) (fun cdv A outer s H vs Q E hr h=>?_)
 ·obtain ⟨x,dx,l,d,g,n,rfl,_⟩:=h;rfl
 ·obtain ⟨x,dx,l,d,g,n,rfl,hG,hg,h9,k⟩:=h
  refine ⟨_,(Ag (Aq (As (Iw (K:=K)) (by rfl) B.sorted PyProof.Rows.Boot.«sorted» (Aa (BU (OY (K:=K)) (by rfl) B.set PyProof.Rows.Boot.«set» (Aa (AQ (pv 0) rfl) Ac)) Ac)))),?_⟩
  refine ⟨_,rfl,x,CGist,dx,_,_,rfl,hG.ob,clGist,nGist_labels,DL _ _ _ _,l,g.L,rfl,SqL.of hG.hl,by rw[hg.len];omega,fun p ms hp hn hm=>?_⟩
  have hml:ms.length<=g.L.length:=Ck hn fun z hz=>(hm z).mp hz
  rw[hg.len] at hml
  refine ⟨p,ms,rfl,Ab,by omega,fun q ks h1 h2 hq=>?_⟩
  refine k q _ ((Ak.new hp).new2 hq) ?_
  rw[Ab,M8 hg hn hm h1 h2]
theorem HZ : Ap (["self"]) (["self"]) (Ae BJ):=by trivial
theorem IC {f : Addr} {fd : FuncData} (F : Fun K "walls" "Gist.walls" BJ f fd) (B : Bs mg) (T : Gs mg) (clGist : Cls K CGist) (nGist_labels : AH K CGist "labels") (nGist_unlikes : AH K CGist "unlikes")  : Bv P w K mg base CX0 1 f fd ["self"] (Rn K CGist):= by
 have sc:=HZ
 refine F.ok sc (fun vs H Q E h=>?_) (fun cdv A outer s H vs Q E hr h=>?_)
 ·obtain ⟨x,dx,l,d,g,n,rfl,_⟩:=h;rfl
 ·obtain ⟨x,dx,l,d,g,n,rfl,hG,hg,h9,k⟩:=h
  refine ⟨_,(Ag (Aq (M7 (RE (Nat.lt_of_succ_lt (DS hr)) (N':=["one","other","self"]) (M:=[none,none,some 0]) (Ct (by rfl)) rfl (Kj (AQ (pv 0) rfl)) (fun _ _ _ _ _=>Ji (K:=K) (n:=2) rfl (Au (An (i:=0) (show (["one","other","self"] : List Str).Nodup by decide +kernel) rfl (Or.inl rfl) (.inr rfl)) (Au (An (i:=1) (show (["one","other","self"] : List Str).Nodup by decide +kernel) rfl (Or.inl rfl) (.inr rfl)) BE))) Jq (fun _ _ _ _ _=>FM) (fun _ _ _ _ _=>(AD (Aa (AG (Ar (K:=K)) (Ls (K:=K) (pv 2) rfl) (pv 0) (fun _ _=>rfl)) (Aa (AG (Ar (K:=K)) (Ls (K:=K) (pv 2) rfl) (pv 1) (fun _ _=>rfl)) Ac)))) (fun _ _ _ _ _=>Ie))))),?_⟩
  refine ⟨d,uKv g.U,hG.hd,_,rfl,x,CGist,dx,_,_,rfl,hG.ob,clGist,nGist_unlikes,Ir _ _ _ _,d,_,rfl,hG.hd,fun o D hD=>?_⟩
  have nxd:x≠d:=Cv hG.ob hG.hd (fun z=>nomatch z)
  have ndl:d≠l:=Cv hG.hd hG.hl (fun z=>nomatch z)
  have hul:=hg.uLen h9
  generalize hH0:upd H d (HO.frz o (.dT (uKv g.U)))=H0 at hD ⊢
  have ob0:H0 x=some (.ins CGist dx (gF l d g.lo g.hi)):=by rw[<- hH0,Af nxd];exact hG.ob
  have hl0:H0 l=some (.lst (g.L.map V.int)):=by rw[<- hH0,Af ndl.symm];exact hG.hl
  have hd0:H0 d=some (.frz o (.dT (uKv g.U))):=by rw[<- hH0,Ab]
  refine ⟨fun i m H2=>m+i=g.U.length/\Ak H0 H2/\H2 D=some (.dT (uKv (Bc g.L (g.U.take i)))),⟨g.U.length,rfl,Ak.new hD,Ab⟩,?_⟩
  rintro i m H2 ⟨hm,s2,hD2⟩
  by_cases hi:i<g.U.length
  ·have hui:g.U[i]?=some g.U[i]:=List.getElem?_eq_getElem hi
   generalize g.U[i]=p at hui
   have hki:(uKv g.U)[i]?=some (GA p,V.bl true):=by unfold uKv;rw[List.getElem?_map,hui];rfl
   obtain ⟨⟨p0,p1⟩,q0,q1⟩:=hg.un p (List.mem_of_getElem? hui)
   refine .inr ⟨⟨_,_,s2 _ _ hd0,hki⟩,fun H3=>Ak H0 H3/\H3 D=some (.dT (uKv (Bc g.L (g.U.take (i+1))))),fun H3 h=>⟨m-1,by omega,by omega,h⟩,?_⟩
   rintro y H3 ⟨b,kk,rfl,rfl,hb,hkk⟩
   obtain ⟨v,hv⟩:=hkk _ (s2 _ _ hd0)
   rw[hki] at hv;cases hv
   have hL3:SqL K H3 l (g.L.map V.int):=SqL.of (s2 _ _ hl0)
   refine ⟨b,[V.int p.1,V.int p.2],rfl,SqT.of hb,rfl,_,_,rfl,_,_,rfl,rfl,?_⟩
   refine Sw ?_
   refine ⟨_,rfl,x,CGist,dx,_,_,rfl,s2 _ _ ob0,clGist,nGist_labels,DL _ _ _ _,_,rfl,l,_,_,_,rfl,rfl,hL3,GI p0 (by rw[hg.len];omega),_,rfl,x,CGist,dx,_,_,rfl,s2 _ _ ob0,clGist,nGist_labels,DL _ _ _ _,_,rfl,l,_,_,_,rfl,rfl,hL3,GI q0 (by rw[hg.len];omega),Ah (by simp),fun c hc=>?_⟩
   have hwl:=HS g.L (g.U.take i)
   rw[List.length_take] at hwl
   refine ⟨_,KF.t (k:=GA (gat g.L p.1,gat g.L p.2)) (by rw[Af (Aj hD2 hc)];exact hD2) Ab (BX (by rw[CC];omega)),?_,?_⟩
   ·exact (s2.new2 hc).put hD
   ·rw[Ab,GZ,Aw hui,GJ]
  ·refine .inl ⟨⟨_,s2 _ _ hd0,by rw[CC];omega⟩,o,s2 _ _ hd0,?_⟩
   have ed:D≠d:=fun z=>by rw[z,hd0] at hD;cases hD
   refine k D _ (fun b u e=>?_) ?_
   ·by_cases hb:b=d
    ·subst hb
     rw[Ab];rw[hG.hd] at e;exact e
    ·rw[Af hb]
     exact s2 b u (by rw[<- hH0,Af hb];exact e)
   ·rw[Af ed,hD2,List.take_of_length_le (by omega)]
theorem Mb : Ap (["censers","sayings","gist","saying"]) (["censers","sayings"]) (Ae Dx):=by trivial
theorem Lg {f : Addr} {fd : FuncData} (F : Fun K "gist_of" "gist_of" Dx f fd) (B : Bs mg) (T : Gs mg) (clGist : Cls K CGist) (kGist : Ri P w K mg base CGist 1 "Gist" (Rh K CGist)) (cGist_take : Fe P w K mg base CGist 2 "take" (Rm K CGist)) : Bv P w K mg base CX0 4 f fd ["censers","sayings"] (Rt K CGist):= by
 have sc:=Mb
 refine F.ok sc (fun vs H Q E h=>?_) (fun cdv A outer s H vs Q E hr h=>?_)
 ·obtain ⟨n,b,as,ss,rfl,_⟩:=h;rfl
 ·obtain ⟨n,b,as,ss,rfl,n1,n9,hb,hS,hs,hl,k⟩:=h
  refine ⟨_,(Ad (AB (i:=2) sc.nd rfl (Or.inl rfl) (MU kGist (hr.mono (by decide)) rfl (Aa (BU K9 (by rfl) B.list PyProof.Rows.Boot.«list» (Aa (BU IS (by rfl) B.range PyProof.Rows.Boot.«range» (Aa (pv 0) Ac)) Ac)) (Aa NN (Aa Ai (Aa (pv 0) Ac))))))
   (Ad (BZ PassesOwn.never rfl (AN (K:=K) (pv 1)) (An (i:=3) sc.nd rfl (Or.inl rfl))
   (Ag (A1 (EF cGist_take clGist (hr.mono (by decide)) (pv 2) (Aa (pv 3) Ac)))))
   (Ag (Aq (pv 2))))),?_⟩
  refine ⟨_,rfl,_,rfl,fun rp hrp=>⟨rp,_,rfl,Ab,by omega,by omega,fun l hl=>?_⟩⟩
  have s1:=(Ak.new (o:=HO.rng 0 (n:Int)) hrp).new2 (o:=HO.lst (((List.range (n:Int).toNat).map fun (k:Nat)=>(k:Int)).map V.int)) hl
  have hl1:upd (upd H rp (HO.rng 0 (n:Int))) l (HO.lst (((List.range (n:Int).toNat).map fun (k:Nat)=>(k:Int)).map V.int)) l=some (.lst ((rg n).map V.int)):=by rw[Ab,Int.toNat_natCast];rfl
  generalize upd (upd H rp (HO.rng 0 (n:Int))) l (HO.lst (((List.range (n:Int).toNat).map fun (k:Nat)=>(k:Int)).map V.int))=H1 at s1 hl1
  intro d hd
  have s2:=s1.new2 (o:=HO.dT []) hd
  have hd2:upd H1 d (HO.dT []) d=some (.dT []):=Ab
  have hl2:=Ak.new (o:=HO.dT []) hd _ _ hl1
  generalize upd H1 d (HO.dT [])=H2 at s2 hd2 hl2
  refine ⟨_,rfl,fun x dx hx hdx ne=>⟨x,dx,l,d,_,_,rfl,Ab,fun H3 hx3 f3=>⟨rfl,?_⟩⟩⟩
  have s3:Ak H2 H3:=HP hx hdx fun b o q n=>f3 b o q n
  have S3:=s2.trans s3
  have G3:Gr CGist H3 x dx l d (By n []):=⟨hx3,s3 _ _ hl2,s3 _ _ hd2⟩
  have hxn:H x=none:=s2.free hx
  have hdn:H d=none:=s1.free hd
  try dsimp only
  have hal:=hS.length
  refine ⟨_,rfl,b,rfl,⟨_,S3.seq hb⟩,Bq (K:=K) (a:=b) (xs:=as.map V.ref) (fun m σ H4=>∃ (l:Addr) (o1:Option V),σ=[some (.int n),some (.ref b),some (.ref x),o1]/\Ak H H4/\Gr CGist H4 x dx l d (By n (ss.take m)))
   ⟨l,none,rfl,S3,G3⟩ (fun m σ H4 _ ⟨_,_,_,s4,_⟩=>s4.seq hb) ?_ ?_⟩
  ·rintro m y σ H4 hm ⟨l4,o1,rfl,s4,G4⟩
   obtain ⟨a,rfl,ham,hml⟩:=CW hm
   obtain ⟨s,hs4,hsm⟩:=Ay hS ham
   refine ⟨_,rfl,x,dx,_,rfl,G4.ob,IW _ _ _ _ (by decide +kernel) (by decide +kernel) (by decide +kernel) (by decide +kernel),_,rfl,x,dx,l4,d,a,_,n,s,rfl,G4,s4 _ _ hs4,MJ n1 (fun t ht=>hs t (List.mem_of_mem_take ht)),hs s (List.mem_of_getElem? hsm),n9,fun m5 H5 G5 f5=>?_⟩
   refine ⟨m5,_,rfl,fun c o e=>f5 c o (s4 _ _ e) fun z=>?_,?_⟩
   ·rcases List.mem_cons.mp z with z | z
    ·rw[z,hxn] at e;cases e
    ·rw[List.mem_singleton.mp z,hdn] at e;cases e
   ·rw[Aw hsm,IZ];exact G5
  ·rintro σ H4 ⟨l4,o1,rfl,s4,G4⟩
   rw[List.length_map,hal,List.take_length] at G4
   exact ⟨_,rfl,k x dx l4 d H4 s4 G4⟩
theorem Gm : Ap (["censers","sayings","saying"]) (["censers","sayings"]) (Ae Bk):=by trivial
theorem Gi {f : Addr} {fd : FuncData} (F : Fun K "checked_gist" "checked_gist" Bk f fd) (B : Bs mg) (T : Gs mg)  (ccheck_many : GU P w K mg base 1 "check_many" [] (CT CBadMany)) (ccheck_saying : GU P w K mg base 2 "check_saying" [] (Nm K CBadSaying CNoCenser)) (cgist_of : Cal P w K mg base 4 "gist_of" [] (Rt K CGist)) : Bv P w K mg base (CXE P w) 5 f fd ["censers","sayings"] (Oe K CGist CBadMany CBadSaying CNoCenser):= by
 have sc:=Gm
 refine F.okE sc (fun vs H Q E h=>?_) (fun cdv A outer s H vs Q E hr F0 h=>?_)
 ·obtain ⟨n,b,as,rfl,_⟩:=h;rfl
 ·obtain ⟨n,b,as,rfl,hb,hm⟩:=h
  refine ⟨_,(Ad (A1 (BN ccheck_many (hr.mono (by decide)) rfl (Cs F0) (Aa (pv 0) Ac)))
   (Ad (BZ PassesOwn.leaving rfl (AN (K:=K) (pv 1)) (An (i:=2) sc.nd rfl (Or.inl rfl))
   (Ag (A1 (BN ccheck_saying (hr.mono (by decide)) rfl (Cs F0) (Aa (pv 0) (Aa (pv 2) Ac))))))
   (Ag (Aq (A7 cgist_of (hr.mono (by decide)) rfl (Aa (pv 0) (Aa (pv 1) Ac))))))),?_⟩
  rcases hm with ⟨m,ss,rfl,n1,n9,hS,hs,hl,k⟩ | ⟨rs,hR,hd,kE⟩
  ·have hal:=hS.length
   refine ⟨_,rfl,(m:Int),rfl,fun _ _=>?_,fun z=>absurd ⟨by omega,by omega⟩ z⟩
   refine ⟨_,rfl,b,rfl,⟨_,hb⟩,Bq (K:=K) (a:=b) (xs:=as.map V.ref) (fun q σ H4=>∃ (o1:Option V),σ=[some (.int m),some (.ref b),o1]/\H4=H)
    ⟨none,rfl,rfl⟩ (fun q σ H4 _ ⟨_,_,e⟩=>by rw[e];exact hb) ?_ ?_⟩
   ·rintro q y σ H4 hm ⟨o1,rfl,rfl⟩
    obtain ⟨a,rfl,ham,hml⟩:=CW hm
    obtain ⟨s,hs4,hsm⟩:=Ay hS ham
    have h0:=Jm (hs s (List.mem_of_getElem? hsm))
    exact ⟨_,rfl,_,rfl,(m:Int),a,Cp s,rfl,by rw[Hr];exact hs4,fun _=>⟨_,rfl,rfl⟩,fun z=>(by rw[h0] at z;cases z),fun z=>(by rw[h0] at z;cases z)⟩
   ·rintro σ H4 ⟨o1,rfl,rfl⟩
    exact ⟨_,rfl,_,rfl,m,b,as,ss,rfl,n1,n9,hb,hS,hs,hl,k⟩
  ·by_cases hn:1<=n/\n<=9
   ·have e0:rdS n rs=Kd n rs:=if_pos hn
    rw[e0] at hd kE
    have hal:as.length=rs.length:=hR.length
    refine ⟨_,rfl,n,rfl,fun _ _=>?_,fun z=>absurd hn z⟩
    refine ⟨_,rfl,b,rfl,⟨_,hb⟩,Bq (K:=K) (a:=b) (xs:=as.map V.ref) (fun q σ H4=>∃ (o1:Option V),σ=[some (.int n),some (.ref b),o1]/\H4=H /\ ∀ r ∈ rs.take q,B8 n r=0)
     ⟨none,rfl,rfl,fun r hr=>by simp at hr⟩ (fun q σ H4 _ ⟨_,_,e,_⟩=>by rw[e];exact hb) ?_ ?_⟩
    ·rintro q y σ H4 hm ⟨o1,rfl,rfl,hz⟩
     obtain ⟨a,rfl,ham,hml⟩:=CW hm
     obtain ⟨r,hr4,hrm⟩:=Ay hR ham
     refine ⟨_,rfl,_,rfl,n,a,r,rfl,hr4,fun h0=>⟨_,rfl,rfl,fun r' hr'=>?_⟩,fun h1=>?_,fun h2=>?_⟩
     ·rw[Aw hrm] at hr'
      rcases List.mem_append.mp hr' with hr' | hr'
      ·exact hz r' hr'
      ·rw[List.mem_singleton.mp hr'];exact h0
     ·rw[Fm hrm hz (by rw[h1];decide),h1] at kE;exact kE
     ·rw[Fm hrm hz (by rw[h2];decide),h2] at kE;exact kE
    ·rintro σ H4 ⟨o1,rfl,rfl,hz⟩
     rw[List.length_map,hal,List.take_length] at hz
     exact absurd (Fi hz) hd
   ·have e0:rdS n rs=3:=if_neg hn
    rw[e0] at kE
    exact ⟨_,rfl,n,rfl,fun h1 h2=>absurd ⟨h1,h2⟩ hn,fun _=>kE⟩
theorem Pq : Ap (["homes","walls","size","place","home","others"]) (["homes","walls","size"]) (Ae Gy):=by trivial
theorem Pg {dd : Nat} {f : Addr} {fd : FuncData} (F : Fun K "crowd" "crowd" Gy f fd) (B : Bs mg) (T : Gs mg)  (ccrowd : Cal P w K mg base (1 + dd) "crowd" [] (Re K dd)) : Bv P w K mg base CX0 (1 + dd + 1) f fd ["homes","walls","size"] (Re K (dd + 1)):= by
 have sc:=Pq
 refine F.ok sc (fun vs H Q E h=>?_) (fun cdv A outer s H vs Q E hr h=>?_)
 ·obtain ⟨_,p,q,hs,W,s,rfl,_⟩:=h;rfl
 ·obtain ⟨hd0,p,q,hs,W,s,rfl,hp,hq,hsd,h9,kN,kS⟩:=h
  refine ⟨_,(Ad (A2 (Ao Cq (pv 2) Ai (AA _)) (Ag (Aq (AI Ac))) Az)
   (Ad (BZ PassesOwn.never rfl (JU (K:=K) rfl B.enumerate (Aa (pv 0) Ac)) (DK rfl (Au (An (i:=3) sc.nd rfl (Or.inl rfl)) (Au (An (i:=4) sc.nd rfl (Or.inr rfl)) BE)))
   (Ad (A2 (Ao Lc (Ax ER (As (Br (K:=K)) (by rfl) B.len PyProof.Rows.Boot.«len» (Aa (pv 0) Ac)) (pv 3)) (pv 2) (AA _)) (Ag Nu) Az)
   (Ad (AB (i:=5) sc.nd rfl (Or.inl rfl) (A7 ccrowd (hr.mono (by omega)) rfl (Aa (KQ (N':=["later","walls","home"]) (M:=[none,some 1,some 4]) (Ct (by rfl)) rfl (AN (K:=K) (Cm (DY (K:=K)) (pv 0) (Dp (Ax BD (pv 3) Ai)) Dm)) (fun _ _ _ _ _=>An (i:=0) (show (["later","walls","home"] : List Str).Nodup by decide +kernel) rfl (Or.inl rfl) (.inr rfl)) (Dz rfl) (fun _ _ _ _ _=>EA (GO (MQ (DS hr) (AD (Aa (pv 2) (Aa (pv 0) Ac))) (pv 1)))) (fun _ _ _ _ _=>(pv 0))) (Aa (pv 1) (Aa (Ax ER (pv 2) Ai) Ac)))))
   (Ag (A2 (Ao Ep (pv 5) Da (AA _)) (Ag (Aq (Ax GH (AI (Aa (pv 4) Ac)) (pv 5)))) Az)))))
   (Ag (Aq Da)))),?_⟩
  refine AW (b:=decide (s=0)) (P:=fun H'=>H'=H) (fun N hN=>⟨_,rfl,rfl,_,rfl,?_⟩) (fun g H5 e=>?_) (fun g H5 e=>?_)
  ·have e:decide (V.int (s:Int)=V.int 0)=decide (s=0):=by rw[Lp];exact decide_eq_decide.mpr ⟨fun z=>by omega,fun z=>by omega⟩
   rw[e];exact hN _ rfl
  ·rw[e]
   have g:=of_decide_eq_true g
   exact ⟨Nat.zero_le _,fun r hr=>kS r [] _ (Ak.new hr) Ab (List.nil_sublist _) (by rw[g];rfl) .nil⟩
  rw[e]
  have hs0:0<s:=by have:=of_decide_eq_false g;omega
  refine ⟨_,rfl,p,rfl,⟨_,SqL.of hp⟩,ML (K:=K) (a:=p) (xs:=hs.map V.int) (fun i σ H2=>∃ (o1 o2 o3:Option V),σ=[some (.ref p),some (.ref q),some (.int s),o1,o2,o3]/\Ak H H2/\(1<=i->hs.Pairwise (fun a b=>(a,b) ∈ W)->hs.length<s))
   ⟨none,none,none,rfl,Ak.refl H,fun z=>by omega⟩ (fun i σ H2 _ ⟨_,_,_,_,s2,_⟩=>SqL.of (s2 _ _ hp)) ?_ ?_⟩
  ·rintro i y σ H2 t hi ⟨o1,o2,o3,rfl,s2,hw⟩ ht
   obtain ⟨h,rfl,hh,hil⟩:=Nf hi
   refine ⟨t,[V.int (i:Int),V.int h],rfl,SqT.of Ab,rfl,_,_,rfl,_,_,rfl,rfl,?_⟩
   have s3:Ak H (upd H2 t (.tup [V.int (i:Int),V.int h])):=s2.new2 ht
   generalize upd H2 t (.tup [V.int (i:Int),V.int h])=H3 at s3
   try dsimp only
   refine nrm (σ':=[some (.ref p),some (.ref q),some (.int s),some (.int (i:Int)),some (.int h),o3]) rfl ?_
   have hp3:=s3 _ _ hp
   have hq3:=s3 _ _ hq
   refine AW (b:=decide ((hs.length:Int)-i<s)) (P:=fun H'=>H'=H3) (fun N hN=>⟨_,rfl,p,_,rfl,.inl (SqL.of hp3),_,rfl,_,_,rfl,rfl,_,rfl,_,_,rfl,rfl,_,rfl,?_⟩) (fun g H5 e=>?_) (fun g H5 e=>?_)
   ·rw[ltm];exact hN _ rfl
   ·rw[e]
    have g:=of_decide_eq_true g
    show Q V.non H3
    refine kN H3 s3 fun hP=>?_
    by_cases i1:1<=i
    ·exact hw i1 hP
    ·omega
   rw[e]
   have g:=of_decide_eq_false g
   refine Bz ?_
   refine ⟨_,rfl,_,rfl,_,_,rfl,rfl,_,rfl,p,_,rfl,SqL.of hp3,fun v hv=>?_⟩
   have s4:=s3.new2 (o:=HO.lst (Fd (hs.map V.int) (some ((i:Int)+1)) none)) hv
   have hv4:upd H3 v (HO.lst (Fd (hs.map V.int) (some ((i:Int)+1)) none)) v=some (.lst ((hs.drop (i+1)).map V.int)):= by
    rw[Ab]
    exact congrArg (fun z=>some (HO.lst z)) (Iq hs (i+1))
   generalize upd H3 v (HO.lst (Fd (hs.map V.int) (some ((i:Int)+1)) none))=H4 at s4 hv4
   have hq4:=s4 _ _ hq
   refine ⟨v,rfl,⟨_,SqL.of hv4⟩,Ez (xs:=(hs.drop (i+1)).map V.int) (fun j ys H5=>Ak H4 H5/\ys=(((hs.drop (i+1)).take j).filter fun z=>decide ((h,z) ∈ W)).map V.int) (Ah (by rw[ltm,List.length_drop];omega)) ⟨Ak.refl H4,rfl⟩ (fun j ys H5 hj h=>⟨SqL.of (h.1 _ _ hv4),by rw[h.2,ltm];exact Nat.le_trans (List.length_filter_le _ _) (by rw[List.length_take];omega)⟩) ?_ ?_⟩
   ·rintro j y ys H5 hj ⟨s5,rfl⟩
    obtain ⟨z,rfl,hz,hjl⟩:=Nf hj
    refine gN ?_
    refine IT (a:=h) (b:=z) (q:=q) (W:=W) (fun H Q h=>⟨_,rfl,h⟩) (fun H Q h=>⟨_,rfl,h⟩) (fun H Q h=>⟨_,rfl,h⟩) (s5 _ _ hq4) fun H6 s6=>?_
    by_cases g1:(h,z) ∈ W
    ·refine P5 g1 ⟨_,rfl,s5.trans s6,?_⟩
     rw[Aw hz,List.filter_append,List.filter_cons,if_pos (decide_eq_true g1),List.filter_nil,List.map_append];rfl
    ·refine Lf g1 ⟨s5.trans s6,?_⟩
     rw[Aw hz,List.filter_append,List.filter_cons,if_neg (by simpa using g1),List.filter_nil,List.append_nil]
   rintro ys H5 ⟨s5,rfl⟩ c hc
   rw[ltm,List.take_length]
   have s6:=(s4.trans s5).new2 (o:=HO.lst (((hs.drop (i+1)).filter fun z=>decide ((h,z) ∈ W)).map V.int)) hc
   have hc6:upd H5 c (HO.lst (((hs.drop (i+1)).filter fun z=>decide ((h,z) ∈ W)).map V.int)) c=some (.lst (((hs.drop (i+1)).filter fun z=>decide ((h,z) ∈ W)).map V.int)):=Ab
   generalize upd H5 c (HO.lst (((hs.drop (i+1)).filter fun z=>decide ((h,z) ∈ W)).map V.int))=H6 at s6 hc6
   have hfl:=List.length_filter_le (fun z=>decide ((h,z) ∈ W)) (hs.drop (i+1))
   rw[List.length_drop] at hfl
   have hdr:hs.drop i=h::hs.drop (i+1):=OW hh
   refine ⟨_,rfl,_,rfl,_,_,rfl,rfl,by omega,c,q,_,W,s-1,?_,hc6,s6 _ _ hq,by omega,by omega,fun H7 s7 hn=>?_,fun r xs H7 s7 hr hsub hxl hxp=>?_⟩
   ·rw[show ((s-1:Nat):Int)=(s:Int)-1 by omega];rfl
   ·refine ⟨_,rfl,rfl,_,rfl,FT ⟨_,_,_,rfl,s6.trans s7,fun _ hP=>?_⟩⟩
    by_cases i1:1<=i
    ·exact hw i1 hP
    ·have i0:i=0:=by omega
     subst i0
     rw[List.drop_zero] at hdr
     rw[hdr,List.pairwise_cons] at hP
     have hf:(hs.drop (0+1)).filter (fun z=>decide ((h,z) ∈ W))=hs.drop (0+1):=List.filter_eq_self.mpr fun z hz=>decide_eq_true (hP.1 z hz)
     rw[hf] at hn
     have:=hn hP.2
     rw[List.length_drop] at this
     omega
   ·refine ⟨_,rfl,rfl,_,rfl,FY ⟨_,rfl,Ah (by simp),fun u hu=>?_⟩⟩
    have hru:r≠u:=Aj hr hu
    refine ⟨_,rfl,u,r,_,_,rfl,rfl,Ab,by rw[Af hru];exact hr,Ah (by rw[ltm];show 1+_<=_;omega),fun u2 hu2=>?_⟩
    refine kS u2 (h::xs) _ (((s6.trans s7).new2 hu).new2 hu2) Ab ?_ (by rw[List.length_cons];omega) ?_
    ·have h1:(h::xs).Sublist (hs.drop i):=by rw[hdr];exact (hsub.trans List.filter_sublist).cons₂ h
     exact h1.trans (List.drop_sublist _ _)
    ·refine List.pairwise_cons.mpr ⟨fun z hz=>?_,hxp⟩
     exact of_decide_eq_true (List.mem_filter.mp (hsub.subset hz)).2
  ·rintro σ H2 ⟨o1,o2,o3,rfl,s2,hw⟩
   rw[ltm] at hw
   refine kN H2 s2 fun hP=>?_
   by_cases i1:1<=hs.length
   ·exact hw i1 hP
   ·omega
theorem GW : Ap (["gist","one","other","found"]) (["gist"]) (Ae Bx):=by trivial
theorem GX {f : Addr} {fd : FuncData} (F : Fun K "plain_paper" "plain_paper" Bx f fd) (B : Bs mg) (T : Gs mg) (clGist : Cls K CGist) (nGist_labels : AH K CGist "labels") (nGist_unlikes : AH K CGist "unlikes") (nGist_low : AH K CGist "low") (nGist_high : AH K CGist "high") (cGist_homes : Fe P w K mg base CGist 1 "homes" (Q7 K CGist)) (cGist_walls : Fe P w K mg base CGist 1 "walls" (Rn K CGist)) (ccrowd : Cal P w K mg base 13 "crowd" [] (Re K 12)) : Bv P w K mg base CX0 14 f fd ["gist"] (Rp K CGist):= by
 have sc:=GW
 refine F.ok sc (fun vs H Q E h=>?_) (fun cdv A outer s H vs Q E hr h=>?_)
 ·obtain ⟨x,dx,l,d,g,n,rfl,_⟩:=h;rfl
 ·obtain ⟨x,dx,l,d,g,n,rfl,hG,hg,n1,h9,kN,kP⟩:=h
  refine ⟨_,(Ad (Nx (BZ PassesOwn.never rfl (Kj (AQ (pv 0) rfl)) (DK rfl (Au (An (i:=1) sc.nd rfl (Or.inl rfl)) (Au (An (i:=2) sc.nd rfl (Or.inl rfl)) BE)))
   (Ag (A2 (Ao Cq (AG (Ar (K:=K)) (AQ (pv 0) rfl) (pv 1) (fun _ _=>rfl)) (AG (Ar (K:=K)) (AQ (pv 0) rfl) (pv 2) (fun _ _=>rfl)) (AA _)) (Ag (Aq (AD (Aa Av (Aa (pv 1) (Aa (pv 2) Ac)))))) Az))))
   (Ad (A2 (Ao OX (AQ (pv 0) rfl) (AQ (pv 0) rfl) (AA _)) (Ag (Aq (AD (Aa Av Ac)))) Az)
   (Ad (A2 (Ao Lc (As (Br (K:=K)) (by rfl) B.len PyProof.Rows.Boot.«len» (Aa (B0 cGist_homes clGist (hr.mono (by decide)) (pv 0)) Ac)) (AQ (pv 0) rfl) (AA _)) (Ag (Aq (AD (Aa Av Ac)))) Az)
   (Ad (AB (i:=3) sc.nd rfl (Or.inl rfl) (A7 ccrowd (hr.mono (by decide)) rfl (Aa (B0 cGist_homes clGist (hr.mono (by decide)) (pv 0)) (Aa (B0 cGist_walls clGist (hr.mono (by decide)) (pv 0)) (Aa (Ax BD (AQ (pv 0) rfl) Ai) Ac)))))
   (Ad (A2 (Ao Ep (pv 3) Da (AA _)) (Ag (Aq (AD (Aa Av (Aa (BU (JT (K:=K)) (by rfl) B.tuple PyProof.Rows.Boot.«tuple» (Aa (pv 3) Ac)) Ac))))) Az)
   (Ag (Aq Da))))))),?_⟩
  have nxd:x≠d:=Cv hG.ob hG.hd (fun z=>nomatch z)
  have ndl:d≠l:=Cv hG.hd hG.hl (fun z=>nomatch z)
  have gno : ∀ {m : Str},¬ m = "high" -> ¬ m = "low" -> ¬ m = "unlikes" -> ¬ m = "labels" -> (gF l d g.lo g.hi).lookup m = none:=fun h1 h2 h3 h4=>IW _ _ _ _ h1 h2 h3 h4
  have n1' : (gF l d g.lo g.hi).lookup ("homes" : Str) = none:=gno (by decide +kernel) (by decide +kernel) (by decide +kernel) (by decide +kernel)
  have n2' : (gF l d g.lo g.hi).lookup ("walls" : Str) = none:=gno (by decide +kernel) (by decide +kernel) (by decide +kernel) (by decide +kernel)
  refine A5 (fun σ H'=>∃ o1 o2:Option V,σ=[some (.ref x),o1,o2,none]/\Ak H H' /\ ∀ p ∈ g.U,gat g.L p.1≠gat g.L p.2) (fun N hN=>?_) ?_
  ·refine ⟨d,uKv g.U,hG.hd,_,rfl,x,CGist,dx,_,_,rfl,hG.ob,clGist,nGist_unlikes,Ir _ _ _ _,d,_,rfl,hG.hd,fun o=>?_⟩
   have back : ∀ H2:Hp,Ak (upd H d (HO.frz o (.dT (uKv g.U)))) H2->H2 d=some (.frz o (.dT (uKv g.U)))/\Ak H (upd H2 d (.dT (uKv g.U))):=fun H2 s2=>⟨s2 _ _ Ab,fun b u e=>by
    by_cases hb:b=d
    ·subst hb
     rw[Ab];rw[hG.hd] at e;exact e
    ·rw[Af hb]
     exact s2 b u (by rw[Af hb];exact e)⟩
   have ob0:upd H d (HO.frz o (.dT (uKv g.U))) x=some (.ins CGist dx (gF l d g.lo g.hi)):=by rw[Af nxd];exact hG.ob
   have hl0:upd H d (HO.frz o (.dT (uKv g.U))) l=some (.lst (g.L.map V.int)):=by rw[Af ndl.symm];exact hG.hl
   generalize upd H d (HO.frz o (.dT (uKv g.U)))=H0 at back ob0 hl0
   refine Mp (o:=o) (d:=d) (U:=g.U) (fun i σ H2=>∃ o1 o2:Option V,σ=[some (.ref x),o1,o2,none]/\Ak H0 H2 /\ ∀ p ∈ g.U.take i,gat g.L p.1≠gat g.L p.2)
    ⟨none,none,rfl,Ak.refl H0,fun p hp=>by simp at hp⟩ (fun i σ H2 _ ⟨_,_,_,s2,_⟩=>(back H2 s2).1) ?_ ?_
   ·rintro i p b σ H2 hui ⟨o1,o2,rfl,s2,hU⟩ hb
    obtain ⟨⟨p0,p1⟩,q0,q1⟩:=hg.un p (List.mem_of_getElem? hui)
    refine ⟨b,_,rfl,SqT.of hb,rfl,_,_,rfl,_,_,rfl,rfl,?_⟩
    try dsimp only
    refine CF (b:=decide (gat g.L p.1=gat g.L p.2)) (fun N hN=>⟨_,rfl,x,CGist,dx,_,_,rfl,s2 _ _ ob0,clGist,nGist_labels,DL _ _ _ _,_,rfl,l,_,_,_,rfl,rfl,SqL.of (s2 _ _ hl0),GI p0 (by rw[hg.len];omega),_,rfl,x,CGist,dx,_,_,rfl,s2 _ _ ob0,clGist,nGist_labels,DL _ _ _ _,_,rfl,l,_,_,_,rfl,rfl,SqL.of (s2 _ _ hl0),GI q0 (by rw[hg.len];omega),rfl,_,rfl,?_⟩) (fun e=>?_) (fun e=>?_)
    ·rw[Lp];exact hN
    ·have e:=of_decide_eq_true e
     refine ⟨_,rfl,_,rfl,Ah (by simp),fun c hc=>?_⟩
     obtain ⟨b1,b2⟩:=back _ (s2.new2 (o:=HO.tup [V.str "ring",V.int p.1,V.int p.2]) hc)
     refine ⟨o,b1,kP (.ring p.1 p.2) _ _ b2 ⟨c,rfl,?_⟩ ⟨List.mem_of_getElem? hui,e⟩ rfl⟩
     rw[Af (fun z=>by rw[z,(back H2 s2).1] at hc;cases hc),Ab]
    ·have e:=of_decide_eq_false e
     refine ⟨_,_,rfl,s2,fun q hq=>?_⟩
     rw[Aw hui] at hq
     rcases List.mem_append.mp hq with hq | hq
     ·exact hU q hq
     ·rw[List.mem_singleton.mp hq];exact e
   ·rintro σ H2 ⟨o1,o2,rfl,s2,hU⟩
    rw[List.take_length] at hU
    obtain ⟨b1,b2⟩:=back H2 s2
    exact ⟨o,b1,hN _ _ ⟨o1,o2,rfl,b2,hU⟩⟩
  rintro σ H1 ⟨o1,o2,rfl,s1,hU⟩
  have G1:=hG.same s1
  refine AW (b:=decide (g.hi<g.lo)) (P:=fun H'=>H'=H1) (fun N hN=>⟨_,rfl,x,CGist,dx,_,_,rfl,G1.ob,clGist,nGist_low,Hm _ _ _ _,_,rfl,x,CGist,dx,_,_,rfl,G1.ob,clGist,nGist_high,FQ _ _ _ _,_,_,rfl,rfl,_,rfl,hN _ rfl⟩) (fun e H5 eH=>?_) (fun e H5 eH=>?_)
  ·rw[eH]
   exact ⟨Ah (by simp),fun c hc=>kP .counts _ _ (s1.new2 hc) ⟨c,rfl,Ab⟩ (show g.hi<g.lo from of_decide_eq_true e) rfl⟩
  rw[eH]
  have hlh:=of_decide_eq_false e
  refine AW (b:=decide (((AV n g.L).length:Int)<g.lo)) (P:=fun H'=>Ak H1 H') (fun N hN=>⟨_,rfl,x,dx,_,rfl,G1.ob,n1',x,dx,l,d,g,n,rfl,G1,hg,h9,fun p H2 s2 hp=>⟨p,_,rfl,.inl (SqL.of hp),_,rfl,x,CGist,dx,_,_,rfl,s2 _ _ G1.ob,clGist,nGist_low,Hm _ _ _ _,_,_,rfl,rfl,_,rfl,?_⟩⟩) (fun e H5 s5=>?_) (fun e H5 s5=>?_)
  ·rw[ltm];exact hN _ s2
  ·exact ⟨Ah (by simp),fun c hc=>kP .few _ _ ((s1.trans s5).new2 hc) ⟨c,rfl,Ab⟩ (show ((AV n g.L).length:Int)<g.lo from of_decide_eq_true e) rfl⟩
  have hfew:=of_decide_eq_false e
  have G5:=G1.same s5
  refine Bz ?_
  refine ⟨_,rfl,x,dx,_,rfl,G5.ob,n1',x,dx,l,d,g,n,rfl,G5,hg,h9,fun p H6 s6 hp=>?_⟩
  have G6:=G5.same s6
  refine ⟨_,rfl,x,dx,_,rfl,G6.ob,n2',x,dx,l,d,g,n,rfl,G6,hg,h9,fun q H7 s7 hq=>?_⟩
  have G7:=G6.same s7
  have hhl:=EH n g.L
  refine ⟨_,rfl,x,CGist,dx,_,_,rfl,G7.ob,clGist,nGist_high,FQ _ _ _ _,_,_,rfl,rfl,by decide,p,q,_,_,(g.hi+1).toNat,?_,s7 _ _ hp,hq,?_,by omega,fun H8 s8 hn=>?_,fun r xs H8 s8 hr hsub hxl hxp=>?_⟩
  ·rw[show (((g.hi+1).toNat:Nat):Int)=g.hi+1 by have:=hg.hi1;omega];rfl
  ·have:=hg.hin;omega
  ·refine ⟨_,rfl,rfl,_,rfl,FT ?_⟩
   refine kN H8 ((((s1.trans s5).trans s6).trans s7).trans s8) hU (by omega) fun hP=>?_
   have:=hn hP
   have:=hg.hi1
   omega
  ·refine ⟨_,rfl,rfl,_,rfl,FY ⟨_,rfl,r,_,rfl,.inl ⟨SqL.of hr,fun u hu=>?_⟩⟩⟩
   have S8:=(((s1.trans s5).trans s6).trans s7).trans s8
   refine ⟨Ah (by simp),fun c hc=>?_⟩
   have huc:u≠c:=Aj Ab hc
   refine kP (.many xs) _ _ ((S8.new2 hu).new2 hc) ⟨c,u,rfl,Ab,by rw[Af huc,Ab]⟩ ?_ rfl
   have hmem : ∀ z ∈ xs,z ∈ AV n g.L:=fun z hz=>hsub.subset hz
   have hfix : ∀ z ∈ xs,gat g.L z=z/\0<=z/\z<n:=fun z hz=>by
    obtain ⟨a1,a2⟩:=List.mem_filter.mp (hmem z hz)
    exact ⟨of_decide_eq_true a2,BV.mp a1⟩
   refine ⟨Hf ((Ed n g.L).sublist hsub),fun z hz=>(hfix z hz).2,by rw[hxl];have:=hg.hi1;omega,?_⟩
   refine hxp.imp_of_mem fun {y z} hy hz e=>?_
   rw[(hfix y hy).1,(hfix z hz).1];exact e
theorem Em : Ap (["homes","walls","one","other"]) (["homes","walls","one","other"]) (Ae AZ):=by trivial
theorem Er {f : Addr} {fd : FuncData} (F : Fun K "apart_from_both" "apart_from_both" AZ f fd) (B : Bs mg) (T : Gs mg)   : Bv P w K mg base CX0 1 f fd ["homes","walls","one","other"] (RK K):= by
 have sc:=Em
 refine F.ok sc (fun vs H Q E h=>?_) (fun cdv A outer s H vs Q E hr h=>?_)
 ·obtain ⟨p,q,hs,W,a,b,rfl,_⟩:=h;rfl
 ·obtain ⟨p,q,hs,W,a,b,rfl,hp,hq,hl,k⟩:=h
  refine ⟨_,(Ag (Aq (As (Br (K:=K)) (by rfl) B.len PyProof.Rows.Boot.«len» (Aa (KQ (N':=["home","walls","one","other"]) (M:=[none,some 1,some 2,some 3]) (Ct (by rfl)) rfl (AN (K:=K) (pv 0)) (fun _ _ _ _ _=>An (i:=0) (show (["home","walls","one","other"] : List Str).Nodup by decide +kernel) rfl (Or.inl rfl) (.inr rfl)) (Dz rfl) (fun _ _ _ _ _=>EA (PW.pt (L0 (GO (MQ (DS hr) (AD (Aa (pv 2) (Aa (pv 0) Ac))) (pv 1))) (IM (GO (MQ (DS hr) (AD (Aa (pv 3) (Aa (pv 0) Ac))) (pv 1))))))) (fun _ _ _ _ _=>(pv 0))) Ac)))),?_⟩
  refine ⟨_,rfl,p,rfl,⟨_,hp⟩,Ez (xs:=hs.map V.int) (fun i ys H2=>Ak H H2/\ys=((hs.take i).filter fun h=>decide ((a,h) ∈ W)&&decide ((b,h) ∈ W)).map V.int) (Ah (by rw[ltm];omega)) ⟨Ak.refl H,rfl⟩ (fun i ys H2 hi h=>⟨h.1.seq hp,by rw[h.2,ltm];exact Nat.le_trans (List.length_filter_le _ _) (by rw[List.length_take];omega)⟩) ?_ ?_⟩
  ·rintro i y ys H2 hi ⟨s2,rfl⟩
   obtain ⟨h,rfl,hh,hil⟩:=Nf hi
   have hq2:=s2 _ _ hq
   have fin : ∀ (H3:Hp) (c:Bool),Ak H2 H3->(decide ((a,h) ∈ W)&&decide ((b,h) ∈ W))=c->(if c=true then Ak H H3/\((hs.take i).filter fun h=>decide ((a,h) ∈ W)&&decide ((b,h) ∈ W)).map V.int++[V.int h]=((hs.take (i+1)).filter fun h=>decide ((a,h) ∈ W)&&decide ((b,h) ∈ W)).map V.int else Ak H H3/\((hs.take i).filter fun h=>decide ((a,h) ∈ W)&&decide ((b,h) ∈ W)).map V.int=((hs.take (i+1)).filter fun h=>decide ((a,h) ∈ W)&&decide ((b,h) ∈ W)).map V.int):=fun H3 c s3 e=>by
    rw[Aw hh,List.filter_append,List.filter_cons,e,List.filter_nil]
    cases c
    ·rw[if_neg (by decide),if_neg (by decide),List.append_nil];exact ⟨s2.trans s3,rfl⟩
    ·rw[if_pos rfl,if_pos rfl,List.map_append];exact ⟨s2.trans s3,rfl⟩
   refine gN ?_
   refine IT (a:=a) (b:=h) (q:=q) (W:=W) (fun H Q h=>⟨_,rfl,h⟩) (fun H Q h=>⟨_,rfl,h⟩) (fun H Q h=>⟨_,rfl,h⟩) hq2 fun H3 s3=>?_
   by_cases g1:(a,h) ∈ W
   ·refine P5 g1 ?_
    refine IT (a:=b) (b:=h) (q:=q) (W:=W) (fun H Q h=>⟨_,rfl,h⟩) (fun H Q h=>⟨_,rfl,h⟩) (fun H Q h=>⟨_,rfl,h⟩) (s3 _ _ hq2) fun H4 s4=>?_
    have:=fin H4 (decide ((b,h) ∈ W)) (s3.trans s4) (by rw[decide_eq_true g1,Bool.true_and])
    by_cases g2:(b,h) ∈ W
    ·rw[decide_eq_true g2,if_pos rfl] at this
     exact P5 g2 ⟨_,rfl,this⟩
    ·rw[decide_eq_false g2,if_neg (by decide)] at this
     exact Lf g2 this
   ·refine Lf g1 ?_
    have:=fin H3 false s3 (by rw[decide_eq_false g1,Bool.false_and])
    rw[if_neg (by decide)] at this
    exact FT this
  ·rintro ys H2 ⟨s2,rfl⟩ c hc
   refine ⟨c,_,rfl,.inl (SqL.of Ab),?_⟩
   rw[ltm,ltm,List.take_length]
   exact k _ (s2.new2 hc)
theorem Jf : Ap (["gist","homes","walls","pairs"]) (["gist"]) (Ae B5):=by trivial
theorem Jv {f : Addr} {fd : FuncData} (F : Fun K "open_pair" "open_pair" B5 f fd) (hfc9 : fd.code = .ref CTopen_pair) (hC9 : PySem.W.CodeHd base CTopen_pair PTopen_pair) (bm9 : NU mg base) (B : Bs mg) (T : Gs mg) (clGist : Cls K CGist) (cGist_homes : Fe P w K mg base CGist 1 "homes" (Q7 K CGist)) (cGist_walls : Fe P w K mg base CGist 1 "walls" (Rn K CGist)) (capart_from_both : Cal P w K mg base 1 "apart_from_both" [] (RK K)) : Bv P w K mg base CX0 4 f fd ["gist"] (Rz K CGist PTopen_pair):= by
 have sc:=Jf
 refine F.okC hfc9 sc (fun vs H Q E h=>?_) (fun cdv hcd9 A outer s H vs Q E hr h=>?_)
 ·obtain ⟨x,dx,l,d,g,n,rfl,_⟩:=h;rfl
 ·subst hcd9
  obtain ⟨x,dx,l,d,g,n,rfl,hG,hg,h9,hne,hTab,k⟩:=h
  refine ⟨_,(Ad (AB (i:=1) sc.nd rfl (Or.inr rfl) (B0 cGist_homes clGist (hr.mono (by decide)) (pv 0)))
   (Ad (AB (i:=2) sc.nd rfl (Or.inr rfl) (B0 cGist_walls clGist (hr.mono (by decide)) (pv 0)))
   (Ad (QG (i:=3) sc.nd rfl rfl (N':=["one","other","walls","homes"]) (M:=[none,none,some 2,some 1]) (Ct (by rfl)) rfl (AN (K:=K) (pv 1)) (fun _ _ _ _ _=>An (i:=0) (show (["one","other","walls","homes"] : List Str).Nodup by decide +kernel) rfl (Or.inl rfl) (.inr rfl)) JW (fun _ _ _ _ _=>FM) (by decide) (by decide) (fun _ _ _ _ _=>(AN (K:=K) (pv 3))) (fun _ _ _ _ _=>An (i:=1) (show (["one","other","walls","homes"] : List Str).Nodup by decide +kernel) rfl (Or.inl rfl) (.inr rfl)) JW (fun _ _ _ _ _=>EA (PW.pt (L0 (Ao Lc (pv 0) (pv 1) (AA _)) (IM (GO (Fs (DS hr) (AD (Aa (pv 0) (Aa (pv 1) Ac))) (pv 2))))))) (fun _ _ _ _ _=>(AD (Aa (pv 0) (Aa (pv 1) Ac)))))
   (Ag (Aq (Pu (x:="pair") (fr:=["homes","walls"]) (ix:=[1,2]) hr (by rfl) B.max rfl rfl rfl hC9 bm9 (by exact ⟨rfl,rfl,rfl,rfl,by decide +kernel,by decide +kernel,(List.forall_mem_cons.mpr ⟨rfl,(List.forall_mem_cons.mpr ⟨rfl,(fun _ h=>nomatch h)⟩)⟩),(List.forall_mem_cons.mpr ⟨⟨_,rfl⟩,(List.forall_mem_cons.mpr ⟨⟨_,rfl⟩,(fun _ h=>nomatch h)⟩)⟩),(List.forall_mem_cons.mpr ⟨⟨rfl,rfl⟩,(List.forall_mem_cons.mpr ⟨⟨rfl,rfl⟩,(fun _ h=>nomatch h)⟩)⟩),(.cons rfl (.cons rfl .nil)),fun _ _ _ _ _=>rfl⟩) (fun _ _ _ _=>(A7 capart_from_both ((hr.in1.deeper _).mono (by decide)) rfl (Aa (pv 1) (Aa (pv 2) (Aa (AG (AU (K:=K)) (pv 0) Ai (fun _ _=>rfl)) (Aa (AG (AU (K:=K)) (pv 0) Ai (fun _ _=>rfl)) Ac)))))) (Aa (pv 3) Ac))))))),?_⟩
  have n1' : (gF l d g.lo g.hi).lookup ("homes" : Str) = none:=IW _ _ _ _ (by decide +kernel) (by decide +kernel) (by decide +kernel) (by decide +kernel)
  have n2' : (gF l d g.lo g.hi).lookup ("walls" : Str) = none:=IW _ _ _ _ (by decide +kernel) (by decide +kernel) (by decide +kernel) (by decide +kernel)
  refine Bz ?_
  refine ⟨_,rfl,x,dx,_,rfl,hG.ob,n1',x,dx,l,d,g,n,rfl,hG,hg,h9,fun p H1 s1 hp1=>?_⟩
  have G1:=hG.same s1
  refine Bz ?_
  refine ⟨_,rfl,x,dx,_,rfl,G1.ob,n2',x,dx,l,d,g,n,rfl,G1,hg,h9,fun q H2 s2 hq=>?_⟩
  have hp:=s2 _ _ hp1
  have hhl:=EH n g.L
  have eO:Bd n g=(AV n g.L).flatMap fun x=>((AV n g.L).filter fun y=>decide (x<y) && !decide ((x,y) ∈ Bc g.L g.U)).map fun y=>(x,y):=rfl
  generalize hhs:AV n g.L=hs at hp hhl eO
  generalize hWW:Bc g.L g.U=W at hq eO
  refine ⟨_,rfl,p,rfl,⟨_,SqL.of hp⟩,?_⟩
  refine JV (xs:=hs.map V.int) (fun m ys H3=>Ak H2 H3 /\ ∃ qs:List Addr,ys=qs.map V.ref/\O1 H3 qs ((hs.take m).flatMap fun x=>(hs.filter fun y=>decide (x<y) && !decide ((x,y) ∈ W)).map fun y=>(x,y))/\qs.length<=9*m) ⟨Ak.refl H2,[],rfl,.nil,Nat.le_refl _⟩ (fun m ys H3 hm h=>by
    obtain ⟨s3,qs,e,_,h3⟩:=h
    rw[ltm] at hm
    exact ⟨SqL.of (s3 _ _ hp),by rw[e,List.length_map];exact Ah (by omega)⟩) ?_ ?_
  ·rintro m y ys H3 hm ⟨s3,qs,rfl,hQ,hql⟩
   obtain ⟨h,rfl,hh,hml⟩:=Nf hm
   refine lcM ?_
   refine ⟨_,rfl,p,rfl,⟨_,SqL.of (s3 _ _ hp)⟩,?_⟩
   refine JV (xs:=hs.map V.int) (fun j ys H4=>Ak H2 H4 /\ ∃ qs:List Addr,ys=qs.map V.ref/\O1 H4 qs (((hs.take m).flatMap fun x=>(hs.filter fun y=>decide (x<y) && !decide ((x,y) ∈ W)).map fun y=>(x,y))++((hs.take j).filter fun y=>decide (h<y) && !decide ((h,y) ∈ W)).map fun y=>(h,y))/\qs.length<=9*m+j) ⟨s3,qs,rfl,by simpa using hQ,by omega⟩ (fun j ys H4 hj h=>by
    obtain ⟨s4,qs,e,_,h3⟩:=h
    rw[ltm] at hj
    exact ⟨SqL.of (s4 _ _ hp),by rw[e,List.length_map];exact Ah (by omega)⟩) ?_ ?_
   ·rintro j y ys H4 hj ⟨s4,qs,rfl,hQ,hql⟩
    obtain ⟨z,rfl,hz,hjl⟩:=Nf hj
    refine gN ?_
    have no : ∀ H5:Hp,Ak H4 H5 -> ¬ (h<z/\(h,z) ∉ W)->Ak H2 H5 /\ ∃ qs':List Addr,qs.map V.ref=qs'.map V.ref/\O1 H5 qs' (((hs.take m).flatMap fun x=>(hs.filter fun y=>decide (x<y) && !decide ((x,y) ∈ W)).map fun y=>(x,y))++((hs.take (j+1)).filter fun y=>decide (h<y) && !decide ((h,y) ∈ W)).map fun y=>(h,y))/\qs'.length<=9*m+(j+1):=fun H5 s5 hno=>by
     refine ⟨s4.trans s5,qs,rfl,?_,by omega⟩
     rw[Aw hz,List.filter_append,List.filter_cons,if_neg (by simpa using hno),List.filter_nil,List.append_nil]
     exact hQ.same s5
    refine ⟨_,rfl,_,rfl,_,_,rfl,rfl,_,rfl,?_⟩
    by_cases g1:h<z
    ·refine P5 g1 ?_
     refine K2 (a:=h) (b:=z) (q:=q) (W:=W) (fun H Q h=>⟨_,rfl,h⟩) (fun H Q h=>⟨_,rfl,h⟩) (fun H Q h=>⟨_,rfl,h⟩) (s4 _ _ hq) fun H5 s5=>?_
     by_cases g2:(h,z) ∈ W
     ·rw[decide_eq_true g2]
      exact FT (no H5 s5 fun w=>w.2 g2)
     ·rw[decide_eq_false g2]
      refine FY ⟨BX (by rw[List.length_map];omega),_,rfl,_,rfl,Ah (by simp),fun c hc=>⟨(s4.trans s5).new2 hc,qs++[c],DA,?_,by rw[List.length_append];simp;omega⟩⟩
      rw[Aw hz,List.filter_append,List.filter_cons,if_pos (by simp [g1,g2]),List.filter_nil,List.map_append,<- List.append_assoc]
      exact Paired.snoc (hQ.same (s5.new2 hc)) Ab
    ·exact Lf g1 (FT (no H4 (Ak.refl _) fun w=>g1 w.1))
   ·rintro ys H4 ⟨s4,qs,rfl,hQ,hql⟩
    rw[ltm,List.take_length] at hQ
    rw[ltm] at hql
    refine ⟨s4,qs,rfl,?_,by omega⟩
    rw[Aw hh,List.flatMap_append]
    simpa using hQ
  rintro ys H3 ⟨s3,qs,rfl,hQ,hql⟩ u hu
  rw[ltm,List.take_length,<- eO] at hQ
  have S3:=(s1.trans s2).trans s3
  have n4:=Ak.new (o:=HO.lst (qs.map V.ref)) hu
  have S4:=S3.trans n4
  have hQ4:=hQ.same n4
  have hu4:upd H3 u (HO.lst (qs.map V.ref)) u=some (.lst (qs.map V.ref)):=Ab
  have hp4:=(s3.trans n4) _ _ hp
  have hq4:=(s3.trans n4) _ _ hq
  have hl4:=hQ4.length
  generalize upd H3 u (HO.lst (qs.map V.ref))=H4 at n4 S4 hQ4 hu4 hp4 hq4
  have hTab4:=hTab.same S4
  obtain ⟨tp,hP0,_⟩:=id hTab4
  have nP : ∀ {b:Addr} {o:HO},H4 b=some o->(∀ ps,o ≠ .tbl ps)->Bp H4 PTopen_pair b=some o:=fun {b o} e hne'=>by
   unfold Bp
   rw[if_neg (fun z=>by rw[z,hP0] at e;cases e;exact hne' _ rfl)];exact e
  have hQz:O1 (Bp H4 PTopen_pair) qs (Bd n g):=L2.Paired.mapP hQ4 fun _ _ z=>nP z (fun _ z=>by cases z)
  have hpz:=nP hp4 (fun _ z=>by cases z)
  have hqz:=nP hq4 (fun _ z=>by cases z)
  try dsimp only
  refine ⟨_,rfl,u,qs,fun i=>(apB hs W ((Bd n g).getD i (0,0)).1 ((Bd n g).getD i (0,0)).2:Nat),rfl,SqL.of (nP hu4 (fun _ z=>by cases z)),?_,hTab4,fun i a hi H' s'=>?_,fun i a H' hi htop s' hT'=>?_⟩
  ·rw[hl4];exact List.length_pos_iff.mpr hne
  ·obtain ⟨pr,hpr,hpi⟩:=Ay hQz hi
   have epr:(Bd n g).getD i (0,0)=pr:=by rw[List.getD_eq_getElem?_getD,hpi];rfl
   refine ⟨_,rfl,_,rfl,_,rfl,a,_,_,_,rfl,rfl,SqT.of (s' _ _ hpr),rfl,_,rfl,a,_,_,_,rfl,rfl,SqT.of (s' _ _ hpr),rfl,p,q,hs,W,_,_,rfl,SqL.of (s' _ _ hpz),s' _ _ hqz,by omega,fun H5 s5=>⟨by dsimp only;rw[epr],s5⟩⟩
  ·obtain ⟨pr,hpr,hpi⟩:=Ay hQz hi
   exact k a pr H' ((MR S4).trans s') hT' (s' _ _ hpr) (List.mem_of_getElem? hpi)
theorem Oh : Ap (["gist","paper","one","other","first","second"]) (["gist"]) (Ae Ew):=by trivial
theorem N4 {dd : Nat} {f : Addr} {fd : FuncData} (F : Fun K "settle" "settle" Ew f fd) (B : Bs mg) (T : Gs mg) (clGist : Cls K CGist) (nGist_labels : AH K CGist "labels") (nGist_high : AH K CGist "high") (cGist_homes : Fe P w K mg base CGist 1 "homes" (Q7 K CGist)) (cGist_longer : Fe P w K mg base CGist 3 "longer" (RT K CGist)) (copen_pair : Cal P w K mg base 4 "open_pair" [] (Rz K CGist PTopen_pair)) (cplain_paper : Cal P w K mg base 14 "plain_paper" [] (Rp K CGist)) (csettle : Cal P w K mg base (20 + dd) "settle" [] (Rf K CGist PTopen_pair dd)) (cway_of : Cal P w K mg base 1 "way_of" [] (GY K)) : Bv P w K mg base CX0 (20 + dd + 1) f fd ["gist"] (Rf K CGist PTopen_pair (dd + 1)):= by
 have sc:=Oh
 refine F.ok sc (fun vs H Q E h=>?_) (fun cdv A outer s H vs Q E hr h=>?_)
 ·obtain ⟨_,x,dx,l,d,g,n,rfl,_⟩:=h;rfl
 ·obtain ⟨hd0,x,dx,l,d,g,n,rfl,hG,hg,n1,h9,hfu,hTab,kW,kP⟩:=h
  refine ⟨_,(Ad (AB (i:=1) sc.nd rfl (Or.inl rfl) (A7 cplain_paper (hr.mono (by omega)) rfl (Aa (pv 0) Ac)))
   (Ad (A2 (Ao Ep (pv 1) Da (AA _)) (Ag (Aq (AD (Aa Av (Aa (pv 1) Ac))))) Az)
   (Ad (A2 (Ao D7 (As (Br (K:=K)) (by rfl) B.len PyProof.Rows.Boot.«len» (Aa (B0 cGist_homes clGist (hr.mono (by omega)) (pv 0)) Ac)) (AQ (pv 0) rfl) (AA _)) (Ag (Aq (AD (Aa Av (Aa (A7 cway_of (hr.mono (by omega)) rfl (Aa (AQ (pv 0) rfl) Ac)) Ac))))) Az)
   (Ad (IJ (A7 copen_pair (hr.mono (by omega)) rfl (Aa (pv 0) Ac)) (DK rfl (Au (An (i:=2) sc.nd rfl (Or.inl rfl)) (Au (An (i:=3) sc.nd rfl (Or.inl rfl)) BE))))
   (Ad (AB (i:=4) sc.nd rfl (Or.inl rfl) (A7 csettle (hr.mono (by omega)) rfl (Aa (EF cGist_longer clGist (hr.mono (by omega)) (pv 0) (Aa (AD (Aa Av (Aa (pv 2) (Aa (pv 3) Ac)))) Ac)) Ac)))
   (Ad (A2 (Ao Cq (AG (AU (K:=K)) (pv 4) Ai (fun _ _=>rfl)) Av (AA _)) (Ag (Aq (pv 4))) Az)
   (Ad (AB (i:=5) sc.nd rfl (Or.inl rfl) (A7 csettle (hr.mono (by omega)) rfl (Aa (EF cGist_longer clGist (hr.mono (by omega)) (pv 0) (Aa (AD (Aa Av (Aa (pv 2) (Aa (pv 3) Ac)))) Ac)) Ac)))
   (Ad (A2 (Ao Cq (AG (AU (K:=K)) (pv 5) Ai (fun _ _=>rfl)) Av (AA _)) (Ag (Aq (pv 5))) Az)
   (Ag (Aq (AD (Aa Av (Aa (AD (Aa Av (Aa (pv 2) (Aa (pv 3) (Aa (AG (AU (K:=K)) (pv 4) Ai (fun _ _=>rfl)) (Aa (AG (AU (K:=K)) (pv 5) Ai (fun _ _=>rfl)) Ac)))))) Ac))))))))))))),?_⟩
  have n1' : (gF l d g.lo g.hi).lookup ("homes" : Str) = none:=IW _ _ _ _ (by decide +kernel) (by decide +kernel) (by decide +kernel) (by decide +kernel)
  have n2' : (gF l d g.lo g.hi).lookup ("longer" : Str) = none:=IW _ _ _ _ (by decide +kernel) (by decide +kernel) (by decide +kernel) (by decide +kernel)
  refine Bz ?_
  refine ⟨_,rfl,x,dx,l,d,g,n,rfl,hG,hg,n1,h9,fun H1 s1 hU hlo hcl=>?_,fun p v H1 s1 hP hok hpd=>?_⟩
  ·refine AW (b:=false) (P:=fun H'=>H'=H1) (fun N hN=>⟨_,rfl,rfl,_,rfl,hN _ rfl⟩) (fun e=>absurd e (by decide)) (fun _ H5 e=>?_)
   rw[e]
   have G1:=hG.same s1
   refine AW (b:=decide (((AV n g.L).length:Int)<=g.hi)) (P:=fun H'=>Ak H1 H') (fun N hN=>⟨_,rfl,x,dx,_,rfl,G1.ob,n1',x,dx,l,d,g,n,rfl,G1,hg,h9,fun p H2 s2 hp=>⟨p,_,rfl,.inl (SqL.of hp),_,rfl,x,CGist,dx,_,_,rfl,s2 _ _ G1.ob,clGist,nGist_high,FQ _ _ _ _,_,_,rfl,rfl,_,rfl,?_⟩⟩) (fun e H5 s5=>?_) (fun e H5 s5=>?_)
   ·rw[ltm];exact hN _ s2
   ·have e:=of_decide_eq_true e
    have G5:=G1.same s5
    have S5:=s1.trans s5
    refine ⟨_,rfl,x,CGist,dx,_,_,rfl,G5.ob,clGist,nGist_labels,DL _ _ _ _,l,g.L,rfl,SqL.of G5.hl,by rw[hg.len];exact n1,by rw[hg.len];exact h9,fun a H6 _ s6 ha=>⟨Ah (by simp),fun t ht=>?_⟩⟩
    have S6:=(S5.trans s6).new2 (o:=HO.tup [V.str "way",V.ref a]) ht
    refine kW t a (Bm g.L) _ (AL S6) (hTab.same S6) Ab (Ak.new ht _ _ ha) (Im (by rw[hg.len];exact n1) (by rw[hg.len];exact h9)) (by rw[CP,hg.len]) (NG hg hU hlo e)
   ·have e:=of_decide_eq_false e
    have G5:=G1.same s5
    have S5:=s1.trans s5
    have hT5:=hTab.same S5
    have hne:Bd n g≠[]:=fun z=>e (hcl (NE z))
    have hpos:0<(Bd n g).length:=List.length_pos_iff.mpr hne
    refine ⟨_,rfl,x,dx,l,d,g,n,rfl,G5,hg,h9,hne,hT5,fun t q H6 s6 hT6 ht hq=>?_⟩
    have F6:Ak (Bp H PTopen_pair) H6:=AX (AL S5) s6
    have G6:=G5.beside hT5 s6
    obtain ⟨o1,o2,o3,o4⟩:=BA.mp hq
    have r1:=BV.mp (List.mem_filter.mp o1).1
    have r2:=BV.mp (List.mem_filter.mp o2).1
    have sA:Bn n (.pair false q.1 q.2):=⟨r1.1,r1.2,r2.1,r2.2,by omega⟩
    have sU:Bn n (.pair true q.1 q.2):=⟨r1.1,r1.2,r2.1,r2.2,by omega⟩
    have dA:=Kq hg hq
    have dU:=JC hg hq
    refine ⟨t,_,rfl,SqT.of ht,rfl,_,_,rfl,_,_,rfl,rfl,?_⟩
    try dsimp only
    refine nrm (σ':=[some (.ref x),some .non,some (.int q.1),some (.int q.2),none,none]) rfl ?_
    refine Bz ?_
    refine ⟨_,rfl,x,dx,_,rfl,G6.ob,n2',_,rfl,_,rfl,Ah (by simp),fun a ha=>?_⟩
    have n7:=Ak.new (o:=HO.tup [V.str "alike",V.int q.1,V.int q.2]) ha
    refine ⟨x,dx,l,d,a,g,n,.pair false q.1 q.2,rfl,G6.same n7,Ab,hg,sA,h9,fun y dy m eA H8 s8 G8=>?_⟩
    have s68:=n7.trans s8
    have hT8:=hT6.same s68
    have G68:=G6.same s68
    refine ⟨by omega,y,dy,m,eA,_,n,rfl,G8,hg.take sA,n1,h9,by omega,hT8,fun t1 a1 w H9 s9 hT9 ht1 ha1 hw hwl hf=>?_,fun t1 v1 p1 H9 s9 hT9 ht1 hP1 hok1 hd1=>?_⟩
    ·have F9:Ak (Bp H PTopen_pair) H9:=AX F6 (AX (AL s68) s9)
     refine AW (b:=true) (P:=fun H'=>H'=H9) (fun N hN=>⟨_,rfl,t1,_,_,_,rfl,rfl,SqT.of ht1,rfl,rfl,_,rfl,by rw[K3,decide_eq_true (by decide +kernel)];exact hN _ rfl⟩) (fun _ H5 e=>?_) (fun e=>absurd e (by decide))
     rw[e]
     exact ⟨_,rfl,kW t1 a1 w H9 F9 hT9 ht1 ha1 hw hwl ((Dl hg sA).mp hf).1⟩
    ·have F9:Ak (Bp H PTopen_pair) H9:=AX F6 (AX (AL s68) s9)
     have G9:=G68.beside hT8 s9
     refine AW (b:=false) (P:=fun H'=>H'=H9) (fun N hN=>⟨_,rfl,t1,_,_,_,rfl,rfl,SqT.of ht1,rfl,rfl,_,rfl,by rw[K3,decide_eq_false (by decide +kernel)];exact hN _ rfl⟩) (fun e=>absurd e (by decide)) (fun _ H5 e=>?_)
     rw[e]
     refine Bz ?_
     refine ⟨_,rfl,x,dx,_,rfl,G9.ob,n2',_,rfl,_,rfl,Ah (by simp),fun b hb=>?_⟩
     have n10:=Ak.new (o:=HO.tup [V.str "unlike",V.int q.1,V.int q.2]) hb
     refine ⟨x,dx,l,d,b,g,n,.pair true q.1 q.2,rfl,G9.same n10,Ab,hg,sU,h9,fun y2 dy2 m2 e2 H11 s11 G11=>?_⟩
     have s911:=n10.trans s11
     have hT11:=hT9.same s911
     have ht11:=s911 _ _ ht1
     have hP11:Cr H11 p1 v1:=Cr.same (fun a xs e=>s911 _ _ e) hP1
     refine ⟨by omega,y2,dy2,m2,e2,_,n,rfl,G11,hg.take sU,n1,h9,by omega,hT11,fun t2 a2 w H12 s12 hT12 ht2 ha2 hw hwl hf=>?_,fun t2 v2 p2 H12 s12 hT12 ht2 hP2 hok2 hd2=>?_⟩
     ·have F12:Ak (Bp H PTopen_pair) H12:=AX F9 (AX (AL s911) s12)
      refine AW (b:=true) (P:=fun H'=>H'=H12) (fun N hN=>⟨_,rfl,t2,_,_,_,rfl,rfl,SqT.of ht2,rfl,rfl,_,rfl,by rw[K3,decide_eq_true (by decide +kernel)];exact hN _ rfl⟩) (fun _ H5 e=>?_) (fun e=>absurd e (by decide))
      rw[e]
      exact ⟨_,rfl,kW t2 a2 w H12 F12 hT12 ht2 ha2 hw hwl ((Dl hg sU).mp hf).1⟩
     ·have F12:Ak (Bp H PTopen_pair) H12:=AX F9 (AX (AL s911) s12)
      have ht12:=GQ ht11 hT11 s12
      have hP12:=hP11.beside hT11 s12
      refine AW (b:=false) (P:=fun H'=>H'=H12) (fun N hN=>⟨_,rfl,t2,_,_,_,rfl,rfl,SqT.of ht2,rfl,rfl,_,rfl,by rw[K3,decide_eq_false (by decide +kernel)];exact hN _ rfl⟩) (fun e=>absurd e (by decide)) (fun _ H5 e=>?_)
      rw[e]
      refine ⟨_,rfl,_,rfl,_,rfl,t1,_,_,_,rfl,rfl,SqT.of ht12,rfl,_,rfl,t2,_,_,_,rfl,rfl,SqT.of ht2,rfl,Ah (by simp),fun c hc=>⟨Ah (by simp),fun u hu=>?_⟩⟩
      have n13:=(Ak.new (o:=HO.tup [V.str "cases",V.int q.1,V.int q.2,v1,v2]) hc).new2 (o:=HO.tup [V.str "none",V.ref c]) hu
      have hcu:c≠u:=Aj Ab hu
      refine kP u (.ref c) (.cases q.1 q.2 p1 p2) _ (fun b o z=>n13 _ _ (F12 _ _ z)) (hT12.same n13) Ab ⟨c,v1,v2,rfl,by rw[Af hcu,Ab],Cr.same (fun a xs e=>n13 _ _ e) hP12,Cr.same (fun a xs e=>n13 _ _ e) hP2⟩ ⟨r1,r2,by omega,hok1,hok2⟩ (by show max (Nv p1) (Nv p2)+1<=_;omega)
  ·have hne:v ≠ .non:=by cases p <;> (first | (obtain ⟨a,rfl,_⟩:=hP) | (obtain ⟨a,b,rfl,_⟩:=hP) | (obtain ⟨a,b,c,rfl,_⟩:=hP)) <;> exact fun z=>nomatch z
   refine AW (b:=true) (P:=fun H'=>H'=H1) (fun N hN=>⟨_,rfl,rfl,_,rfl,?_⟩) (fun _ H5 e=>?_) (fun e=>absurd e (by decide))
   ·rw[decide_eq_false hne];exact hN _ rfl
   rw[e]
   refine ⟨_,rfl,Ah (by simp),fun t ht=>?_⟩
   have s2:=s1.new2 (o:=HO.tup [V.str "none",v]) ht
   exact kP t v p _ (AL s2) (hTab.same s2) Ab (Cr.same (fun a xs e=>Ak.new ht _ _ e) hP) hok (by omega)
theorem LS : Ap (["censers","sayings"]) (["censers","sayings"]) (Ae Dt):=by trivial
theorem LA {f : Addr} {fd : FuncData} (F : Fun K "settled" "settled" Dt f fd) (B : Bs mg) (T : Gs mg)  (cchecked_gist : GU P w K mg base 5 "checked_gist" [] (Oe K CGist CBadMany CBadSaying CNoCenser)) (csettle : Cal P w K mg base 58 "settle" [] (Rf K CGist PTopen_pair 38)) : Bv P w K mg base (CXE P w) 59 f fd ["censers","sayings"] (NI K CBadMany CBadSaying CNoCenser PTopen_pair):= by
 have sc:=LS
 refine F.okE sc (fun vs H Q E h=>?_) (fun cdv A outer s H vs Q E hr F0 h=>?_)
 ·obtain ⟨n,b,as,rfl,_⟩:=h;rfl
 ·obtain ⟨n,b,as,rfl,hb,hm⟩:=h
  refine ⟨_,(Ag (Aq (A7 csettle (hr.mono (by decide)) rfl (Aa (BN cchecked_gist (hr.mono (by decide)) rfl (Cs F0) (Aa (pv 0) (Aa (pv 1) Ac))) Ac)))),?_⟩
  rcases hm with ⟨m,ss,rfl,n1,n9,hS,hs,hl,hTab,kW,kP⟩ | hbad
  ·refine ⟨_,rfl,_,rfl,(m:Int),b,as,rfl,hb,.inl ⟨m,ss,rfl,n1,n9,hS,hs,hl,fun x dx l d H1 s1 G1=>?_⟩⟩
   refine ⟨by decide,x,dx,l,d,_,m,rfl,G1,MJ n1 hs,n1,n9,?_,hTab.same s1,fun t a w H2 s2 hT2 ht ha hw hwl hf=>?_,fun t v p H2 s2 hT2 ht hP hok hpd=>?_⟩
   ·have:=LH (By m ss) n9;omega
   ·exact kW t a w H2 (AX (AL s1) s2) hT2 ht ha hw hwl hf
   ·exact kP t v p H2 (AX (AL s1) s2) hT2 ht hP hok (by have:=LH (By m ss) n9;omega)
  ·exact ⟨_,rfl,_,rfl,n,b,as,rfl,hb,.inr hbad⟩
theorem KD : Ap (["gist","paper","word","one","other"]) (["gist","paper"]) (Ae CD):=by trivial
theorem Kx {f : Addr} {fd : FuncData} (F : Fun K "is_paper" "is_paper" CD f fd) (B : Bs mg) (T : Gs mg)   : Bv P w K mg base CX0 1 f fd ["gist","paper"] Jx:= by
 have sc:=KD
 refine F.ok sc (fun vs H Q E h=>?_) (fun cdv A outer s H vs Q E hr h=>?_)
 ·exact h.elim
 ·have hF:False:=h
  refine ⟨_,FA,?_⟩
  exact hF.elim
theorem OR : Ap (["censers","sayings","paper"]) (["censers","sayings","paper"]) (Ae GM):=by trivial
theorem O3 {f : Addr} {fd : FuncData} (F : Fun K "shows" "shows" GM f fd) (B : Bs mg) (T : Gs mg)  (cchecked_gist : GU P w K mg base 5 "checked_gist" [] (Oe K CGist CBadMany CBadSaying CNoCenser)) (cis_paper : Cal P w K mg base 1 "is_paper" [] Jx) : Bv P w K mg base (CXE P w) 59 f fd ["censers","sayings","paper"] (Pz K CBadMany CBadSaying CNoCenser):= by
 have sc:=OR
 refine F.okE sc (fun vs H Q E h=>?_) (fun cdv A outer s H vs Q E hr F0 h=>?_)
 ·obtain ⟨n,b,p,as,rs,rfl,_⟩:=h;rfl
 ·obtain ⟨n,b,p,as,rs,rfl,hb,hR,hd,kE⟩:=h
  refine ⟨_,(Ag (Aq (A7 cis_paper (hr.mono (by decide)) rfl (Aa (BN cchecked_gist (hr.mono (by decide)) rfl (Cs F0) (Aa (pv 0) (Aa (pv 1) Ac))) (Aa (pv 2) Ac))))),?_⟩
  exact ⟨_,rfl,_,rfl,n,b,as,rfl,hb,.inr ⟨rs,hR,hd,kE⟩⟩
theorem Pd : Ap (["links","chains","tips","fresh","censer","word","number","kind","first","second","tip"]) (["links","chains","tips"]) (Ae Gz):=by trivial
theorem Ps {f : Addr} {fd : FuncData} (F : Fun K "grown" "grown" Gz f fd) (B : Bs mg) (T : Gs mg)   : Bv P w K mg base CX0 1 f fd ["links","chains","tips"] (R8 K):= by
 have sc:=Pd
 refine F.ok sc (fun vs H Q E h=>?_) (fun cdv A outer s H vs Q E hr h=>?_)
 ·obtain ⟨p,d,q,as,ls,ch,ca,ts,bs,rfl,_⟩:=h;rfl
 ·obtain ⟨p,d,q,as,ls,ch,ca,ts,bs,rfl,hp,hL,hC,hok,hq,hT,hlen,hts,k⟩:=h
  refine ⟨_,(Ad (AB (i:=3) sc.nd rfl (Or.inl rfl) (AI Ac))
   (Ad (BZ PassesOwn.never rfl (AN (K:=K) (pv 2)) (DK rfl (Au (An (i:=4) sc.nd rfl (Or.inl rfl)) (Au (An (i:=5) sc.nd rfl (Or.inl rfl)) BE)))
   (Ag (BZ PassesOwn.never rfl (AN (K:=K) (pv 0)) (DK rfl (Au (An (i:=6) sc.nd rfl (Or.inl rfl)) (Au (DK rfl (Au (An (i:=7) sc.nd rfl (Or.inl rfl)) (Au (An (i:=8) sc.nd rfl (Or.inl rfl)) (Au (An (i:=9) sc.nd rfl (Or.inl rfl)) BE)))) BE)))
   (Ad (A2 (PW.pt (HL (Ao (Ii (K:=K)) (pv 4) (AD (Aa (pv 8) (Aa (pv 9) Ac))) rfl) (GL (CH Cq Cq (pv 7) (pv 5) Av)))) (Ag Jk) Az)
   (Ad (AB (i:=10) sc.nd rfl (Or.inl rfl) (AD (Aa (Ax ER (Ax BD (pv 8) (pv 9)) (pv 4)) (Aa (D6 (Ao (Ov (K:=K)) Av (AD (Aa (pv 5) (Aa (pv 7) Ac))) rfl) Av Av) Ac))))
   (Ag (A2 (GO (Fs (DS hr) (pv 10) (pv 1))) (Ad (He (DS hr) (pv 1) (pv 10) (Ax GH (Ja (DS hr) (pv 1) (AD (Aa (pv 4) (Aa (pv 5) Ac))) (fun _ _=>rfl)) (AI (Aa (pv 6) Ac))) rfl)
   (Ag (A1 (Hv PySem.F.plainAttrs_list PySem.F.slot_list_append PySem.F.type_list_append CA (pv 3) (Aa (pv 10) Ac))))) Az)))))))
   (Ag (Aq (pv 3))))),?_⟩
  have tupK : ∀ {H':Hp},FrL [d] H H' -> ∀ a xs,H a=some (.tup xs)->H' a=some (.tup xs):=fun f a xs e=>f a _ e fun z=>by
   rw[List.mem_singleton.mp z,hC.ob] at e;cases e
  have lstK : ∀ {H':Hp},FrL [d] H H' -> ∀ a xs,H a=some (.lst xs)->H' a=some (.lst xs):=fun f a xs e=>f a _ e fun z=>by
   rw[List.mem_singleton.mp z,hC.ob] at e;cases e
  refine Bz ⟨Nat.zero_le _,fun r hr0=>?_⟩
  have s1:=Ak.new (o:=HO.lst ([]:List V)) hr0
  have hC1:ChA (upd H r (.lst [])) d ch ca:=hC.of (Af (Aj hC.ob hr0)) fun a _ xs e=>s1 _ _ e
  have hca : ∀ a ∈ ca,a≠r:=fun a ha e=>by
   obtain ⟨jj,hj⟩:=List.getElem?_of_mem ha
   obtain ⟨c,z,_⟩:=Ay hC.ls hj
   rw[e,hr0] at z;cases z
  generalize hS:(fun (acc:Chs × List Tip) (H2:Hp)=>∃ cs ca2:List Addr,H2 r=some (.lst (cs.map V.ref))/\M2 H2 cs acc.2/\ChA H2 d acc.1 ca2/\(∀ a ∈ ca2,a≠r)/\cs.length<=ca2.length/\FrL [d] H H2)=S
  have S0:S (ch,[]) (upd H r (.lst [])):=by rw[<- hS];exact ⟨[],ca,Ab,.nil,hC1,hca,Nat.zero_le _,FrL.of s1⟩
  have SF : ∀ {acc:Chs × List Tip} {H2:Hp},S acc H2->FrL [d] H H2:=fun {acc H2} h=>by
   rw[<- hS] at h
   obtain ⟨_,_,_,_,_,_,_,f⟩:=h;exact f
  have hbl:=hT.length
  have hal:=hL.length
  refine A5 (fun σ H2=>∃ o4 o5 o6 o7 o8 o9 o10:Option V,σ=[some (.ref p),some (.ref d),some (.ref q),some (.ref r),o4,o5,o6,o7,o8,o9,o10]/\S (Fq ls ch ts) H2) (fun Z hZ=>?_) (fun σ H2 ⟨o4,o5,o6,o7,o8,o9,o10,e,h⟩=>?_)
  ·refine ⟨_,rfl,q,rfl,⟨_,SqL.of (s1 _ _ hq)⟩,Bq (K:=K) (a:=q) (xs:=bs.map V.ref) (fun m σ H2=>∃ o4 o5 o6 o7 o8 o9 o10:Option V,σ=[some (.ref p),some (.ref d),some (.ref q),some (.ref r),o4,o5,o6,o7,o8,o9,o10]/\S ((ts.take m).foldl (Gg ls) (ch,[])) H2/\((ts.take m).foldl (Gg ls) (ch,[])).1.length<=ch.length+m*ls.length/\Po ((ts.take m).foldl (Gg ls) (ch,[])).1 /\ ∀ t ∈ ts,(Bg ((ts.take m).foldl (Gg ls) (ch,[])).1 t).isSome=true)
    ⟨_,_,_,_,_,_,_,rfl,S0,by simp,hok,hts⟩ (fun m σ H2 _ ⟨_,_,_,_,_,_,_,_,h,_⟩=>SqL.of (lstK (SF h) _ _ hq)) ?_ ?_⟩
   ·rintro m v σ H2 hm ⟨o4,o5,o6,o7,o8,o9,o10,rfl,h,hl2,hok2,hts2⟩
    obtain ⟨b,rfl,hb,hml⟩:=CW hm
    obtain ⟨t,hbt,htm⟩:=Ay hT hb
    have htt:t ∈ ts:=List.mem_of_getElem? htm
    have hmt:m<ts.length:=by omega
    generalize hacc:(ts.take m).foldl (Gg ls) (ch,[])=acc at h hl2 hok2 hts2
    have eacc:(ts.take (m+1)).foldl (Gg ls) (ch,[])=Gg ls acc t:= by
     rw[Aw htm,List.foldl_append,hacc];rfl
    refine ⟨b,_,rfl,SqT.of (tupK (SF h) _ _ hbt),rfl,_,_,rfl,_,_,rfl,rfl,?_⟩
    try dsimp only
    refine ⟨_,rfl,p,rfl,⟨_,SqL.of (lstK (SF h) _ _ hp)⟩,Bq (K:=K) (a:=p) (xs:=as.map V.ref) (fun j σ H3=>∃ o6 o7 o8 o9 o10:Option V,σ=[some (.ref p),some (.ref d),some (.ref q),some (.ref r),some (.int t.1),some (.str (wd t.2)),o6,o7,o8,o9,o10]/\S ((ls.take j).foldl (BO t) acc) H3/\((ls.take j).foldl (BO t) acc).1.length<=acc.1.length+j/\Po ((ls.take j).foldl (BO t) acc).1 /\ ∀ t' ∈ ts,(Bg ((ls.take j).foldl (BO t) acc).1 t').isSome=true)
     ⟨_,_,_,_,_,rfl,h,Nat.le_refl _,hok2,hts2⟩ (fun j σ H3 _ ⟨_,_,_,_,_,_,h,_⟩=>SqL.of (lstK (SF h) _ _ hp)) ?_ ?_⟩
    ·rintro j v σ H3 hj ⟨o6,o7,o8,o9,o10,rfl,h3,hl3,hok3,hts3⟩
     obtain ⟨a,rfl,ha,hjl⟩:=CW hj
     obtain ⟨l,⟨b2,hal2,hbl2⟩,hlm⟩:=Ay hL ha
     generalize hac:(ls.take j).foldl (BO t) acc=ac at h3 hl3 hok3 hts3
     have eac:(ls.take (j+1)).foldl (BO t) acc=BO t ac l:= by
      rw[Aw hlm,List.foldl_append,hac];rfl
     have hbig:ac.1.length<=100000:= by
      have hjl2:j<ls.length:=by omega
      have:m*ls.length+ls.length<=ts.length*ls.length:= by
       rw[<- Nat.succ_mul];exact Nat.mul_le_mul_right _ hmt
      omega
     have hget:(Bg ac.1 t).isSome=true:=hts3 t htt
     rw[eac]
     have fin : ∀ (o10:Option V) (H4:Hp),S (BO t ac l) H4 -> ∃ o6' o7' o8' o9' o10':Option V,[some (V.ref p),some (.ref d),some (.ref q),some (.ref r),some (.int t.1),some (.str (wd t.2)),some (.int l.nm),some (.str (wd l.u)),some (.int l.i),some (.int l.j),o10]=[some (.ref p),some (.ref d),some (.ref q),some (.ref r),some (.int t.1),some (.str (wd t.2)),o6',o7',o8',o9',o10']/\S (BO t ac l) H4/\(BO t ac l).1.length<=acc.1.length+(j+1)/\Po (BO t ac l).1 /\ ∀ t' ∈ ts,(Bg (BO t ac l).1 t').isSome=true:=fun o10 H4 h4=>
      ⟨_,_,_,_,_,rfl,h4,by have:=MX (t:=t) (a:=ac) (l:=l);omega,Ki hok3 hget,fun t' ht'=>by
       obtain ⟨ns,en⟩:=Option.isSome_iff_exists.mp (hts3 t' ht')
       rw[MB en];rfl⟩
     have mono : ∀ {H4:Hp},Ak H3 H4->S ac H4:=fun {H4} s4=>by
      rw[<- hS] at h3 ⊢
      obtain ⟨cs,ca2,x1,x2,x3,x4,x6,x5⟩:=h3
      exact ⟨cs,ca2,s4 _ _ x1,x2.of fun a xs e=>s4 _ _ e,x3.of (by rw[x3.ob];exact s4 _ _ x3.ob) (fun a _ xs e=>s4 _ _ e),x4,x6,x5.trans (FrL.of s4)⟩
     refine ⟨a,_,rfl,SqT.of (tupK (SF h3) _ _ hal2),rfl,_,_,rfl,_,_,rfl,b2,_,rfl,SqT.of (tupK (SF h3) _ _ hbl2),rfl,_,_,rfl,_,_,rfl,_,_,rfl,rfl,rfl,?_⟩
     try dsimp only
     refine nrm (σ':=[some (.ref p),some (.ref d),some (.ref q),some (.ref r),some (.int t.1),some (.str (wd t.2)),some (.int l.nm),some (.str (wd l.u)),some (.int l.i),some (.int l.j),o10]) rfl ?_
     refine AW (b:=!(l.at t)) (P:=Ak H3) (fun N hN=>?_) (fun g H4 s4=>?_) (fun g H4 s4=>?_)
     ·refine ⟨_,rfl,_,rfl,_,rfl,Ah (by simp),fun x hx=>⟨x,_,rfl,.inr (SqT.of Ab),rfl,rfl,_,rfl,?_⟩⟩
      have n4:=Ak.new (o:=HO.tup [V.int l.i,V.int l.j]) hx
      have hN4:=hN _ n4
      unfold Lnk.at at hN4
      rw[OL]
      refine Lk (fun g=>?_) (fun g=>⟨_,rfl,_,rfl,rfl,_,rfl,?_⟩)
      ·have g:(!(decide (t.1=l.i)||decide (t.1=l.j)))=true:=g
       rw[Bool.not_eq_true'] at g
       rw[g] at hN4
       exact hN4
      ·have g : ¬ (!(decide (t.1=l.i)||decide (t.1=l.j)))=true:=g
       rw[Bool.not_eq_true',Bool.not_eq_false] at g
       rw[g,Bool.true_and,Bool.not_not] at hN4
       rw[Ma]
       refine Lk (fun g2=>⟨rfl,_,rfl,?_⟩) (fun g2=>⟨_,rfl,?_⟩)
       ·rw[RG]
        rw[eq_of_beq g2,Bool.and_self] at hN4
        exact hN4
       ·have:(l.u&&t.2)=false:= by
         revert g2
         cases l.u <;> cases t.2 <;> simp
        rw[this] at hN4
        exact hN4
     ·rw[Bool.not_eq_true'] at g
      have e:BO t ac l=ac:=by unfold BO;rw[if_neg (by rw[g];decide)]
      exact fin _ _ (by rw[e];exact mono s4)
     ·rw[Bool.not_eq_false'] at g
      refine Bz ?_
      refine ⟨_,rfl,_,rfl,_,_,rfl,rfl,_,rfl,_,_,rfl,rfl,QY (t.2||l.u) (Ak H4) (fun N hN=>?_) (fun H5 s5=>⟨Ah (by simp),fun tp htp=>?_⟩)⟩
      ·refine ⟨_,rfl,_,rfl,Ah (by simp),fun x hx=>⟨x,_,rfl,.inr (SqT.of Ab),rfl,rfl,_,rfl,?_⟩⟩
       have:=hN _ (Ak.new (o:=HO.tup [V.str (wd t.2),V.str (wd l.u)]) hx)
       rw[<- Rv] at this
       exact this
      have n5:=Ak.new (o:=HO.tup [V.int (l.i+l.j-t.1),V.str (wd (t.2||l.u))]) htp
      have htp6:upd H5 tp (HO.tup [V.int (l.i+l.j-t.1),V.str (wd (t.2||l.u))]) tp=some (.tup ((Df (l.to t)).map kV)):=Ab
      have h6:S ac (upd H5 tp (HO.tup [V.int (l.i+l.j-t.1),V.str (wd (t.2||l.u))])):=mono (s4.trans (s5.trans n5))
      show P8 _ _ _ _ _ (upd H5 tp (HO.tup [V.int (l.i+l.j-t.1),V.str (wd (t.2||l.u))]))
      generalize upd H5 tp (HO.tup [V.int (l.i+l.j-t.1),V.str (wd (t.2||l.u))])=H6 at htp6 h6
      refine nrm (σ':=[some (.ref p),some (.ref d),some (.ref q),some (.ref r),some (.int t.1),some (.str (wd t.2)),some (.int l.nm),some (.str (wd l.u)),some (.int l.i),some (.int l.j),some (.ref tp)]) rfl ?_
      have h6':=h6
      rw[<- hS] at h6'
      obtain ⟨cs,ca2,x1,x2,x3,x4,x6,x5⟩:=h6'
      have hcal:=x3.len
      rcases D9 (t:=l.to t) x3.ls with ⟨y1,y2⟩ | ⟨ns,b,y1,y2,y3,y4⟩
      ·have e:BO t ac l=(ac.1++[(l.to t,(Bg ac.1 t).getD []++[l.nm])],ac.2++[l.to t]):= by
        unfold BO
        rw[if_pos g,y1,if_neg (by decide)]
       refine CF (b:=true) (fun N hN=>?_) (fun _=>?_) (fun g=>by cases g)
       ·refine ⟨_,rfl,_,rfl,d,_,rfl,Hc.t (k:=Df (l.to t)) x3.ob htp6,_,rfl,?_⟩
        rw[y2];exact hN
       obtain ⟨ms,a2,z1,z2,z3,z4⟩ : ∃ ms a,Bg ac.1 t=some ms/\a ∈ ca2/\Ex (Ga ac.1 ca2) (Df t)=some (.ref a)/\H6 a=some (.lst (ms.map V.int)):= by
        rcases D9 (t:=t) x3.ls with ⟨w1,_⟩ | w
        ·rw[w1] at hget;cases hget
        ·exact w
       have hml2:=hok3 _ (FG z1)
       dsimp only at hml2
       refine ⟨_,rfl,_,rfl,_,rfl,Ah (by simp),fun x hx=>?_⟩
       have n7:=Ak.new (o:=HO.tup [V.int t.1,V.str (wd t.2)]) hx
       refine ⟨d,_,rfl,by rw[<- z3];exact Hc.t (k:=Df t) (n7 _ _ x3.ob) Ab,_,rfl,Ah (by simp),fun y hy=>?_⟩
       have n8:=Ak.new (o:=HO.lst [V.int l.nm]) hy
       refine ⟨a2,y,_,_,rfl,rfl,n8 _ _ (n7 _ _ z4),Ab,Ah (by rw[List.length_map,List.length_singleton];omega),fun z hz=>?_⟩
       have n9:=Ak.new (o:=HO.lst (ms.map V.int++[V.int l.nm])) hz
       have S9:=n7.trans (n8.trans n9)
       have hz9:upd (upd (upd H6 x (HO.tup [V.int t.1,V.str (wd t.2)])) y (HO.lst [V.int l.nm])) z (HO.lst (ms.map V.int++[V.int l.nm])) z=some (.lst ((ms++[l.nm]).map V.int)):=by rw[Ab,List.map_append];rfl
       have hzr:z≠r:=(Aj ((n7.trans n8) _ _ x1) hz).symm
       generalize upd (upd (upd H6 x (HO.tup [V.int t.1,V.str (wd t.2)])) y (HO.lst [V.int l.nm])) z (HO.lst (ms.map V.int++[V.int l.nm]))=H9 at S9 hz9
       have hC9:ChA H9 d ac.1 ca2:=x3.of (by rw[x3.ob];exact S9 _ _ x3.ob) (fun a _ xs e=>S9 _ _ e)
       have hr9:=S9 _ _ x1
       refine ⟨_,rfl,_,rfl,d,_,rfl,.inr ⟨_,Df (l.to t),tp,hC9.ob,rfl,S9 _ _ htp6,BX (by rw[JO hcal];omega),rfl⟩,?_⟩
       have hC10:=hC9.more y1 hz9
       have hr10:upd H9 d (.dT (EU (Ga ac.1 ca2) (Df (l.to t)) (.ref z))) r=some (.lst (cs.map V.ref)):= by
        rw[Af (Cv hr9 hC9.ob fun z=>nomatch z)];exact hr9
       have t10 : ∀ a xs,H9 a=some (.tup xs)->upd H9 d (.dT (EU (Ga ac.1 ca2) (Df (l.to t)) (.ref z))) a=some (.tup xs):=fun a xs e=>by
        rw[Af (Cv e hC9.ob fun z=>nomatch z)];exact e
       have hT10:M2 (upd H9 d (.dT (EU (Ga ac.1 ca2) (Df (l.to t)) (.ref z)))) (cs++[tp]) (ac.2++[l.to t]):=Paired.snoc (x2.of fun a xs e=>t10 _ _ (S9 _ _ e)) (t10 _ _ (S9 _ _ htp6))
       have f10:FrL [d] H (upd H9 d (.dT (EU (Ga ac.1 ca2) (Df (l.to t)) (.ref z)))):=(x5.trans (FrL.of S9)).put List.mem_cons_self
       have hcl:=x2.length
       generalize upd H9 d (.dT (EU (Ga ac.1 ca2) (Df (l.to t)) (.ref z)))=H10 at hC10 hr10 t10 hT10 f10
       refine ⟨_,rfl,.inl ⟨rfl,_,SqL.of hr10⟩,_,rfl,r,_,_,rfl,rfl,hr10,BX (by rw[List.length_map];omega),fin _ _ ?_⟩
       rw[e,z1,<- hS]
       refine ⟨cs++[tp],ca2++[z],by rw[Ab,DA],hT10.of fun a xs e=>?_,hC10.of (Af (Cv hC10.ob hr10 fun z=>nomatch z)) fun a ha xs e=>?_,fun a ha=>?_,by simp;omega,f10.fresh hr0⟩
       ·rw[Af (Cv e hr10 fun z=>nomatch z)];exact e
       ·have:a≠r:= by
         rcases List.mem_append.mp ha with ha | ha
         ·exact x4 a ha
         ·rw[List.mem_singleton.mp ha];exact hzr
        rw[Af this];exact e
       ·rcases List.mem_append.mp ha with ha | ha
        ·exact x4 a ha
        ·rw[List.mem_singleton.mp ha];exact hzr
      ·have e:BO t ac l=ac:= by
        unfold BO
        rw[if_pos g,y1];rfl
       refine CF (b:=false) (fun N hN=>?_) (fun g=>by cases g) (fun _=>fin _ _ (by rw[e];exact h6))
       refine ⟨_,rfl,_,rfl,d,_,rfl,Hc.t (k:=Df (l.to t)) x3.ob htp6,_,rfl,?_⟩
       rw[y3];exact hN
    ·rintro σ H3 ⟨o6,o7,o8,o9,o10,rfl,h3,hl3,hok3,hts3⟩
     rw[List.length_map,hal,List.take_length] at h3 hl3 hok3 hts3
     rw[eacc]
     exact ⟨_,_,_,_,_,_,_,rfl,h3,by have:(Gg ls acc t).1.length<=acc.1.length+ls.length:=hl3;rw[Nat.add_mul];omega,hok3,hts3⟩
   ·rintro σ H2 ⟨o4,o5,o6,o7,o8,o9,o10,rfl,h,_⟩
    rw[List.length_map,hbl,List.take_length] at h
    exact hZ _ _ ⟨_,_,_,_,_,_,_,rfl,h⟩
  subst e
  rw[<- hS] at h
  obtain ⟨cs,ca2,x1,x2,x3,x4,x6,x5⟩:=h
  exact ⟨_,rfl,k r cs ca2 H2 x1 x2 x3 x5⟩
theorem Ec : Ap (["self"]) (["self"]) (Ae AT):=by trivial
theorem D1 {f : Addr} {fd : FuncData} (F : Fun K "standing" "Sayings.standing" AT f fd) (B : Bs mg) (T : Gs mg) (clSayings : Cls K CSayings) (nSayings_given : AH K CSayings "given")  : Bv P w K mg base CX0 1 f fd ["self"] (Pb K CSayings):= by
 have sc:=Ec
 refine F.ok sc (fun vs H Q E h=>?_) (fun cdv A outer s H vs Q E hr h=>?_)
 ·obtain ⟨x,dx,l,n,gs,rfl,_⟩:=h;rfl
 ·obtain ⟨x,dx,l,n,gs,rfl,hX,hl,k⟩:=h
  refine ⟨_,(Ag (Aq (KQ (N':=["number","saying"]) (M:=[none,none]) (Ct (by rfl)) rfl (JU (K:=K) rfl B.enumerate (Aa (AQ (pv 0) rfl) Ac)) (fun _ _ _ _ _=>Ji (K:=K) (n:=2) rfl (Au (An (i:=0) (show (["number","saying"] : List Str).Nodup by decide +kernel) rfl (Or.inl rfl) (.inr rfl)) (Au (An (i:=1) (show (["number","saying"] : List Str).Nodup by decide +kernel) rfl (Or.inl rfl) (.inr rfl)) BE))) Jq (fun _ _ _ _ _=>EA (Ao Ep (pv 1) Da (AA _))) (fun _ _ _ _ _=>(AD (Aa (pv 0) (Aa (pv 1) Ac))))))),?_⟩
  obtain ⟨ob,vs,hv,hG⟩:=hX
  have hvl:vs.length=gs.length:=hG.length
  refine ⟨_,rfl,x,CSayings,dx,_,_,rfl,ob,clSayings,nSayings_given,Md _ _,l,rfl,⟨_,SqL.of hv⟩,RO (n:=gs.length) (fun m ys H1=>Ak H H1 /\ ∃ as:List Addr,ys=as.map V.ref/\QC H1 as (stL (gs.take m))) (Ah (by omega)) ⟨Ak.refl _,[],rfl,.nil⟩
   (fun m ys H1 hm ⟨s1,_⟩=>⟨vs,_,SqL.of (s1 _ _ hv),List.getElem?_eq_getElem (by omega)⟩) (fun ys H1 ⟨s1,_⟩=>⟨vs,SqL.of (s1 _ _ hv),by omega⟩)
   (fun m ys H1 hm ⟨s1,as,e,hA⟩=>by
    rw[e,List.length_map,hA.length]
    exact Nat.le_trans (HK _ _) (by rw[List.length_take];omega)) ?_ ?_⟩
  ·rintro m v ys H1 H2 hm ⟨s1,as,rfl,hA⟩ ⟨T1,y,hT1,rfl,rfl,hy⟩
   have hym:=hy vs (SqL.of (s1 _ _ hv))
   obtain ⟨o,ho,hom⟩:=Ay hG hym
   have n2:=Ak.new (o:=HO.tup [V.int (m:Int),y]) hT1
   refine ⟨T1,_,rfl,SqT.of Ab,rfl,_,_,rfl,_,_,rfl,rfl,?_⟩
   refine ⟨_,rfl,rfl,_,rfl,?_⟩
   unfold stL
   rw[Aw hom,DN]
   cases o with
   | none=>
    rw[show y=V.non from ho]
    exact FT ⟨s1.trans (by rw[show y=V.non from ho] at n2;exact n2),as,rfl,by rw[List.append_nil];exact hA.same (by rw[show y=V.non from ho] at n2;exact n2)⟩
   | some s=>
    obtain ⟨a,rfl,ha⟩:=ho
    refine FY ⟨_,rfl,_,rfl,Ah (by simp),fun T2 hT2=>?_⟩
    have n3:=Ak.new (o:=HO.tup [V.int (m:Int),V.ref a]) hT2
    refine ⟨s1.trans (n2.trans n3),as++[T2],DA,Paired.snoc (hA.same (n2.trans n3)) ⟨a,?_,(n2.trans n3) _ _ (s1 _ _ ha)⟩⟩
    rw[Ab,List.length_take,Nat.zero_add,Nat.min_eq_left (by omega)]
  ·rintro ys H1 ⟨s1,as,rfl,hA⟩ p hp
   rw[List.take_length] at hA
   exact k p as _ (s1.new2 hp) Ab (hA.same (Ak.new hp))
theorem FU : Ap (["self"]) (["self"]) (Ae Bj):=by trivial
theorem Gf {f : Addr} {fd : FuncData} (F : Fun K "rows" "Sayings.rows" Bj f fd) (B : Bs mg) (T : Gs mg) (clSayings : Cls K CSayings) (nSayings_given : AH K CSayings "given")  : Bv P w K mg base CX0 1 f fd ["self"] (R4 K CSayings):= by
 have sc:=FU
 refine F.ok sc (fun vs H Q E h=>?_) (fun cdv A outer s H vs Q E hr h=>?_)
 ·obtain ⟨x,dx,l,n,gs,rfl,_⟩:=h;rfl
 ·obtain ⟨x,dx,l,n,gs,rfl,hX,hl,k⟩:=h
  refine ⟨_,(Ag (Aq (KQ (N':=["saying"]) (M:=[none]) (Ct (by rfl)) rfl (AN (K:=K) (AQ (pv 0) rfl)) (fun _ _ _ _ _=>An (i:=0) (show (["saying"] : List Str).Nodup by decide +kernel) rfl (Or.inl rfl) (.inr rfl)) (Dz rfl) (fun _ _ _ _ _=>EA (Ao Ep (pv 0) Da (AA _))) (fun _ _ _ _ _=>(pv 0))))),?_⟩
  obtain ⟨ob,vs,hv,hG⟩:=hX
  have hvl:vs.length=gs.length:=hG.length
  refine ⟨_,rfl,x,CSayings,dx,_,_,rfl,ob,clSayings,nSayings_given,Md _ _,l,rfl,⟨_,SqL.of hv⟩,Ez (xs:=vs) (fun m ys H1=>Ak H H1 /\ ∃ as:List Addr,ys=as.map V.ref/\Jd H1 as (ME (gs.take m))) (Ah (by omega)) ⟨Ak.refl _,[],rfl,.nil⟩
   (fun m ys H1 hm ⟨s1,as,e,hA⟩=>⟨SqL.of (s1 _ _ hv),by
    rw[e,List.length_map,hA.length]
    exact Nat.le_trans (Lx _) (by rw[List.length_take];omega)⟩) ?_ ?_⟩
  ·rintro m v ys H1 hm ⟨s1,as,rfl,hA⟩
   obtain ⟨o,ho,hom⟩:=Ay hG hm
   refine gN ?_
   refine ⟨_,rfl,rfl,_,rfl,?_⟩
   rw[Aw hom,Nz]
   cases o with
   | none=>
    rw[show v=V.non from ho]
    exact FT ⟨s1,as,rfl,by rw[List.append_nil];exact hA⟩
   | some s=>
    obtain ⟨a,rfl,ha⟩:=ho
    exact FY ⟨_,rfl,s1,as++[a],DA,Paired.snoc hA (s1 _ _ ha)⟩
  ·rintro ys H1 ⟨s1,as,rfl,hA⟩ p hp
   rw[hvl,List.take_length] at hA
   exact k p as _ (s1.new2 hp) Ab (hA.same (Ak.new hp))
theorem FZ : Ap (["self"]) (["self"]) (Ae Bl):=by trivial
theorem Gj {f : Addr} {fd : FuncData} (F : Fun K "said" "Sayings.said" Bl f fd) (B : Bs mg) (T : Gs mg) (clSayings : Cls K CSayings) (nSayings_given : AH K CSayings "given")  : Bv P w K mg base CX0 1 f fd ["self"] (MD CSayings):= by
 have sc:=FZ
 refine F.ok sc (fun vs H Q E h=>?_) (fun cdv A outer s H vs Q E hr h=>?_)
 ·obtain ⟨x,dx,l,n,gs,rfl,_⟩:=h;rfl
 ·obtain ⟨x,dx,l,n,gs,rfl,hX,k⟩:=h
  refine ⟨_,(Ag (Aq (As (Br (K:=K)) (by rfl) B.len PyProof.Rows.Boot.«len» (Aa (AQ (pv 0) rfl) Ac)))),?_⟩
  obtain ⟨ob,vs,hv,hG⟩:=hX
  refine ⟨_,rfl,x,CSayings,dx,_,_,rfl,ob,clSayings,nSayings_given,Md _ _,l,_,rfl,.inl (SqL.of hv),?_⟩
  rw[show vs.length=gs.length from hG.length]
  exact k
theorem DM : Ap (["self","one","other"]) (["self","one","other"]) (Ae AK):=by trivial
theorem DT {f : Addr} {fd : FuncData} (F : Fun K "check_two" "Sayings.check_two" AK f fd) (B : Bs mg) (T : Gs mg) (clSayings : Cls K CSayings) (nSayings_size : AH K CSayings "size") (ccheck_censer : GU P w K mg base 1 "check_censer" [] (B1 CNoCenser)) : Bv P w K mg base (CXE P w) 2 f fd ["self","one","other"] (Ro CSayings CNoCenser):= by
 have sc:=DM
 refine F.okE sc (fun vs H Q E h=>?_) (fun cdv A outer s H vs Q E hr F0 h=>?_)
 ·obtain ⟨x,dx,l,n,i,j,gs,rfl,_⟩:=h;rfl
 ·obtain ⟨x,dx,l,n,i,j,gs,rfl,hX,k,kE⟩:=h
  refine ⟨_,(Ad (A1 (BN ccheck_censer (hr.mono (by decide)) rfl (Cs F0) (Aa (AQ (pv 0) rfl) (Aa (pv 1) Ac))))
   (Ag (A1 (BN ccheck_censer (hr.mono (by decide)) rfl (Cs F0) (Aa (AQ (pv 0) rfl) (Aa (pv 2) Ac)))))),?_⟩
  obtain ⟨ob,vs,hv,hG⟩:=hX
  refine ⟨_,rfl,x,CSayings,dx,_,_,rfl,ob,clSayings,nSayings_size,MM _ _,_,rfl,n,i,rfl,fun i0 i1=>?_,fun hi=>kE fun z=>hi z.1⟩
  exact ⟨_,rfl,x,CSayings,dx,_,_,rfl,ob,clSayings,nSayings_size,MM _ _,_,rfl,n,j,rfl,fun j0 j1=>k ⟨⟨i0,i1⟩,j0,j1⟩,fun hj=>kE fun z=>hj z.2⟩
theorem Fx : Ap (["self","one","other","links","chains","tips","censer","word"]) (["self","one","other"]) (Ae Ba):=by trivial
theorem Fw {f : Addr} {fd : FuncData} (F : Fun K "chain" "Sayings.chain" Ba f fd) (B : Bs mg) (T : Gs mg) (clSayings : Cls K CSayings) (cSayings_check_two : Jr P w K mg base CSayings 2 "check_two" (Ro CSayings CNoCenser)) (cSayings_standing : Fe P w K mg base CSayings 1 "standing" (Pb K CSayings)) (cgrown : Cal P w K mg base 1 "grown" [] (R8 K)) : Bv P w K mg base CX0 3 f fd ["self","one","other"] (RQ K CSayings):= by
 have sc:=Fx
 refine F.ok sc (fun vs H Q E h=>?_) (fun cdv A outer s H vs Q E hr h=>?_)
 ·obtain ⟨x,dx,l,n,i,j,gs,rfl,_⟩:=h;rfl
 ·obtain ⟨x,dx,l,n,i,j,gs,rfl,hX,n9,hl,hok,hi,hj,kN,k⟩:=h
  refine ⟨_,(Ad (A1 (E8 cSayings_check_two clSayings (hr.mono (by decide)) JK (pv 0) (Aa (pv 1) (Aa (pv 2) Ac))))
   (Ad (QO (i:=3) sc.nd rfl rfl (N':=["number","saying"]) (M:=[none,none]) (Ct (by rfl)) rfl (AN (K:=K) (B0 cSayings_standing clSayings (hr.mono (by decide)) (pv 0))) (fun _ _ _ _ _=>Ji (K:=K) (n:=2) rfl (Au (An (i:=0) (show (["number","saying"] : List Str).Nodup by decide +kernel) rfl (Or.inl rfl) (.inr rfl)) (Au (An (i:=1) (show (["number","saying"] : List Str).Nodup by decide +kernel) rfl (Or.inl rfl) (.inr rfl)) BE))) Jq (fun _ _ _ _ _=>EA (Ao Cq (As (Br (K:=K)) (by rfl) B.len PyProof.Rows.Boot.«len» (Aa (pv 1) Ac)) Ai (AA _))) (fun _ _ _ _ _=>(AD (Aa (pv 0) (Aa (pv 1) Ac)))))
   (Ad (AB (i:=4) sc.nd rfl (Or.inl rfl) (N9 (DS hr) (AD (Aa (pv 1) (Aa Av Ac))) (AI Ac)))
   (Ad (AB (i:=5) sc.nd rfl (Or.inl rfl) (BU KL (by rfl) B.list PyProof.Rows.Boot.«list» (Aa (pv 4) Ac)))
   (Ad (NR PassesOwn.never (Nc (pv 5) (fun _=>rfl))
   (Ad (BZ PassesOwn.never rfl (AN (K:=K) (pv 5)) (DK rfl (Au (An (i:=6) sc.nd rfl (Or.inl rfl)) (Au (An (i:=7) sc.nd rfl (Or.inl rfl)) BE)))
   (Ag (A2 (Ao Cq (pv 6) (pv 2) (AA _)) (Ag (Aq (AD (Aa (pv 7) (Aa (Ja (DS hr) (pv 4) (AD (Aa (pv 6) (Aa (pv 7) Ac))) (fun _ _=>rfl)) Ac))))) Az)))
   (Ag (AB (i:=5) sc.nd rfl (Or.inl rfl) (A7 cgrown (hr.mono (by decide)) rfl (Aa (pv 3) (Aa (pv 4) (Aa (pv 5) Ac))))))))
   (Ag (Aq Da))))))),?_⟩
  obtain ⟨ob,vs,hv,hG⟩:=id hX
  have no1 : (saF (n : Int) l).lookup ("check_two" : Str) = none:=Ej _ _ (by decide +kernel) (by decide +kernel)
  have no2 : (saF (n : Int) l).lookup ("standing" : Str) = none:=Ej _ _ (by decide +kernel) (by decide +kernel)
  refine A5 (fun σ H1=>σ=[some (.ref x),some (.int i),some (.int j),none,none,none,none,none]/\H=H1) (fun Z hZ=>⟨_,rfl,x,dx,_,rfl,ob,no1,_,rfl,_,rfl,x,dx,l,n,i,j,gs,rfl,hX,fun _=>hZ _ _ ⟨rfl,rfl⟩,fun z=>absurd ⟨hi,hj⟩ z⟩) ?_
  rintro σ H1 ⟨rfl,rfl⟩
  refine RC ?_
  refine ⟨_,rfl,x,dx,_,rfl,ob,no2,x,dx,l,n,gs,rfl,hX,hl,fun p as H2 s2 hp hN=>?_⟩
  have hal:=hN.length
  have hsl:(stL gs).length<=gs.length:=HK 0 gs
  refine ⟨p,rfl,⟨_,SqL.of hp⟩,Ez (xs:=as.map V.ref) (fun m ys H3=>Ak H2 H3 /\ ∃ bs:List Addr,ys=bs.map V.ref/\NS H3 bs (((stL gs).take m).filterMap Qp)) (Ah (by rw[List.length_map];omega)) ⟨Ak.refl _,[],rfl,.nil⟩
   (fun m ys H3 hm ⟨s3,bs,e,hB⟩=>⟨SqL.of (s3 _ _ hp),by
    rw[e,List.length_map,hB.length]
    exact Nat.le_trans (List.length_filterMap_le _ _) (by rw[List.length_take];omega)⟩) ?_ ?_⟩
  ·rintro m v ys H3 hm ⟨s3,bs,rfl,hB⟩
   obtain ⟨a,rfl,ha,hml⟩:=CW hm
   obtain ⟨⟨nm,sy⟩,⟨b,hab,hbs⟩,hqm⟩:=Ay hN ha
   dsimp only at hab hbs
   refine ⟨a,_,rfl,SqT.of (s3 _ _ hab),rfl,_,_,rfl,_,_,rfl,rfl,?_⟩
   refine ⟨_,rfl,b,_,rfl,.inr (SqT.of (s3 _ _ hbs)),rfl,_,rfl,?_⟩
   rw[OK _ hqm,Lp]
   cases sy with
   | cnt mm kk=>
    refine FT ⟨s3,bs,rfl,?_⟩
    show NS H3 bs (_++[])
    rw[List.append_nil];exact hB
   | pair u i2 j2=>
    refine FY ⟨_,rfl,_,rfl,Ah (by simp),fun T2 hT2=>?_⟩
    have n4:=Ak.new (o:=HO.tup [V.int nm,V.ref b]) hT2
    exact ⟨s3.trans n4,bs++[T2],DA,Paired.snoc (hB.of fun a xs e=>n4 _ _ e) ⟨b,Ab,n4 _ _ (s3 _ _ hbs)⟩⟩
  rintro ys H3 ⟨s3,lks,rfl,hB⟩ lk hlk
  rw[List.length_map,hal,List.take_length] at hB
  have hB:NS H3 lks (Hx gs):=hB
  have n4:=Ak.new (o:=HO.lst (lks.map V.ref)) hlk
  have hlk4:upd H3 lk (HO.lst (lks.map V.ref)) lk=some (.lst (lks.map V.ref)):=Ab
  have hB4:NS (upd H3 lk (HO.lst (lks.map V.ref))) lks (Hx gs):=hB.of fun a xs e=>n4 _ _ e
  have S4:=s2.trans (s3.trans n4)
  generalize upd H3 lk (HO.lst (lks.map V.ref))=H4 at n4 hlk4 hB4 S4
  have hin:=QI hok
  have hll:=OG gs
  generalize Hx gs=ls at hB hB4 hin hll k kN
  try dsimp only
  refine nrm (σ':=[some (.ref x),some (.int i),some (.int j),some (.ref lk),none,none,none,none]) rfl ?_
  refine Bz (fun d hd=>?_)
  have n5:=Ak.new (o:=HO.dT []) hd
  refine ⟨_,rfl,Ah (by simp),fun kt hkt=>⟨Nat.zero_le _,fun e he=>?_⟩⟩
  have n6:=Ak.new (o:=HO.tup [V.int i,V.str "alike"]) hkt
  have n7:=Ak.new (o:=HO.lst ([]:List V)) he
  have S7:=n5.trans (n6.trans n7)
  have hd7:=n7 _ _ (n6 _ _ (show upd H4 d (HO.dT []) d=some (HO.dT []) from Ab))
  have hkt7:=n7 _ _ (show upd (upd H4 d (HO.dT [])) kt (HO.tup [V.int i,V.str "alike"]) kt = some (.tup ((Df (i,false)).map kV)) from Ab)
  have he7 : upd (upd (upd H4 d (HO.dT [])) kt (HO.tup [V.int i,V.str "alike"])) e (HO.lst []) e = some (.lst (([] : List Int).map V.int)):=Ab
  generalize upd (upd (upd H4 d (HO.dT [])) kt (HO.tup [V.int i,V.str "alike"])) e (HO.lst []) = H7 at S7 hd7 hkt7 he7
  refine ⟨hd7,kt,Df (i,false),rfl,hkt7,?_⟩
  have hC8:ChA (upd H7 d (.dT [(Df (i,false),.ref e)])) d [((i,false),[])] [e]:=⟨Ab,.cons (by rw[Af (Cv he7 hd7 fun z=>nomatch z)];exact he7) .nil⟩
  have hHd:H d=none:= by
   cases q:H d with
   | none=>rfl
   | some o=>rw[S4 _ _ q] at hd;cases hd
  have f8:FrL [d] H4 (upd H7 d (.dT [(Df (i,false),.ref e)])):=(FrL.of S7).put List.mem_cons_self
  generalize upd H7 d (.dT [(Df (i,false),.ref e)])=H8 at hC8 f8
  refine Bz ⟨_,rfl,d,_,rfl,hC8.ob,fun tl ps hps htl=>?_⟩
  obtain ⟨t0,rfl,ht0⟩ : ∃ t0,ps=[t0]/\H8 t0=some (.tup ((Df (i,false)).map kV)):= by
   cases hps with
   | cons h1 h2=>cases h2;exact ⟨_,rfl,h1⟩
  have n9:=Ak.new (o:=HO.lst ([t0].map V.ref)) htl
  have hl9:upd H8 tl (HO.lst ([t0].map V.ref)) tl=some (.lst ([t0].map V.ref)):=Ab
  have hT9:M2 (upd H8 tl (HO.lst ([t0].map V.ref))) [t0] [(i,false)]:=.cons (n9 _ _ ht0) .nil
  have hC9:ChA (upd H8 tl (HO.lst ([t0].map V.ref))) d [((i,false),[])] [e]:=hC8.of (by rw[hC8.ob];exact n9 _ _ hC8.ob) fun a _ xs z=>n9 _ _ z
  have f9:FrL [d] H4 (upd H8 tl (HO.lst ([t0].map V.ref))):=f8.trans (FrL.of n9)
  show P9 _ _ _ _ (upd H8 tl (HO.lst ([t0].map V.ref)))
  generalize upd H8 tl (HO.lst ([t0].map V.ref))=H9 at hl9 hT9 hC9 f9
  refine nrm (σ':=[some (.ref x),some (.int i),some (.int j),some (.ref lk),some (.ref d),some (.ref tl),none,none]) rfl ?_
  have base4 : ∀ {H':Hp},FrL [d] H4 H'->Ak H H':=fun f a o z=>f a o (S4 _ _ z) fun y=>by
   rw[List.mem_singleton.mp y,hHd] at z;cases z
  have keepL : ∀ {H':Hp},FrL [d] H4 H'->H' lk=some (.lst (lks.map V.ref)):=fun f=>f _ _ hlk4 fun y=>by
   rw[List.mem_singleton.mp y,hd] at hlk4;cases hlk4
  have keepB : ∀ {H':Hp},FrL [d] H4 H'->NS H' lks ls:=fun f=>hB4.of fun a xs z=>f _ _ z fun y=>by
   rw[List.mem_singleton.mp y,hd] at z;cases z
  have g0:ChG n [((i,false),[])] [(i,false)]:=⟨by simp,fun c hc=>by rw[List.mem_singleton.mp hc];exact hi,fun c hc=>by rw[List.mem_singleton.mp hc];exact Nat.zero_lt_one,fun t ht=>by rw[List.mem_singleton.mp ht];simp,by simp⟩
  refine A5 (fun σ H2=>Fh ls i j=none/\Ak H H2) (fun Z hZ=>?_) (fun σ H2 h=>kN H2 h.2 h.1)
  refine ⟨fun m σ H2=>∃ (o6 o7:Option V) (tl:Addr) (bs:List Addr) (ch:Chs) (ca:List Addr) (ts:List Tip),σ=[some (.ref x),some (.int i),some (.int j),some (.ref lk),some (.ref d),some (.ref tl),o6,o7]/\FrL [d] H4 H2/\H2 tl=some (.lst (bs.map V.ref))/\M2 H2 bs ts/\ChA H2 d ch ca/\ChG n ch ts/\(ts≠[]->20<=m+ch.length)/\MK ls j m ch ts=Fh ls i j,
   ⟨20,none,none,tl,[t0],_,[e],_,rfl,f9,hl9,hT9,hC9,g0,fun _=>by simp,rfl⟩,?_⟩
  clear hC9 hT9 hl9 f9 n9 htl ht0 hC8 g0
  rintro m σ H2 ⟨o6,o7,tl,bs,ch,ca,ts,rfl,f2,htl,hT,hC,hg,hm,hgo⟩
  have hbl:=hT.length
  refine ⟨_,rfl,_,.inl ⟨_,SqL.of htl,rfl⟩,?_⟩
  have hcl:=hg.len
  by_cases hts:ts=[]
  ·subst hts
   have:bs=[]:=List.length_eq_zero_iff.mp hbl
   subst this
   rw[NB] at hgo
   exact FT (hZ _ _ ⟨hgo.symm,base4 f2⟩)
  have hm:=hm hts
  obtain ⟨m,rfl⟩ : ∃ m',m=m'+1:=⟨m-1,by omega⟩
  have hbe:bs≠[]:=fun z=>hts (List.length_eq_zero_iff.mp (by rw[<- hbl,z];rfl))
  have hb1:(!(bs.map V.ref).isEmpty)=true:=by cases bs with | nil=>exact absurd rfl hbe | cons _ _=>rfl
  refine (show (if (!(bs.map V.ref).isEmpty)=true then _ else _) from ?_)
  rw[if_pos hb1]
  refine ⟨fun σ' H'=>∃ (o6 o7:Option V) (tl:Addr) (bs:List Addr) (ch:Chs) (ca:List Addr) (ts:List Tip),σ'=[some (.ref x),some (.int i),some (.int j),some (.ref lk),some (.ref d),some (.ref tl),o6,o7]/\FrL [d] H4 H'/\H' tl=some (.lst (bs.map V.ref))/\M2 H' bs ts/\ChA H' d ch ca/\ChG n ch ts/\(ts≠[]->20<=m+ch.length)/\MK ls j m ch ts=Fh ls i j,fun σ' H' h=>⟨m,Nat.lt_succ_self m,h⟩,?_⟩
  refine A5 (fun σ H3=>∃ o6 o7:Option V,σ=[some (.ref x),some (.int i),some (.int j),some (.ref lk),some (.ref d),some (.ref tl),o6,o7]/\H2=H3 /\ ∀ t ∈ ts,t.1≠j) (fun Z2 hZ2=>?_) ?_
  ·refine ⟨_,rfl,tl,rfl,⟨_,SqL.of htl⟩,Bq (K:=K) (a:=tl) (xs:=bs.map V.ref) (fun q σ H3=>∃ o6 o7:Option V,σ=[some (.ref x),some (.int i),some (.int j),some (.ref lk),some (.ref d),some (.ref tl),o6,o7]/\H2=H3 /\ ∀ t ∈ ts.take q,t.1≠j)
    ⟨_,_,rfl,rfl,fun t ht=>by simp at ht⟩ (fun q σ H3 _ ⟨_,_,_,z,_⟩=>by rw[<- z];exact SqL.of htl) ?_ ?_⟩
   ·rintro q v σ H3 hq ⟨o6,o7,rfl,rfl,hno⟩
    obtain ⟨b,rfl,hb,hql⟩:=CW hq
    obtain ⟨t,hbt,htm⟩:=Ay hT hb
    refine ⟨b,_,rfl,SqT.of hbt,rfl,_,_,rfl,_,_,rfl,rfl,?_⟩
    try dsimp only
    refine nrm (σ':=[some (.ref x),some (.int i),some (.int j),some (.ref lk),some (.ref d),some (.ref tl),some (.int t.1),some (.str (wd t.2))]) rfl ?_
    refine CF (b:=decide (t.1=j)) (fun N hN=>⟨_,rfl,_,rfl,rfl,_,rfl,by rw[Lp];exact hN⟩) (fun g=>?_) (fun g=>⟨_,_,rfl,rfl,fun t' ht'=>?_⟩)
    ·have g:=of_decide_eq_true g
     refine ⟨_,rfl,_,rfl,_,rfl,_,rfl,Ah (by simp),fun c hc=>?_⟩
     have n3:=Ak.new (o:=HO.tup [V.int t.1,V.str (wd t.2)]) hc
     obtain ⟨ns,a2,z1,z2,z3,z4⟩ : ∃ ns a,Bg ch t=some ns/\a ∈ ca/\Ex (Ga ch ca) (Df t)=some (.ref a)/\H2 a=some (.lst (ns.map V.int)):= by
      rcases D9 (t:=t) hC.ls with ⟨w1,_⟩ | w
      ·exact absurd (hg.tp t (List.mem_of_getElem? htm)) (BS.mp w1)
      ·exact w
     refine ⟨d,_,rfl,by rw[<- z3];exact Hc.t (k:=Df t) (n3 _ _ hC.ob) Ab,Ah (by simp),fun t2 ht2=>?_⟩
     have n4':=Ak.new (o:=HO.tup [V.str (wd t.2),V.ref a2]) ht2
     have e1:Fh ls i j=some (t.2,ns):= by
      rw[<- hgo];unfold MK
      rw[if_neg hts,J1 htm g hno];dsimp only;rw[z1];rfl
     exact k t2 a2 t.2 ns _ ((base4 f2).trans (n3.trans n4')) e1 Ab (n4' _ _ (n3 _ _ z4))
    ·rw[Aw htm] at ht'
     rcases List.mem_append.mp ht' with ht' | ht'
     ·exact hno t' ht'
     ·rw[List.mem_singleton.mp ht'];exact of_decide_eq_false g
   ·rintro σ H3 ⟨o6,o7,rfl,rfl,hno⟩
    rw[List.length_map,hbl,List.take_length] at hno
    exact hZ2 _ _ ⟨_,_,rfl,rfl,hno⟩
  rintro σ H3 ⟨o6,o7,rfl,rfl,hno⟩
  have hfind:ts.find? (fun t=>decide (t.1=j))=none:=List.find?_eq_none.mpr fun t ht=>by
   have:=hno t ht
   simpa using this
  have htl18:ts.length<=18:=by have:=hg.le;omega
  obtain ⟨hg',hlen'⟩:=hg.grow hin
  refine ⟨_,rfl,_,rfl,_,rfl,lk,d,tl,lks,ls,ch,ca,ts,bs,rfl,keepL f2,keepB f2,hC,hg.ok,htl,hT,?_,fun t ht=>DG.mpr (hg.tp t ht),fun r cs ca' H3 hr3 hT3 hC3 f3=>?_⟩
  ·have:ts.length*ls.length<=18*1000:=Nat.mul_le_mul htl18 (by omega)
   omega
  ·refine ⟨_,_,r,cs,_,ca',_,rfl,f2.trans f3,hr3,hT3,hC3,hg',fun hne=>?_,?_⟩
   ·have:0<(Fq ls ch ts).2.length:=List.length_pos_iff.mpr hne
    omega
   ·rw[<- hgo]
    show _=MK ls j (m+1) ch ts
    rw[MK,if_neg hts,hfind]
theorem De : Ap (["self","saying"]) (["self","saying"]) (Ae AC):=by trivial
theorem Dc {f : Addr} {fd : FuncData} (F : Fun K "settled_with" "Sayings.settled_with" AC f fd) (B : Bs mg) (T : Gs mg) (clSayings : Cls K CSayings) (nSayings_size : AH K CSayings "size") (cSayings_rows : Fe P w K mg base CSayings 1 "rows" (R4 K CSayings)) (csettled : GU P w K mg base 59 "settled" [] (NI K CBadMany CBadSaying CNoCenser PTopen_pair)) : Bv P w K mg base CX0 60 f fd ["self","saying"] (Rq K CSayings PTopen_pair):= by
 have sc:=De
 refine F.ok sc (fun vs H Q E h=>?_) (fun cdv A outer s H vs Q E hr h=>?_)
 ·obtain ⟨x,dx,l,n,gs,a,s,rfl,_⟩:=h;rfl
 ·obtain ⟨x,dx,l,n,gs,a,s,rfl,hX,n1,n9,hgs,hgl,ha,hs,hTab,kW,kP⟩:=h
  refine ⟨_,(Ag (Aq (BN csettled (hr.mono (by decide)) rfl JK (Aa (AQ (pv 0) rfl) (Aa (Ax GH (B0 cSayings_rows clSayings (hr.mono (by decide)) (pv 0)) (AI (Aa (pv 1) Ac))) Ac))))),?_⟩
  obtain ⟨ob,vs,hv,hG⟩:=id hX
  have no1 : (saF (n : Int) l).lookup ("rows" : Str) = none:=Ej _ _ (by decide +kernel) (by decide +kernel)
  refine ⟨_,rfl,x,CSayings,dx,_,_,rfl,ob,clSayings,nSayings_size,MM _ _,_,rfl,x,dx,_,rfl,ob,no1,x,dx,l,n,gs,rfl,hX,by omega,fun p as H1 s1 hp hS=>?_⟩
  have hrl:=Lx gs
  have hal:=hS.length
  refine ⟨_,rfl,Ah (by simp),fun q hq=>?_⟩
  have n2:=Ak.new (o:=HO.lst [V.ref a]) hq
  refine ⟨p,q,_,_,rfl,rfl,n2 _ _ hp,Ab,Ah (by rw[List.length_map,List.length_singleton];omega),fun z hz=>?_⟩
  have n3:=Ak.new (o:=HO.lst (as.map V.ref++[V.ref a])) hz
  have hz3:upd (upd H1 q (HO.lst [V.ref a])) z (HO.lst (as.map V.ref++[V.ref a])) z=some (.lst ((as++[a]).map V.ref)):=by rw[Ab,DA]
  have S3:=s1.trans (n2.trans n3)
  have hS3:=Paired.snoc (hS.same (n2.trans n3)) (S3 _ _ ha)
  generalize upd (upd H1 q (HO.lst [V.ref a])) z (HO.lst (as.map V.ref++[V.ref a]))=H3 at hz3 S3 hS3
  refine ⟨(n:Int),z,as++[a],rfl,SqL.of hz3,.inl ⟨n,ME gs++[s],rfl,n1,n9,hS3,fun q hq=>?_,by rw[List.length_append,List.length_singleton];omega,hTab.same S3,fun t a w H4 s4=>kW t a w H4 (AX (AL S3) s4),fun t v p H4 s4=>kP t v p H4 (AX (AL S3) s4)⟩⟩
  rcases List.mem_append.mp hq with hq | hq
  ·obtain ⟨o,ho,e⟩:=List.mem_filterMap.mp hq
   exact hgs o ho q e
  ·rw[List.mem_singleton.mp hq];exact hs
theorem DV : Ap (["self","censers"]) (["self","censers"]) (Ae AR):=by trivial
theorem Eh {f : Addr} {fd : FuncData} (F : Fun K "__init__" "Sayings.__init__" AR f fd) (B : Bs mg) (T : Gs mg) (clSayings : Cls K CSayings) (nSayings_size : AH K CSayings "size") (nSayings_given : AH K CSayings "given") (ccheck_many : GU P w K mg base 1 "check_many" [] (CT CBadMany)) : Bv P w K mg base (CXE P w) 2 f fd ["self","censers"] (N2 K CSayings CBadMany):= by
 have sc:=DV
 refine F.okE sc (fun vs H Q E h=>?_) (fun cdv A outer s H vs Q E hr F0 h=>?_)
 ·obtain ⟨x,dx,n,rfl,_⟩:=h;rfl
 ·obtain ⟨x,dx,n,rfl,hx,k,kE⟩:=h
  refine ⟨_,(Ad (A1 (BN ccheck_many (hr.mono (by decide)) rfl (Cs F0) (Aa (pv 1) Ac)))
   (Ad (Ea (pv 0) (pv 1) rfl)
   (Ag (Ea (pv 0) (AI Ac) rfl)))),?_⟩
  refine ⟨_,rfl,n,rfl,fun h1 h2=>?_,kE⟩
  refine ⟨_,rfl,_,rfl,x,CSayings,dx,[],rfl,hx,clSayings,nSayings_size,by decide,?_⟩
  have l1 : (CL "size" (V.int n) []).length <= 1:=BP ..
  refine ⟨Nat.zero_le _,fun l hl=>⟨_,rfl,x,CSayings,dx,CL "size" (V.int n) [],rfl,?_,clSayings,nSayings_given,by omega,?_⟩⟩
  ·have : x ≠ l:=Aj (show upd H x (.ins CSayings dx (CL "size" (V.int n) [])) x = some _ from Ab) hl
   rw[Af this];exact Ab
  ·have hlx:l≠x:=fun z=>by rw[z,Ab] at hl;cases hl
   have hl0:H l=none:=by rw[Af hlx] at hl;exact hl
   refine k ⟨h1,h2⟩ l _ hl0 (by rw[Ab,E5]) (by rw[Af hlx,Ab]) fun b o e hb=>?_
   rw[Af hb,Af (Aj e hl0),Af hb];exact e
theorem Hg : Ap (["self","saying","found","word","paper"]) (["self","saying"]) (Ae Bu):=by trivial
theorem Hl {f : Addr} {fd : FuncData} (F : Fun K "say" "Sayings.say" Bu f fd) (B : Bs mg) (T : Gs mg) (clSayings : Cls K CSayings) (nSayings_size : AH K CSayings "size") (nSayings_given : AH K CSayings "given") (cSayings_chain : Fe P w K mg base CSayings 3 "chain" (RQ K CSayings)) (cSayings_settled_with : Fe P w K mg base CSayings 60 "settled_with" (Rq K CSayings PTopen_pair)) (ccheck_saying : GU P w K mg base 2 "check_saying" [] (Nm K CBadSaying CNoCenser)) : Bv P w K mg base (CXE P w) 61 f fd ["self","saying"] (Li K CSayings CBadSaying CNoCenser PTopen_pair):= by
 have sc:=Hg
 refine F.okE sc (fun vs H Q E h=>?_) (fun cdv A outer s H vs Q E hr F0 h=>?_)
 ·obtain ⟨x,dx,l,n,gs,a,r,rfl,_⟩:=h;rfl
 ·obtain ⟨x,dx,l,n,gs,a,r,rfl,hX,n1,n9,hgs,hgl,ha,hTab,hm⟩:=h
  refine ⟨_,(Ad (A1 (BN ccheck_saying (hr.mono (by decide)) rfl (Cs F0) (Aa (AQ (pv 0) rfl) (Aa (pv 1) Ac))))
   (Ad (A2 (Ao Cq (As (Br (K:=K)) (by rfl) B.len PyProof.Rows.Boot.«len» (Aa (pv 1) Ac)) Ai (AA _)) (Ad (AB (i:=2) sc.nd rfl (Or.inl rfl) (EF cSayings_chain clSayings (hr.mono (by decide)) (pv 0) (Aa (AG (AU (K:=K)) (pv 1) Ai (fun _ _=>rfl)) (Aa (AG (AU (K:=K)) (pv 1) Ai (fun _ _=>rfl)) Ac))))
   (Ag (A2 (PW.pt (L0 (Ao Ep (pv 2) Da (AA _)) (IM (Ao MN (AG (AU (K:=K)) (pv 2) Ai (fun _ _=>rfl)) (AG (AU (K:=K)) (pv 1) Ai (fun _ _=>rfl)) (AA _))))) FA Az))) Az)
   (Ad (IJ (EF cSayings_settled_with clSayings (hr.mono (by decide)) (pv 0) (Aa (pv 1) Ac)) (DK rfl (Au (An (i:=3) sc.nd rfl (Or.inl rfl)) (Au (An (i:=4) sc.nd rfl (Or.inl rfl)) BE))))
   (Ad (A2 (Ao Cq (pv 3) Av (AA _)) FA Az)
   (Ad (A1 (Hv PySem.F.plainAttrs_list PySem.F.slot_list_append PySem.F.type_list_append CA (AQ (pv 0) rfl) (Aa (pv 1) Ac)))
   (Ag (Aq (Ax ER (As (Br (K:=K)) (by rfl) B.len PyProof.Rows.Boot.«len» (Aa (AQ (pv 0) rfl) Ac)) Ai)))))))),?_⟩
  obtain ⟨ob,vs,hv,hG⟩:=id hX
  rcases hm with ⟨hne,kE⟩ | ⟨s,w,rfl,hs,hw,hwl,hfg,hfs,k⟩
  ·refine ⟨_,rfl,x,CSayings,dx,_,_,rfl,ob,clSayings,nSayings_size,MM _ _,_,rfl,(n:Int),a,r,rfl,ha,fun h0=>absurd h0 hne,fun h1=>?_,fun h2=>?_⟩
   ·rw[h1] at kE;exact kE
   ·rw[h2] at kE;exact kE
  ·have h0:=Jm hs
   rw[Hr] at ha
   refine A5 (fun σ H1=>σ=[some (.ref x),some (.ref a),none,none,none]/\H=H1) (fun Z hZ=>⟨_,rfl,x,CSayings,dx,_,_,rfl,ob,clSayings,nSayings_size,MM _ _,_,rfl,(n:Int),a,Cp s,rfl,by rw[Hr];exact ha,fun _=>hZ _ _ ⟨rfl,rfl⟩,fun z=>(by rw[h0] at z;cases z),fun z=>(by rw[h0] at z;cases z)⟩) ?_
   rintro σ H1 ⟨rfl,rfl⟩
   have no1 : (saF (n : Int) l).lookup ("chain" : Str) = none:=Ej _ _ (by decide +kernel) (by decide +kernel)
   have no2 : (saF (n : Int) l).lookup ("settled_with" : Str) = none:=Ej _ _ (by decide +kernel) (by decide +kernel)
   have hwg:B3 0 w=true:=(HH.mp hw).2.2
   refine A5 (fun σ H1=>∃ o2:Option V,σ=[some (.ref x),some (.ref a),o2,none,none]/\Ak H H1) (fun Z hZ=>?_) ?_
   ·cases s with
    | cnt m kk=>exact Oc (b:=false) (P:=fun H'=>H'=H) (fun N hN=>⟨_,rfl,a,_,rfl,.inr (SqT.of ha),rfl,_,rfl,hN _ rfl⟩) (fun g=>absurd g (by decide)) (fun _ H5 e=>hZ _ _ ⟨_,rfl,by rw[e];exact Ak.refl _⟩)
    | pair u i j=>
     obtain ⟨i0,i1,j0,j1,hij⟩:=hs
     have ha:H a=some (.tup [V.str (wd u),V.int i,V.int j]):=ha
     refine Oc (b:=true) (P:=fun H'=>H'=H) (fun N hN=>⟨_,rfl,a,_,rfl,.inr (SqT.of ha),rfl,_,rfl,hN _ rfl⟩) (fun _ H5 e=>?_) (fun g=>absurd g (by decide))
     rw[e]
     refine Bz ⟨_,rfl,x,dx,_,rfl,ob,no1,_,rfl,a,_,_,_,rfl,rfl,SqT.of ha,rfl,_,rfl,a,_,_,_,rfl,rfl,SqT.of ha,rfl,x,dx,l,n,i,j,gs,rfl,hX,n9,by omega,hgs,⟨i0,i1⟩,⟨j0,j1⟩,fun H1 s1 _=>?_,fun t b v ns H1 s1 hc ht hb=>?_⟩
     ·exact Oc (b:=false) (P:=fun H'=>H'=H1) (fun N hN=>⟨_,rfl,rfl,_,rfl,FT (hN _ rfl)⟩) (fun g=>absurd g (by decide)) (fun _ H5 e=>hZ _ _ ⟨_,rfl,by rw[e];exact s1⟩)
     ·have hvu:v=u:= by
       have ht:=JD (NT hfg) hc
       unfold Gc at ht
       dsimp only at ht
       cases u <;> cases v
       ·rfl
       ·rw[if_pos rfl] at ht;exact absurd hfs ht
       ·rw[if_neg (by decide)] at ht;exact absurd ht hfs
       ·rfl
      subst hvu
      refine Oc (b:=false) (P:=fun H'=>H'=H1) (fun N hN=>⟨_,rfl,rfl,_,rfl,FY ⟨_,rfl,t,_,_,_,rfl,rfl,SqT.of ht,rfl,_,rfl,a,_,_,_,rfl,rfl,SqT.of (s1 _ _ ha),rfl,rfl,_,rfl,?_⟩⟩) (fun g=>absurd g (by decide)) (fun _ H5 e=>hZ _ _ ⟨_,rfl,by rw[e];exact s1⟩)
      have:=hN _ rfl
      simpa using this
   rintro σ H1 ⟨o2,rfl,s1⟩
   have hX1:=hX.same s1
   have hT1:=hTab.same s1
   have hok2 : ∀ q ∈ ME gs++[s],Bn n q:=fun q hq=>by
    rcases List.mem_append.mp hq with hq | hq
    ·obtain ⟨o,ho,e⟩:=List.mem_filterMap.mp hq
     exact hgs o ho q e
    ·rw[List.mem_singleton.mp hq];exact hs
   have hfit:DP n (By n (ME gs++[s])) w:=(PX n1 hok2 hwg hwl).mpr fun q hq=>by
    rcases List.mem_append.mp hq with hq | hq
    ·obtain ⟨o,ho,e⟩:=List.mem_filterMap.mp hq
     exact hfg o ho q e
    ·rw[List.mem_singleton.mp hq];exact hfs
   refine A5 (fun σ H2=>∃ o4 : Option V,σ = [some (.ref x),some (.ref a),o2,some (.str "way"),o4] /\ Ak (Bp H1 PTopen_pair) H2 /\ AM H2 PTopen_pair ⟨125,26,125,86⟩ DH) (fun Z hZ=>?_) ?_
   ·refine ⟨_,rfl,x,dx,_,rfl,hX1.ob,no2,_,rfl,x,dx,l,n,gs,a,s,rfl,hX1,n1,n9,hgs,hgl,s1 _ _ ha,hs,hT1,fun t b w2 H2 s2 hT2 ht hb _ _ _=>?_,fun t v p H2 s2 hT2 ht hP hpk _=>?_⟩
    ·exact ⟨t,_,rfl,SqT.of ht,rfl,_,_,rfl,_,_,rfl,rfl,hZ _ _ ⟨_,rfl,s2,hT2⟩⟩
    ·exact absurd hfit (Fl hwg hwl p _ (MJ n1 hok2) hpk)
   rintro σ H2 ⟨o4,rfl,s2,hT2⟩
   have hX2:=hX1.beside hT1 s2
   have ha2:=s2 _ _ (A4 hT1 (s1 _ _ ha) fun _ z=>nomatch z)
   obtain ⟨ob2,vs2,hv2,hG2⟩:=id hX2
   have hvl2:vs2.length=gs.length:=hG2.length
   refine AW (b:=false) (P:=fun H'=>H'=H2) (fun N hN=>⟨_,rfl,rfl,_,rfl,hN _ rfl⟩) (fun g=>absurd g (by decide)) (fun _ H5 e=>?_)
   rw[e]
   have hX3:=Gd.app ob2 hv2 hG2 ha2
   refine A5 (fun σ H3=>σ = [some (.ref x),some (.ref a),o2,some (.str "way"),o4] /\ H3 = upd H2 l (.lst (vs2 ++ [.ref a]))) (fun Z hZ=>⟨_,rfl,x,CSayings,dx,_,_,rfl,ob2,clSayings,nSayings_given,Md _ _,.inl ⟨rfl,_,SqL.of hv2⟩,_,rfl,l,_,_,rfl,rfl,hv2,BX (by omega),hZ _ _ ⟨rfl,rfl⟩⟩) ?_
   rintro σ H3 ⟨rfl,rfl⟩
   obtain ⟨ob3,_⟩:=id hX3
   refine ⟨_,rfl,x,CSayings,dx,_,_,rfl,ob3,clSayings,nSayings_given,Md _ _,l,_,rfl,.inl (SqL.of Ab),_,_,rfl,rfl,?_⟩
   have el:(((vs2++[V.ref a]).length:Nat):Int)-1=(gs.length:Int):=by rw[List.length_append,List.length_singleton,hvl2];omega
   dsimp only
   rw[el]
   refine k _ (fun b o e hb=>?_) (hT2.fr (A:=[l]) ((FrL.of (Ak.refl _)).put List.mem_cons_self) fun z hz=>⟨.lst vs2,by rw[List.mem_singleton.mp hz];exact hv2,.inl ⟨_,rfl⟩⟩) hX3
   have hbl:b≠l:=fun z=>hb (by rw[z];exact List.mem_cons_self)
   have hbp:b≠PTopen_pair:=fun z=>hb (by rw[z];exact List.mem_cons_of_mem _ List.mem_cons_self)
   rw[Af hbl]
   refine s2 _ _ ?_
   unfold Bp
   rw[if_neg hbp];exact s1 _ _ e
theorem Jl : Ap (["_law_cell_here","_law_limits","_law_rest","_law_seed","_law_row","_law_limit"]) (["_law_cell_here","_law_limits"]) (Ae B4):=by trivial
theorem Jp {f : Addr} {fd : FuncData} (F : Fun K "_law_draw" "_law_draw" B4 f fd) (B : Bs mg) (T : Gs mg)   : Bv P w K mg base CX0 1 f fd ["_law_cell_here","_law_limits"] (JQ K):= by
 have sc:=Jl
 refine F.ok sc (fun vs H Q E h=>?_) (fun cdv A outer s H vs Q E hr h=>?_)
 ·obtain ⟨c,a,ls,rfl,_⟩:=h;rfl
 ·obtain ⟨c,a,ls,rfl,hS,hL,hlen,k⟩:=h
  refine ⟨_,(Ad (AB (i:=2) sc.nd rfl (Or.inl rfl) (D6 (Ao QB (pv 0) (Ax EN Ai Ai) (AA _)) (pv 0) Ai))
   (Ad (AB (i:=3) sc.nd rfl (Or.inl rfl) (Ax Ca (Ax BD (Ax BC (Ax Ca (pv 0) Ai) Ai) Ai) Ai))
   (Ad (AB (i:=4) sc.nd rfl (Or.inl rfl) (AI Ac))
   (Ad (BZ PassesOwn.never rfl (AN (K:=K) (pv 1)) (An (i:=5) sc.nd rfl (Or.inl rfl))
   (Ad (AB (i:=3) sc.nd rfl (Or.inl rfl) (Ax Ca (Ax BD (Ax BC (Ax Ca (Ax BC (pv 3) (pv 3)) Ai) (Ax BD (pv 3) Ai)) Ai) Ai))
   (Ad (A1 (Hv PySem.F.plainAttrs_list PySem.F.slot_list_append PySem.F.type_list_append CA (pv 4) (Aa (D6 (Ao OX (pv 2) Ai (AA _)) (Ax Ca (pv 2) (pv 5)) (Ax Ca (Ax BD (Ax GT (pv 3) Ai) (Ax BC (Ax Ca (pv 3) Ai) Ai)) (pv 5))) Ac)))
   (Ag (AB (i:=2) sc.nd rfl (Or.inl rfl) (Ax GT (pv 2) (pv 5)))))))
   (Ag (Aq (pv 4))))))),?_⟩
  refine ⟨_,rfl,_,_,rfl,rfl,⟨by decide,by decide,by decide⟩,_,_,rfl,rfl,_,rfl,?_⟩
  refine Qu (fun _=>True) (fun r _=>?_) (fun Q' h=>⟨_,rfl,h _ trivial⟩) (fun Q' h=>h _ trivial)
  refine ⟨_,rfl,_,_,rfl,rfl,p0,_,_,rfl,rfl,Dk ⟨by decide,by decide⟩,_,_,rfl,rfl,_,_,rfl,rfl,p0,?_⟩
  refine ⟨Nat.zero_le _,fun p hp=>?_⟩
  have hS1:SqL K (upd H p (.lst [])) a (ls.map V.int):=(Ak.new hp).seq hS
  refine ⟨_,rfl,a,rfl,⟨_,hS1⟩,Bq (K:=K) (a:=a) (xs:=ls.map V.int) (fun i σ H2=>∃ (r seed:Int) (rs:List Int) (v:Option V),σ=[some (.int c),some (.ref a),some (.int r),some (.int seed),some (.ref p),v]/\0<=seed/\seed<2147483647/\Ak H H2/\H2 p=some (.lst (rs.map V.int))/\Fv (ls.take i) rs)
   ⟨r,_,[],none,rfl,(Lh _ (by decide)).1,(Lh _ (by decide)).2,Ak.new hp,Ab,.nil⟩ (fun i σ H2 _ ⟨_,_,_,_,_,_,_,s2,_,_⟩=>s2.seq hS) ?_ ?_⟩
  ·rintro i y σ H2 hi ⟨r,seed,rs,v,rfl,hs0,hs1,s2,hp2,hD⟩
   obtain ⟨l,rfl,hl,hil⟩:=Nf hi
   have hlim:=hL l (List.mem_of_getElem? hl)
   have hrl:rs.length=i:=by have:=hD.length;rw[List.length_take] at this;omega
   refine ⟨_,rfl,_,rfl,_,_,rfl,rfl,Dk ⟨by omega,by omega⟩,_,_,rfl,rfl,p0,_,rfl,_,_,rfl,rfl,_,_,rfl,rfl,Dk ⟨by omega,by omega⟩,_,_,rfl,rfl,_,_,rfl,rfl,p0,?_⟩
   refine ⟨_,rfl,.inl ⟨rfl,_,SqL.of hp2⟩,_,rfl,_,_,rfl,rfl,_,rfl,?_⟩
   refine Qu (fun q=>0<=q/\q<l) (fun q hq=>?_) (fun Q' h=>⟨_,rfl,_,rfl,_,_,rfl,rfl,hlim.1,h _ (Lh _ hlim.1)⟩)
    (fun Q' h=>⟨_,rfl,_,_,rfl,rfl,⟨by decide,by decide⟩,_,rfl,_,_,rfl,rfl,p0,_,_,rfl,rfl,Dk ⟨by decide,by decide⟩,_,_,rfl,rfl,_,rfl,_,_,rfl,rfl,hlim.1,h _ (Lh _ hlim.1)⟩)
   obtain ⟨q0,q1⟩:=hq
   refine ⟨p,_,_,rfl,rfl,hp2,BX (by rw[ltm];omega),?_⟩
   refine ⟨_,rfl,_,rfl,_,_,rfl,rfl,hlim,?_⟩
   refine ⟨_,_,rs++[q],_,rfl,(Lh _ (by decide)).1,(Lh _ (by decide)).2,s2.put hp,by rw[Ab,Qb],?_⟩
   rw[Aw hl]
   exact La hD q0 q1
  ·rintro σ H2 ⟨r,seed,rs,v,rfl,hs0,hs1,s2,hp2,hD⟩
   rw[ltm,List.take_length] at hD
   exact ⟨_,rfl,k p rs H2 hp s2 hp2 hD⟩
theorem HG : Ap (["_law_cell_here","_law_parts","_law_wide","_law_side","_law_size","_law_found","_law_big","_law_k"]) (["_law_cell_here","_law_parts","_law_wide"]) (Ae BK):=by trivial
theorem EO {f : Addr} {fd : FuncData} {ds : List Value} (F : P6 K "_law_split" "_law_split" BK f fd ds) (B : Bs mg) (T : Gs mg)   : Bv P w K mg base CX0 1 f fd ["_law_cell_here","_law_parts","_law_wide"] Hi:= by
 have sc:=HG
 refine F.ok sc (fun vs H Q E h=>?_) (fun cdv A outer s H vs Q E hr h=>?_)
 ·obtain ⟨c,n,w,rfl,_⟩:=h;rfl
 ·obtain ⟨c,n,wd,rfl,hn0,hn1,hw0,hw2,k⟩:=h
  refine ⟨_,(Ad (AB (i:=3) sc.nd rfl (Or.inl rfl) (Ax BC (Ax EN Ai Ai) (Ax EN Ai Ai)))
   (Ad (AB (i:=4) sc.nd rfl (Or.inl rfl) (AG (Ar (K:=K)) (AI (Aa (Ax EN Ai Ai) (Aa (pv 3) (Aa (Ax BC (Ax BC (Ax BC (pv 3) (pv 3)) (pv 3)) (pv 3)) Ac)))) (pv 2) (fun _ _=>rfl)))
   (Ad (AB (i:=5) sc.nd rfl (Or.inl rfl) (AI Ac))
   (Ad (AB (i:=6) sc.nd rfl (Or.inl rfl) (OD QB (pv 0) (Ax EN Ai Ai) (AA _)))
   (Ad (BZ PassesOwn.never rfl (Fy rfl B.range (Aa (pv 1) Ac)) (An (i:=7) sc.nd rfl (Or.inl rfl))
   (Ag (A2 (Oz (pv 6)) (Ad (A1 (Hv PySem.F.plainAttrs_list PySem.F.slot_list_append PySem.F.type_list_append CA (pv 5) (Aa (Ax BD (Ax EN Ai Ai) (Ax Ca (pv 0) (pv 4))) Ac)))
   (Ag (AB (i:=0) sc.nd rfl (Or.inl rfl) (Ax GT (pv 0) (pv 4))))) (Ag (A1 (Hv PySem.F.plainAttrs_list PySem.F.slot_list_append PySem.F.type_list_append CA (pv 5) (Aa (Ax BD (Ax BC (pv 0) (Ax BD (Ax BC Ai (pv 7)) Ai)) (Ax BC Ai (pv 7))) Ac)))))))
   (Ag (Aq (pv 5)))))))),?_⟩
  refine ⟨_,_,rfl,rfl,⟨by decide,by decide,by decide⟩,_,_,rfl,rfl,⟨by decide,by decide,by decide⟩,_,_,rfl,rfl,Fa (by decide +kernel),?_⟩
  refine ⟨_,_,rfl,rfl,⟨by decide,by decide,by decide⟩,_,rfl,_,rfl,_,rfl,_,_,rfl,rfl,Fa (by decide +kernel),_,rfl,_,_,rfl,rfl,Fa (by decide +kernel),_,rfl,_,_,rfl,rfl,Fa (by decide +kernel),Ah (by decide),fun e he=>?_⟩
  obtain ⟨S,hS,hL⟩ : ∃ S:Int,atI [V.int (10 ^ (30:Int).toNat),V.int (10 ^ (60:Int).toNat*10 ^ (60:Int).toNat),V.int (10 ^ (60:Int).toNat*10 ^ (60:Int).toNat*(10 ^ (60:Int).toNat*10 ^ (60:Int).toNat)*(10 ^ (60:Int).toNat*10 ^ (60:Int).toNat)*(10 ^ (60:Int).toNat*10 ^ (60:Int).toNat))] wd=some (V.int S)/\OJ S:= by
   have:wd=0\/wd=1\/wd=2:=by omega
   rcases this with rfl | rfl | rfl
   ·exact ⟨_,rfl,by decide +kernel,by decide +kernel⟩
   ·exact ⟨_,rfl,by decide +kernel,by decide +kernel⟩
   ·exact ⟨_,rfl,by decide +kernel,by decide +kernel⟩
  refine ⟨_,rfl,e,_,_,_,rfl,rfl,SqL.of Ab,hS,?_⟩
  refine ⟨Nat.zero_le _,fun p hp=>?_⟩
  refine ⟨_,rfl,_,_,rfl,rfl,⟨by decide,by decide,by decide⟩,_,_,rfl,rfl,?_⟩
  have hpH:H p=none:=(Ak.new he).free hp
  refine ⟨_,rfl,_,rfl,by omega,by omega,Ff (lo:=0) (n:=n.toNat) (fun i σ H2=>∃ (c':Int) (rs:List Int) (o:Option V),σ=[some (.int c'),some (.int n),some (.int wd),some (.int (10 ^ (60:Int).toNat*10 ^ (60:Int).toNat)),some (.int S),some (.ref p),some (.bl (decide ((10:Int) ^ (18:Int).toNat<=c))),o]/\Ak H H2/\H2 p=some (.lst (rs.map V.int))/\rs.length=i)
   ⟨c,[],none,rfl,(Ak.new he).new2 hp,Ab,rfl⟩ ?_ ?_⟩
  ·rintro i σ H2 hi ⟨c',rs,o,rfl,s2,hp2,hl⟩
   refine ⟨_,rfl,_,rfl,?_⟩
   refine Lk (fun _=>?_) (fun _=>?_)
   ·refine ⟨_,rfl,.inl ⟨rfl,_,SqL.of hp2⟩,_,_,rfl,rfl,⟨by decide,by decide,by decide⟩,_,rfl,_,rfl,_,_,rfl,rfl,hL.1,_,_,rfl,rfl,p,_,_,rfl,rfl,hp2,BX (by rw[ltm];omega),?_⟩
    refine ⟨_,rfl,_,rfl,_,_,rfl,rfl,hL,?_⟩
    exact ⟨_,rs++[_],_,rfl,s2.put hpH,by rw[Ab,Qb],by rw[List.length_append,hl];rfl⟩
   ·refine ⟨_,rfl,.inl ⟨rfl,_,SqL.of hp2⟩,_,rfl,_,rfl,_,_,rfl,rfl,LD ⟨by decide,by decide⟩,_,_,rfl,rfl,_,_,rfl,rfl,Dk ⟨by omega,by omega⟩,_,rfl,_,_,rfl,rfl,LD ⟨by decide,by decide⟩,_,_,rfl,rfl,p,_,_,rfl,rfl,hp2,BX (by rw[ltm];omega),?_⟩
    exact ⟨_,rs++[_],_,rfl,s2.put hpH,by rw[Ab,Qb],by rw[List.length_append,hl];rfl⟩
  ·rintro σ H2 ⟨c',rs,o,rfl,s2,hp2,hl⟩
   exact ⟨_,rfl,k p rs H2 hpH s2 hp2 hl⟩
theorem K1 : Ap (["_law_cell_here","_law_size","_law_row","_law_word","_law_count_word","_law_near","_law_far","_law_odd_here"]) (["_law_cell_here","_law_size"]) (Ae CG):=by trivial
theorem KG {f : Addr} {fd : FuncData} (F : Fun K "_law_odd" "_law_odd" CG f fd) (B : Bs mg) (T : Gs mg)  (c_law_draw : Cal P w K mg base 1 "_law_draw" [] (JQ K)) : Bv P w K mg base CX0 2 f fd ["_law_cell_here","_law_size"] Lm:= by
 have sc:=K1
 refine F.ok sc (fun vs H Q E h=>?_) (fun cdv A outer s H vs Q E hr h=>?_)
 ·obtain ⟨c,n,rfl,_⟩:=h;rfl
 ·obtain ⟨c,n,rfl,n1,n9,k⟩:=h
  refine ⟨_,(@Ad _ _ _ _ _ (@AB _ _ 2 _ _ _ _ sc.nd rfl (Or.inl rfl) (A7 c_law_draw (hr.mono (by decide)) rfl (@Aa _ _ _ _ _ (pv 0) (@Aa _ _ _ _ _ (@AI _ _ _ _ (@Aa _ _ _ _ _ Ai (@Aa _ _ _ _ _ (Ax EN Ai Ai) (@Aa _ _ _ _ _ Ai (@Aa _ _ _ _ _ Ai (@Aa _ _ _ _ _ Ai Ac rfl) rfl) rfl) rfl) rfl)) Ac rfl) rfl)) rfl (by first | exact .inl rfl | exact .inr rfl))
   (@Ad _ _ _ _ _ (@AB _ _ 3 _ _ _ _ sc.nd rfl (Or.inl rfl) (@AG _ _ _ _ _ _ _ (Ar (K:=K)) (@AI _ _ _ _ (@Aa _ _ _ _ _ Av (@Aa _ _ _ _ _ Av Ac rfl) rfl)) (@AG _ _ _ _ _ _ _ (Ar (K:=K)) (pv 2) Ai (fun _ _=>rfl)) (fun _ _=>rfl)) rfl (by first | exact .inl rfl | exact .inr rfl))
   (@Ad _ _ _ _ _ (@AB _ _ 4 _ _ _ _ sc.nd rfl (Or.inl rfl) (@AG _ _ _ _ _ _ _ (Ar (K:=K)) (@AI _ _ _ _ (@Aa _ _ _ _ _ Av (@Aa _ _ _ _ _ Av Ac rfl) rfl)) (@AG _ _ _ _ _ _ _ (Ar (K:=K)) (pv 2) Ai (fun _ _=>rfl)) (fun _ _=>rfl)) rfl (by first | exact .inl rfl | exact .inr rfl))
   (@Ad _ _ _ _ _ (@AB _ _ 5 _ _ _ _ sc.nd rfl (Or.inl rfl) (Ax Ca (@AG _ _ _ _ _ _ _ (Ar (K:=K)) (pv 2) Ai (fun _ _=>rfl)) (pv 1)) rfl (by first | exact .inl rfl | exact .inr rfl))
   (@Ad _ _ _ _ _ (@AB _ _ 6 _ _ _ _ sc.nd rfl (Or.inl rfl) (@AG _ _ _ _ _ _ _ (Ar (K:=K)) (@AI _ _ _ _ (@Aa _ _ _ _ _ (pv 1) (@Aa _ _ _ _ _ (KN Gx Ai) (@Aa _ _ _ _ _ (Ax BD (pv 1) (@AG _ _ _ _ _ _ _ (Ar (K:=K)) (pv 2) Ai (fun _ _=>rfl))) (@Aa _ _ _ _ _ (Ax ER (KN Gx Ai) (@AG _ _ _ _ _ _ _ (Ar (K:=K)) (pv 2) Ai (fun _ _=>rfl))) Ac rfl) rfl) rfl) rfl)) (Ax Ca (@AG _ _ _ _ _ _ _ (Ar (K:=K)) (pv 2) Ai (fun _ _=>rfl)) Ai) (fun _ _=>rfl)) rfl (by first | exact .inl rfl | exact .inr rfl))
   (@Ad _ _ _ _ _ (@AB _ _ 7 _ _ _ _ sc.nd rfl (Or.inl rfl) (@AI _ _ _ _ (@Aa _ _ _ _ _ (@AD _ _ _ _ _ Ac) (@Aa _ _ _ _ _ (@AD _ _ _ _ _ (@Aa _ _ _ _ _ (@AG _ _ _ _ _ _ _ (Ar (K:=K)) (@AI _ _ _ _ (@Aa _ _ _ _ _ Av (@Aa _ _ _ _ _ Av (@Aa _ _ _ _ _ Av (@Aa _ _ _ _ _ Av Ac rfl) rfl) rfl) rfl)) (Ax Ca (@AG _ _ _ _ _ _ _ (Ar (K:=K)) (pv 2) Ai (fun _ _=>rfl)) Ai) (fun _ _=>rfl)) (@Aa _ _ _ _ _ (pv 5) (@Aa _ _ _ _ _ (pv 6) Ac rfl) rfl) rfl)) (@Aa _ _ _ _ _ (@AD _ _ _ _ _ (@Aa _ _ _ _ _ (pv 3) (@Aa _ _ _ _ _ (pv 5) Ac rfl) rfl)) (@Aa _ _ _ _ _ (@AD _ _ _ _ _ (@Aa _ _ _ _ _ (pv 3) (@Aa _ _ _ _ _ (pv 5) (@Aa _ _ _ _ _ (pv 5) Ac rfl) rfl) rfl)) Ac rfl) rfl) rfl) rfl)) rfl (by first | exact .inl rfl | exact .inr rfl))
   (@Ad _ _ _ _ _ (@A1 _ _ _ _ (Hv PySem.F.plainAttrs_list PySem.F.slot_list_extend PySem.F.type_list_extend HB (pv 7) (@Aa _ _ _ _ _ (@AI _ _ _ _ (@Aa _ _ _ _ _ (@AD _ _ _ _ _ (@Aa _ _ _ _ _ (pv 3) (@Aa _ _ _ _ _ (pv 6) (@Aa _ _ _ _ _ (pv 6) Ac rfl) rfl) rfl)) (@Aa _ _ _ _ _ (@AD _ _ _ _ _ (@Aa _ _ _ _ _ (pv 3) (@Aa _ _ _ _ _ (pv 5) (@Aa _ _ _ _ _ (pv 6) Ac rfl) rfl) rfl)) (@Aa _ _ _ _ _ (@AD _ _ _ _ _ (@Aa _ _ _ _ _ (pv 3) (@Aa _ _ _ _ _ (pv 6) (@Aa _ _ _ _ _ (pv 5) Ac rfl) rfl) rfl)) Ac rfl) rfl) rfl)) Ac rfl)) rfl)
   (@Ad _ _ _ _ _ (@A1 _ _ _ _ (Hv PySem.F.plainAttrs_list PySem.F.slot_list_append PySem.F.type_list_append CA (pv 7) (@Aa _ _ _ _ _ (@AD _ _ _ _ _ (@Aa _ _ _ _ _ (pv 4) (@Aa _ _ _ _ _ (@AG _ _ _ _ _ _ _ (Ar (K:=K)) (@AI _ _ _ _ (@Aa _ _ _ _ _ Ai (@Aa _ _ _ _ _ (Ax BD (pv 1) Ai) (@Aa _ _ _ _ _ (Ax ER (KN Gx Ai) (@AG _ _ _ _ _ _ _ (Ar (K:=K)) (pv 2) Ai (fun _ _=>rfl))) Ac rfl) rfl) rfl)) (Ax Ca (@AG _ _ _ _ _ _ _ (Ar (K:=K)) (pv 2) Ai (fun _ _=>rfl)) Ai) (fun _ _=>rfl)) Ac rfl) rfl)) Ac rfl)) rfl)
   (@Ad _ _ _ _ _ (@A1 _ _ _ _ (Hv PySem.F.plainAttrs_list PySem.F.slot_list_extend PySem.F.type_list_extend HB (pv 7) (@Aa _ _ _ _ _ (@AI _ _ _ _ (@Aa _ _ _ _ _ (@AD _ _ _ _ _ (@Aa _ _ _ _ _ (pv 4) (@Aa _ _ _ _ _ (pv 5) (@Aa _ _ _ _ _ (pv 6) Ac rfl) rfl) rfl)) (@Aa _ _ _ _ _ (@AD _ _ _ _ _ (@Aa _ _ _ _ _ (pv 3) (@Aa _ _ _ _ _ (pv 5) (@Aa _ _ _ _ _ (Ax Ca (Ax BD (pv 5) Ai) (pv 1)) (@Aa _ _ _ _ _ (pv 6) Ac rfl) rfl) rfl) rfl)) Ac rfl) rfl)) Ac rfl)) rfl)
   (@Ag _ _ _ (Aq (@AG _ _ _ _ _ _ _ (Ar (K:=K)) (pv 7) (@AG _ _ _ _ _ _ _ (Ar (K:=K)) (pv 2) Ai (fun _ _=>rfl)) (fun _ _=>rfl))))))))))))),?_⟩
  refine Bz ?_
  refine ⟨_,rfl,_,_,rfl,rfl,⟨by decide,by decide,by decide⟩,Ah (by simp),fun q1 hq1=>⟨c,q1,[10,10 ^ 20,2,9,2],rfl,SqL.of Ab,On (by decide +kernel),by decide,fun row rs H1 _ s1 hrow hD=>?_⟩⟩
  have S1:=(Ak.new (o:=HO.lst [V.int 10,V.int (10 ^ 20),V.int 2,V.int 9,V.int 2]) hq1).trans s1
  clear s1
  obtain ⟨r0,t0,rfl,r00,r09,hD⟩:=hD.uncons
  obtain ⟨r1,t1,rfl,r10,r19,hD⟩:=hD.uncons
  obtain ⟨r2,t2,rfl,r20,r28,hD⟩:=hD.uncons
  obtain ⟨r3,t3,rfl,r30,r39,hD⟩:=hD.uncons
  have a0:atI ((r0::r1::r2::r3::t3).map V.int) 0=some (V.int r0):=B2 (j:=0) rfl rfl
  have a1:atI ((r0::r1::r2::r3::t3).map V.int) 1=some (V.int r1):=B2 (j:=1) rfl rfl
  have a2:atI ((r0::r1::r2::r3::t3).map V.int) 2=some (V.int r2):=B2 (j:=2) rfl rfl
  have a3:atI ((r0::r1::r2::r3::t3).map V.int) 3=some (V.int r3):=B2 (j:=3) rfl rfl
  generalize (r0::r1::r2::r3::t3).map V.int=row9 at hrow a0 a1 a2 a3
  have np:(0:Int)<n:=by omega
  refine Bz ⟨Ah (by simp),fun q2 hq2=>?_⟩
  have s2:=Ak.new (o:=HO.lst [V.str "alike",V.str "unlike"]) hq2
  obtain ⟨wd1,hw,hw2⟩ : ∃ u : Str,atI [V.str "alike",V.str "unlike"] r2 = some (V.str u) /\ (u = "alike" \/ u = "unlike"):= by
   rcases (show r2=0\/r2=1 by omega) with e | e
   ·exact ⟨_,by rw[e];rfl,.inl rfl⟩
   ·exact ⟨_,by rw[e];rfl,.inr rfl⟩
  refine ⟨_,rfl,row,_,_,_,rfl,rfl,SqL.of (s2 _ _ hrow),a2,q2,_,_,_,rfl,rfl,SqL.of Ab,hw,?_⟩
  have S2:=S1.trans s2
  have hR2:=s2 _ _ hrow
  generalize upd H1 q2 (HO.lst [V.str "alike",V.str "unlike"]) = H2 at S2 hR2
  refine Bz ⟨Ah (by simp),fun q3 hq3=>?_⟩
  have s3:=Ak.new (o:=HO.lst [V.str "least",V.str "most"]) hq3
  obtain ⟨cw,hc,hc2⟩ : ∃ u : Str,atI [V.str "least",V.str "most"] r2 = some (V.str u) /\ (u = "least" \/ u = "most"):= by
   rcases (show r2=0\/r2=1 by omega) with e | e
   ·exact ⟨_,by rw[e];rfl,.inl rfl⟩
   ·exact ⟨_,by rw[e];rfl,.inr rfl⟩
  refine ⟨_,rfl,row,_,_,_,rfl,rfl,SqL.of (s3 _ _ hR2),a2,q3,_,_,_,rfl,rfl,SqL.of Ab,hc,?_⟩
  have S3:=S2.trans s3
  have hR3:=s3 _ _ hR2
  generalize upd H2 q3 (HO.lst [V.str "least",V.str "most"]) = H3 at S3 hR3
  refine Bz ⟨_,rfl,row,_,_,_,rfl,rfl,SqL.of hR3,a3,_,rfl,_,_,rfl,rfl,np,?_⟩
  try dsimp only
  have m3:=Lh r3 np
  generalize r3 % (n:Int)=nr at m3
  refine nrm (σ':=[some (.int c),some (.int n),some (.ref row),some (.str wd1),some (.str cw),some (.int nr),none,none]) rfl ?_
  refine Bz ⟨_,rfl,_,rfl,_,rfl,_,rfl,row,_,_,_,rfl,rfl,SqL.of hR3,a1,_,_,rfl,rfl,_,rfl,_,rfl,row,_,_,_,rfl,rfl,SqL.of hR3,a1,_,_,rfl,rfl,Ah (by simp),fun q4 hq4=>?_⟩
  have s4:=Ak.new (o:=HO.lst [V.int n,V.int (-1),V.int (n+r1),V.int (-1-r1)]) hq4
  have m1:=Lh r1 (show (0:Int)<4 by decide)
  obtain ⟨far,hf,hf2⟩ : ∃ z:Int,atI [V.int n,V.int (-1),V.int (n+r1),V.int (-1-r1)] (r1 % 4)=some (V.int z)/\(z<0\/n<=z):= by
   rcases (show r1 % 4=0\/r1 % 4=1\/r1 % 4=2\/r1 % 4=3 by omega) with e | e | e | e
   ·exact ⟨_,by rw[e];rfl,by omega⟩
   ·exact ⟨_,by rw[e];rfl,by omega⟩
   ·exact ⟨_,by rw[e];rfl,by omega⟩
   ·exact ⟨_,by rw[e];rfl,by omega⟩
  refine ⟨_,rfl,row,_,_,_,rfl,rfl,SqL.of (s4 _ _ hR3),a1,_,_,rfl,rfl,p0,q4,_,_,_,rfl,rfl,SqL.of Ab,hf,?_⟩
  have S4:=S3.trans s4
  have hR4:=s4 _ _ hR3
  generalize upd H3 q4 (HO.lst [V.int n,V.int (-1),V.int (n+r1),V.int (-1-r1)])=H4 at S4 hR4
  try dsimp only
  refine nrm (σ':=[some (.int c),some (.int n),some (.ref row),some (.str wd1),some (.str cw),some (.int nr),some (.int far),none]) rfl ?_
  refine Bz ⟨Ah (by simp),fun t1 ht1=>?_⟩
  obtain ⟨H5,e5,s5,S5,hR5,W5⟩:=Co (xs:=[]) none S4 hR4 (.nil:DB H4 [] []) ht1 rfl
  rw[e5]
  refine ⟨Ah (by simp),fun q5 hq5=>?_⟩
  have s6:=Ak.new (o:=HO.lst [V.str "Alike",V.str "same",V.str "",V.str "other"]) hq5
  have m4:=Lh r3 (show (0:Int)<4 by decide)
  obtain ⟨ow,ho,ho1,ho2⟩ : ∃ z : Str,atI [V.str "Alike",V.str "same",V.str "",V.str "other"] (r3 % 4) = some (V.str z) /\ ¬ (z = "alike" \/ z = "unlike") /\ ¬ (z = "least" \/ z = "most"):= by
   rcases (show r3 % 4=0\/r3 % 4=1\/r3 % 4=2\/r3 % 4=3 by omega) with e | e | e | e
   ·exact ⟨_,by rw[e];rfl,by decide +kernel,by decide +kernel⟩
   ·exact ⟨_,by rw[e];rfl,by decide +kernel,by decide +kernel⟩
   ·exact ⟨_,by rw[e];rfl,by decide +kernel,by decide +kernel⟩
   ·exact ⟨_,by rw[e];rfl,by decide +kernel,by decide +kernel⟩
  refine ⟨_,rfl,row,_,_,_,rfl,rfl,SqL.of (s6 _ _ hR5),a3,_,_,rfl,rfl,p0,q5,_,_,_,rfl,rfl,SqL.of Ab,ho,_,rfl,_,rfl,Ah (by simp),fun t2 ht2=>?_⟩
  have S6:=S5.trans s6
  have hR6:=s6 _ _ hR5
  have W6:=W5.same s6
  generalize upd H5 q5 (HO.lst [V.str "Alike",V.str "same",V.str "",V.str "other"]) = H6 at S6 hR6 W6 ht2
  obtain ⟨H7,e7,s7,S7,hR7,W7⟩:=Co (xs:=[V.str ow,V.int nr,V.int far]) (some (ow,[nr,far])) S6 hR6 W6 ht2 rfl
  try dsimp only
  rw[e7]
  refine ⟨_,rfl,_,rfl,Ah (by simp),fun t3 ht3=>?_⟩
  obtain ⟨H8,e8,s8,S8,hR8,W8⟩:=Co (xs:=[V.str wd1,V.int nr]) (some (wd1,[nr])) S7 hR7 W7 ht3 rfl
  try dsimp only
  rw[e8]
  refine ⟨_,rfl,_,rfl,_,rfl,Ah (by simp),fun t4 ht4=>?_⟩
  obtain ⟨H9,e9,s9,S9,hR9,W9⟩:=Co (xs:=[V.str wd1,V.int nr,V.int nr]) (some (wd1,[nr,nr])) S8 hR8 W8 ht4 rfl
  try dsimp only
  rw[e9]
  refine ⟨Ah (by simp),fun b hb=>?_⟩
  have hb0:H b=none:=S9.free hb
  have nb:row≠b:=fun z=>by rw[z,hb] at hR9;cases hR9
  have s10:=Ak.new (o:=HO.lst [V.ref t1,V.ref t2,V.ref t3,V.ref t4]) hb
  have S10:=S9.trans s10
  have hR10:=s10 _ _ hR9
  have W10:=W9.same s10
  have hb10:upd H9 b (HO.lst [V.ref t1,V.ref t2,V.ref t3,V.ref t4]) b=some (.lst [V.ref t1,V.ref t2,V.ref t3,V.ref t4]):=Ab
  generalize upd H9 b (HO.lst [V.ref t1,V.ref t2,V.ref t3,V.ref t4])=H10 at S10 hR10 W10 hb10
  try dsimp only
  refine nrm (σ':=[some (.int c),some (.int n),some (.ref row),some (.str wd1),some (.str cw),some (.int nr),some (.int far),some (.ref b)]) rfl ?_
  refine A5 (fun σ H2=>∃ t5 t6 t7,σ=[some (.int c),some (.int n),some (.ref row),some (.str wd1),some (.str cw),some (.int nr),some (.int far),some (.ref b)]/\Ak H H2/\H2 row=some (.lst row9)/\DB H2 ([t1,t2,t3,t4]++[t5]++[t6]++[t7]) ([none,some (ow,[nr,far]),some (wd1,[nr]),some (wd1,[nr,nr])]++[some (wd1,[far,far])]++[some (wd1,[nr,far])]++[some (wd1,[far,nr])])/\H2 b=some (.lst [V.ref t1,V.ref t2,V.ref t3,V.ref t4,V.ref t5,V.ref t6,V.ref t7])) (fun Z hZ=>?_) ?_
  ·refine ⟨_,rfl,.inl ⟨rfl,_,SqL.of hb10⟩,?_⟩
   refine ⟨_,rfl,_,rfl,_,rfl,Ah (by simp),fun t5 ht5=>?_⟩
   obtain ⟨H11,e11,s11,S11,hR11,W11⟩:=Co (xs:=[V.str wd1,V.int far,V.int far]) (some (wd1,[far,far])) S10 hR10 W10 ht5 rfl
   try dsimp only
   rw[e11]
   refine ⟨_,rfl,_,rfl,_,rfl,Ah (by simp),fun t6 ht6=>?_⟩
   obtain ⟨H12,e12,s12,S12,hR12,W12⟩:=Co (xs:=[V.str wd1,V.int nr,V.int far]) (some (wd1,[nr,far])) S11 hR11 W11 ht6 rfl
   try dsimp only
   rw[e12]
   refine ⟨_,rfl,_,rfl,_,rfl,Ah (by simp),fun t7 ht7=>?_⟩
   obtain ⟨H13,e13,s13,S13,hR13,W13⟩:=Co (xs:=[V.str wd1,V.int far,V.int nr]) (some (wd1,[far,nr])) S12 hR12 W12 ht7 rfl
   try dsimp only
   rw[e13]
   have hb13:=s13 _ _ (s12 _ _ (s11 _ _ hb10))
   refine ⟨Ah (by simp),fun q6 hq6=>?_⟩
   have s14:=Ak.new (o:=HO.lst [V.ref t5,V.ref t6,V.ref t7]) hq6
   refine ⟨b,q6,_,_,rfl,rfl,s14 _ _ hb13,Ab,Ah (by simp),?_⟩
   obtain ⟨H15,e15,S15,hR15,W15,hb15⟩:=IQ ([V.ref t1,V.ref t2,V.ref t3,V.ref t4]++[V.ref t5,V.ref t6,V.ref t7]) (S13.trans s14) hb0 (s14 _ _ hb13) (s14 _ _ hR13) nb (W13.same s14)
   rw[e15]
   exact hZ _ _ ⟨t5,t6,t7,rfl,S15,hR15,W15,hb15⟩
  rintro σ H16 ⟨t5,t6,t7,rfl,S16,hR16,W16,hb16⟩
  refine A5 (fun σ H2=>∃ t8 kk,σ=[some (.int c),some (.int n),some (.ref row),some (.str wd1),some (.str cw),some (.int nr),some (.int far),some (.ref b)]/\Ak H H2/\H2 row=some (.lst row9)/\(kk<1\/(n:Int)<kk)/\DB H2 ([t1,t2,t3,t4]++[t5]++[t6]++[t7]++[t8]) ([none,some (ow,[nr,far]),some (wd1,[nr]),some (wd1,[nr,nr])]++[some (wd1,[far,far])]++[some (wd1,[nr,far])]++[some (wd1,[far,nr])]++[some (cw,[kk])])/\H2 b=some (.lst [V.ref t1,V.ref t2,V.ref t3,V.ref t4,V.ref t5,V.ref t6,V.ref t7,V.ref t8])) (fun Z hZ=>?_) ?_
  ·refine ⟨_,rfl,.inl ⟨rfl,_,SqL.of hb16⟩,?_⟩
   refine ⟨_,rfl,_,rfl,_,_,rfl,rfl,_,rfl,_,rfl,row,_,_,_,rfl,rfl,SqL.of hR16,a1,_,_,rfl,rfl,Ah (by simp),fun q7 hq7=>?_⟩
   have s17:=Ak.new (o:=HO.lst [V.int 0,V.int (n+1),V.int (-1-r1)]) hq7
   have m5:=Lh r3 (show (0:Int)<3 by decide)
   obtain ⟨kk,hk,hk2⟩ : ∃ z:Int,atI [V.int 0,V.int (n+1),V.int (-1-r1)] (r3 % 3)=some (V.int z)/\(z<1\/(n:Int)<z):= by
    rcases (show r3 % 3=0\/r3 % 3=1\/r3 % 3=2 by omega) with e | e | e
    ·exact ⟨_,by rw[e];rfl,by omega⟩
    ·exact ⟨_,by rw[e];rfl,by omega⟩
    ·exact ⟨_,by rw[e];rfl,by omega⟩
   refine ⟨_,rfl,row,_,_,_,rfl,rfl,SqL.of (s17 _ _ hR16),a3,_,_,rfl,rfl,p0,q7,_,_,_,rfl,rfl,SqL.of Ab,hk,Ah (by simp),fun t8 ht8=>?_⟩
   have S17:=S16.trans s17
   have hR17:=s17 _ _ hR16
   have hb17:=s17 _ _ hb16
   have W17:=W16.same s17
   obtain ⟨H18,e18,s18,S18,hR18,W18⟩:=Co (xs:=[V.str cw,V.int kk]) (some (cw,[kk])) S17 hR17 W17 ht8 rfl
   try dsimp only
   rw[e18]
   refine ⟨b,_,_,rfl,rfl,s18 _ _ hb17,BX (by simp),?_⟩
   obtain ⟨H15,e15,S15,hR15,W15,hb15⟩:=IQ ([V.ref t1,V.ref t2,V.ref t3,V.ref t4,V.ref t5,V.ref t6,V.ref t7]++[V.ref t8]) S18 hb0 (s18 _ _ hb17) hR18 nb W18
   rw[e15]
   exact hZ _ _ ⟨t8,kk,rfl,S15,hR15,hk2,W15,hb15⟩
  rintro σ H19 ⟨t8,kk,rfl,S19,hR19,hk2,W19,hb19⟩
  refine A5 (fun σ H2=>∃ t9 ta,σ=[some (.int c),some (.int n),some (.ref row),some (.str wd1),some (.str cw),some (.int nr),some (.int far),some (.ref b)]/\Ak H H2/\H2 row=some (.lst row9)/\DB H2 ([t1,t2,t3,t4]++[t5]++[t6]++[t7]++[t8]++[t9]++[ta]) (RJ ow wd1 cw nr far kk ((nr+1) % n))/\H2 b=some (.lst ([t1,t2,t3,t4,t5,t6,t7,t8,t9,ta].map V.ref))) (fun Z hZ=>?_) ?_
  ·refine ⟨_,rfl,.inl ⟨rfl,_,SqL.of hb19⟩,?_⟩
   refine ⟨_,rfl,_,rfl,_,rfl,Ah (by simp),fun t9 ht9=>?_⟩
   obtain ⟨H20,e20,s20,S20,hR20,W20⟩:=Co (xs:=[V.str cw,V.int nr,V.int far]) (some (cw,[nr,far])) S19 hR19 W19 ht9 rfl
   try dsimp only
   rw[e20]
   refine ⟨_,rfl,_,rfl,_,rfl,_,_,rfl,rfl,_,rfl,_,_,rfl,rfl,np,_,rfl,Ah (by simp),fun ta hta=>?_⟩
   obtain ⟨H21,e21,s21,S21,hR21,W21⟩:=Co (xs:=[V.str wd1,V.int nr,V.int ((nr+1) % n),V.int far]) (some (wd1,[nr,(nr+1) % n,far])) S20 hR20 W20 hta rfl
   try dsimp only
   rw[e21]
   have hb21:=s21 _ _ (s20 _ _ hb19)
   refine ⟨Ah (by simp),fun q8 hq8=>?_⟩
   have s22:=Ak.new (o:=HO.lst [V.ref t9,V.ref ta]) hq8
   refine ⟨b,q8,_,_,rfl,rfl,s22 _ _ hb21,Ab,Ah (by simp),?_⟩
   obtain ⟨H15,e15,S15,hR15,W15,hb15⟩:=IQ ([V.ref t1,V.ref t2,V.ref t3,V.ref t4,V.ref t5,V.ref t6,V.ref t7,V.ref t8]++[V.ref t9,V.ref ta]) (S21.trans s22) hb0 (s22 _ _ hb21) (s22 _ _ hR21) nb (W21.same s22)
   rw[e15]
   exact hZ _ _ ⟨t9,ta,rfl,S15,hR15,W15,hb15⟩
  rintro σ H23 ⟨t9,ta,rfl,S23,hR23,W23,hb23⟩
  have hdue:=PM (n:=n) (b:=(nr+1) % n) ho1 ho2 hw2 hc2 hf2 hk2 m3
  obtain ⟨t,r,h1,h2,h3⟩:=L3 W23 (k:=r0.toNat) (by show _<10;omega)
  have ha:atI ([t1,t2,t3,t4,t5,t6,t7,t8,t9,ta].map V.ref) r0=some (V.ref t):= by
   have:=Ph h1
   rw[Int.toNat_of_nonneg r00] at this
   exact this
  exact ⟨_,rfl,_,rfl,row,_,_,_,rfl,rfl,SqL.of hR23,a0,b,_,_,_,rfl,rfl,SqL.of hb23,ha,k t r _ S23 h3 (hdue r (List.mem_of_getElem? h2))⟩
theorem KZ : Ap (["_law_size","_law_sayings","_law_saying","_law_word"]) (["_law_size","_law_sayings"]) (Ae Cy):=by trivial
theorem Lb {f : Addr} {fd : FuncData} (F : Fun K "_law_due" "_law_due" Cy f fd) (B : Bs mg) (T : Gs mg)   : Bv P w K mg base CX0 1 f fd ["_law_size","_law_sayings"] (JL K):= by
 have sc:=KZ
 refine F.ok sc (fun vs H Q E h=>?_) (fun cdv A outer s H vs Q E hr h=>?_)
 ·obtain ⟨n,b,as,rs,rfl,_⟩:=h;rfl
 ·obtain ⟨n,b,as,rs,rfl,hb,hR,hw,k0,k⟩:=h
  refine ⟨_,(@Ad _ _ _ _ _ (A2 (EJ (CH D7 D7 Ai (pv 0) Ai)) (Ag (Aq (AI (Aa Av Ac)))) Az)
   (@Ad _ _ _ _ _ (BZ PassesOwn.never rfl (AN (K:=K) (pv 1)) (An (i:=2) sc.nd rfl (Or.inl rfl))
   (@Ad _ _ _ _ _ (AB (i:=3) sc.nd rfl (Or.inl rfl) (D6 (Ao OX (As (Br (K:=K)) (by rfl) B.len PyProof.Rows.Boot.«len» (Aa (pv 2) Ac)) Ai (AA _)) (AG (AU (K:=K)) (pv 2) Ai (fun _ _=>rfl)) Av))
   (Ag (A2 (Ao (Ov (K:=K)) (pv 3) (AI (Aa Av (Aa Av Ac))) rfl) (Ag (A2 (PW.pt (HL (Ao MN (As (Br (K:=K)) (by rfl) B.len PyProof.Rows.Boot.«len» (Aa (pv 2) Ac)) Ai (AA _)) (GL (EJ (CH D7 D7 Ai (AG (AU (K:=K)) (pv 2) Ai (fun _ _=>rfl)) (pv 0)))))) (Ag (Aq (AI (Aa Av Ac)))) Az)) (Ag (A2 (PW.pt (HL (Ao (Ii (K:=K)) (pv 3) (AI (Aa Av (Aa Av Ac))) rfl) (HL (Ao MN (As (Br (K:=K)) (by rfl) B.len PyProof.Rows.Boot.«len» (Aa (pv 2) Ac)) Ai (AA _)) (GL (Ao Cq (AG (AU (K:=K)) (pv 2) Ai (fun _ _=>rfl)) (AG (AU (K:=K)) (pv 2) Ai (fun _ _=>rfl)) (AA _)))))) (Ag (Aq (AI (Aa Av Ac)))) (Ag (A2 (EJ (Mz D7 D7 Lc Ai (As (O7 (K:=K)) (by rfl) B.min PyProof.Rows.Boot.«min» (Aa (Cm (JA (K:=K)) (pv 2) (Dp Ai) Dm) Ac)) (As (QP (K:=K)) (by rfl) B.max PyProof.Rows.Boot.«max» (Aa (Cm (JA (K:=K)) (pv 2) (Dp Ai) Dm) Ac)) (pv 0))) (Ag (Aq (AI (Aa Av Ac)))) Az))))))))
   (Ag (Aq Da)))),?_⟩
  have hal:as.length=rs.length:=hR.length
  refine AW (b:=!(decide (1<=n)&&decide (n<=9))) (P:=fun H'=>H'=H) (fun N hN=>Op (x:=n) (H':=H) (fun Q' h'=>⟨_,rfl,h'⟩) (hN _ rfl)) (fun g H5 e=>?_) (fun g H5 e=>?_)
  ·rw[e]
   have hn : ¬ (1<=n/\n<=9):=fun z=>by rw[decide_eq_true z.1,decide_eq_true z.2] at g;simp at g
   have e3:rdS n rs=3:=if_neg hn
   rw[e3] at k
   exact ⟨Ah (by simp),fun t ht=>k (by decide) t _ (Ak.new ht) ht Ab⟩
  rw[e];clear e H5
  have g:=nF g
  rw[Bool.and_eq_true] at g
  have hn:1<=n/\n<=9:=⟨of_decide_eq_true g.1,of_decide_eq_true g.2⟩
  have e0:rdS n rs=Kd n rs:=if_pos hn
  rw[e0] at k0 k
  refine A5 (fun σ H4=>Ak H H4/\Kd n rs=0) (fun Z hZ=>?_) ?_
  ·refine ⟨_,rfl,b,rfl,⟨_,hb⟩,Bq (K:=K) (a:=b) (xs:=as.map V.ref) (fun q σ H4=>∃ o2 o3:Option V,σ=[some (.int n),some (.ref b),o2,o3]/\Ak H H4 /\ ∀ r ∈ rs.take q,B8 n r=0) ⟨none,none,rfl,Ak.refl _,fun r hr=>by simp at hr⟩ (fun q σ H4 _ ⟨_,_,_,e,_⟩=>e.seq hb) ?_ ?_⟩
   ·rintro q y σ H4 hm ⟨o2,o3,rfl,s4,hz⟩
    obtain ⟨a,rfl,ham,hml⟩:=CW hm
    obtain ⟨r,hr4,hrm⟩:=Ay hR ham
    have hr4:=s4 _ _ hr4
    have ret : ∀ d:Nat,B8 n r=d->d≠0 -> ∀ H5 t,Ak H4 H5->H5 t=none->Q (.ref t) (upd H5 t (.lst [.str (rdW d)])):=fun d ed hd H5 t s5 ht=>by
     rw[Fm hrm hz (by rw[ed];exact hd),ed] at k
     exact k hd t _ ((s4.trans s5).new2 ht) ((s4.trans s5).free ht) Ab
    have go:B8 n r=0 -> ∀ (v3:V) (H5:Hp),Ak H4 H5 -> ∃ o2 o3:Option V,[some (V.int n),some (.ref b),some (.ref a),some v3]=[some (.int n),some (.ref b),o2,o3]/\Ak H H5 /\ ∀ r ∈ rs.take (q+1),B8 n r=0:=fun h0 v3 H5 s5=>⟨_,_,rfl,s4.trans s5,fun r' hr'=>by
     rw[Aw hrm] at hr'
     rcases List.mem_append.mp hr' with hr' | hr'
     ·exact hz r' hr'
     ·rw[List.mem_singleton.mp hr'];exact h0⟩
    rcases r with _ | ⟨w,xs⟩
    ·refine Bz ⟨_,rfl,a,_,rfl,.inr (SqT.of hr4),_,_,rfl,rfl,_,rfl,Lf (by decide) ?_⟩
     try dsimp only
     refine nrm (σ':=[some (.int n),some (.ref b),some (.ref a),some (.str "none")]) rfl ?_
     refine Na (b:=false) (P:=fun H5=>Ak H4 H5) (fun N hN=>?_) (fun g=>by cases g) (fun _ H5 s5=>?_)
     ·refine ⟨_,rfl,Ah (by simp),fun p hp=>⟨p,_,rfl,.inl (SqL.of Ab),rfl,rfl,_,rfl,?_⟩⟩
      rw[show (if false = true then !inV (V.str "none") [V.str "least",V.str "most"] else inV (V.str "none") [V.str "least",V.str "most"]) = false by decide +kernel]
      exact hN _ (Ak.new hp)
     refine Na (b:=true) (P:=fun H6=>Ak H4 H6) (fun N hN=>?_) (fun _ H6 s6=>?_) (fun g=>by cases g)
     ·refine ⟨_,rfl,Ah (by simp),fun p hp=>⟨p,_,rfl,.inl (SqL.of Ab),rfl,rfl,_,rfl,?_⟩⟩
      rw[show (if true = true then !inV (V.str "none") [V.str "alike",V.str "unlike"] else inV (V.str "none") [V.str "alike",V.str "unlike"]) = true by decide +kernel]
      exact FY (hN _ (s5.new2 hp))
     exact ⟨Ah (by simp),fun t ht=>ret 1 rfl (by decide) H6 t s6 ht⟩
    have hlen:(Le (some (w,xs))).length=xs.length+1:=by simp [Le]
    have a0:atI (Le (some (w,xs))) 0=some (.str w):=Es (j:=0) rfl
    refine Bz ⟨_,rfl,a,_,rfl,.inr (SqT.of hr4),_,_,rfl,rfl,_,rfl,P5 (by rw[hlen];omega) ⟨_,rfl,a,_,_,_,rfl,rfl,SqT.of hr4,a0,?_⟩⟩
    try dsimp only
    refine nrm (σ':=[some (.int n),some (.ref b),some (.ref a),some (.str w)]) rfl ?_
    by_cases h1 : w = "least" \/ w = "most"
    ·refine Na (b:=true) (P:=fun H5=>Ak H4 H5) (fun N hN=>?_) (fun _ H5 s5=>?_) (fun g=>by cases g)
     ·refine ⟨_,rfl,Ah (by simp),fun p hp=>⟨p,_,rfl,.inl (SqL.of Ab),rfl,rfl,_,rfl,?_⟩⟩
      rw[if_neg (by decide),Hb,decide_eq_true h1]
      exact hN _ (Ak.new hp)
     have hr5:=s5 _ _ hr4
     have e1:=RD (n:=n) (xs:=xs) h1
     refine Oc (b:=B8 n (some (w,xs))==1) (P:=fun H6=>H6=H5) (fun N hN=>?_) (fun g H6 e=>?_) (fun g H6 e=>?_)
     ·have hN:=hN H5 rfl
      rw[e1] at hN
      refine ⟨_,rfl,a,_,rfl,.inr (SqT.of hr5),rfl,_,rfl,?_⟩
      rw[hlen]
      match xs,hN,hr5 with
      | [],hN,hr5=>exact FY hN
      | [k1],hN,hr5=>
       refine FT (Qn (x:=k1) (hi:=n) (fun Q' h'=>⟨_,rfl,a,_,_,_,rfl,rfl,SqT.of hr5,rfl,h'⟩) (fun Q' h'=>⟨_,rfl,h'⟩) ?_)
       dsimp only at hN ⊢
       by_cases c1:1<=k1/\k1<=n
       ·rw[if_pos c1] at hN
        rw[decide_eq_true c1.1,decide_eq_true c1.2];exact hN
       ·rw[if_neg c1] at hN
        rw[show (!(decide (1<=k1)&&decide (k1<=n)))=true by rw[<- Bool.decide_and,decide_eq_false c1];rfl];exact hN
      | k1::k2::ks,hN,hr5=>
       exact Qh (fun z=>by have:=V.int.inj z;simp at this;omega) hN
     ·rw[e]
      exact ⟨Ah (by simp),fun t ht=>ret 1 (eq_of_beq g) (by decide) H5 t s5 ht⟩
     ·rw[e]
      refine go ?_ _ H5 s5
      rcases Ht n (some (w,xs)) with h0 | h0 | h0
      ·exact h0
      ·exact absurd h0 (by simpa using g)
      ·rw[e1] at h0
       exfalso
       revert h0
       split
       ·split <;> decide
       ·decide
    refine Na (b:=false) (P:=fun H5=>Ak H4 H5) (fun N hN=>?_) (fun g=>by cases g) (fun _ H5 s5=>?_)
    ·refine ⟨_,rfl,Ah (by simp),fun p hp=>⟨p,_,rfl,.inl (SqL.of Ab),rfl,rfl,_,rfl,?_⟩⟩
     rw[if_neg (by decide),Hb,decide_eq_false h1]
     exact hN _ (Ak.new hp)
    have hr5:=s5 _ _ hr4
    by_cases h2 : w = "alike" \/ w = "unlike"
    ·have e1:=OU (n:=n) (xs:=xs) h2
     refine Na (b:=B8 n (some (w,xs))==1) (P:=fun H6=>Ak H5 H6) (fun N hN=>?_) (fun g H6 s6=>?_) (fun g H6 s6=>?_)
     ·rw[e1] at hN
      refine ⟨_,rfl,Ah (by simp),fun p hp=>⟨p,_,rfl,.inl (SqL.of Ab),rfl,rfl,_,rfl,?_⟩⟩
      have s6:=Ak.new (o:=HO.lst [V.str "alike",V.str "unlike"]) hp
      have hN:=hN _ s6
      rw[if_pos rfl,Hb,decide_eq_true h2]
      refine FT ⟨_,rfl,a,_,rfl,.inr (SqT.of (s6 _ _ hr5)),rfl,_,rfl,?_⟩
      rw[hlen]
      match xs,hN,hr5 with
      | [],hN,hr5=>exact FY hN
      | [i],hN,hr5=>exact FY hN
      | [i,j],hN,hr5=>
       refine FT ⟨_,rfl,a,_,_,_,rfl,rfl,SqT.of (s6 _ _ hr5),rfl,_,rfl,a,_,_,_,rfl,rfl,SqT.of (s6 _ _ hr5),rfl,rfl,_,rfl,?_⟩
       rw[Lp]
       dsimp only at hN
       by_cases c1:i=j
       ·rw[if_pos c1] at hN
        rw[decide_eq_true c1];exact hN
       ·rw[if_neg c1] at hN
        rw[decide_eq_false c1]
        split at hN <;> exact hN
      | i::j::k2::ks,hN,hr5=>
       exact Qh (fun z=>by have:=V.int.inj z;simp at this;omega) hN
     ·exact ⟨Ah (by simp),fun t ht=>ret 1 (eq_of_beq g) (by decide) H6 t (s5.trans s6) ht⟩
     have g : ¬ B8 n (some (w,xs))=1:=by simpa using g
     rw[e1] at g
     have hr6:=s6 _ _ hr5
     match xs,g,hr6,e1,ret,go with
     | [],g,_,_,_,_=>exact absurd rfl g
     | [i],g,_,_,_,_=>exact absurd rfl g
     | i::j::k2::ks,g,_,_,_,_=>exact absurd rfl g
     | [i,j],g,hr6,e1,ret,go=>
      dsimp only at g e1
      have ij:i≠j:=fun z=>g (if_pos z)
      rw[if_neg ij] at e1
      refine Oc (b:=!decide ((0<=i/\i<n)/\(0<=j/\j<n))) (P:=fun H7=>Ak H6 H7) (fun N hN=>?_) (fun g H7 s7=>?_) (fun g H7 s7=>?_)
      ·refine ⟨_,rfl,_,rfl,a,_,rfl,SqT.of hr6,fun p H7 s7 hp=>⟨p,[i,j],rfl,.inr hp,by simp,fun m hm=>⟨_,_,rfl,rfl,_,rfl,Lk (fun c1=>?_) (fun c1=>?_)⟩⟩⟩
       ·refine ⟨_,rfl,_,rfl,a,_,rfl,SqT.of (s7 _ _ hr6),fun p2 H8 s8 hp2=>⟨p2,[i,j],rfl,.inr hp2,by simp,fun M hM=>⟨_,_,rfl,rfl,_,rfl,P5 ?_ ⟨_,rfl,_,_,rfl,rfl,_,rfl,?_⟩⟩⟩⟩
        ·exact hm.2 _ hM.1
        have c1:=of_decide_eq_true c1
        have ei:(decide (M<n))=decide ((0<=i/\i<n)/\(0<=j/\j<n)):= by
         have a1:=hm.2 i (by simp)
         have a2:=hm.2 j (by simp)
         have b1:=hM.2 i (by simp)
         have b2:=hM.2 j (by simp)
         have b3:=hM.1
         simp only [List.mem_cons,List.not_mem_nil,or_false] at b3
         exact decide_eq_decide.mpr (by omega)
        dsimp only
        rw[ei]
        exact hN _ (s7.trans s8)
       ·have c1 : ¬ (0:Int)<=m:=fun z=>c1 (decide_eq_true z)
        refine ⟨_,rfl,?_⟩
        have:=hN _ s7
        rw[decide_eq_false (show ¬ ((0<=i/\i<n)/\(0<=j/\j<n)) from fun z=>by
         have b3:=hm.1
         simp only [List.mem_cons,List.not_mem_nil,or_false] at b3
         omega)] at this
        exact this
      ·rw[if_neg (fun z=>by rw[decide_eq_true z] at g;cases g)] at e1
       exact ⟨Ah (by simp),fun t ht=>ret 2 e1 (by decide) H7 t (s5.trans (s6.trans s7)) ht⟩
      ·rw[if_pos (of_decide_eq_true (nF g))] at e1
       exact go e1 _ H7 (s5.trans (s6.trans s7))
    ·refine Na (b:=true) (P:=fun H6=>Ak H4 H6) (fun N hN=>?_) (fun _ H6 s6=>?_) (fun g=>by cases g)
     ·refine ⟨_,rfl,Ah (by simp),fun p hp=>⟨p,_,rfl,.inl (SqL.of Ab),rfl,rfl,_,rfl,?_⟩⟩
      rw[if_pos rfl,Hb,decide_eq_false h2]
      exact FY (hN _ (s5.new2 hp))
     exact ⟨Ah (by simp),fun t ht=>ret 1 (Sn h2 h1) (by decide) H6 t s6 ht⟩
   ·rintro σ H4 ⟨o2,o3,rfl,s4,hz⟩
    rw[List.length_map,hal,List.take_length] at hz
    exact hZ _ _ ⟨s4,Fi hz⟩
  rintro σ H4 ⟨s4,hz⟩
  exact k0 hz _ s4
theorem EW : Ap (["_law_said","_law_saying"]) (["_law_said","_law_saying"]) (Ae A3):=by trivial
theorem ET {f : Addr} {fd : FuncData} (F : Fun K "_law_tried_one" "_law_tried_one" A3 f fd) (B : Bs mg) (T : Gs mg) (mBadSaying : mg "BadSaying" = some (.ref CBadSaying)) (qBadSaying : PySem.W.excIn K CBadSaying bmV "ValueError.__new__" = true) (mNoCenser : mg "NoCenser" = some (.ref CNoCenser)) (qNoCenser : PySem.W.excIn K CNoCenser bmV "ValueError.__new__" = true) (nNoCenserBadSaying : PySem.W.exmOne K (.ref CNoCenser) (.ref CBadSaying) = some false) (clSayings : Cls K CSayings) (cSayings_say : Jr P w K mg base CSayings 61 "say" (Li K CSayings CBadSaying CNoCenser PTopen_pair)) : Bv P w K mg base CX0 62 f fd ["_law_said","_law_saying"] (Pj K CSayings PTopen_pair):= by
 have sc:=EW
 refine F.ok sc (fun vs H Q E h=>?_) (fun cdv A outer s H vs Q E hr h=>?_)
 ·obtain ⟨x,dx,l,n,gs,a,r,rfl,_⟩:=h;rfl
 ·obtain ⟨x,dx,l,n,gs,a,r,rfl,hX,n1,n9,hgs,hgl,ha,hTab,hd,k⟩:=h
  refine ⟨_,(Ag (OZ rfl rfl rfl rfl mBadSaying qBadSaying rfl mNoCenser qNoCenser nNoCenserBadSaying (fun _ _=>(Ag (Aq (E8 cSayings_say clSayings (hr.mono (by decide)) JM (pv 0) (Aa (pv 1) Ac))))) (fun _ _=>(Ag (Aq (AI (Aa Av Ac))))) (fun _ _=>(Ag (Aq (AI (Aa Av Ac))))))),?_⟩
  have no9 : ∀ m l9,(saF m l9).lookup ("say" : Str) = none:=fun m l9=>Ej _ _ (by decide +kernel) (by decide +kernel)
  refine ⟨_,rfl,x,dx,_,rfl,hX.ob,no9 _ _,_,rfl,x,dx,l,n,gs,a,r,rfl,hX,n1,n9,hgs,hgl,ha,hTab,.inl ⟨hd,?_⟩⟩
  rcases Ht n r with h0 | h0 | h0
  ·exact absurd h0 hd
  ·rw[h0] at k ⊢
   exact .inl ⟨rfl,Ah (by simp),fun t ht=>k t ht⟩
  ·rw[h0] at k ⊢
   exact .inr ⟨rfl,Ah (by simp),fun t ht=>k t ht⟩
theorem Ib : Ap (["_law_size","_law_sayings","_law_turn","_law_said","_law_saying"]) (["_law_size","_law_sayings","_law_turn"]) (Ae BR):=by trivial
theorem Io {f : Addr} {fd : FuncData} (F : Fun K "_law_tried" "_law_tried" BR f fd) (B : Bs mg) (T : Gs mg) (mBadMany : mg "BadMany" = some (.ref CBadMany)) (qBadMany : PySem.W.excIn K CBadMany bmV "ValueError.__new__" = true) (mBadSaying : mg "BadSaying" = some (.ref CBadSaying)) (qBadSaying : PySem.W.excIn K CBadSaying bmV "ValueError.__new__" = true) (mNoCenser : mg "NoCenser" = some (.ref CNoCenser)) (qNoCenser : PySem.W.excIn K CNoCenser bmV "ValueError.__new__" = true) (nBadSayingBadMany : PySem.W.exmOne K (.ref CBadSaying) (.ref CBadMany) = some false) (nNoCenserBadMany : PySem.W.exmOne K (.ref CNoCenser) (.ref CBadMany) = some false) (nNoCenserBadSaying : PySem.W.exmOne K (.ref CNoCenser) (.ref CBadSaying) = some false) (clSayings : Cls K CSayings) (kSayings : Oa P w K mg base CSayings 2 "Sayings" (N2 K CSayings CBadMany)) (cSayings_say : Jr P w K mg base CSayings 61 "say" (Li K CSayings CBadSaying CNoCenser PTopen_pair)) (csettled : GU P w K mg base 59 "settled" [] (NI K CBadMany CBadSaying CNoCenser PTopen_pair)) (cshows : GU P w K mg base 59 "shows" [] (Pz K CBadMany CBadSaying CNoCenser)) : Bv P w K mg base CX0 62 f fd ["_law_size","_law_sayings","_law_turn"] (PD K PTopen_pair):= by
 have sc:=Ib
 refine F.ok sc (fun vs H Q E h=>?_) (fun cdv A outer s H vs Q E hr h=>?_)
 ·obtain ⟨n,b,as,rs,i,rfl,_⟩:=h;rfl
 ·obtain ⟨n,b,as,rs,i,rfl,i0,i2,hb,hR,hl,hd,hO,hTab,k⟩:=h
  refine ⟨_,(Ag (Of rfl rfl rfl rfl mBadMany qBadMany rfl mBadSaying qBadSaying rfl mNoCenser qNoCenser nBadSayingBadMany nNoCenserBadMany nNoCenserBadSaying (fun _ _ _ hp9 hx9=>(Ad (A2 (Ao Cq (pv 2) Ai (AA _)) (Ag (Aq (BN csettled (hr.mono (by decide)) rfl hx9 (Aa (pv 0) (Aa (pv 1) Ac))))) Az)
   (Ad (A2 (Ao Cq (pv 2) Ai (AA _)) (Ag (Aq (BN cshows (hr.mono (by decide)) rfl hx9 (Aa (pv 0) (Aa (pv 1) (Aa (AD (Aa Av Ac)) Ac)))))) Az)
   (Ad (AB (i:=3) sc.nd rfl (Or.inl rfl) (JJ kSayings (hr.mono (by decide)) rfl hx9 (Aa (pv 0) Ac)))
   (Ad (BZ hp9 rfl (AN (K:=K) (pv 1)) (An (i:=4) sc.nd rfl (Or.inl rfl))
   (Ag (A1 (E8 cSayings_say clSayings (hr.mono (by decide)) hx9 (pv 3) (Aa (pv 4) Ac)))))
   (Ag (Aq Da))))))) (fun _ _=>(Ag (Aq (AI (Aa Av Ac))))) (fun _ _=>(Ag (Aq (AI (Aa Av Ac))))) (fun _ _=>(Ag (Aq (AI (Aa Av Ac))))))),?_⟩
  refine N1 (fun E9 e1 e2 e3=>?_)
  have hx9 : ∀ H',Ak (Bp H PTopen_pair) H'->AM H' PTopen_pair ⟨125,26,125,86⟩ DH->E9 (.ref (rdC CBadMany CBadSaying CNoCenser (rdS n rs))) none H':=fun H' s' hT'=>by
   have hret : ∀ q,H' q=none->Q (.ref q) (upd H' q (.lst [.str (rdW (rdS n rs))])):=fun q hq=>k q _ (s'.trans (Ak.new hq)) (hT'.same (Ak.new hq)) Ab
   rcases QZ hd with h | h | h <;> rw[h] at hret ⊢
   ·exact e2 _ _ ⟨Ah (by simp),hret⟩
   ·exact e3 _ _ ⟨Ah (by simp),hret⟩
   ·exact e1 _ _ ⟨Ah (by simp),hret⟩
  refine AW (b:=decide (i=0)) (P:=fun H'=>H'=H) (fun N hN=>⟨_,rfl,rfl,_,rfl,by rw[Lp];exact hN _ rfl⟩) (fun g H5 e=>?_) (fun g H5 e=>?_)
  ·rw[e]
   exact ⟨_,rfl,_,rfl,n,b,as,rfl,SqL.of hb,.inr ⟨rs,hR,hd,hx9 H (DO _ _) hTab⟩⟩
  rw[e];clear e
  refine AW (b:=decide (i=1)) (P:=fun H'=>H'=H) (fun N hN=>⟨_,rfl,rfl,_,rfl,by rw[Lp];exact hN _ rfl⟩) (fun g H5 e=>?_) (fun g H5 e=>?_)
  ·rw[e]
   exact ⟨_,rfl,_,rfl,Ah (by simp),fun p hp=>⟨n,b,p,as,rs,rfl,SqL.of ((Ak.new hp) _ _ hb),hR.same (Ak.new hp),hd,hx9 _ ((DO _ _).trans (Ak.new hp)) (hTab.same (Ak.new hp))⟩⟩
  rw[e];clear e
  refine Bz ⟨_,rfl,fun x dx hx hdx hne=>⟨x,dx,n,rfl,Ab,fun hn l H1 hlf hx1 hl1 hkeep=>⟨rfl,?_⟩,fun hn=>?_⟩⟩
  ·obtain ⟨m,rfl⟩ : ∃ m:Nat,n=m:=⟨n.toNat,by omega⟩
   have m1:1<=m:=by omega
   have m9:m<=9:=by omega
   obtain ⟨ss,r,tl,rfl,hO⟩:=hO
   obtain ⟨hs,hrd⟩:=hO hn
   have hok : ∀ s ∈ ss,Bn m s:=fun s h=>(hs s h).ok
   have e0:=Fj (tl:=tl) hn hok hrd
   have hal:as.length=ss.length+(tl.length+1):=by rw[hR.length];simp
   have s0:Ak H (upd (upd H dx (.own x)) x (.ins CSayings dx [])):=fun b o e=>by rw[Af (Aj e hx),Af (Aj e hdx)];exact e
   have s1:Ak H H1:=fun b o e=>hkeep b o (s0 b o e) (Aj e hx)
   have hl0:H l=none:=s0.free hlf
   have hl9:ss.length<=100:=by rw[List.length_append,List.length_map] at hl;omega
   have hT1:=hTab.same s1
   have get : ∀ {H':Hp},Ak (Bp H PTopen_pair) H' -> ∀ {b:Addr} {o:HO},H b=some o->(∀ ps,o ≠ .tbl ps)->H' b=some o:=fun s _ _ e hn=>s _ _ (A4 hTab e hn)
   have hz : ∀ a ∈ [l,PTopen_pair],Bp H PTopen_pair a=none:=fun a ha=>by
    unfold Bp
    by_cases e:a=PTopen_pair
    ·rw[if_pos e]
    ·rw[if_neg e]
     rcases List.mem_cons.mp ha with h | h
     ·rw[h];exact hl0
     ·exact absurd (List.mem_singleton.mp h) e
   have no9 : ∀ (m : Int) (l9 : Addr),(saF m l9).lookup ("say" : Str) = none:=fun m l9=>Ej _ _ (by decide +kernel) (by decide +kernel)
   try dsimp only
   refine nrm (σ':=[some (.int m),some (.ref b),some (.int i),some (.ref x),none]) rfl ?_
   refine A5 (fun σ H4=>False) (fun Z hZ=>?_) (fun _ _ h=>h.elim)
   refine ⟨_,rfl,b,rfl,⟨_,SqL.of (s1 _ _ hb)⟩,Bq (K:=K) (a:=b) (xs:=as.map V.ref) (fun q σ H4=>∃ o4:Option V,σ=[some (.int m),some (.ref b),some (.int i),some (.ref x),o4]/\q<=ss.length/\Ak (Bp H PTopen_pair) H4/\AM H4 PTopen_pair ⟨125,26,125,86⟩ DH/\Gd CSayings H4 x dx l m ((ss.take q).map some)) ⟨none,rfl,Nat.zero_le _,AL s1,hT1,hx1,[],hl1,.nil⟩ (fun q σ H4 _ ⟨_,_,_,e,_⟩=>SqL.of (get e hb fun _ z=>nomatch z)) ?_ ?_⟩
   ·rintro q y σ H4 hm ⟨o4,rfl,hq,s4,hT4,hX4⟩
    obtain ⟨a,rfl,ham,hml⟩:=CW hm
    obtain ⟨r',hr4,hrm⟩:=Ay hR ham
    have hr4:=get s4 hr4 fun _ z=>nomatch z
    have gok : ∀ o ∈ (ss.take q).map some,∀ q,o=some q->Bn m q:=fun o ho q' e=>by
     obtain ⟨s,h1,rfl⟩:=List.mem_map.mp ho
     cases e
     exact hok _ (List.mem_of_mem_take h1)
    have gl:((ss.take q).map some).length=q:=by rw[List.length_map,List.length_take];omega
    refine ⟨_,rfl,x,dx,_,rfl,hX4.ob,no9 _ _,_,rfl,x,dx,l,m,(ss.take q).map some,a,r',rfl,hX4,m1,m9,gok,by rw[gl];omega,hr4,hT4,?_⟩
    by_cases hq2:q<ss.length
    ·rw[List.getElem?_append_left (by simpa using hq2),List.getElem?_map] at hrm
     obtain ⟨s,es⟩ : ∃ s,ss[q]?=some s:=⟨_,List.getElem?_eq_getElem hq2⟩
     rw[es] at hrm
     cases hrm
     have hm9:=List.mem_of_getElem? es
     refine .inr ⟨s,M6 m,rfl,hok s hm9,Ka m1 m9,E4 m1,fun o ho q' e=>?_,Ef (hs s hm9),fun H5 f5 hT5 hX5=>⟨_,rfl,hq2,s4.frL f5 hz,hT5,?_⟩⟩
     ·obtain ⟨s,h1,rfl⟩:=List.mem_map.mp ho
      cases e
      exact Ef (hs _ (List.mem_of_mem_take h1))
     ·rw[Aw es,List.map_append]
      exact hX5
    ·have hq3:q=ss.length:=by omega
     rw[List.getElem?_append_right (by simp;omega),hq3] at hrm
     simp at hrm
     subst hrm
     refine .inl ⟨hrd,?_⟩
     have:=hx9 H4 s4 hT4
     rw[e0] at this
     rcases Ht m r with h | h | h
     ·exact absurd h hrd
     ·rw[h] at this ⊢;exact this
     ·rw[h] at this ⊢;exact this
   ·rintro σ H4 ⟨o4,rfl,hq,_⟩
    rw[List.length_map] at hq
    omega
  ·have e3:rdS n rs=3:=if_neg hn
   have s0:Ak H (upd (upd H dx (.own x)) x (.ins CSayings dx [])):=fun b o e=>by rw[Af (Aj e hx),Af (Aj e hdx)];exact e
   have:=hx9 _ (AL s0) (hTab.same s0)
   rw[e3] at this
   exact this
theorem D2 : Ap (["_law_size","_law_sayings","_law_said","_law_saying","_law_odd_here"]) (["_law_size","_law_sayings"]) (Ae AS):=by trivial
theorem Eg {f : Addr} {fd : FuncData} (F : Fun K "_law_said_by_one" "_law_said_by_one" AS f fd) (B : Bs mg) (T : Gs mg) (clSayings : Cls K CSayings) (kSayings : Oa P w K mg base CSayings 2 "Sayings" (N2 K CSayings CBadMany)) (cSayings_said : Fe P w K mg base CSayings 1 "said" (MD CSayings)) (cSayings_say : Jr P w K mg base CSayings 61 "say" (Li K CSayings CBadSaying CNoCenser PTopen_pair)) (c_law_due : Cal P w K mg base 1 "_law_due" [] (JL K)) (c_law_tried_one : Cal P w K mg base 62 "_law_tried_one" [] (Pj K CSayings PTopen_pair)) : Bv P w K mg base CX0 63 f fd ["_law_size","_law_sayings"] (Pl K PTopen_pair):= by
 have sc:=D2
 refine F.ok sc (fun vs H Q E h=>?_) (fun cdv A outer s H vs Q E hr h=>?_)
 ·obtain ⟨n,b,as,ss,r1,r2,rfl,_⟩:=h;rfl
 ·obtain ⟨n,b,as,ss,r1,r2,rfl,n1,n9,hb,hR,hs,hl,hd1,hd2,hTab,k⟩:=h
  refine ⟨_,(Ad (AB (i:=2) sc.nd rfl (Or.inl rfl) (JJ kSayings (hr.mono (by decide)) rfl JK (Aa (pv 0) Ac)))
   (Ad (BZ PassesOwn.never rfl (AN (K:=K) (Cm (DY (K:=K)) (pv 1) Dm (Dp (KN Gx Ai)))) (An (i:=3) sc.nd rfl (Or.inl rfl))
   (Ag (A1 (E8 cSayings_say clSayings (hr.mono (by decide)) JK (pv 2) (Aa (pv 3) Ac)))))
   (Ad (BZ PassesOwn.never rfl (AN (K:=K) (Cm (DY (K:=K)) (pv 1) (Dp (KN Gx Ai)) Dm)) (An (i:=4) sc.nd rfl (Or.inl rfl))
   (Ag (A2 (PW.pt (HL (Ao (Ot (K:=K) hr.units0) (A7 c_law_tried_one (hr.mono (by decide)) rfl (Aa (pv 2) (Aa (pv 4) Ac))) (A7 c_law_due (hr.mono (by decide)) rfl (Aa (pv 0) (Aa (AI (Aa (pv 4) Ac)) Ac))) (AA _)) (GL (Ao MN (B0 cSayings_said clSayings (hr.mono (by decide)) (pv 2)) (Ax ER (As (Br (K:=K)) (by rfl) B.len PyProof.Rows.Boot.«len» (Aa (pv 1) Ac)) Ai) (AA _))))) (Ag (Aq Ie)) Az)))
   (Ag (Aq Ie))))),?_⟩
  have hn:1<=(n:Int)/\(n:Int)<=9:=by omega
  have hok : ∀ s ∈ ss,Bn n s:=fun s h=>(hs s h).ok
  obtain ⟨as1,as2,rfl,hR1,hR2⟩:=Dj hR
  have h2l:as2.length=2:=hR2.length
  have h1l:as1.length=ss.length:=by rw[hR1.length,List.length_map]
  have emap:(as1++as2).map V.ref=as1.map V.ref++as2.map V.ref:=List.map_append
  refine Bz ⟨_,rfl,fun x dx hx hdx hne=>⟨x,dx,n,rfl,Ab,fun _ l H1 hlf hx1 hl1 hkeep=>⟨rfl,?_⟩,fun z=>absurd hn z⟩⟩
  have s0:Ak H (upd (upd H dx (.own x)) x (.ins CSayings dx [])):=fun b o e=>by rw[Af (Aj e hx),Af (Aj e hdx)];exact e
  have s1:Ak H H1:=fun b o e=>hkeep b o (s0 b o e) (Aj e hx)
  have hl0:H l=none:=s0.free hlf
  have hT1:=hTab.same s1
  have get : ∀ {H':Hp},Ak (Bp H PTopen_pair) H' -> ∀ {b:Addr} {o:HO},H b=some o->(∀ ps,o ≠ .tbl ps)->H' b=some o:=fun s _ _ e hn=>s _ _ (A4 hTab e hn)
  have hz : ∀ a ∈ [l,PTopen_pair],Bp H PTopen_pair a=none:=fun a ha=>by
   unfold Bp
   by_cases e:a=PTopen_pair
   ·rw[if_pos e]
   ·rw[if_neg e]
    rcases List.mem_cons.mp ha with h | h
    ·rw[h];exact hl0
    ·exact absurd (List.mem_singleton.mp h) e
  have no9 : ∀ (m : Int) (l9 : Addr),(saF m l9).lookup ("say" : Str) = none:=fun m l9=>Ej _ _ (by decide +kernel) (by decide +kernel)
  have no8 : ∀ (m : Int) (l9 : Addr),(saF m l9).lookup ("said" : Str) = none:=fun m l9=>Ej _ _ (by decide +kernel) (by decide +kernel)
  try dsimp only
  refine nrm (σ':=[some (.int n),some (.ref b),some (.ref x),none,none]) rfl ?_
  refine A5 (fun σ H4=>∃ o3:Option V,σ=[some (.int n),some (.ref b),some (.ref x),o3,none]/\Ak (Bp H PTopen_pair) H4/\AM H4 PTopen_pair ⟨125,26,125,86⟩ DH/\Gd CSayings H4 x dx l n (ss.map some)) (fun Z hZ=>?_) ?_
  ·refine ⟨_,rfl,_,rfl,_,rfl,b,_,rfl,SqL.of (s1 _ _ hb),fun p hp=>?_⟩
   rw[emap,Mm _ _ (by rw[List.length_map];exact h2l)]
   have s2:=Ak.new (o:=HO.lst (as1.map V.ref)) hp
   have hp2:upd H1 p (HO.lst (as1.map V.ref)) p=some (.lst (as1.map V.ref)):=Ab
   generalize upd H1 p (HO.lst (as1.map V.ref))=H2 at s2 hp2
   have S2:=s1.trans s2
   refine ⟨p,rfl,⟨_,SqL.of hp2⟩,Bq (K:=K) (a:=p) (xs:=as1.map V.ref) (fun q σ H4=>∃ o3:Option V,σ=[some (.int n),some (.ref b),some (.ref x),o3,none]/\H4 p=some (.lst (as1.map V.ref))/\Ak (Bp H PTopen_pair) H4/\AM H4 PTopen_pair ⟨125,26,125,86⟩ DH/\Gd CSayings H4 x dx l n ((ss.take q).map some)) ⟨none,rfl,hp2,AL S2,hT1.same s2,s2 _ _ hx1,[],s2 _ _ hl1,.nil⟩ (fun q σ H4 _ ⟨_,_,e,_⟩=>SqL.of e) ?_ ?_⟩
   ·rintro q y σ H4 hm ⟨o4,rfl,hp4,s4,hT4,hX4⟩
    obtain ⟨a,rfl,ham,hml⟩:=CW hm
    obtain ⟨r',hr4,hrm⟩:=Ay hR1 ham
    have hr4:=get s4 hr4 fun _ z=>nomatch z
    have gok : ∀ o ∈ (ss.take q).map some,∀ q,o=some q->Bn n q:=fun o ho q' e=>by
     obtain ⟨s,h1,rfl⟩:=List.mem_map.mp ho
     cases e
     exact hok _ (List.mem_of_mem_take h1)
    have gl:((ss.take q).map some).length=q:=by rw[List.length_map,List.length_take];omega
    refine ⟨_,rfl,x,dx,_,rfl,hX4.ob,no9 _ _,_,rfl,x,dx,l,n,(ss.take q).map some,a,r',rfl,hX4,n1,n9,gok,by rw[gl];omega,hr4,hT4,?_⟩
    have hq2:q<ss.length:=by omega
    rw[List.getElem?_map] at hrm
    obtain ⟨s,es⟩ : ∃ s,ss[q]?=some s:=⟨_,List.getElem?_eq_getElem hq2⟩
    rw[es] at hrm
    cases hrm
    have hm9:=List.mem_of_getElem? es
    refine .inr ⟨s,M6 n,rfl,hok s hm9,Ka n1 n9,E4 n1,fun o ho q' e=>?_,Ef (hs s hm9),fun H5 f5 hT5 hX5=>⟨_,rfl,f5 _ _ hp4 fun z=>?_,s4.frL f5 hz,hT5,?_⟩⟩
    ·obtain ⟨s,h1,rfl⟩:=List.mem_map.mp ho
     cases e
     exact Ef (hs _ (List.mem_of_mem_take h1))
    ·rcases List.mem_cons.mp z with z | z
     ·rw[z,hl1] at hp;cases hp
     ·obtain ⟨ps,h1,_⟩:=hT4
      rw[List.mem_singleton.mp z,h1] at hp4;cases hp4
    ·rw[Aw es,List.map_append]
     exact hX5
   ·rintro σ H4 ⟨o4,rfl,_,s4,hT4,hX4⟩
    rw[List.length_map,h1l,List.take_length] at hX4
    exact hZ _ _ ⟨_,rfl,s4,hT4,hX4⟩
  rintro σ H4 ⟨o3,rfl,s4,hT4,hX4⟩
  have gok : ∀ o ∈ ss.map some,∀ q,o=some q->Bn n q:=fun o ho q' e=>by
   obtain ⟨s,h1,rfl⟩:=List.mem_map.mp ho
   cases e
   exact hok _ h1
  have gl:(ss.map some).length=ss.length:=List.length_map ..
  have hb4:=get s4 hb fun _ z=>nomatch z
  have hR24:DB H4 as2 [r1,r2]:=L2.Paired.mapP hR2 fun _ _ z=>get s4 z fun _ z=>nomatch z
  have hdd : ∀ r ∈ [r1,r2],B8 n r≠0:=fun r hr=>by
   rcases List.mem_cons.mp hr with h | h
   ·rw[h];exact hd1
   ·rw[List.mem_singleton.mp h];exact hd2
  refine A5 (fun σ H5=>Ak H4 H5) (fun Z hZ=>?_) ?_
  ·refine ⟨_,rfl,_,rfl,_,rfl,b,_,rfl,SqL.of hb4,fun p hp=>?_⟩
   rw[emap,LR _ _ (by rw[List.length_map];exact h2l)]
   have s5:=Ak.new (o:=HO.lst (as2.map V.ref)) hp
   have hp5:upd H4 p (HO.lst (as2.map V.ref)) p=some (.lst (as2.map V.ref)):=Ab
   generalize upd H4 p (HO.lst (as2.map V.ref))=H5 at s5 hp5
   refine ⟨p,rfl,⟨_,SqL.of hp5⟩,Bq (K:=K) (a:=p) (xs:=as2.map V.ref) (fun q σ H6=>∃ o4:Option V,σ=[some (.int n),some (.ref b),some (.ref x),o3,o4]/\Ak H5 H6) ⟨none,rfl,Ak.refl _⟩ (fun q σ H6 _ ⟨_,_,e⟩=>SqL.of (e _ _ hp5)) ?_ ?_⟩
   ·rintro q y σ H6 hm ⟨o4,rfl,s6⟩
    obtain ⟨a,rfl,ham,hml⟩:=CW hm
    obtain ⟨r,hr4,hrm⟩:=Ay hR24 ham
    have hrd:=hdd r (List.mem_of_getElem? hrm)
    have S6:=s5.trans s6
    have hr6:=S6 _ _ hr4
    have hX6:=hX4.same S6
    have hT6:=hT4.same S6
    refine Oc (b:=false) (P:=fun H7=>Ak H6 H7) (fun N hN=>?_) (fun g=>by cases g) (fun _ H7 s7=>⟨_,rfl,s6.trans s7⟩)
    refine ⟨_,rfl,_,rfl,x,dx,l,n,ss.map some,a,r,rfl,hX6,n1,n9,gok,by rw[gl];omega,hr6,hT6,hrd,fun t ht=>?_⟩
    have s7:=Ak.new (o:=HO.lst [V.str (rdW (B8 n r))]) ht
    have ht7:upd H6 t (HO.lst [V.str (rdW (B8 n r))]) t=some (.lst [V.str (rdW (B8 n r))]):=Ab
    generalize upd H6 t (HO.lst [V.str (rdW (B8 n r))])=H7 at s7 ht7
    have e0:rdS n [r]=B8 n r:=Fj (ss:=[]) (tl:=[]) hn (fun s h=>by cases h) hrd
    refine ⟨_,rfl,_,rfl,Ah (by simp),fun p8 hp8=>?_⟩
    have s8:=Ak.new (o:=HO.lst [V.ref a]) hp8
    refine ⟨n,p8,[a],[r],rfl,SqL.of Ab,.cons (s8 _ _ (s7 _ _ hr6)) .nil,by simp,fun z=>absurd z (by rw[e0];exact hrd),fun _ t2 H9 s9 _ ht9=>?_⟩
    rw[e0] at ht9
    have S9:=s8.trans s9
    have e:Mf [V.str (rdW (B8 n r))] [V.str (rdW (B8 n r))]=true:=FJ [_]
    refine ⟨t,t2,_,_,rfl,rfl,.inr ⟨SqL.of (S9 _ _ ht7),SqL.of ht9⟩,rfl,rfl,_,rfl,?_⟩
    rw[e]
    have T9:=s7.trans S9
    have hX9:=hX6.same T9
    refine FT ⟨_,rfl,x,dx,_,rfl,hX9.ob,no8 _ _,x,dx,l,n,ss.map some,rfl,hX9,_,rfl,b,_,rfl,.inl (SqL.of (T9 _ _ (S6 _ _ hb4))),_,_,rfl,rfl,rfl,_,rfl,?_⟩
    rw[show (!decide (V.int ((ss.map some).length:Nat)=V.int (((as1++as2).map V.ref).length-2)))=false by
     rw[Lp,decide_eq_true (show (((ss.map some).length:Nat):Int)=(((as1++as2).map V.ref).length:Nat)-2 by rw[List.length_map,List.length_map,List.length_append,h2l,h1l];omega)];rfl]
    exact hN _ T9
   ·rintro σ H6 ⟨o4,rfl,s6⟩
    exact hZ _ _ (s5.trans s6)
  rintro σ H5 s5
  exact k _ (s4.trans s5) (hT4.same s5)
theorem Sa : Ap (["_law_script","_law_k","_law_first","_law_second","_law_third","_law_row","_law_size","_law_goods","_law_odds","_law_at","_law_sayings","_law_due_here","_law_turn","_law_handed"]) (["_law_script"]) (Ae N5):=by trivial
theorem R5 {f : Addr} {fd : FuncData} (F : Fun K "law" "law" N5 f fd) (B : Bs mg) (T : Gs mg)  (c_law_cell : Cal P w K mg base 1 "_law_cell" [] (L9 K)) (c_law_draw : Cal P w K mg base 1 "_law_draw" [] (JQ K)) (c_law_due : Cal P w K mg base 1 "_law_due" [] (JL K)) (c_law_many : Cal P w K mg base 1 "_law_many" [] (LX K)) (c_law_odd : Cal P w K mg base 2 "_law_odd" [] Lm) (c_law_said_by_one : Cal P w K mg base 63 "_law_said_by_one" [] (Pl K PTopen_pair)) (c_law_split : Cal P w K mg base 1 "_law_split" [.int 0] Hi) (c_law_tried : Cal P w K mg base 62 "_law_tried" [] (PD K PTopen_pair)) : Bv P w K mg base CX0 64 f fd ["_law_script"] (Kb K [(CTopen_pair,PTopen_pair)]):= by
 have sc:=Sa
 refine F.ok sc (fun vs H Q E h=>?_) (fun cdv A outer s H vs Q E hr h=>?_)
 ·obtain ⟨a,ns,rfl,_⟩:=h;rfl
 ·obtain ⟨a,ns,rfl,hA,hlen,hTabs,k⟩:=h
  refine ⟨_,(Ad (BZ PassesOwn.never rfl (Fy rfl B.range (Aa (A7 c_law_many (hr.mono (by decide)) rfl (Aa (pv 0) (Aa Ai Ac))) Ac)) (An (i:=1) sc.nd rfl (Or.inl rfl))
   (Ad (IJ (A7 c_law_split (hr.mono (by decide)) rfl (Aa (A7 c_law_cell (hr.mono (by decide)) rfl (Aa (pv 0) (Aa (pv 1) Ac))) (Aa Ai Ac))) (Oq rfl (Au (An (i:=2) sc.nd rfl (Or.inl rfl)) (Au (An (i:=3) sc.nd rfl (Or.inl rfl)) (Au (An (i:=4) sc.nd rfl (Or.inl rfl)) BE)))))
   (Ad (AB (i:=5) sc.nd rfl (Or.inl rfl) (A7 c_law_draw (hr.mono (by decide)) rfl (Aa (pv 2) (Aa (AI (Aa Ai (Aa Ai (Aa Ai (Aa (Ax EN Ai Ai) (Aa Ai Ac)))))) Ac))))
   (Ad (AB (i:=6) sc.nd rfl (Or.inl rfl) (Ax BD (AG (Ar (K:=K)) (pv 5) Ai (fun _ _=>rfl)) Ai))
   (Ad (QO (i:=7) sc.nd rfl rfl (N':=["_law_j"]) (M:=[none]) (Ct (by rfl)) rfl (M0 rfl B.range (Aa Ai (Aa (As IN (by rfl) B.min PyProof.Rows.Boot.«min» (Aa (pv 6) (Aa (Ax BD (AG (Ar (K:=K)) (pv 5) Ai (fun _ _=>rfl)) Ai) Ac))) Ac))) (fun _ _ _ _ _=>An (i:=0) (show (["_law_j"] : List Str).Nodup by decide +kernel) rfl (Or.inl rfl) (.inr rfl)) (Dz rfl) (fun _ _ _ _ _=>FM) (fun _ _ _ _ _=>(AD (Aa Av (Aa Ai (Aa (pv 0) Ac))))))
   (Ad (AB (i:=8) sc.nd rfl (Or.inl rfl) (AI (Aa (A7 c_law_odd (hr.mono (by decide)) rfl (Aa (pv 3) (Aa (pv 6) Ac))) (Aa (A7 c_law_odd (hr.mono (by decide)) rfl (Aa (pv 4) (Aa (pv 6) Ac))) Ac))))
   (Ad (A2 (EJ (Oz (A7 c_law_said_by_one (hr.mono (by decide)) rfl (Aa (pv 6) (Aa (Ax GH (pv 7) (pv 8)) Ac))))) (Ag (Aq Ie)) Az)
   (Ad (AB (i:=9) sc.nd rfl (Or.inl rfl) (Ax Ca (AG (Ar (K:=K)) (pv 5) Ai (fun _ _=>rfl)) (Ax BD (As (Br (K:=K)) (by rfl) B.len PyProof.Rows.Boot.«len» (Aa (pv 7) Ac)) Ai)))
   (Ad (AB (i:=10) sc.nd rfl (Or.inl rfl) (Ax GH (Ax GH (Cm (DY (K:=K)) (pv 7) Dm (Dp (pv 9))) (pv 8)) (Cm (DY (K:=K)) (pv 7) (Dp (pv 9)) Dm)))
   (Ad (A2 (Ao Cq (AG (Ar (K:=K)) (pv 5) Ai (fun _ _=>rfl)) Ai (AA _)) (Ag (AB (i:=6) sc.nd rfl (Or.inl rfl) (AG (Ar (K:=K)) (AI (Aa Ai (Aa Ai (Aa (Ax ER (KN Gx Ai) (AG (Ar (K:=K)) (pv 5) Ai (fun _ _=>rfl))) (Aa (Ax BD Ai (AG (Ar (K:=K)) (pv 5) Ai (fun _ _=>rfl))) Ac))))) (AG (Ar (K:=K)) (pv 5) Ai (fun _ _=>rfl)) (fun _ _=>rfl)))) Az)
   (Ad (AB (i:=11) sc.nd rfl (Or.inl rfl) (A7 c_law_due (hr.mono (by decide)) rfl (Aa (pv 6) (Aa (pv 10) Ac))))
   (Ag (BZ PassesOwn.never rfl (Fy rfl B.range (Aa Ai Ac)) (An (i:=12) sc.nd rfl (Or.inl rfl))
   (Ad (AB (i:=13) sc.nd rfl (Or.inl rfl) (BU (Pf (K:=K)) (by rfl) B.list PyProof.Rows.Boot.«list» (Aa (pv 10) Ac)))
   (Ag (A2 (PW.pt (HL (Ao Q2 (pv 11) Da (AA _)) (HL (Ao (Ot (K:=K) hr.units0) (A7 c_law_tried (hr.mono (by decide)) rfl (Aa (pv 6) (Aa (pv 13) (Aa (pv 12) Ac)))) (pv 11) (AA _)) (GL (Ao (Q1 (K:=K) (SL hr)) (pv 13) (pv 10) (AA _)))))) (Ag (Aq Ie)) Az))))))))))))))))
   (Ag (Aq Ie))),?_⟩
  have hP0:H PTopen_pair=some (.tbl #[]):=hTabs (CTopen_pair,PTopen_pair) List.mem_cons_self
  have hTab0:AM H PTopen_pair ⟨125,26,125,86⟩ DH:=⟨#[],hP0,trivial,.inl rfl⟩
  refine A5 (fun σ H2=>True) (fun Z hZ=>?_) (fun _ _ _=>k _)
  refine ⟨_,rfl,a,ns,3,rfl,hA,fun z hz0 hz1=>?_⟩
  refine ⟨_,rfl,by omega,by omega,Ff (lo:=0) (n:=z.toNat) (fun i σ H2=>∃ (o1 o2 o3 o4 o5 o6 o7 o8 o9 o10 o11 o12 o13:Option V),σ=[some (.ref a),o1,o2,o3,o4,o5,o6,o7,o8,o9,o10,o11,o12,o13]/\Ak (Bp H PTopen_pair) H2/\AM H2 PTopen_pair ⟨125,26,125,86⟩ DH)
   ⟨none,none,none,none,none,none,none,none,none,none,none,none,none,rfl,DO _ _,hTab0⟩ ?_ (fun σ H2 _=>hZ _ _ trivial)⟩
  rintro i σ H2 hi ⟨o1,o2,o3,o4,o5,o6,o7,o8,o9,o10,o11,o12,o13,rfl,s2,hT2⟩
  have back : ∀ {H':Hp},Ak (Bp H2 PTopen_pair) H'->Ak (Bp H PTopen_pair) H':=fun s=>AX s2 s
  have hA2:SqL K H2 a (ns.map V.int):=hA.beside hTab0 s2
  refine gN ?_
  refine ⟨_,rfl,_,rfl,a,ns,_,rfl,hA2,by omega,by omega,by omega,fun cell=>?_⟩
  refine ⟨cell,3,0,rfl,by decide,by decide,by decide,by decide,fun p3 sp3 H3 _ s3 hp3 hl3=>?_⟩
  obtain ⟨f1,f2,f3,rfl⟩ : ∃ f1 f2 f3,sp3=[f1,f2,f3]:= by
   match sp3,hl3 with
   | [x,y,z],_=>exact ⟨x,y,z,rfl⟩
  refine ⟨p3,_,rfl,SqL.of hp3,rfl,_,_,rfl,_,_,rfl,_,_,rfl,rfl,?_⟩
  try dsimp only
  refine nrm (σ':=[some (.ref a),some (.int (0+(i:Int))),some (.int f1),some (.int f2),some (.int f3),o5,o6,o7,o8,o9,o10,o11,o12,o13]) rfl ?_
  refine Bz ?_
  refine ⟨_,rfl,_,_,rfl,rfl,⟨by decide,by decide,by decide⟩,Ah (by simp),fun q1 hq1=>⟨f1,q1,[9,5,4,10 ^ 20,4],rfl,SqL.of Ab,On (by decide +kernel),by decide,fun row rs H4 _ s4 hrow hD=>?_⟩⟩
  have S4:=s3.trans ((Ak.new (o:=HO.lst [V.int 9,V.int 5,V.int 4,V.int (10 ^ 20),V.int 4]) hq1).trans s4)
  clear s4 hq1 hp3
  obtain ⟨r0,t0,rfl,r00,r09,hD⟩:=hD.uncons
  obtain ⟨r1,t1,rfl,r10,r19,hD⟩:=hD.uncons
  obtain ⟨r2,t2,rfl,r20,r29,hD⟩:=hD.uncons
  obtain ⟨r3,t3,rfl,r30,r39,hD⟩:=hD.uncons
  obtain ⟨r4,t4,rfl,r40,r49,hD⟩:=hD.uncons
  have a0:atI ((r0::r1::r2::r3::r4::t4).map V.int) 0=some (V.int r0):=B2 (j:=0) rfl rfl
  have a1:atI ((r0::r1::r2::r3::r4::t4).map V.int) 1=some (V.int r1):=B2 (j:=1) rfl rfl
  have a2:atI ((r0::r1::r2::r3::r4::t4).map V.int) 2=some (V.int r2):=B2 (j:=2) rfl rfl
  have a3:atI ((r0::r1::r2::r3::r4::t4).map V.int) 3=some (V.int r3):=B2 (j:=3) rfl rfl
  have a4:atI ((r0::r1::r2::r3::r4::t4).map V.int) 4=some (V.int r4):=B2 (j:=4) rfl rfl
  generalize (r0::r1::r2::r3::r4::t4).map V.int=row9 at hrow a0 a1 a2 a3 a4
  try dsimp only
  refine nrm (σ':=[some (.ref a),some (.int (0+(i:Int))),some (.int f1),some (.int f2),some (.int f3),some (.ref row),o6,o7,o8,o9,o10,o11,o12,o13]) rfl ?_
  refine Bz ⟨_,rfl,row,_,_,_,rfl,rfl,SqL.of hrow,a0,_,_,rfl,rfl,?_⟩
  obtain ⟨m,em⟩ : ∃ m:Nat,r0+1=m:=⟨(r0+1).toNat,by omega⟩
  have m1:1<=m:=by omega
  have m9:m<=9:=by omega
  try dsimp only
  rw[em]
  refine nrm (σ':=[some (.ref a),some (.int (0+(i:Int))),some (.int f1),some (.int f2),some (.int f3),some (.ref row),some (.int m),o7,o8,o9,o10,o11,o12,o13]) rfl ?_
  have S4T:=hT2.same S4
  refine A5 (fun σ H5=>∃ (p:Addr) (qs:List Addr) (ss:List Say),σ=[some (.ref a),some (.int (0+(i:Int))),some (.int f1),some (.int f2),some (.int f3),some (.ref row),some (.int m),some (.ref p),o8,o9,o10,o11,o12,o13]/\Ak H4 H5/\H5 p=some (.lst (qs.map V.ref))/\Jd H5 qs ss/\(∀ s ∈ ss,OA m s)/\ss.length<=20) (fun Z hZ=>?_) ?_
  ·obtain ⟨c9,ec⟩ : ∃ c9:Nat,((if r2+1<(m:Int) then r2+1 else m)-1).toNat=c9:=⟨_,rfl⟩
   have hc9:(c9:Int)+1<=m:= by
    split at ec <;> omega
   refine ⟨_,rfl,_,rfl,row,_,_,_,rfl,rfl,SqL.of hrow,a2,_,_,rfl,rfl,_,_,rfl,_,_,rfl,⟨by decide,by decide,by split <;> omega,by split <;> omega⟩,?_⟩
   rw[ec]
   refine NJ (lo:=1) (n:=c9) (fun i ys H5=>Ak H4 H5 /\ ∃ qs:List Addr,ys=qs.map V.ref/\Jd H5 qs ((List.range i).map fun (k:Nat)=>Say.pair true 0 (1+(k:Int)))) (Ah (by omega)) ⟨Ak.refl H4,[],rfl,.nil⟩ (fun i ys H5 _ h=>by
    obtain ⟨_,qs,e,e2⟩:=h
    rw[e,List.length_map,e2.length,List.length_map,List.length_range];exact Nat.le_refl _) ?_ ?_
   ·rintro i ys H5 hi ⟨s5,qs,rfl,hqs⟩
    refine lcN ?_
    refine ⟨_,rfl,Ah (by simp),fun q hq=>⟨s5.new2 hq,qs++[q],by rw[List.map_append];rfl,?_⟩⟩
    rw[List.range_succ,List.map_append]
    exact Paired.snoc (hqs.same (Ak.new hq)) Ab
   ·rintro ys H5 ⟨s5,qs,rfl,hqs⟩
    intro p hp
    have n6:=Ak.new (o:=HO.lst (qs.map V.ref)) hp
    refine hZ _ _ ⟨p,qs,_,rfl,s5.trans n6,Ab,hqs.same n6,fun s hs=>?_,by rw[List.length_map,List.length_range];omega⟩
    obtain ⟨k,hk,rfl⟩:=List.mem_map.mp hs
    have:=List.mem_range.mp hk
    exact ⟨_,rfl,by omega,by omega⟩
  rintro σ H5 ⟨gl,qs,ss,rfl,s5,hg5,hS5,hU,hUl⟩
  refine Bz ?_
  refine ⟨_,rfl,_,rfl,f2,m,rfl,m1,m9,fun u1 v1 H6 s6 hu6 hd1=>?_⟩
  refine ⟨_,rfl,_,rfl,f3,m,rfl,m1,m9,fun u2 v2 H7 s7 hu7 hd2=>⟨Ah (by simp),fun ol hol=>?_⟩⟩
  have s8:=Ak.new (o:=HO.lst [V.ref u1,V.ref u2]) hol
  have ho8:upd H7 ol (HO.lst [V.ref u1,V.ref u2]) ol=some (.lst [V.ref u1,V.ref u2]):=Ab
  generalize upd H7 ol (HO.lst [V.ref u1,V.ref u2])=H8 at s8 ho8
  have T8:=s6.trans (s7.trans s8)
  have hrow8:=T8 _ _ (s5 _ _ hrow)
  have hg8:=T8 _ _ hg5
  have hS8:=hS5.same T8
  have hu8:=(s7.trans s8) _ _ hu6
  have hw8:=s8 _ _ hu7
  have hT8:=S4T.same (s5.trans T8)
  have S8:Ak (Bp H PTopen_pair) H8:=back (AL (S4.trans (s5.trans T8)))
  clear T8 s8 s7 s6 hu6 hu7 hol S4 S4T s5 hS5 hg5
  try dsimp only
  refine nrm (σ':=[some (.ref a),some (.int (0+(i:Int))),some (.int f1),some (.int f2),some (.int f3),some (.ref row),some (.int m),some (.ref gl),some (.ref ol),o9,o10,o11,o12,o13]) rfl ?_
  refine AW (b:=false) (P:=fun H10=>Ak (Bp H8 PTopen_pair) H10/\AM H10 PTopen_pair ⟨125,26,125,86⟩ DH) (fun N hN=>?_) (fun g=>by cases g) (fun _ H10 h10=>?_)
  ·refine ⟨_,rfl,_,rfl,_,rfl,gl,ol,_,_,rfl,rfl,hg8,ho8,Ah (by have:=hS8.length;simp;omega),fun y hy=>?_⟩
   have s9:=Ak.new (o:=HO.lst (qs.map V.ref++[V.ref u1,V.ref u2])) hy
   refine ⟨m,y,qs++[u1,u2],ss,v1,v2,rfl,m1,m9,by rw[Ab,List.map_append];rfl,Eo (DB.says (hS8.same s9)) (.cons (s9 _ _ hu8) (.cons (s9 _ _ hw8) .nil)),hU,hUl,hd1,hd2,hT8.same s9,fun H10 s10 hT10=>⟨_,rfl,hN _ ⟨AX (AL s9) s10,hT10⟩⟩⟩
  obtain ⟨s10,hT10⟩:=h10
  have get10 : ∀ {b:Addr} {o:HO},H8 b=some o->(∀ ps,o ≠ .tbl ps)->H10 b=some o:=fun e hn=>s10 _ _ (A4 hT8 e hn)
  have hrow10:=get10 hrow8 fun _ z=>nomatch z
  have hg10:=get10 hg8 fun _ z=>nomatch z
  have ho10:=get10 ho8 fun _ z=>nomatch z
  have hu10:=get10 hu8 fun _ z=>nomatch z
  have hw10:=get10 hw8 fun _ z=>nomatch z
  have hS10:=hS8.beside hT8 s10
  have S10:Ak (Bp H PTopen_pair) H10:=AX S8 s10
  clear get10 s10 hT8 S8 hrow8 hg8 ho8 hu8 hw8 hS8
  have hql:qs.length=ss.length:=hS10.length
  refine Bz ?_
  have hpos:(0:Int)<((qs.map V.ref).length:Nat)+1:=by omega
  refine ⟨_,rfl,row,_,_,_,rfl,rfl,SqL.of hrow10,a4,_,rfl,gl,_,rfl,.inl (SqL.of hg10),_,_,rfl,rfl,_,_,rfl,rfl,hpos,?_⟩
  obtain ⟨kt,ek⟩ : ∃ kt:Nat,r4 % (((qs.map V.ref).length:Nat)+1)=kt:=⟨(r4 % (((qs.map V.ref).length:Nat)+1)).toNat,by have:=Lh r4 hpos;omega⟩
  try dsimp only
  rw[ek]
  refine nrm (σ':=[some (.ref a),some (.int (0+(i:Int))),some (.int f1),some (.int f2),some (.int f3),some (.ref row),some (.int m),some (.ref gl),some (.ref ol),some (.int kt),o10,o11,o12,o13]) rfl ?_
  refine Bz ?_
  refine ⟨_,rfl,_,rfl,_,rfl,gl,_,rfl,SqL.of hg10,fun p1 hp1=>?_⟩
  rw[Hh,<- List.map_take]
  have e1:=Ak.new (o:=HO.lst ((qs.take kt).map V.ref)) hp1
  have lt1:(qs.take kt).length<=ss.length:=by rw[List.length_take];omega
  refine ⟨_,rfl,p1,ol,_,_,rfl,rfl,Ab,e1 _ _ ho10,Ah (by simp;omega),fun p2 hp2=>?_⟩
  have e2:=Ak.new (o:=HO.lst ((qs.take kt).map V.ref++[V.ref u1,V.ref u2])) hp2
  refine ⟨_,rfl,_,rfl,_,rfl,gl,_,rfl,SqL.of (e2 _ _ (e1 _ _ hg10)),fun p3 hp3=>?_⟩
  rw[Kc,<- List.map_drop]
  have e3:=Ak.new (o:=HO.lst ((qs.drop kt).map V.ref)) hp3
  have lt2:(qs.drop kt).length<=ss.length:=by rw[List.length_drop];omega
  refine ⟨p2,p3,_,_,rfl,rfl,e3 _ _ Ab,Ab,Ah (by simp;omega),fun sl hsl=>?_⟩
  have e4:=Ak.new (o:=HO.lst ((qs.take kt).map V.ref++[V.ref u1,V.ref u2]++(qs.drop kt).map V.ref)) hsl
  have E:=e1.trans (e2.trans (e3.trans e4))
  obtain ⟨H11,eH⟩ : ∃ H11,H11=upd (upd (upd (upd H10 p1 (HO.lst ((qs.take kt).map V.ref))) p2 (HO.lst ((qs.take kt).map V.ref++[V.ref u1,V.ref u2]))) p3 (HO.lst ((qs.drop kt).map V.ref))) sl (HO.lst ((qs.take kt).map V.ref++[V.ref u1,V.ref u2]++(qs.drop kt).map V.ref)):=⟨_,rfl⟩
  have hsl11:H11 sl=some (.lst ((qs.take kt++u1::u2::qs.drop kt).map V.ref)):=by rw[eH,Ab];simp
  have hR11:DB H11 (qs.take kt++u1::u2::qs.drop kt) ((ss.take kt).map Cp++v1::v2::(ss.drop kt).map Cp):= by
   have hz:DB H10 qs (ss.map Cp):=DB.says hS10
   have h1:DB H10 (qs.take kt) ((ss.take kt).map Cp):=by rw[List.map_take];exact EL kt hz
   have h2:DB H10 (qs.drop kt) ((ss.drop kt).map Cp):= by
    obtain ⟨b1,b2,eb,c1,c2⟩:=Dj (xs:=(ss.take kt).map Cp) (ys:=(ss.drop kt).map Cp) (by rw[<- List.map_append,List.take_append_drop];exact hz)
    have hb1:b1.length=min kt ss.length:=by rw[c1.length,List.length_map,List.length_take]
    have:qs.drop kt=b2:= by
     rw[eb,List.drop_append]
     have l2:b2.length=ss.length-kt:=by rw[c2.length,List.length_map,List.length_drop]
     by_cases g:kt<=ss.length
     ·rw[show kt-b1.length=0 by omega,List.drop_of_length_le (by omega)];rfl
     ·have:b2=[]:=List.eq_nil_of_length_eq_zero (by omega)
      rw[this,List.drop_of_length_le (by omega)];simp
    rw[this];exact c2
   rw[eH]
   exact DB.same (Eo h1 (.cons hu10 (.cons hw10 h2))) E
  have hrow11:H11 row=some (.lst row9):=by rw[eH];exact E _ _ hrow10
  have hT11:AM H11 PTopen_pair ⟨125,26,125,86⟩ DH:=by rw[eH];exact hT10.same E
  have S11:Ak (Bp H PTopen_pair) H11:=by rw[eH];exact S10.trans E
  rw[<- eH]
  have hl11:((ss.take kt).map Cp++v1::v2::(ss.drop kt).map Cp).length<=50:= by
   rw[List.length_append,List.length_cons,List.length_cons,List.length_map,List.length_map,List.length_take,List.length_drop];omega
  have hU9 : ∀ s ∈ ss.take kt,OA m s:=fun s h=>hU s (List.mem_of_mem_take h)
  clear E e1 e2 e3 e4 eH hS10 hu10 hw10 hT10 S10 hg10 ho10 hrow10
  generalize (qs.take kt++u1::u2::qs.drop kt)=as9 at hsl11 hR11
  generalize hss9:ss.take kt=ss9 at hR11 hl11 hU9
  generalize htl9:v2::(ss.drop kt).map Cp=tl9 at hR11 hl11
  generalize hrs9:ss9.map Cp++v1::tl9=rs9 at hR11 hl11
  try dsimp only
  refine nrm (σ':=[some (.ref a),some (.int (0+(i:Int))),some (.int f1),some (.int f2),some (.int f3),some (.ref row),some (.int m),some (.ref gl),some (.ref ol),some (.int kt),some (.ref sl),o11,o12,o13]) rfl ?_
  refine A5 (fun σ H12=>∃ N:Int,σ=[some (.ref a),some (.int (0+(i:Int))),some (.int f1),some (.int f2),some (.int f3),some (.ref row),some (.int N),some (.ref gl),some (.ref ol),some (.int kt),some (.ref sl),o11,o12,o13]/\(N=m \/ ¬ (1<=N/\N<=9))/\Ak H11 H12) (fun Z hZ=>?_) ?_
  ·refine Na (b:=decide (r1=0)) (P:=fun H12=>H12=H11) (fun N hN=>⟨_,rfl,row,_,_,_,rfl,rfl,SqL.of hrow11,a1,rfl,_,rfl,by rw[Lp];exact hN _ rfl⟩) (fun g H12 e=>?_) (fun g H12 e=>?_)
   ·rw[e]
    refine ⟨_,rfl,_,rfl,row,_,_,_,rfl,rfl,SqL.of hrow11,a3,_,_,rfl,rfl,_,rfl,row,_,_,_,rfl,rfl,SqL.of hrow11,a3,_,_,rfl,rfl,Ah (by simp),fun q4 hq4=>?_⟩
    have s12:=Ak.new (o:=HO.lst [V.int 0,V.int 10,V.int (-1-r3),V.int (10+r3)]) hq4
    obtain ⟨N,hf,hf2⟩ : ∃ z:Int,atI [V.int 0,V.int 10,V.int (-1-r3),V.int (10+r3)] r2=some (V.int z) /\ ¬ (1<=z/\z<=9):= by
     rcases (show r2=0\/r2=1\/r2=2\/r2=3 by omega) with e | e | e | e
     ·exact ⟨_,by rw[e];rfl,by omega⟩
     ·exact ⟨_,by rw[e];rfl,by omega⟩
     ·exact ⟨_,by rw[e];rfl,by omega⟩
     ·exact ⟨_,by rw[e];rfl,by omega⟩
    exact ⟨_,rfl,row,_,_,_,rfl,rfl,SqL.of (s12 _ _ hrow11),a2,q4,_,_,_,rfl,rfl,SqL.of Ab,hf,hZ _ _ ⟨N,rfl,.inr hf2,s12⟩⟩
   ·rw[e]
    exact hZ _ _ ⟨m,rfl,.inl rfl,Ak.refl _⟩
  rintro σ H12 ⟨N,rfl,hN9,s12⟩
  have hne:rdS N rs9≠0:= by
   rcases hN9 with h | h
   ·rw[h,<- hrs9,Fj (by omega) (fun s hs=>(hU9 s hs).ok) hd1];exact hd1
   ·unfold rdS;rw[if_neg h];decide
  have hOd : ∃ (ss:List Say) (r:Raw) (tl:List Raw),rs9=ss.map Cp++r::tl/\(1<=N/\N<=9->(∀ s ∈ ss,OA N s)/\B8 N r≠0):= by
   refine ⟨ss9,v1,tl9,hrs9.symm,fun hn=>?_⟩
   rcases hN9 with h | h
   ·rw[h];exact ⟨hU9,hd1⟩
   ·exact absurd hn h
  refine Bz ?_
  refine ⟨_,rfl,_,rfl,N,sl,as9,rs9,rfl,SqL.of (s12 _ _ hsl11),hR11.same s12,by omega,fun z=>absurd z hne,fun _ t H13 s13 _ ht13=>?_⟩
  have S13:=s12.trans s13
  have hsl13:=S13 _ _ hsl11
  have hR13:=hR11.same S13
  have hT13:=hT11.same S13
  try dsimp only
  refine nrm (σ':=[some (.ref a),some (.int (0+(i:Int))),some (.int f1),some (.int f2),some (.int f3),some (.ref row),some (.int N),some (.ref gl),some (.ref ol),some (.int kt),some (.ref sl),some (.ref t),o12,o13]) rfl ?_
  refine ⟨3,rfl,by decide,by decide,Ff (lo:=0) (n:=(3:Int).toNat) (fun j σ H14=>∃ o12 o13:Option V,σ=[some (.ref a),some (.int (0+(i:Int))),some (.int f1),some (.int f2),some (.int f3),some (.ref row),some (.int N),some (.ref gl),some (.ref ol),some (.int kt),some (.ref sl),some (.ref t),o12,o13]/\Ak (Bp H13 PTopen_pair) H14/\AM H14 PTopen_pair ⟨125,26,125,86⟩ DH) ⟨_,_,rfl,DO _ _,hT13⟩ ?_ (fun σ H14 ⟨o12,o13,e,s14,hT14⟩=>?_)⟩
  ·rintro j σ H14 hj ⟨o12,o13,rfl,s14,hT14⟩
   have hj3:j<3:=hj
   have hsl14:=s14 _ _ (A4 hT13 hsl13 fun _ z=>nomatch z)
   have ht14:=s14 _ _ (A4 hT13 ht13 fun _ z=>nomatch z)
   have hR14:=hR13.beside hT13 s14
   refine gN ?_
   refine Bz ⟨_,rfl,sl,_,rfl,.inl (SqL.of hsl14),fun hd hhd=>?_⟩
   have s15:=Ak.new (o:=HO.lst (as9.map V.ref)) hhd
   have hh15:upd H14 hd (HO.lst (as9.map V.ref)) hd=some (.lst (as9.map V.ref)):=Ab
   generalize upd H14 hd (HO.lst (as9.map V.ref))=H15 at s15 hh15
   have hT15:=hT14.same s15
   have hR15:=hR14.same s15
   have hsl15:=s15 _ _ hsl14
   have ht15:=s15 _ _ ht14
   try dsimp only
   refine Oc (b:=false) (P:=fun H16=>Ak (Bp H15 PTopen_pair) H16/\AM H16 PTopen_pair ⟨125,26,125,86⟩ DH) (fun M hM=>?_) (fun g=>by cases g) (fun _ H16 h16=>⟨_,_,rfl,AX (s14.trans s15) h16.1,h16.2⟩)
   refine ⟨_,rfl,rfl,_,rfl,Lf (fun z=>by cases z) ?_⟩
   refine ⟨_,rfl,_,rfl,_,rfl,N,hd,as9,rs9,_,rfl,by omega,by omega,hh15,hR15,by omega,hne,hOd,hT15,fun t2 H16 s16 hT16 ht16=>?_⟩
   have ht16':=s16 _ _ (A4 hT15 ht15 fun _ z=>nomatch z)
   have hh16:=s16 _ _ (A4 hT15 hh15 fun _ z=>nomatch z)
   have hsl16:=s16 _ _ (A4 hT15 hsl15 fun _ z=>nomatch z)
   have hR16:=hR15.beside hT15 s16
   have e:Mf [V.str (rdW (rdS N rs9))] [V.str (rdW (rdS N rs9))]=true:=FJ [_]
   refine ⟨_,rfl,t2,t,_,_,rfl,rfl,.inr ⟨SqL.of ht16,SqL.of ht16'⟩,rfl,rfl,_,rfl,?_⟩
   rw[e]
   refine FT ⟨_,rfl,_,rfl,_,_,Kl (SqL.of hh16) hR16,Kl (SqL.of hsl16) hR16,?_,_,rfl,?_⟩
   ·rw[Gb];have:=HQ rs9;omega
   rw[E6]
   exact hM _ ⟨s16,hT16⟩
  ·exact ⟨_,_,_,_,_,_,_,_,_,_,_,_,_,e,AX (S11.trans S13) s14,hT14⟩
end
theorem Ql {l : PySem.W.OpenLaw} {w : World} {K : PySem.W.Frag} {h : Heap} {mg : Str -> Option Value} {fa : Addr} (X : K.In h) (G : h.Ns mainGlobals mg) (hfa : mg "law" = some (.ref fa))
  {f1:Addr} {od1 an1:Option Addr} {sl1:Array (Option Value)} {oc1 kV1 dc1 pm1 cd1 ct1:Value} {f2:Addr} {od2 an2:Option Addr} {sl2:Array (Option Value)} {oc2 kV2 dc2 pm2 cd2 ct2:Value} {f3:Addr} {od3 an3:Option Addr} {sl3:Array (Option Value)} {oc3 kV3 dc3 pm3 cd3 ct3:Value} {f4:Addr} {od4 an4:Option Addr} {sl4:Array (Option Value)} {oc4 kV4 dc4 pm4 cd4 ct4:Value} {f5:Addr} {od5 an5:Option Addr} {sl5:Array (Option Value)} {oc5 kV5 dc5 pm5 cd5 ct5:Value} {f6:Addr} {od6 an6:Option Addr} {sl6:Array (Option Value)} {oc6 kV6 dc6 pm6 cd6 ct6:Value} {f7:Addr} {od7 an7:Option Addr} {sl7:Array (Option Value)} {oc7 kV7 dc7 pm7 cd7 ct7:Value} {f8:Addr} {od8 an8:Option Addr} {sl8:Array (Option Value)} {oc8 kV8 dc8 pm8 cd8 ct8:Value} {f9:Addr} {od9 an9:Option Addr} {sl9:Array (Option Value)} {oc9 kV9 dc9 pm9 cd9 ct9:Value} {f10:Addr} {od10 an10:Option Addr} {sl10:Array (Option Value)} {oc10 kV10 dc10 pm10 cd10 ct10:Value} {f11:Addr} {od11 an11:Option Addr} {sl11:Array (Option Value)} {oc11 kV11 dc11 pm11 cd11 ct11:Value} {f12:Addr} {od12 an12:Option Addr} {sl12:Array (Option Value)} {oc12 kV12 dc12 pm12 cd12 ct12:Value} {f13:Addr} {od13 an13:Option Addr} {sl13:Array (Option Value)} {oc13 kV13 dc13 pm13 cd13 ct13:Value} {f14:Addr} {od14 an14:Option Addr} {sl14:Array (Option Value)} {oc14 kV14 dc14 pm14 cd14 ct14:Value} {f15:Addr} {od15 an15:Option Addr} {sl15:Array (Option Value)} {oc15 kV15 dc15 pm15 cd15 ct15:Value} {f16:Addr} {od16 an16:Option Addr} {sl16:Array (Option Value)} {oc16 kV16 dc16 pm16 cd16 ct16:Value} {f17:Addr} {od17 an17:Option Addr} {sl17:Array (Option Value)} {oc17 kV17 dc17 pm17 cd17 ct17:Value} {f18:Addr} {od18 an18:Option Addr} {sl18:Array (Option Value)} {oc18 kV18 dc18 pm18 ct18:Value} {CTopen_pair PTopen_pair:Addr} {f19:Addr} {od19 an19:Option Addr} {sl19:Array (Option Value)} {oc19 kV19 dc19 pm19 cd19 ct19:Value} {f20:Addr} {od20 an20:Option Addr} {sl20:Array (Option Value)} {oc20 kV20 dc20 pm20 cd20 ct20:Value} {f21:Addr} {od21 an21:Option Addr} {sl21:Array (Option Value)} {oc21 kV21 dc21 pm21 cd21 ct21:Value} {f22:Addr} {od22 an22:Option Addr} {sl22:Array (Option Value)} {oc22 kV22 dc22 pm22 cd22 ct22:Value} {f23:Addr} {od23 an23:Option Addr} {sl23:Array (Option Value)} {oc23 kV23 dc23 pm23 cd23 ct23:Value} {f24:Addr} {od24 an24:Option Addr} {sl24:Array (Option Value)} {oc24 kV24 dc24 pm24 cd24 ct24:Value} {f25:Addr} {od25 an25:Option Addr} {sl25:Array (Option Value)} {oc25 kV25 dc25 pm25 cd25 ct25:Value} {f26:Addr} {od26 an26:Option Addr} {sl26:Array (Option Value)} {oc26 kV26 dc26 pm26 cd26 ct26:Value} {f27:Addr} {od27 an27:Option Addr} {sl27:Array (Option Value)} {oc27 kV27 dc27 pm27 cd27 ct27:Value} {f28:Addr} {od28 an28:Option Addr} {sl28:Array (Option Value)} {oc28 kV28 dc28 pm28 cd28 ct28:Value} {f29:Addr} {od29 an29:Option Addr} {sl29:Array (Option Value)} {oc29 kV29 dc29 pm29 cd29 ct29:Value} {f30:Addr} {od30 an30:Option Addr} {sl30:Array (Option Value)} {oc30 kV30 dc30 pm30 cd30 ct30:Value} {f31:Addr} {od31 an31:Option Addr} {sl31:Array (Option Value)} {oc31 kV31 dc31 pm31 cd31 ct31:Value} {f32:Addr} {od32 an32:Option Addr} {sl32:Array (Option Value)} {oc32 kV32 dc32 pm32 cd32 ct32:Value} {f33:Addr} {od33 an33:Option Addr} {sl33:Array (Option Value)} {oc33 kV33 dc33 pm33 cd33 ct33:Value} {T33:Addr} {oT33:Obj} {nT33:Nat} {tk33:Tok} {f34:Addr} {od34 an34:Option Addr} {sl34:Array (Option Value)} {oc34 kV34 dc34 pm34 cd34 ct34:Value} {f35:Addr} {od35 an35:Option Addr} {sl35:Array (Option Value)} {oc35 kV35 dc35 pm35 cd35 ct35:Value} {f36:Addr} {od36 an36:Option Addr} {sl36:Array (Option Value)} {oc36 kV36 dc36 pm36 cd36 ct36:Value} {f37:Addr} {od37 an37:Option Addr} {sl37:Array (Option Value)} {oc37 kV37 dc37 pm37 cd37 ct37:Value} {f38:Addr} {od38 an38:Option Addr} {sl38:Array (Option Value)} {oc38 kV38 dc38 pm38 cd38 ct38:Value} {f39:Addr} {od39 an39:Option Addr} {sl39:Array (Option Value)} {oc39 kV39 dc39 pm39 cd39 ct39:Value} {tg0:Tok} {CBadMany:Addr} {CBadSaying:Addr} {CNoCenser:Addr} {CGist:Addr} {CSayings:Addr} {DTHINGS:Addr} {ts:List Addr}
  (a1 : PySem.W.nsIn K mainGlobals "_law_cell" = some (some (.ref f1)))
  (l1 : K.lookup f1 = some ⟨oc1,od1,.func (PySem.W.fnOf "_law_cell" "_law_cell" (Am B7) (Al B7) (Ae B7) .none kV1 dc1 pm1 an1 cd1 ct1),sl1⟩)
  (c1 : PySem.W.codeIn K cd1 "_law_cell" = true) (k1 : PySem.W.keepIn K (.ref f1) = true)
  (a2 : PySem.W.nsIn K mainGlobals "_law_many" = some (some (.ref f2)))
  (l2 : K.lookup f2 = some ⟨oc2,od2,.func (PySem.W.fnOf "_law_many" "_law_many" (Am B6) (Al B6) (Ae B6) .none kV2 dc2 pm2 an2 cd2 ct2),sl2⟩)
  (c2 : PySem.W.codeIn K cd2 "_law_many" = true) (k2 : PySem.W.keepIn K (.ref f2) = true)
  (a3 : PySem.W.nsIn K mainGlobals "check_many" = some (some (.ref f3)))
  (l3 : K.lookup f3 = some ⟨oc3,od3,.func (PySem.W.fnOf "check_many" "check_many" (Am BL) (Al BL) (Ae BL) .none kV3 dc3 pm3 an3 cd3 ct3),sl3⟩)
  (c3 : PySem.W.codeIn K cd3 "check_many" = true) (k3 : PySem.W.keepIn K (.ref f3) = true)
  (a4 : PySem.W.nsIn K mainGlobals "check_censer" = some (some (.ref f4)))
  (l4 : K.lookup f4 = some ⟨oc4,od4,.func (PySem.W.fnOf "check_censer" "check_censer" (Am Bi) (Al Bi) (Ae Bi) .none kV4 dc4 pm4 an4 cd4 ct4),sl4⟩)
  (c4 : PySem.W.codeIn K cd4 "check_censer" = true) (k4 : PySem.W.keepIn K (.ref f4) = true)
  (a5 : PySem.W.nsIn K mainGlobals "way_of" = some (some (.ref f5)))
  (l5 : K.lookup f5 = some ⟨oc5,od5,.func (PySem.W.fnOf "way_of" "way_of" (Am En) (Al En) (Ae En) .none kV5 dc5 pm5 an5 cd5 ct5),sl5⟩)
  (c5 : PySem.W.codeIn K cd5 "way_of" = true) (k5 : PySem.W.keepIn K (.ref f5) = true)
  (a6 : PySem.W.nsIn K mainGlobals "relabelled" = some (some (.ref f6)))
  (l6 : K.lookup f6 = some ⟨oc6,od6,.func (PySem.W.fnOf "relabelled" "relabelled" (Am BH) (Al BH) (Ae BH) .none kV6 dc6 pm6 an6 cd6 ct6),sl6⟩)
  (c6 : PySem.W.codeIn K cd6 "relabelled" = true) (k6 : PySem.W.keepIn K (.ref f6) = true)
  (a7 : PySem.W.nsIn K mainGlobals "check_saying" = some (some (.ref f7)))
  (l7 : K.lookup f7 = some ⟨oc7,od7,.func (PySem.W.fnOf "check_saying" "check_saying" (Am Bh) (Al Bh) (Ae Bh) .none kV7 dc7 pm7 an7 cd7 ct7),sl7⟩)
  (c7 : PySem.W.codeIn K cd7 "check_saying" = true) (k7 : PySem.W.keepIn K (.ref f7) = true)
  (a8 : PySem.W.findIn K (.ref CGist) "__init__" = some (some (.ref f8))) (i8 : PySem.W.isFn K (.ref f8) = true)
  (l8 : K.lookup f8 = some ⟨oc8,od8,.func (PySem.W.fnOf "__init__" "Gist.__init__" (Am A9) (Al A9) (Ae A9) .none kV8 dc8 pm8 an8 cd8 ct8),sl8⟩)
  (c8 : PySem.W.codeIn K cd8 "Gist.__init__" = true) (k8 : PySem.W.keepIn K (.ref f8) = true)
  (a9 : PySem.W.findIn K (.ref CGist) "take" = some (some (.ref f9))) (i9 : PySem.W.isFn K (.ref f9) = true)
  (l9 : K.lookup f9 = some ⟨oc9,od9,.func (PySem.W.fnOf "take" "Gist.take" (Am B9) (Al B9) (Ae B9) .none kV9 dc9 pm9 an9 cd9 ct9),sl9⟩)
  (c9 : PySem.W.codeIn K cd9 "Gist.take" = true) (k9 : PySem.W.keepIn K (.ref f9) = true)
  (a10 : PySem.W.findIn K (.ref CGist) "longer" = some (some (.ref f10))) (i10 : PySem.W.isFn K (.ref f10) = true)
  (l10 : K.lookup f10 = some ⟨oc10,od10,.func (PySem.W.fnOf "longer" "Gist.longer" (Am Bw) (Al Bw) (Ae Bw) .none kV10 dc10 pm10 an10 cd10 ct10),sl10⟩)
  (c10 : PySem.W.codeIn K cd10 "Gist.longer" = true) (k10 : PySem.W.keepIn K (.ref f10) = true)
  (a11 : PySem.W.findIn K (.ref CGist) "homes" = some (some (.ref f11))) (i11 : PySem.W.isFn K (.ref f11) = true)
  (l11 : K.lookup f11 = some ⟨oc11,od11,.func (PySem.W.fnOf "homes" "Gist.homes" (Am BQ) (Al BQ) (Ae BQ) .none kV11 dc11 pm11 an11 cd11 ct11),sl11⟩)
  (c11 : PySem.W.codeIn K cd11 "Gist.homes" = true) (k11 : PySem.W.keepIn K (.ref f11) = true)
  (a12 : PySem.W.findIn K (.ref CGist) "walls" = some (some (.ref f12))) (i12 : PySem.W.isFn K (.ref f12) = true)
  (l12 : K.lookup f12 = some ⟨oc12,od12,.func (PySem.W.fnOf "walls" "Gist.walls" (Am BJ) (Al BJ) (Ae BJ) .none kV12 dc12 pm12 an12 cd12 ct12),sl12⟩)
  (c12 : PySem.W.codeIn K cd12 "Gist.walls" = true) (k12 : PySem.W.keepIn K (.ref f12) = true)
  (a13 : PySem.W.nsIn K mainGlobals "gist_of" = some (some (.ref f13)))
  (l13 : K.lookup f13 = some ⟨oc13,od13,.func (PySem.W.fnOf "gist_of" "gist_of" (Am Dx) (Al Dx) (Ae Dx) .none kV13 dc13 pm13 an13 cd13 ct13),sl13⟩)
  (c13 : PySem.W.codeIn K cd13 "gist_of" = true) (k13 : PySem.W.keepIn K (.ref f13) = true)
  (a14 : PySem.W.nsIn K mainGlobals "checked_gist" = some (some (.ref f14)))
  (l14 : K.lookup f14 = some ⟨oc14,od14,.func (PySem.W.fnOf "checked_gist" "checked_gist" (Am Bk) (Al Bk) (Ae Bk) .none kV14 dc14 pm14 an14 cd14 ct14),sl14⟩)
  (c14 : PySem.W.codeIn K cd14 "checked_gist" = true) (k14 : PySem.W.keepIn K (.ref f14) = true)
  (a15 : PySem.W.nsIn K mainGlobals "crowd" = some (some (.ref f15)))
  (l15 : K.lookup f15 = some ⟨oc15,od15,.func (PySem.W.fnOf "crowd" "crowd" (Am Gy) (Al Gy) (Ae Gy) .none kV15 dc15 pm15 an15 cd15 ct15),sl15⟩)
  (c15 : PySem.W.codeIn K cd15 "crowd" = true) (k15 : PySem.W.keepIn K (.ref f15) = true)
  (a16 : PySem.W.nsIn K mainGlobals "plain_paper" = some (some (.ref f16)))
  (l16 : K.lookup f16 = some ⟨oc16,od16,.func (PySem.W.fnOf "plain_paper" "plain_paper" (Am Bx) (Al Bx) (Ae Bx) .none kV16 dc16 pm16 an16 cd16 ct16),sl16⟩)
  (c16 : PySem.W.codeIn K cd16 "plain_paper" = true) (k16 : PySem.W.keepIn K (.ref f16) = true)
  (a17 : PySem.W.nsIn K mainGlobals "apart_from_both" = some (some (.ref f17)))
  (l17 : K.lookup f17 = some ⟨oc17,od17,.func (PySem.W.fnOf "apart_from_both" "apart_from_both" (Am AZ) (Al AZ) (Ae AZ) .none kV17 dc17 pm17 an17 cd17 ct17),sl17⟩)
  (c17 : PySem.W.codeIn K cd17 "apart_from_both" = true) (k17 : PySem.W.keepIn K (.ref f17) = true)
  (a18 : PySem.W.nsIn K mainGlobals "open_pair" = some (some (.ref f18)))
  (l18 : K.lookup f18 = some ⟨oc18,od18,.func (PySem.W.fnOf "open_pair" "open_pair" (Am B5) (Al B5) (Ae B5) .none kV18 dc18 pm18 an18 (.ref CTopen_pair) ct18),sl18⟩)
  (c18 : PySem.W.codeIn K (.ref CTopen_pair) "open_pair" = true) (k18 : PySem.W.keepIn K (.ref f18) = true)
  (u18:PTopen_pair ∈ ts) (t18:PySem.W.codeHdIn K CTopen_pair PTopen_pair=true) (v18:K.lookup PTopen_pair=none)
  (a19 : PySem.W.nsIn K mainGlobals "settle" = some (some (.ref f19)))
  (l19 : K.lookup f19 = some ⟨oc19,od19,.func (PySem.W.fnOf "settle" "settle" (Am Ew) (Al Ew) (Ae Ew) .none kV19 dc19 pm19 an19 cd19 ct19),sl19⟩)
  (c19 : PySem.W.codeIn K cd19 "settle" = true) (k19 : PySem.W.keepIn K (.ref f19) = true)
  (a20 : PySem.W.nsIn K mainGlobals "settled" = some (some (.ref f20)))
  (l20 : K.lookup f20 = some ⟨oc20,od20,.func (PySem.W.fnOf "settled" "settled" (Am Dt) (Al Dt) (Ae Dt) .none kV20 dc20 pm20 an20 cd20 ct20),sl20⟩)
  (c20 : PySem.W.codeIn K cd20 "settled" = true) (k20 : PySem.W.keepIn K (.ref f20) = true)
  (a21 : PySem.W.nsIn K mainGlobals "is_paper" = some (some (.ref f21)))
  (l21 : K.lookup f21 = some ⟨oc21,od21,.func (PySem.W.fnOf "is_paper" "is_paper" (Am CD) (Al CD) (Ae CD) .none kV21 dc21 pm21 an21 cd21 ct21),sl21⟩)
  (c21 : PySem.W.codeIn K cd21 "is_paper" = true) (k21 : PySem.W.keepIn K (.ref f21) = true)
  (a22 : PySem.W.nsIn K mainGlobals "shows" = some (some (.ref f22)))
  (l22 : K.lookup f22 = some ⟨oc22,od22,.func (PySem.W.fnOf "shows" "shows" (Am GM) (Al GM) (Ae GM) .none kV22 dc22 pm22 an22 cd22 ct22),sl22⟩)
  (c22 : PySem.W.codeIn K cd22 "shows" = true) (k22 : PySem.W.keepIn K (.ref f22) = true)
  (a23 : PySem.W.nsIn K mainGlobals "grown" = some (some (.ref f23)))
  (l23 : K.lookup f23 = some ⟨oc23,od23,.func (PySem.W.fnOf "grown" "grown" (Am Gz) (Al Gz) (Ae Gz) .none kV23 dc23 pm23 an23 cd23 ct23),sl23⟩)
  (c23 : PySem.W.codeIn K cd23 "grown" = true) (k23 : PySem.W.keepIn K (.ref f23) = true)
  (a24 : PySem.W.findIn K (.ref CSayings) "standing" = some (some (.ref f24))) (i24 : PySem.W.isFn K (.ref f24) = true)
  (l24 : K.lookup f24 = some ⟨oc24,od24,.func (PySem.W.fnOf "standing" "Sayings.standing" (Am AT) (Al AT) (Ae AT) .none kV24 dc24 pm24 an24 cd24 ct24),sl24⟩)
  (c24 : PySem.W.codeIn K cd24 "Sayings.standing" = true) (k24 : PySem.W.keepIn K (.ref f24) = true)
  (a25 : PySem.W.findIn K (.ref CSayings) "rows" = some (some (.ref f25))) (i25 : PySem.W.isFn K (.ref f25) = true)
  (l25 : K.lookup f25 = some ⟨oc25,od25,.func (PySem.W.fnOf "rows" "Sayings.rows" (Am Bj) (Al Bj) (Ae Bj) .none kV25 dc25 pm25 an25 cd25 ct25),sl25⟩)
  (c25 : PySem.W.codeIn K cd25 "Sayings.rows" = true) (k25 : PySem.W.keepIn K (.ref f25) = true)
  (a26 : PySem.W.findIn K (.ref CSayings) "said" = some (some (.ref f26))) (i26 : PySem.W.isFn K (.ref f26) = true)
  (l26 : K.lookup f26 = some ⟨oc26,od26,.func (PySem.W.fnOf "said" "Sayings.said" (Am Bl) (Al Bl) (Ae Bl) .none kV26 dc26 pm26 an26 cd26 ct26),sl26⟩)
  (c26 : PySem.W.codeIn K cd26 "Sayings.said" = true) (k26 : PySem.W.keepIn K (.ref f26) = true)
  (a27 : PySem.W.findIn K (.ref CSayings) "check_two" = some (some (.ref f27))) (i27 : PySem.W.isFn K (.ref f27) = true)
  (l27 : K.lookup f27 = some ⟨oc27,od27,.func (PySem.W.fnOf "check_two" "Sayings.check_two" (Am AK) (Al AK) (Ae AK) .none kV27 dc27 pm27 an27 cd27 ct27),sl27⟩)
  (c27 : PySem.W.codeIn K cd27 "Sayings.check_two" = true) (k27 : PySem.W.keepIn K (.ref f27) = true)
  (a28 : PySem.W.findIn K (.ref CSayings) "chain" = some (some (.ref f28))) (i28 : PySem.W.isFn K (.ref f28) = true)
  (l28 : K.lookup f28 = some ⟨oc28,od28,.func (PySem.W.fnOf "chain" "Sayings.chain" (Am Ba) (Al Ba) (Ae Ba) .none kV28 dc28 pm28 an28 cd28 ct28),sl28⟩)
  (c28 : PySem.W.codeIn K cd28 "Sayings.chain" = true) (k28 : PySem.W.keepIn K (.ref f28) = true)
  (a29 : PySem.W.findIn K (.ref CSayings) "settled_with" = some (some (.ref f29))) (i29 : PySem.W.isFn K (.ref f29) = true)
  (l29 : K.lookup f29 = some ⟨oc29,od29,.func (PySem.W.fnOf "settled_with" "Sayings.settled_with" (Am AC) (Al AC) (Ae AC) .none kV29 dc29 pm29 an29 cd29 ct29),sl29⟩)
  (c29 : PySem.W.codeIn K cd29 "Sayings.settled_with" = true) (k29 : PySem.W.keepIn K (.ref f29) = true)
  (a30 : PySem.W.findIn K (.ref CSayings) "__init__" = some (some (.ref f30))) (i30 : PySem.W.isFn K (.ref f30) = true)
  (l30 : K.lookup f30 = some ⟨oc30,od30,.func (PySem.W.fnOf "__init__" "Sayings.__init__" (Am AR) (Al AR) (Ae AR) .none kV30 dc30 pm30 an30 cd30 ct30),sl30⟩)
  (c30 : PySem.W.codeIn K cd30 "Sayings.__init__" = true) (k30 : PySem.W.keepIn K (.ref f30) = true)
  (a31 : PySem.W.findIn K (.ref CSayings) "say" = some (some (.ref f31))) (i31 : PySem.W.isFn K (.ref f31) = true)
  (l31 : K.lookup f31 = some ⟨oc31,od31,.func (PySem.W.fnOf "say" "Sayings.say" (Am Bu) (Al Bu) (Ae Bu) .none kV31 dc31 pm31 an31 cd31 ct31),sl31⟩)
  (c31 : PySem.W.codeIn K cd31 "Sayings.say" = true) (k31 : PySem.W.keepIn K (.ref f31) = true)
  (a32 : PySem.W.nsIn K mainGlobals "_law_draw" = some (some (.ref f32)))
  (l32 : K.lookup f32 = some ⟨oc32,od32,.func (PySem.W.fnOf "_law_draw" "_law_draw" (Am B4) (Al B4) (Ae B4) .none kV32 dc32 pm32 an32 cd32 ct32),sl32⟩)
  (c32 : PySem.W.codeIn K cd32 "_law_draw" = true) (k32 : PySem.W.keepIn K (.ref f32) = true)
  (a33 : PySem.W.nsIn K mainGlobals "_law_split" = some (some (.ref f33)))
  (l33 : K.lookup f33 = some ⟨oc33,od33,.func (PySem.W.fnOf "_law_split" "_law_split" (Am BK) (Al BK) (Ae BK) (.ref T33) kV33 dc33 pm33 an33 cd33 ct33),sl33⟩)
  (c33 : PySem.W.codeIn K cd33 "_law_split" = true) (k33 : PySem.W.keepIn K (.ref f33) = true)
  (lT33:K.lookup T33=some oT33) (dT33:oT33.data = .seq [Value.int 0 tk33].toArray nT33)
  (a34 : PySem.W.nsIn K mainGlobals "_law_odd" = some (some (.ref f34)))
  (l34 : K.lookup f34 = some ⟨oc34,od34,.func (PySem.W.fnOf "_law_odd" "_law_odd" (Am CG) (Al CG) (Ae CG) .none kV34 dc34 pm34 an34 cd34 ct34),sl34⟩)
  (c34 : PySem.W.codeIn K cd34 "_law_odd" = true) (k34 : PySem.W.keepIn K (.ref f34) = true)
  (a35 : PySem.W.nsIn K mainGlobals "_law_due" = some (some (.ref f35)))
  (l35 : K.lookup f35 = some ⟨oc35,od35,.func (PySem.W.fnOf "_law_due" "_law_due" (Am Cy) (Al Cy) (Ae Cy) .none kV35 dc35 pm35 an35 cd35 ct35),sl35⟩)
  (c35 : PySem.W.codeIn K cd35 "_law_due" = true) (k35 : PySem.W.keepIn K (.ref f35) = true)
  (a36 : PySem.W.nsIn K mainGlobals "_law_tried_one" = some (some (.ref f36)))
  (l36 : K.lookup f36 = some ⟨oc36,od36,.func (PySem.W.fnOf "_law_tried_one" "_law_tried_one" (Am A3) (Al A3) (Ae A3) .none kV36 dc36 pm36 an36 cd36 ct36),sl36⟩)
  (c36 : PySem.W.codeIn K cd36 "_law_tried_one" = true) (k36 : PySem.W.keepIn K (.ref f36) = true)
  (a37 : PySem.W.nsIn K mainGlobals "_law_tried" = some (some (.ref f37)))
  (l37 : K.lookup f37 = some ⟨oc37,od37,.func (PySem.W.fnOf "_law_tried" "_law_tried" (Am BR) (Al BR) (Ae BR) .none kV37 dc37 pm37 an37 cd37 ct37),sl37⟩)
  (c37 : PySem.W.codeIn K cd37 "_law_tried" = true) (k37 : PySem.W.keepIn K (.ref f37) = true)
  (a38 : PySem.W.nsIn K mainGlobals "_law_said_by_one" = some (some (.ref f38)))
  (l38 : K.lookup f38 = some ⟨oc38,od38,.func (PySem.W.fnOf "_law_said_by_one" "_law_said_by_one" (Am AS) (Al AS) (Ae AS) .none kV38 dc38 pm38 an38 cd38 ct38),sl38⟩)
  (c38 : PySem.W.codeIn K cd38 "_law_said_by_one" = true) (k38 : PySem.W.keepIn K (.ref f38) = true)
  (a39 : PySem.W.nsIn K mainGlobals "law" = some (some (.ref f39)))
  (l39 : K.lookup f39 = some ⟨oc39,od39,.func (PySem.W.fnOf "law" "law" (Am N5) (Al N5) (Ae N5) .none kV39 dc39 pm39 an39 cd39 ct39),sl39⟩)
  (c39 : PySem.W.codeIn K cd39 "law" = true) (k39 : PySem.W.keepIn K (.ref f39) = true)
  (z0 : PySem.W.nsIn K mainGlobals "dict" = some none)
  (z1 : PySem.W.nsIn K mainGlobals "enumerate" = some none)
  (z2 : PySem.W.nsIn K mainGlobals "len" = some none)
  (z3 : PySem.W.nsIn K mainGlobals "list" = some none)
  (z4 : PySem.W.nsIn K mainGlobals "max" = some none)
  (z5 : PySem.W.nsIn K mainGlobals "min" = some none)
  (z6 : PySem.W.nsIn K mainGlobals "range" = some none)
  (z7 : PySem.W.nsIn K mainGlobals "set" = some none)
  (z8 : PySem.W.nsIn K mainGlobals "sorted" = some none)
  (z9 : PySem.W.nsIn K mainGlobals "sum" = some none)
  (z10 : PySem.W.nsIn K mainGlobals "tuple" = some none)
  (mc0 : PySem.W.nsIn K mainGlobals "MOST_CENSERS" = some (some (.int 9 tg0)))
  (xmBadMany : PySem.W.nsIn K mainGlobals "BadMany" = some (some (.ref CBadMany))) (xqBadMany : PySem.W.excIn K CBadMany bmV "ValueError.__new__" = true)
  (xmBadSaying : PySem.W.nsIn K mainGlobals "BadSaying" = some (some (.ref CBadSaying))) (xqBadSaying : PySem.W.excIn K CBadSaying bmV "ValueError.__new__" = true)
  (xmNoCenser : PySem.W.nsIn K mainGlobals "NoCenser" = some (some (.ref CNoCenser))) (xqNoCenser : PySem.W.excIn K CNoCenser bmV "ValueError.__new__" = true)
  (xnBadSayingBadMany:PySem.W.exmOne K (.ref CBadSaying) (.ref CBadMany)=some false)
  (xnNoCenserBadMany:PySem.W.exmOne K (.ref CNoCenser) (.ref CBadMany)=some false)
  (xnNoCenserBadSaying:PySem.W.exmOne K (.ref CNoCenser) (.ref CBadSaying)=some false)
  (oaGist : PySem.W.nsIn K mainGlobals "Gist" = some (some (.ref CGist))) (opGist : PySem.W.plainGet K CGist Str.empty = true) (ohGist : PySem.W.hasDictIn K CGist = true) (ooGist : PySem.W.plainOver K CGist = true) (osGist : PySem.W.findIn K (.ref CGist) "__setattr__" = some (some (.builtin "object.__setattr__"))) (okGist : PySem.W.makesIn K CGist = true) (ocGist : PySem.W.keepIn K (.ref CGist) = true)
  (onGist_labels : PySem.W.findIn K (.ref CGist) "labels" = some none)
  (onGist_unlikes : PySem.W.findIn K (.ref CGist) "unlikes" = some none)
  (onGist_low : PySem.W.findIn K (.ref CGist) "low" = some none)
  (onGist_high : PySem.W.findIn K (.ref CGist) "high" = some none)
  (oaSayings : PySem.W.nsIn K mainGlobals "Sayings" = some (some (.ref CSayings))) (opSayings : PySem.W.plainGet K CSayings Str.empty = true) (ohSayings : PySem.W.hasDictIn K CSayings = true) (ooSayings : PySem.W.plainOver K CSayings = true) (osSayings : PySem.W.findIn K (.ref CSayings) "__setattr__" = some (some (.builtin "object.__setattr__"))) (okSayings : PySem.W.makesIn K CSayings = true) (ocSayings : PySem.W.keepIn K (.ref CSayings) = true)
  (onSayings_size : PySem.W.findIn K (.ref CSayings) "size" = some none)
  (onSayings_given : PySem.W.findIn K (.ref CSayings) "given" = some none)
  (gdTHINGS : PySem.W.nsIn K mainGlobals "THINGS" = some (some (.ref DTHINGS))) (tdTHINGS : Pa K DTHINGS [("alike",3),("unlike",3),("least",2),("most",2)] = true) :
  ∃ (fd : FuncData) (tabs : List (Addr × Addr)),(∀ q ∈ tabs,PySem.W.codeHdIn K q.1 q.2 = true /\ q.2 ∈ ts /\ K.lookup q.2 = none) /\ (∀ (s : Shared) (v : Value),BindsTo s fd ⟨[v],[]⟩ [("_law_script",v)]) /\ ∀ base : Heap,K.In base -> base.Ns mainGlobals mg -> NU mg base -> Bv l.prog w K mg base CX0 64 fa fd ["_law_script"] (Kb K tabs):= by
 have e:=hfa.symm.trans (PySem.W.mg_of X G a39)
 cases e
 have B:Bs mg:=⟨PySem.W.mg_none_of X G z0,PySem.W.mg_none_of X G z1,PySem.W.mg_none_of X G z2,PySem.W.mg_none_of X G z3,PySem.W.mg_none_of X G z4,PySem.W.mg_none_of X G z5,PySem.W.mg_none_of X G z6,PySem.W.mg_none_of X G z7,PySem.W.mg_none_of X G z8,PySem.W.mg_none_of X G z9,PySem.W.mg_none_of X G z10⟩
 have T:Gs mg:=⟨trivial,⟨_,PySem.W.mg_of X G mc0⟩⟩
 have mBadMany:=PySem.W.mg_of X G xmBadMany
 have mBadSaying:=PySem.W.mg_of X G xmBadSaying
 have mNoCenser:=PySem.W.mg_of X G xmNoCenser
 have clGist:Cls K CGist:=⟨opGist,ohGist,ooGist,osGist⟩
 have clSayings:Cls K CSayings:=⟨opSayings,ohSayings,ooSayings,osSayings⟩
 refine ⟨PySem.W.fnOf "law" "law" (Am N5) (Al N5) (Ae N5) .none kV39 dc39 pm39 an39 cd39 ct39,[(CTopen_pair,PTopen_pair)],(List.forall_mem_cons.mpr ⟨⟨t18,u18,v18⟩,(fun _ h=>nomatch h)⟩),fun s v=>.of_eq rfl,fun base kb9 _ bm9=>?_⟩
 have gTHINGS:=PySem.W.mg_of X G gdTHINGS
 have tTHINGS:=Mj kb9 tdTHINGS
 have F1:=AF (st:=B7) l1 c1 k1
 have C1 : Cal l.prog w K mg base 1 "_law_cell" [] (L9 K):=F1.cal (Ju F1 B T  ) (PySem.W.mg_of X G a1) (fun _ _ _ _ _ _ us hl=>match us,hl with | [_,_],_=>rfl)
 have F2:=AF (st:=B6) l2 c2 k2
 have C2 : Cal l.prog w K mg base 1 "_law_many" [] (LX K):=F2.cal (Je F2 B T  ) (PySem.W.mg_of X G a2) (fun _ _ _ _ _ _ us hl=>match us,hl with | [_,_],_=>rfl)
 have F3:=AF (st:=BL) l3 c3 k3
 have C3 : GU l.prog w K mg base 1 "check_many" [] (CT CBadMany):=F3.calE (HA F3 B T mBadMany xqBadMany ) (PySem.W.mg_of X G a3) (fun _ _ _ _ _ _ us hl=>match us,hl with | [_],_=>rfl)
 have F4:=AF (st:=Bi) l4 c4 k4
 have C4 : GU l.prog w K mg base 1 "check_censer" [] (B1 CNoCenser):=F4.calE (Gk F4 B T mNoCenser xqNoCenser ) (PySem.W.mg_of X G a4) (fun _ _ _ _ _ _ us hl=>match us,hl with | [_,_],_=>rfl)
 have F5:=AF (st:=En) l5 c5 k5
 have C5 : Cal l.prog w K mg base 1 "way_of" [] (GY K):=F5.cal (NV F5 B T  ) (PySem.W.mg_of X G a5) (fun _ _ _ _ _ _ us hl=>match us,hl with | [_],_=>rfl)
 have F6:=AF (st:=BH) l6 c6 k6
 have C6 : Cal l.prog w K mg base 1 "relabelled" [] (Jo K):=F6.cal (IB F6 B T  ) (PySem.W.mg_of X G a6) (fun _ _ _ _ _ _ us hl=>match us,hl with | [_,_,_],_=>rfl)
 have F7:=AF (st:=Bh) l7 c7 k7
 have C7 : GU l.prog w K mg base 2 "check_saying" [] (Nm K CBadSaying CNoCenser):=F7.calE (Gp F7 B T mBadSaying xqBadSaying gTHINGS tTHINGS C4) (PySem.W.mg_of X G a7) (fun _ _ _ _ _ _ us hl=>match us,hl with | [_,_],_=>rfl)
 have F8:=AF (st:=A9) l8 c8 k8
 have b8:=F8.binds (ps:=["self","labels","unlikes","low","high"]) fun _ _ _ _ _ _ us hl=>match us,hl with | [_,_,_,_,_],_=>rfl
 have C8 : Ri l.prog w K mg base CGist 1 "Gist" (Rh K CGist):=⟨f8,_,_,Ft F8 B T clGist onGist_labels onGist_unlikes onGist_low onGist_high , ⟨okGist,a8,i8,ocGist⟩,PySem.W.mg_of X G oaGist,b8⟩
 have F9:=AF (st:=B9) l9 c9 k9
 have b9:=F9.binds (ps:=["self","saying"]) fun _ _ _ _ _ _ us hl=>match us,hl with | [_,_],_=>rfl
 have C9 : Fe l.prog w K mg base CGist 2 "take" (Rm K CGist):=⟨f9,_,_,Jc F9 B T clGist onGist_labels onGist_unlikes onGist_low onGist_high C6,⟨a9,i9,k9⟩,b9⟩
 have F10:=AF (st:=Bw) l10 c10 k10
 have b10:=F10.binds (ps:=["self","saying"]) fun _ _ _ _ _ _ us hl=>match us,hl with | [_,_],_=>rfl
 have C10 : Fe l.prog w K mg base CGist 3 "longer" (RT K CGist):=⟨f10,_,_,Hj F10 B T clGist onGist_labels onGist_unlikes onGist_low onGist_high C8 C9,⟨a10,i10,k10⟩,b10⟩
 have F11:=AF (st:=BQ) l11 c11 k11
 have b11:=F11.binds (ps:=["self"]) fun _ _ _ _ _ _ us hl=>match us,hl with | [_],_=>rfl
 have C11 : Fe l.prog w K mg base CGist 1 "homes" (Q7 K CGist):=⟨f11,_,_,HR F11 B T clGist onGist_labels , ⟨a11,i11,k11⟩,b11⟩
 have F12:=AF (st:=BJ) l12 c12 k12
 have b12:=F12.binds (ps:=["self"]) fun _ _ _ _ _ _ us hl=>match us,hl with | [_],_=>rfl
 have C12 : Fe l.prog w K mg base CGist 1 "walls" (Rn K CGist):=⟨f12,_,_,IC F12 B T clGist onGist_labels onGist_unlikes , ⟨a12,i12,k12⟩,b12⟩
 have F13:=AF (st:=Dx) l13 c13 k13
 have C13 : Cal l.prog w K mg base 4 "gist_of" [] (Rt K CGist):=F13.cal (Lg F13 B T clGist C8 C9) (PySem.W.mg_of X G a13) (fun _ _ _ _ _ _ us hl=>match us,hl with | [_,_],_=>rfl)
 have F14:=AF (st:=Bk) l14 c14 k14
 have C14 : GU l.prog w K mg base 5 "checked_gist" [] (Oe K CGist CBadMany CBadSaying CNoCenser):=F14.calE (Gi F14 B T  C3 C7 C13) (PySem.W.mg_of X G a14) (fun _ _ _ _ _ _ us hl=>match us,hl with | [_,_],_=>rfl)
 have F15:=AF (st:=Gy) l15 c15 k15
 have R15 : ∀ dd : Nat,Cal l.prog w K mg base (1 + dd) "crowd" [] (Re K dd):=fun dd=>by
  induction dd with
  | zero=>exact F15.cal (ps:=["homes","walls","size"]) ⟨fun _ _ _ _ h=>absurd h.1 (by decide),fun _ _ _ _ _ _ _ _ _ _ _ _ _ h=>absurd h.1 (by decide)⟩ (PySem.W.mg_of X G a15) (fun _ _ _ _ _ _ us hl=>match us,hl with | [_,_,_],_=>rfl)
  | succ dd ih=>exact F15.cal (Pg F15 B T  ih) (PySem.W.mg_of X G a15) (fun _ _ _ _ _ _ us hl=>match us,hl with | [_,_,_],_=>rfl)
 have C15:=R15 12
 have F16:=AF (st:=Bx) l16 c16 k16
 have C16 : Cal l.prog w K mg base 14 "plain_paper" [] (Rp K CGist):=F16.cal (GX F16 B T clGist onGist_labels onGist_unlikes onGist_low onGist_high C11 C12 C15) (PySem.W.mg_of X G a16) (fun _ _ _ _ _ _ us hl=>match us,hl with | [_],_=>rfl)
 have F17:=AF (st:=AZ) l17 c17 k17
 have C17 : Cal l.prog w K mg base 1 "apart_from_both" [] (RK K):=F17.cal (Er F17 B T  ) (PySem.W.mg_of X G a17) (fun _ _ _ _ _ _ us hl=>match us,hl with | [_,_,_,_],_=>rfl)
 have F18:=AF (st:=B5) l18 c18 k18
 have C18 : Cal l.prog w K mg base 4 "open_pair" [] (Rz K CGist PTopen_pair):=F18.cal (Jv F18 rfl (PySem.W.codeHd_of_K kb9 t18) bm9 B T clGist C11 C12 C17) (PySem.W.mg_of X G a18) (fun _ _ _ _ _ _ us hl=>match us,hl with | [_],_=>rfl)
 have F19:=AF (st:=Ew) l19 c19 k19
 have R19 : ∀ dd : Nat,Cal l.prog w K mg base (20 + dd) "settle" [] (Rf K CGist PTopen_pair dd):=fun dd=>by
  induction dd with
  | zero=>exact F19.cal (ps:=["gist"]) ⟨fun _ _ _ _ h=>absurd h.1 (by decide),fun _ _ _ _ _ _ _ _ _ _ _ _ _ h=>absurd h.1 (by decide)⟩ (PySem.W.mg_of X G a19) (fun _ _ _ _ _ _ us hl=>match us,hl with | [_],_=>rfl)
  | succ dd ih=>exact F19.cal (N4 F19 B T clGist onGist_labels onGist_high C11 C10 C18 C16 ih C5) (PySem.W.mg_of X G a19) (fun _ _ _ _ _ _ us hl=>match us,hl with | [_],_=>rfl)
 have C19:=R19 38
 have F20:=AF (st:=Dt) l20 c20 k20
 have C20 : GU l.prog w K mg base 59 "settled" [] (NI K CBadMany CBadSaying CNoCenser PTopen_pair):=F20.calE (LA F20 B T  C14 C19) (PySem.W.mg_of X G a20) (fun _ _ _ _ _ _ us hl=>match us,hl with | [_,_],_=>rfl)
 have F21:=AF (st:=CD) l21 c21 k21
 have C21 : Cal l.prog w K mg base 1 "is_paper" [] Jx:=F21.cal (Kx F21 B T  ) (PySem.W.mg_of X G a21) (fun _ _ _ _ _ _ us hl=>match us,hl with | [_,_],_=>rfl)
 have F22:=AF (st:=GM) l22 c22 k22
 have C22 : GU l.prog w K mg base 59 "shows" [] (Pz K CBadMany CBadSaying CNoCenser):=F22.calE (O3 F22 B T  C14 C21) (PySem.W.mg_of X G a22) (fun _ _ _ _ _ _ us hl=>match us,hl with | [_,_,_],_=>rfl)
 have F23:=AF (st:=Gz) l23 c23 k23
 have C23 : Cal l.prog w K mg base 1 "grown" [] (R8 K):=F23.cal (Ps F23 B T  ) (PySem.W.mg_of X G a23) (fun _ _ _ _ _ _ us hl=>match us,hl with | [_,_,_],_=>rfl)
 have F24:=AF (st:=AT) l24 c24 k24
 have b24:=F24.binds (ps:=["self"]) fun _ _ _ _ _ _ us hl=>match us,hl with | [_],_=>rfl
 have C24 : Fe l.prog w K mg base CSayings 1 "standing" (Pb K CSayings):=⟨f24,_,_,D1 F24 B T clSayings onSayings_given , ⟨a24,i24,k24⟩,b24⟩
 have F25:=AF (st:=Bj) l25 c25 k25
 have b25:=F25.binds (ps:=["self"]) fun _ _ _ _ _ _ us hl=>match us,hl with | [_],_=>rfl
 have C25 : Fe l.prog w K mg base CSayings 1 "rows" (R4 K CSayings):=⟨f25,_,_,Gf F25 B T clSayings onSayings_given , ⟨a25,i25,k25⟩,b25⟩
 have F26:=AF (st:=Bl) l26 c26 k26
 have b26:=F26.binds (ps:=["self"]) fun _ _ _ _ _ _ us hl=>match us,hl with | [_],_=>rfl
 have C26 : Fe l.prog w K mg base CSayings 1 "said" (MD CSayings):=⟨f26,_,_,Gj F26 B T clSayings onSayings_given , ⟨a26,i26,k26⟩,b26⟩
 have F27:=AF (st:=AK) l27 c27 k27
 have b27:=F27.binds (ps:=["self","one","other"]) fun _ _ _ _ _ _ us hl=>match us,hl with | [_,_,_],_=>rfl
 have C27 : Jr l.prog w K mg base CSayings 2 "check_two" (Ro CSayings CNoCenser):=⟨f27,_,_,DT F27 B T clSayings onSayings_size C4,⟨a27,i27,k27⟩,b27⟩
 have F28:=AF (st:=Ba) l28 c28 k28
 have b28:=F28.binds (ps:=["self","one","other"]) fun _ _ _ _ _ _ us hl=>match us,hl with | [_,_,_],_=>rfl
 have C28 : Fe l.prog w K mg base CSayings 3 "chain" (RQ K CSayings):=⟨f28,_,_,Fw F28 B T clSayings C27 C24 C23,⟨a28,i28,k28⟩,b28⟩
 have F29:=AF (st:=AC) l29 c29 k29
 have b29:=F29.binds (ps:=["self","saying"]) fun _ _ _ _ _ _ us hl=>match us,hl with | [_,_],_=>rfl
 have C29 : Fe l.prog w K mg base CSayings 60 "settled_with" (Rq K CSayings PTopen_pair):=⟨f29,_,_,Dc F29 B T clSayings onSayings_size C25 C20,⟨a29,i29,k29⟩,b29⟩
 have F30:=AF (st:=AR) l30 c30 k30
 have b30:=F30.binds (ps:=["self","censers"]) fun _ _ _ _ _ _ us hl=>match us,hl with | [_,_],_=>rfl
 have C30 : Oa l.prog w K mg base CSayings 2 "Sayings" (N2 K CSayings CBadMany):=⟨f30,_,_,Eh F30 B T clSayings onSayings_size onSayings_given C3,⟨okSayings,a30,i30,ocSayings⟩,PySem.W.mg_of X G oaSayings,b30⟩
 have F31:=AF (st:=Bu) l31 c31 k31
 have b31:=F31.binds (ps:=["self","saying"]) fun _ _ _ _ _ _ us hl=>match us,hl with | [_,_],_=>rfl
 have C31 : Jr l.prog w K mg base CSayings 61 "say" (Li K CSayings CBadSaying CNoCenser PTopen_pair):=⟨f31,_,_,Hl F31 B T clSayings onSayings_size onSayings_given C28 C29 C7,⟨a31,i31,k31⟩,b31⟩
 have F32:=AF (st:=B4) l32 c32 k32
 have C32 : Cal l.prog w K mg base 1 "_law_draw" [] (JQ K):=F32.cal (Jp F32 B T  ) (PySem.W.mg_of X G a32) (fun _ _ _ _ _ _ us hl=>match us,hl with | [_,_],_=>rfl)
 have F33:=Pw (st:=BK) (ds:=[Value.int 0 tk33]) l33 c33 k33 lT33 dT33
 have D33 : Cal l.prog w K mg base 1 "_law_split" [] Hi:=⟨f33,_,_,[],EO F33 B T  , PySem.W.mg_of X G a33,k33,F33.binds (es:=[]) (fun _ _ _ _ _ _ _ us hl=>match us,(show us.length = 3 from by simpa using hl) with | [_,_,_],_=>⟨_,rfl,rfl⟩),.nil⟩
 have C33 : Cal l.prog w K mg base 1 "_law_split" [.int 0] Hi:=⟨f33,_,_,[Value.int 0 tk33],EO F33 B T  , PySem.W.mg_of X G a33,k33,F33.binds (fun _ _ _ _ _ _ _ us hl=>match us,(show us.length = 2 from by simpa using hl) with | [_,_],_=>⟨_,rfl,rfl⟩),.cons ⟨_,rfl⟩ .nil⟩
 have F34:=AF (st:=CG) l34 c34 k34
 have C34 : Cal l.prog w K mg base 2 "_law_odd" [] Lm:=F34.cal (KG F34 B T  C32) (PySem.W.mg_of X G a34) (fun _ _ _ _ _ _ us hl=>match us,hl with | [_,_],_=>rfl)
 have F35:=AF (st:=Cy) l35 c35 k35
 have C35 : Cal l.prog w K mg base 1 "_law_due" [] (JL K):=F35.cal (Lb F35 B T  ) (PySem.W.mg_of X G a35) (fun _ _ _ _ _ _ us hl=>match us,hl with | [_,_],_=>rfl)
 have F36:=AF (st:=A3) l36 c36 k36
 have C36 : Cal l.prog w K mg base 62 "_law_tried_one" [] (Pj K CSayings PTopen_pair):=F36.cal (ET F36 B T mBadSaying xqBadSaying mNoCenser xqNoCenser xnNoCenserBadSaying clSayings C31) (PySem.W.mg_of X G a36) (fun _ _ _ _ _ _ us hl=>match us,hl with | [_,_],_=>rfl)
 have F37:=AF (st:=BR) l37 c37 k37
 have C37 : Cal l.prog w K mg base 62 "_law_tried" [] (PD K PTopen_pair):=F37.cal (Io F37 B T mBadMany xqBadMany mBadSaying xqBadSaying mNoCenser xqNoCenser xnBadSayingBadMany xnNoCenserBadMany xnNoCenserBadSaying clSayings C30 C31 C20 C22) (PySem.W.mg_of X G a37) (fun _ _ _ _ _ _ us hl=>match us,hl with | [_,_,_],_=>rfl)
 have F38:=AF (st:=AS) l38 c38 k38
 have C38 : Cal l.prog w K mg base 63 "_law_said_by_one" [] (Pl K PTopen_pair):=F38.cal (Eg F38 B T clSayings C30 C26 C31 C35 C36) (PySem.W.mg_of X G a38) (fun _ _ _ _ _ _ us hl=>match us,hl with | [_,_],_=>rfl)
 have F39:=AF (st:=N5) l39 c39 k39
 exact R5 F39 B T  C1 C32 C35 C2 C34 C38 C33 C37
theorem Sx {l:PySem.W.OpenLaw} {q:Program} {loose:List Str} {XP:(Str->Option Value)->Heap->Prop} {YP:World->Heap->Prop} {d:DefRec} {K:Params->PySem.W.Frag} {ts:List Addr} (hn:l.most=some 63) (hdf:d.params.defaults=[])
  (hY : ∀ (w:World) (h:Heap),YP w h->(K w.params).In h /\ ∀ P ∈ ts,h.get? P=some (PySem.W.tabObj #[]))
  (F : ∀ (w:World) (mg:Str->Option Value) (fa:Addr) (h:Heap),(K w.params).In h->h.Ns mainGlobals mg->mg d.name=some (.ref fa) ->
   ∃ (fd : FuncData) (tabs : List (Addr × Addr)),(∀ q ∈ tabs,PySem.W.codeHdIn (K w.params) q.1 q.2 = true /\ q.2 ∈ ts /\ (K w.params).lookup q.2 = none) /\ (∀ (s : Shared) (u : Value),BindsTo s fd ⟨[u],[]⟩ [("_law_script",u)]) /\ ∀ base : Heap,(K w.params).In base -> base.Ns mainGlobals mg -> NU mg base -> Bv l.prog w (K w.params) mg base CX0 64 fa fd ["_law_script"] (Kb (K w.params) tabs)) :
  PySem.W.WalkO q loose XP YP l.row.toRowW d [] (fun f vs=>PySem.call f vs):=
 L2.NL (n:=63) (k:=64) (x:="_law_script") (CX:=fun _=>CX0) (sp:=fun w tabs=>Kb (K w.params) tabs) hn (by decide) hdf ⟨rfl,by decide,by decide⟩ hY F (fun _ _ _ a ns hl hT hS=>⟨a,ns,rfl,hS,hl,hT,fun _=>rfl⟩) fun _ _ _ _ _ z=>z
end Lw
namespace PySem.W.Fast
def tw15883233543975355453:=0
def tw12418140445050783458:=0
def tw1534276820658454760:=0
def tw14444329025500175245:=0
def tw2617386218870613875:=0
def tw4157421510749853765:=0
def tw13006357376336609479:=0
def tw15208146798808734474:=0
def tw4329382783966395539:=0
def tw17203071529495709157:=0
def tw11288086692323201528:=0
def tw595794736277290324:=0
def tw13398249475563368808:=0
def tw7407889029065457434:=0
def tw8144493531696649024:=0
def tw11715879405171852271:=0
def tw15425979770742363312:=0
def tw11280507238563392400:=0
def tw11580847873155142482:=0
def tw15398446417475106979:=0
def tw15329404922875142813:=0
def tw2662176623055351829:=0
def tw3464517689394571027:=0
def tw3882053985994804645:=0
def tw7555186303772058805:=0
def tw11774419839184279330:=0
def tw5518346428681220958:=0
def tw6370141756470815501:=0
def tw5549175501668161320:=0
def tw9641195057652917459:=0
def tw11661045909781565913:=0
def tw6233851568079916540:=0
def tw11741876898895591252:=0
def tw3766434595345106580:=0
def tw45915043600032608:=0
def tw10548666117869949323:=0
def tw14148589239720641329:=0
def tw183621794790501514:=0
def tw717301861704872721:=0
def tw11815033979657571414:=0
def tw2481239957117832509:=0
def tw17316101505806720108:=0
def tw15792599838989333890:=0
def tw9332442769573151243:=0
def tw5794159660689337230:=0
def tw5546780872941644086:=0
def tw15946872172923299482:=0
def tw6929590955654599642:=0
def tw5482467849519539970:=0
def tw13896082724213019455:=0
def tw6072977169076136357:=0
def tw7337443814999000452:=0
def tw1596985430126367904:=0
def tw15672037522756177564:=0
def tw1498265598900093067:=0
def tw13285827628726776930:=0
def tw13269103314052121359:=0
def tw7510394250524202148:=0
def tw3051559595827523346:=0
def tw2965704747589858993:=0
def tw7993964701850249336:=0
def tw12168502506921746677:=0
def tw7863269565948558025:=0
def tw14435882482237605816:=0
def tw12788446095857726055:=0
def tw7536833760489820985:=0
def tw12603566464730175557:=0
def tw6507359960556920528:=0
def tw1098620893038732505:=0
def tw8008194761738845687:=0
def tw10210899014570615045:=0
def tw936774723155827199:=0
def tw2434444203851658169:=0
def tw18267718714487803340:=0
def tw1174734481634962062:=0
def tw8903791418410192224:=0
def tw18065350031226149173:=0
def tw2420732244305919251:=0
def tw5608470154783484407:=0
def tw5189538516752750806:=0
def tw5260852484741287460:=0
def tw14435720387903031343:=0
def tw16513533778381657896:=0
def tw12294723829640395381:=0
def tw1847704096180374548:=0
def tw526892092445534070:=0
def tw18253510817632727598:=0
def tw13520359576436778276:=0
def tw9537988054487917673:=0
def tw8701797437651299827:=0
def tw3426437290363367799:=0
def tw14059979496114423612:=0
def tw11404811153697536326:=0
def tw11098524062779016116:=0
def tw17026676051606559334:=0
def tw41981164021092491:=0
def tw2385121918902084009:=0
def tw8458653438645853957:=0
def tw7310219302481421795:=0
def tw7051020718012622975:=0
def tw15773783270312005697:=0
def tw10689761110642785814:=0
def tw6668551229460444821:=0
def tw5974973226810867860:=0
def tw1105818040413450970:=0
def tw5144944902723490834:=0
def tw593471079968788019:=0
def tw2221418409455191318:=0
def tw13791822582686924327:=0
def tw10256337555792218677:=0
def tw2077473289618618320:=0
def tw9839086107966543632:=0
def tw16778490314391969812:=0
def tw6744991326508082402:=0
def tw1511573295478440873:=0
def tw5358591120851676796:=0
def tw3432357983508731456:=0
def tw13260428168813294754:=0
def tw7587377857706818022:=0
def tw11293861090659736461:=0
def tw9530550548918634656:=0
def tw1767788655673744686:=0
def tw2647206876320542406:=0
def tw16562462312419774192:=0
def tw11165981795525910121:=0
def tw1846028519345667218:=0
def tw4434278808838967050:=0
def tw16332922373950620926:=0
def tw133445831673640228:=0
def tw10156959994862189175:=0
def tw8159805340943607875:=0
def tw3695977472456898808:=0
def tw961170200601092715:=0
def tw16220688144643853000:=0
def tw12661417552938789968:=0
def tw14015048857091466818:=0
def tw11964503542368396553:=0
def tw12398043863059844367:=0
def tw15376397023181536347:=0
def tw10787349750625534056:=0
def tw12298767573159260594:=0
def tw724917126518427349:=0
def tw246442723518371410:=0
def tw17561766907326980412:=0
def tw2240517762363044297:=0
def tw9472121886070375442:=0
def tw7855891433113376298:=0
def tw8417520520903765975:=0
def tw8490450885437481366:=0
def tw517378734708482263:=0
def tw12448743065538483568:=0
def tw4773641122075219766:=0
def tw4087193428779138716:=0
def tw18176268230735550052:=0
def tw18402651686359333232:=0
def tw12240327680955088057:=0
def tw16707193427168964564:=0
def tw15876026103145337426:=0
def tw18434555964775989195:=0
def tw15717839542306533070:=0
def tw7076725828910566689:=0
def tw1835851556372350075:=0
def tw10365417386185950557:=0
def tw6949511261012097303:=0
def tw6492596926792043718:=0
def tw12405448886458889569:=0
def tw15178212055124207399:=0
def tw9280762210483656926:=0
def tw7684310750735943223:=0
def tw3628563438601477840:=0
def tw7628384294045814139:=0
def tw9323278253569780543:=0
def tw1024346427078448599:=0
def tw9340004498283647081:=0
def tw923181169786778902:=0
def tw4020867369240239204:=0
def tw10102675105369894906:=0
def tw18155061883021061246:=0
def tw6692847701763472524:=0
def tw6557822444599376441:=0
def tw3899094569634478401:=0
def tw17854960780983408527:=0
def tw6029782534853810300:=0
def tw6942476037315718951:=0
def tw12239268973020570733:=0
def tw11309646829825970607:=0
def tw13125170747512106968:=0
def tw17962064359006755916:=0
def tw7989534925873505706:=0
def tw3998852830828616062:=0
def tw7905438219058605695:=0
def tw16859975675054807521:=0
def tw8854140264789725300:=0
def tw1387745499665819558:=0
def tw14193622804666569407:=0
def tw15159844929623564149:=0
def tw8011397201772262611:=0
def tw7574972800966760560:=0
def tw11172753314853469305:=0
def tw5218043843008120938:=0
def tw14431797046501792618:=0
def tw13368714157476944151:=0
def tw7839369327114509407:=0
def tw774925206762565170:=0
def tw6142347439150686426:=0
def tw3107570877756871518:=0
def tw12687136342813482627:=0
def tw12297066207921935056:=0
def tw10361426867561174344:=0
def tw11327590419793526396:=0
def tw2745363708573513263:=0
def tw2722299781356849058:=0
def tw1899726209893399654:=0
def tw16472800340213387750:=0
def tw16348521877943016558:=0
def tw14640804714775610902:=0
def tw18174710466340406033:=0
def tw1594771076839618572:=0
def tw11115749636639152511:=0
def tw18226988880656462709:=0
def tw4346740222080300264:=0
def tw3107405730049660770:=0
def tw11896401328707500920:=0
def tw11415759192599512102:=0
def tw6435804834476135064:=0
def tw2492266632013985240:=0
def tw18344052566474041732:=0
def tw11267955194785303300:=0
def tw1153011512908857733:=0
def tw11326061939934474746:=0
def tw11200108205637124764:=0
def tw8259024448323983397:=0
def tw4580761530626616943:=0
def tw12781312802664419707:=0
def tw9804923835973238263:=0
def tw6895437784809701967:=0
def tw6523315752808303961:=0
def tw6081755458763034399:=0
def tw2618141768365188172:=0
def tw16912380965360522842:=0
def tw16170055097344044629:=0
def tw16011508421064149664:=0
def tw15745835650075873416:=0
def tw11205535809892889351:=0
def tw10925224786030750990:=0
def tw12866821164009002801:=0
def tw9543580982376656317:=0
def tw9439218563444081449:=0
def tw8994334150903720034:=0
def tw8126939400577694888:=0
def tw8001689384554284171:=0
def tw7630276846076355987:=0
def tw7401842541374527276:=0
def tw7206504327686382246:=0
def tw5051653312827124142:=0
def tw3668540162884611744:=0
def tw3330977452526716500:=0
def tw3206703065655453410:=0
def tw17978064000463985334:=0
def tw15795272042812099053:=0
def tw15697859393368061040:=0
def tw1303018956835355086:=0
def tw12748823571522893771:=0
def tw2930871872142954205:=0
def tw15921776595336495075:=0
def tw9757149940155299854:=0
def tw3238879912527316956:=0
def tw14995549146629273897:=0
def tw6165063200480471205:=0
def tw5313597349837719304:=0
def tw16632883792154363423:=0
def tw16127954887188619710:=0
def tw9674499753535262468:=0
def tw8818083806261702113:=0
def tw8274624421552063372:=0
def tw2948578100883390863:=0
def tw164938883934165579:=0
def tw15543080825843025553:=0
def tw12844769894557641046:=0
def tw3067094431933706451:=0
def tw4667085304140606793:=0
def tw15993813375840842694:=0
def tw9334870570907412196:=0
def tw2037202266068493419:=0
def tw10792847615794511165:=0
def tw13079714131450610375:=0
def tw6154279875235341487:=0
def tw1331453143658435506:=0
def tw11249801308249968866:=0
def tw9668053625794894798:=0
def tw8375508662531324497:=0
def tw6765766512861644689:=0
def tw18206719731880578356:=0
def tw16775835031287714230:=0
def tw16699347478095658302:=0
def tw15990205606077090400:=0
def tw15171290030713715493:=0
def tw12041983245438551882:=0
def tw11317719347499048963:=0
def tw642000470978211170:=0
def tw18037666042389392417:=0
def tw5405483720583194455:=0
def tw5112498131773256126:=0
def tw17765303773762388139:=0
def tw16871967818218006395:=0
def tw1559597155587200651:=0
def tw12950256846184028912:=0
def tw11184501958833178666:=0
def tw11081078381928374706:=0
def tw892542474063227134:=0
def tw14025204079362465290:=0
def tw11568542787453777217:=0
def tw3737204742313232538:=0
def tw4708774717059467500:=0
def tw13321838819091011570:=0
def tw11706488015267243898:=0
def tw5291808702532567174:=0
def tw3617828223502697759:=0
def tw8661802066332958676:=0
def tw8533700027170353577:=0
def tw8518232085877155015:=0
def tw4300008054210457207:=0
def tw16863131424752607820:=0
def tw12162638158297650937:=0
def tw10355426146870323025:=0
def tw8738272459609854188:=0
def tw8070221074348154482:=0
def tw6219972528752618736:=0
def tw4580750590856197195:=0
def tw3292750378517257632:=0
def tw3023298443242227541:=0
def tw18031057059981512726:=0
def tw17671947599669772644:=0
def tw17545067225673580269:=0
def tw15856524791534347888:=0
def tw15496715250710425125:=0
def tw14589671670805278403:=0
def tw13070185603925230326:=0
def tw11422113895945713554:=0
def tw10957887454450485323:=0
def tw835053420164901504:=0
def tw6202982186597447099:=0
def tw516242397646715864:=0
def tw3748466638969010014:=0
def tw2753691493941355826:=0
def tw2198312693838278939:=0
def tw17892287516424588141:=0
def tw17274237833951012115:=0
def tw14554435623974727750:=0
def tw9944991414142660159:=0
def tw9873743992070420972:=0
def tw9799812717813333059:=0
def tw9723835864936123522:=0
def tw967225841552394355:=0
def tw9603056365654830530:=0
def tw9574877422342062426:=0
def tw947054748224187133:=0
def tw9292018176429897363:=0
def tw9274890393445880591:=0
def tw9192272477457500089:=0
def tw8990599449074116191:=0
def tw898034794747343538:=0
def tw8954939454552702158:=0
def tw8874653477449394092:=0
def tw8855550093968762839:=0
def tw8707013165830221420:=0
def tw8494237564191875841:=0
def tw838763584470607047:=0
def tw8368991320386848333:=0
def tw8339233292237827793:=0
def tw8194962530301650924:=0
def tw7848583905299201372:=0
def tw7818110122691145750:=0
def tw7796652792918013793:=0
def tw7782455816394756041:=0
def tw7682989355526343124:=0
def tw7665792486027711335:=0
def tw7365849218496403010:=0
def tw7263175838151946679:=0
def tw7097207398085342033:=0
def tw68007291021890940:=0
def tw6766224747317258458:=0
def tw6751710319189669087:=0
def tw6687307494619241905:=0
def tw6557319284117930178:=0
def tw6524448755564877329:=0
def tw6503688393747180978:=0
def tw6161110329453319997:=0
def tw6072800883451913545:=0
def tw5906985003626105690:=0
def tw5736664521061472363:=0
def tw5689645693453718234:=0
def tw5630522256700525672:=0
def tw5505141934333025425:=0
def tw5412038042923808808:=0
def tw5355358117863271290:=0
def tw5304546064055697778:=0
def tw5290842725709270793:=0
def tw5115915365405733718:=0
def tw5071952793144367320:=0
def tw5014772012811269883:=0
def tw4994593214602550570:=0
def tw4987745004459245775:=0
def tw4947753892042027526:=0
def tw4940897398162224115:=0
def tw484735830417176032:=0
def tw4821727879610174823:=0
def tw4776307625118699742:=0
def tw4512748460421364335:=0
def tw4363722679424864779:=0
def tw4225970108279412702:=0
def tw3938219244329021439:=0
def tw3844466487081523447:=0
def tw3743264595594013614:=0
def tw3592346534987386946:=0
def tw3583262102609869516:=0
def tw3409222333334180241:=0
def tw3396287783776764483:=0
def tw321144857885900705:=0
def tw2831335895819819567:=0
def tw2512807657045770362:=0
def tw2507861728738996521:=0
def tw2465164766311791897:=0
def tw24393731698283870:=0
def tw234222029845374475:=0
def tw2306467155441236320:=0
def tw2279857343991848672:=0
def tw2221306047119746655:=0
def tw219179201199400375:=0
def tw2143406654925792252:=0
def tw210509647260543009:=0
def tw2090836521484646604:=0
def tw1953914701781757819:=0
def tw194831569320647633:=0
def tw191579928672864053:=0
def tw1890079361402354534:=0
def tw18350818635171691238:=0
def tw18216332070476047000:=0
def tw18153863513457950763:=0
def tw17657473879389414557:=0
def tw1761848884168342594:=0
def tw17338160710905609910:=0
def tw1729698897220928239:=0
def tw17086289599792023415:=0
def tw17039795552728495164:=0
def tw16933621220490200503:=0
def tw16909742574125211008:=0
def tw1689351045809605645:=0
def tw16768379441471607886:=0
def tw16704230310102340036:=0
def tw16561858128912665891:=0
def tw16464936084041751123:=0
def tw16331083264866788455:=0
def tw16058172762409530397:=0
def tw15994391633802653695:=0
def tw15876074635587225194:=0
def tw15656697260480626280:=0
def tw15573502242525440273:=0
def tw1555328008963035519:=0
def tw15480505649566279178:=0
def tw15447034646148068343:=0
def tw15121117243979097113:=0
def tw15089015888656225102:=0
def tw14703987299284578823:=0
def tw1467020653860609903:=0
def tw14607655781301403215:=0
def tw14437424204590261998:=0
def tw14433875057730915614:=0
def tw14091302440917446136:=0
def tw14059817288392749743:=0
def tw14024592666794797468:=0
def tw13976153090858717155:=0
def tw1387432708962572067:=0
def tw13769322158900785196:=0
def tw13566700954388545047:=0
def tw13552346575981095942:=0
def tw13481553628690998511:=0
def tw13388532130154075334:=0
def tw13208483041111364392:=0
def tw13112618281051792327:=0
def tw1303774307405697717:=0
def tw13022752238053094644:=0
def tw1275245336256786977:=0
def tw12743820772782143057:=0
def tw12696587260045391383:=0
def tw12675544291684176453:=0
def tw12486390080396814370:=0
def tw12467868917465301296:=0
def tw12439324067276986208:=0
def tw12438840865405749266:=0
def tw12412831323792716707:=0
def tw12241509875895246897:=0
def tw12237599630244280928:=0
def tw12235845909813283191:=0
def tw1218320398656230165:=0
def tw11926449790070329505:=0
def tw11907350411866484673:=0
def tw1171301480002487820:=0
def tw1144676822868024662:=0
def tw11218592764552923528:=0
def tw11192918425667453806:=0
def tw11124258629863639979:=0
def tw10681226084091589080:=0
def tw10569189983184466255:=0
def tw10396546437885268736:=0
def tw10391174856616899527:=0
def tw10168535911720745498:=0
end PySem.W.Fast
open PySem PySem.W PyProof.Rows
set_option maxRecDepth 100000 in
set_option maxHeartbeats 0 in
theorem PySem.Challenge.cw_censers_k36_sayings_refused_holds : PySem.Challenge.rw_censers_k36_sayings_refused.Holds := by
 w_on;o_law;k_head;(case hw=>w_witness2)
 k_fill
 refine Lw.Sx (l:=PySem.Challenge.rw_censers_k36_sayings_refused) rfl rfl (fun w h Y=>⟨PySem.W.km_in_of Y,PySem.W.km_tabs_of Y⟩) ?F
 case F=>
  intro w mg fa h KX G hmg
  refine' Lw.Ql KX G hmg ?a1 ?l1 ?c1 ?k1 ?a2 ?l2 ?c2 ?k2 ?a3 ?l3 ?c3 ?k3 ?a4 ?l4 ?c4 ?k4 ?a5 ?l5 ?c5 ?k5 ?a6 ?l6 ?c6 ?k6 ?a7 ?l7 ?c7 ?k7 ?a8 ?i8 ?l8 ?c8 ?k8 ?a9 ?i9 ?l9 ?c9 ?k9 ?a10 ?i10 ?l10 ?c10 ?k10 ?a11 ?i11 ?l11 ?c11 ?k11 ?a12 ?i12 ?l12 ?c12 ?k12 ?a13 ?l13 ?c13 ?k13 ?a14 ?l14 ?c14 ?k14 ?a15 ?l15 ?c15 ?k15 ?a16 ?l16 ?c16 ?k16 ?a17 ?l17 ?c17 ?k17 ?a18 ?l18 ?c18 ?k18 ?u18 ?t18 ?v18 ?a19 ?l19 ?c19 ?k19 ?a20 ?l20 ?c20 ?k20 ?a21 ?l21 ?c21 ?k21 ?a22 ?l22 ?c22 ?k22 ?a23 ?l23 ?c23 ?k23 ?a24 ?i24 ?l24 ?c24 ?k24 ?a25 ?i25 ?l25 ?c25 ?k25 ?a26 ?i26 ?l26 ?c26 ?k26 ?a27 ?i27 ?l27 ?c27 ?k27 ?a28 ?i28 ?l28 ?c28 ?k28 ?a29 ?i29 ?l29 ?c29 ?k29 ?a30 ?i30 ?l30 ?c30 ?k30 ?a31 ?i31 ?l31 ?c31 ?k31 ?a32 ?l32 ?c32 ?k32 ?a33 ?l33 ?c33 ?k33 ?lT33 ?dT33 ?a34 ?l34 ?c34 ?k34 ?a35 ?l35 ?c35 ?k35 ?a36 ?l36 ?c36 ?k36 ?a37 ?l37 ?c37 ?k37 ?a38 ?l38 ?c38 ?k38 ?a39 ?l39 ?c39 ?k39 ?z0 ?z1 ?z2 ?z3 ?z4 ?z5 ?z6 ?z7 ?z8 ?z9 ?z10 ?mc0 ?xmBadMany ?xqBadMany ?xmBadSaying ?xqBadSaying ?xmNoCenser ?xqNoCenser ?xnBadSayingBadMany ?xnNoCenserBadMany ?xnNoCenserBadSaying ?oaGist ?opGist ?ohGist ?ooGist ?osGist ?okGist ?ocGist ?onGist_labels ?onGist_unlikes ?onGist_low ?onGist_high ?oaSayings ?opSayings ?ohSayings ?ooSayings ?osSayings ?okSayings ?ocSayings ?onSayings_size ?onSayings_given ?gdTHINGS ?tdTHINGS
  (case oaGist=>k_is)
  (case oaSayings=>k_is)
  (case gdTHINGS=>k_is)
  (case a1=>k_is)
  (case l1=>k_is)
  (case c1=>k_is)
  (case k1=>k_is)
  (case a2=>k_is)
  (case l2=>k_is)
  (case c2=>k_is)
  (case k2=>k_is)
  (case a3=>k_is)
  (case l3=>k_is)
  (case c3=>k_is)
  (case k3=>k_is)
  (case a4=>k_is)
  (case l4=>k_is)
  (case c4=>k_is)
  (case k4=>k_is)
  (case a5=>k_is)
  (case l5=>k_is)
  (case c5=>k_is)
  (case k5=>k_is)
  (case a6=>k_is)
  (case l6=>k_is)
  (case c6=>k_is)
  (case k6=>k_is)
  (case a7=>k_is)
  (case l7=>k_is)
  (case c7=>k_is)
  (case k7=>k_is)
  (case a8=>k_is)
  (case i8=>k_is)
  (case l8=>k_is)
  (case c8=>k_is)
  (case k8=>k_is)
  (case a9=>k_is)
  (case i9=>k_is)
  (case l9=>k_is)
  (case c9=>k_is)
  (case k9=>k_is)
  (case a10=>k_is)
  (case i10=>k_is)
  (case l10=>k_is)
  (case c10=>k_is)
  (case k10=>k_is)
  (case a11=>k_is)
  (case i11=>k_is)
  (case l11=>k_is)
  (case c11=>k_is)
  (case k11=>k_is)
  (case a12=>k_is)
  (case i12=>k_is)
  (case l12=>k_is)
  (case c12=>k_is)
  (case k12=>k_is)
  (case a13=>k_is)
  (case l13=>k_is)
  (case c13=>k_is)
  (case k13=>k_is)
  (case a14=>k_is)
  (case l14=>k_is)
  (case c14=>k_is)
  (case k14=>k_is)
  (case a15=>k_is)
  (case l15=>k_is)
  (case c15=>k_is)
  (case k15=>k_is)
  (case a16=>k_is)
  (case l16=>k_is)
  (case c16=>k_is)
  (case k16=>k_is)
  (case a17=>k_is)
  (case l17=>k_is)
  (case c17=>k_is)
  (case k17=>k_is)
  (case a18=>k_is)
  (case l18=>k_is)
  (case c18=>k_is)
  (case k18=>k_is)
  (case u18=>first | exact .head _ | exact .tail _ (.head _))
  (case t18=>kernel_rfl)
  (case v18=>kernel_rfl)
  (case a19=>k_is)
  (case l19=>k_is)
  (case c19=>k_is)
  (case k19=>k_is)
  (case a20=>k_is)
  (case l20=>k_is)
  (case c20=>k_is)
  (case k20=>k_is)
  (case a21=>k_is)
  (case l21=>k_is)
  (case c21=>k_is)
  (case k21=>k_is)
  (case a22=>k_is)
  (case l22=>k_is)
  (case c22=>k_is)
  (case k22=>k_is)
  (case a23=>k_is)
  (case l23=>k_is)
  (case c23=>k_is)
  (case k23=>k_is)
  (case a24=>k_is)
  (case i24=>k_is)
  (case l24=>k_is)
  (case c24=>k_is)
  (case k24=>k_is)
  (case a25=>k_is)
  (case i25=>k_is)
  (case l25=>k_is)
  (case c25=>k_is)
  (case k25=>k_is)
  (case a26=>k_is)
  (case i26=>k_is)
  (case l26=>k_is)
  (case c26=>k_is)
  (case k26=>k_is)
  (case a27=>k_is)
  (case i27=>k_is)
  (case l27=>k_is)
  (case c27=>k_is)
  (case k27=>k_is)
  (case a28=>k_is)
  (case i28=>k_is)
  (case l28=>k_is)
  (case c28=>k_is)
  (case k28=>k_is)
  (case a29=>k_is)
  (case i29=>k_is)
  (case l29=>k_is)
  (case c29=>k_is)
  (case k29=>k_is)
  (case a30=>k_is)
  (case i30=>k_is)
  (case l30=>k_is)
  (case c30=>k_is)
  (case k30=>k_is)
  (case a31=>k_is)
  (case i31=>k_is)
  (case l31=>k_is)
  (case c31=>k_is)
  (case k31=>k_is)
  (case a32=>k_is)
  (case l32=>k_is)
  (case c32=>k_is)
  (case k32=>k_is)
  (case a33=>k_is)
  (case l33=>k_is)
  (case c33=>k_is)
  (case k33=>k_is)
  (case lT33=>k_is)
  (case dT33=>rfl)
  (case a34=>k_is)
  (case l34=>k_is)
  (case c34=>k_is)
  (case k34=>k_is)
  (case a35=>k_is)
  (case l35=>k_is)
  (case c35=>k_is)
  (case k35=>k_is)
  (case a36=>k_is)
  (case l36=>k_is)
  (case c36=>k_is)
  (case k36=>k_is)
  (case a37=>k_is)
  (case l37=>k_is)
  (case c37=>k_is)
  (case k37=>k_is)
  (case a38=>k_is)
  (case l38=>k_is)
  (case c38=>k_is)
  (case k38=>k_is)
  (case a39=>k_is)
  (case l39=>k_is)
  (case c39=>k_is)
  (case k39=>k_is)
  (case z0=>k_is)
  (case z1=>k_is)
  (case z2=>k_is)
  (case z3=>k_is)
  (case z4=>k_is)
  (case z5=>k_is)
  (case z6=>k_is)
  (case z7=>k_is)
  (case z8=>k_is)
  (case z9=>k_is)
  (case z10=>k_is)
  (case mc0=>k_is)
  (case xmBadMany=>k_is)
  (case xqBadMany=>k_exc)
  (case xmBadSaying=>k_is)
  (case xqBadSaying=>k_exc)
  (case xmNoCenser=>k_is)
  (case xqNoCenser=>k_exc)
  (case xnBadSayingBadMany=>first | k_is | rfl)
  (case xnNoCenserBadMany=>first | k_is | rfl)
  (case xnNoCenserBadSaying=>first | k_is | rfl)
  (case opGist=>k_is)
  (case ohGist=>k_is)
  (case ooGist=>k_is)
  (case osGist=>k_is)
  (case okGist=>k_is)
  (case ocGist=>k_is)
  (case onGist_labels=>k_is)
  (case onGist_unlikes=>k_is)
  (case onGist_low=>k_is)
  (case onGist_high=>k_is)
  (case opSayings=>k_is)
  (case ohSayings=>k_is)
  (case ooSayings=>k_is)
  (case osSayings=>k_is)
  (case okSayings=>k_is)
  (case ocSayings=>k_is)
  (case onSayings_size=>k_is)
  (case onSayings_given=>k_is)
  (case tdTHINGS=>kernel_rfl)
