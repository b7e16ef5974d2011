import PyProof.Rows.All
import Wide.All
import OpenK.AllK
import Wide.FinOn
import Lean
import PyProof.EqAt
import PyProof.EqKinds
import PyProof.TupleCall
import PyProof.InstLoad
import PyProof.InstStoreFacts
import PyProof.ExcInit
import KE.KSortTup
import KE.KRevSl
import KE.KDictSum
import PyProof.NeKinds
import PyProof.Rows.SortRuns
import PyProof.Rows.SortShell
import PyProof.Rows.Range3
import PyProof.Rows.SetFrom
import PyProof.Rows.StrItems
import PyProof.StrWalks
import PyProof.EnumMake
import PyProof.FString5
import PyProof.Conv_int_bool
import PyProof.DictStraight
import PyProof.StrLawsIn
import PyProof.Rows.RuleN_abs
import PyProof.Rows.CallKwBuiltin
import PyProof.MinMaxWalk
import PyProof.IsiH_list
import PyProof.AttrMiss
import KE.KDictOf
import PyProof.DictList
import PyProof.TupleIter
import PyProof.Rows.CountFlat
import PyProof.Rows.RuleB_mul
import PyProof.CompFree
import PyProof.DictItemsLoops
import KE.KSortKey
import KE.KDictList
import PyProof.SetRoads
import PyProof.DictWalks
import PyProof.DictCompW
import KE.KTab
import PySem.Challenge.RW_censers_k19_partings
set_option Elab.async false
set_option linter.all false
set_option maxRecDepth 100000
theorem xA {p0 p1:Prop} {G:Prop} (h:p0/\p1) (k:p0->p1->G):G:= by
 obtain ⟨h0,h1⟩:=h
 exact k h0 h1
theorem xA2 {p0 p1 p2:Prop} {G:Prop} (h:p0/\p1/\p2) (k:p0->p1->p2->G):G:= by
 obtain ⟨h0,h1,h2⟩:=h
 exact k h0 h1 h2
theorem xA3 {p0 p1 p2 p3:Prop} {G:Prop} (h:p0/\p1/\p2/\p3) (k:p0->p1->p2->p3->G):G:= by
 obtain ⟨h0,h1,h2,h3⟩:=h
 exact k h0 h1 h2 h3
theorem xA4 {p0 p1 p2 p3 p4:Prop} {G:Prop} (h:p0/\p1/\p2/\p3/\p4) (k:p0->p1->p2->p3->p4->G):G:= by
 obtain ⟨h0,h1,h2,h3,h4⟩:=h
 exact k h0 h1 h2 h3 h4
theorem xA5 {p0 p1 p2 p3 p4 p5:Prop} {G:Prop} (h:p0/\p1/\p2/\p3/\p4/\p5) (k:p0->p1->p2->p3->p4->p5->G):G:= by
 obtain ⟨h0,h1,h2,h3,h4,h5⟩:=h
 exact k h0 h1 h2 h3 h4 h5
theorem xE {t0:Sort _} {p0:t0->Prop} {G:Prop} (h : ∃ a0,p0 a0) (k : ∀ a0,p0 a0->G):G:= by
 obtain ⟨a0,h0⟩:=h
 exact k a0 h0
theorem xEA {t0:Sort _} {p0 p1:t0->Prop} {G:Prop} (h : ∃ a0,p0 a0/\p1 a0) (k : ∀ a0,p0 a0->p1 a0->G):G:= by
 obtain ⟨a0,h0,h1⟩:=h
 exact k a0 h0 h1
theorem AM {t0:Sort _} {p0 p1 p2:t0->Prop} {G:Prop} (h : ∃ a0,p0 a0/\p1 a0/\p2 a0) (k : ∀ a0,p0 a0->p1 a0->p2 a0->G):G:= by
 obtain ⟨a0,h0,h1,h2⟩:=h
 exact k a0 h0 h1 h2
theorem Qz {t0:Sort _} {p0 p1 p2 p3:t0->Prop} {G:Prop} (h : ∃ a0,p0 a0/\p1 a0/\p2 a0/\p3 a0) (k : ∀ a0,p0 a0->p1 a0->p2 a0->p3 a0->G):G:= by
 obtain ⟨a0,h0,h1,h2,h3⟩:=h
 exact k a0 h0 h1 h2 h3
theorem PN {t0:Sort _} {p0 p1 p2 p3 p4:t0->Prop} {G:Prop} (h : ∃ a0,p0 a0/\p1 a0/\p2 a0/\p3 a0/\p4 a0) (k : ∀ a0,p0 a0->p1 a0->p2 a0->p3 a0->p4 a0->G):G:= by
 obtain ⟨a0,h0,h1,h2,h3,h4⟩:=h
 exact k a0 h0 h1 h2 h3 h4
theorem xE2 {t0:Sort _} {t1:t0->Sort _} {p0:(a:t0)->t1 a->Prop} {G:Prop} (h : ∃ a0 a1,p0 a0 a1) (k : ∀ a0 a1,p0 a0 a1->G):G:= by
 obtain ⟨a0,a1,h0⟩:=h
 exact k a0 a1 h0
theorem Ct {t0:Sort _} {t1:t0->Sort _} {p0 p1:(a:t0)->t1 a->Prop} {G:Prop} (h : ∃ a0 a1,p0 a0 a1/\p1 a0 a1) (k : ∀ a0 a1,p0 a0 a1->p1 a0 a1->G):G:= by
 obtain ⟨a0,a1,h0,h1⟩:=h
 exact k a0 a1 h0 h1
theorem Ar {t0:Sort _} {t1:t0->Sort _} {p0 p1 p2:(a:t0)->t1 a->Prop} {G:Prop} (h : ∃ a0 a1,p0 a0 a1/\p1 a0 a1/\p2 a0 a1) (k : ∀ a0 a1,p0 a0 a1->p1 a0 a1->p2 a0 a1->G):G:= by
 obtain ⟨a0,a1,h0,h1,h2⟩:=h
 exact k a0 a1 h0 h1 h2
theorem CI {t0:Sort _} {t1:t0->Sort _} {p0 p1 p2 p3:(a:t0)->t1 a->Prop} {G:Prop} (h : ∃ a0 a1,p0 a0 a1/\p1 a0 a1/\p2 a0 a1/\p3 a0 a1) (k : ∀ a0 a1,p0 a0 a1->p1 a0 a1->p2 a0 a1->p3 a0 a1->G):G:= by
 obtain ⟨a0,a1,h0,h1,h2,h3⟩:=h
 exact k a0 a1 h0 h1 h2 h3
theorem Kg {t0:Sort _} {t1:t0->Sort _} {p0 p1 p2 p3 p4:(a:t0)->t1 a->Prop} {G:Prop} (h : ∃ a0 a1,p0 a0 a1/\p1 a0 a1/\p2 a0 a1/\p3 a0 a1/\p4 a0 a1) (k : ∀ a0 a1,p0 a0 a1->p1 a0 a1->p2 a0 a1->p3 a0 a1->p4 a0 a1->G):G:= by
 obtain ⟨a0,a1,h0,h1,h2,h3,h4⟩:=h
 exact k a0 a1 h0 h1 h2 h3 h4
theorem NX {t0:Sort _} {t1:t0->Sort _} {p0 p1 p2 p3 p4 p5:(a:t0)->t1 a->Prop} {G:Prop} (h : ∃ a0 a1,p0 a0 a1/\p1 a0 a1/\p2 a0 a1/\p3 a0 a1/\p4 a0 a1/\p5 a0 a1) (k : ∀ a0 a1,p0 a0 a1->p1 a0 a1->p2 a0 a1->p3 a0 a1->p4 a0 a1->p5 a0 a1->G):G:= by
 obtain ⟨a0,a1,h0,h1,h2,h3,h4,h5⟩:=h
 exact k a0 a1 h0 h1 h2 h3 h4 h5
theorem xE3 {t0 t1 t2:Type} {p0:t0->t1->t2->Prop} {G:Prop} (h : ∃ a0 a1 a2,p0 a0 a1 a2) (k : ∀ a0 a1 a2,p0 a0 a1 a2->G):G:= by
 obtain ⟨a0,a1,a2,h0⟩:=h
 exact k a0 a1 a2 h0
theorem FW {t0 t1 t2:Type} {p0 p1:t0->t1->t2->Prop} {G:Prop} (h : ∃ a0 a1 a2,p0 a0 a1 a2/\p1 a0 a1 a2) (k : ∀ a0 a1 a2,p0 a0 a1 a2->p1 a0 a1 a2->G):G:= by
 obtain ⟨a0,a1,a2,h0,h1⟩:=h
 exact k a0 a1 a2 h0 h1
theorem Ed {t0 t1 t2:Type} {p0 p1 p2:t0->t1->t2->Prop} {G:Prop} (h : ∃ a0 a1 a2,p0 a0 a1 a2/\p1 a0 a1 a2/\p2 a0 a1 a2) (k : ∀ a0 a1 a2,p0 a0 a1 a2->p1 a0 a1 a2->p2 a0 a1 a2->G):G:= by
 obtain ⟨a0,a1,a2,h0,h1,h2⟩:=h
 exact k a0 a1 a2 h0 h1 h2
theorem Hv {t0 t1 t2:Type} {p0 p1 p2 p3:t0->t1->t2->Prop} {G:Prop} (h : ∃ a0 a1 a2,p0 a0 a1 a2/\p1 a0 a1 a2/\p2 a0 a1 a2/\p3 a0 a1 a2) (k : ∀ a0 a1 a2,p0 a0 a1 a2->p1 a0 a1 a2->p2 a0 a1 a2->p3 a0 a1 a2->G):G:= by
 obtain ⟨a0,a1,a2,h0,h1,h2,h3⟩:=h
 exact k a0 a1 a2 h0 h1 h2 h3
theorem Ks {t0 t1 t2:Type} {p0 p1 p2 p3 p4:t0->t1->t2->Prop} {G:Prop} (h : ∃ a0 a1 a2,p0 a0 a1 a2/\p1 a0 a1 a2/\p2 a0 a1 a2/\p3 a0 a1 a2/\p4 a0 a1 a2) (k : ∀ a0 a1 a2,p0 a0 a1 a2->p1 a0 a1 a2->p2 a0 a1 a2->p3 a0 a1 a2->p4 a0 a1 a2->G):G:= by
 obtain ⟨a0,a1,a2,h0,h1,h2,h3,h4⟩:=h
 exact k a0 a1 a2 h0 h1 h2 h3 h4
theorem IU {t0 t1 t2:Type} {p0 p1 p2 p3 p4 p5:t0->t1->t2->Prop} {G:Prop} (h : ∃ a0 a1 a2,p0 a0 a1 a2/\p1 a0 a1 a2/\p2 a0 a1 a2/\p3 a0 a1 a2/\p4 a0 a1 a2/\p5 a0 a1 a2) (k : ∀ a0 a1 a2,p0 a0 a1 a2->p1 a0 a1 a2->p2 a0 a1 a2->p3 a0 a1 a2->p4 a0 a1 a2->p5 a0 a1 a2->G):G:= by
 obtain ⟨a0,a1,a2,h0,h1,h2,h3,h4,h5⟩:=h
 exact k a0 a1 a2 h0 h1 h2 h3 h4 h5
theorem OY {t0 t1 t2 t3:Type} {p0 p1:t0->t1->t2->t3->Prop} {G:Prop} (h : ∃ a0 a1 a2 a3,p0 a0 a1 a2 a3/\p1 a0 a1 a2 a3) (k : ∀ a0 a1 a2 a3,p0 a0 a1 a2 a3->p1 a0 a1 a2 a3->G):G:= by
 obtain ⟨a0,a1,a2,a3,h0,h1⟩:=h
 exact k a0 a1 a2 a3 h0 h1
theorem OR {t0 t1 t2 t3:Type} {p0 p1 p2:t0->t1->t2->t3->Prop} {G:Prop} (h : ∃ a0 a1 a2 a3,p0 a0 a1 a2 a3/\p1 a0 a1 a2 a3/\p2 a0 a1 a2 a3) (k : ∀ a0 a1 a2 a3,p0 a0 a1 a2 a3->p1 a0 a1 a2 a3->p2 a0 a1 a2 a3->G):G:= by
 obtain ⟨a0,a1,a2,a3,h0,h1,h2⟩:=h
 exact k a0 a1 a2 a3 h0 h1 h2
theorem Ny {t0 t1 t2 t3:Type} {p0 p1 p2 p3:t0->t1->t2->t3->Prop} {G:Prop} (h : ∃ a0 a1 a2 a3,p0 a0 a1 a2 a3/\p1 a0 a1 a2 a3/\p2 a0 a1 a2 a3/\p3 a0 a1 a2 a3) (k : ∀ a0 a1 a2 a3,p0 a0 a1 a2 a3->p1 a0 a1 a2 a3->p2 a0 a1 a2 a3->p3 a0 a1 a2 a3->G):G:= by
 obtain ⟨a0,a1,a2,a3,h0,h1,h2,h3⟩:=h
 exact k a0 a1 a2 a3 h0 h1 h2 h3
theorem NW {t0 t1 t2 t3:Type} {p0 p1 p2 p3 p4:t0->t1->t2->t3->Prop} {G:Prop} (h : ∃ a0 a1 a2 a3,p0 a0 a1 a2 a3/\p1 a0 a1 a2 a3/\p2 a0 a1 a2 a3/\p3 a0 a1 a2 a3/\p4 a0 a1 a2 a3) (k : ∀ a0 a1 a2 a3,p0 a0 a1 a2 a3->p1 a0 a1 a2 a3->p2 a0 a1 a2 a3->p3 a0 a1 a2 a3->p4 a0 a1 a2 a3->G):G:= by
 obtain ⟨a0,a1,a2,a3,h0,h1,h2,h3,h4⟩:=h
 exact k a0 a1 a2 a3 h0 h1 h2 h3 h4
theorem N6 {t0 t1 t2 t3:Type} {p0 p1 p2 p3 p4 p5:t0->t1->t2->t3->Prop} {G:Prop} (h : ∃ a0 a1 a2 a3,p0 a0 a1 a2 a3/\p1 a0 a1 a2 a3/\p2 a0 a1 a2 a3/\p3 a0 a1 a2 a3/\p4 a0 a1 a2 a3/\p5 a0 a1 a2 a3) (k : ∀ a0 a1 a2 a3,p0 a0 a1 a2 a3->p1 a0 a1 a2 a3->p2 a0 a1 a2 a3->p3 a0 a1 a2 a3->p4 a0 a1 a2 a3->p5 a0 a1 a2 a3->G):G:= by
 obtain ⟨a0,a1,a2,a3,h0,h1,h2,h3,h4,h5⟩:=h
 exact k a0 a1 a2 a3 h0 h1 h2 h3 h4 h5
theorem ON {t0 t1 t2 t3:Type} {p0 p1 p2 p3 p4 p5 p6:t0->t1->t2->t3->Prop} {G:Prop} (h : ∃ a0 a1 a2 a3,p0 a0 a1 a2 a3/\p1 a0 a1 a2 a3/\p2 a0 a1 a2 a3/\p3 a0 a1 a2 a3/\p4 a0 a1 a2 a3/\p5 a0 a1 a2 a3/\p6 a0 a1 a2 a3) (k : ∀ a0 a1 a2 a3,p0 a0 a1 a2 a3->p1 a0 a1 a2 a3->p2 a0 a1 a2 a3->p3 a0 a1 a2 a3->p4 a0 a1 a2 a3->p5 a0 a1 a2 a3->p6 a0 a1 a2 a3->G):G:= by
 obtain ⟨a0,a1,a2,a3,h0,h1,h2,h3,h4,h5,h6⟩:=h
 exact k a0 a1 a2 a3 h0 h1 h2 h3 h4 h5 h6
theorem Pq {t0 t1 t2 t3:Type} {p0 p1 p2 p3 p4 p5 p6 p7:t0->t1->t2->t3->Prop} {G:Prop} (h : ∃ a0 a1 a2 a3,p0 a0 a1 a2 a3/\p1 a0 a1 a2 a3/\p2 a0 a1 a2 a3/\p3 a0 a1 a2 a3/\p4 a0 a1 a2 a3/\p5 a0 a1 a2 a3/\p6 a0 a1 a2 a3/\p7 a0 a1 a2 a3) (k : ∀ a0 a1 a2 a3,p0 a0 a1 a2 a3->p1 a0 a1 a2 a3->p2 a0 a1 a2 a3->p3 a0 a1 a2 a3->p4 a0 a1 a2 a3->p5 a0 a1 a2 a3->p6 a0 a1 a2 a3->p7 a0 a1 a2 a3->G):G:= by
 obtain ⟨a0,a1,a2,a3,h0,h1,h2,h3,h4,h5,h6,h7⟩:=h
 exact k a0 a1 a2 a3 h0 h1 h2 h3 h4 h5 h6 h7
theorem IX {t0 t1 t2 t3 t4:Type} {p0 p1 p2 p3 p4 p5:t0->t1->t2->t3->t4->Prop} {G:Prop} (h : ∃ a0 a1 a2 a3 a4,p0 a0 a1 a2 a3 a4/\p1 a0 a1 a2 a3 a4/\p2 a0 a1 a2 a3 a4/\p3 a0 a1 a2 a3 a4/\p4 a0 a1 a2 a3 a4/\p5 a0 a1 a2 a3 a4) (k : ∀ a0 a1 a2 a3 a4,p0 a0 a1 a2 a3 a4->p1 a0 a1 a2 a3 a4->p2 a0 a1 a2 a3 a4->p3 a0 a1 a2 a3 a4->p4 a0 a1 a2 a3 a4->p5 a0 a1 a2 a3 a4->G):G:= by
 obtain ⟨a0,a1,a2,a3,a4,h0,h1,h2,h3,h4,h5⟩:=h
 exact k a0 a1 a2 a3 a4 h0 h1 h2 h3 h4 h5
theorem xE6 {t0 t1 t2 t3 t4 t5:Type} {p0:t0->t1->t2->t3->t4->t5->Prop} {G:Prop} (h : ∃ a0 a1 a2 a3 a4 a5,p0 a0 a1 a2 a3 a4 a5) (k : ∀ a0 a1 a2 a3 a4 a5,p0 a0 a1 a2 a3 a4 a5->G):G:= by
 obtain ⟨a0,a1,a2,a3,a4,a5,h0⟩:=h
 exact k a0 a1 a2 a3 a4 a5 h0
theorem Ox {t0 t1 t2 t3 t4 t5:Type} {p0 p1 p2 p3 p4:t0->t1->t2->t3->t4->t5->Prop} {G:Prop} (h : ∃ a0 a1 a2 a3 a4 a5,p0 a0 a1 a2 a3 a4 a5/\p1 a0 a1 a2 a3 a4 a5/\p2 a0 a1 a2 a3 a4 a5/\p3 a0 a1 a2 a3 a4 a5/\p4 a0 a1 a2 a3 a4 a5) (k : ∀ a0 a1 a2 a3 a4 a5,p0 a0 a1 a2 a3 a4 a5->p1 a0 a1 a2 a3 a4 a5->p2 a0 a1 a2 a3 a4 a5->p3 a0 a1 a2 a3 a4 a5->p4 a0 a1 a2 a3 a4 a5->G):G:= by
 obtain ⟨a0,a1,a2,a3,a4,a5,h0,h1,h2,h3,h4⟩:=h
 exact k a0 a1 a2 a3 a4 a5 h0 h1 h2 h3 h4
namespace L2
open PySem PySem.Spec PyProof.Rows
noncomputable abbrev Key:=Sum Int Str
noncomputable def Je:Key->Value->Bool
 | .inl k,v=>Value.isInt k v
 | .inr x,v=>Value.isStrOf x v
noncomputable def Qh (w:World):Key->Int
 | .inl k=>hashInt k
 | .inr x=>hashStr w x
theorem AI : ∀ {k:Key} {v:Value},Je k v=true->(∃ i t,k=Sum.inl i/\v=Value.int i t)\/(∃ x t,k=Sum.inr x/\v=Value.str x t)
 | .inl i,v,h=>by
  obtain ⟨t,e⟩:=Value.isInt_shape (k:=i) (v:=v) h
  exact .inl ⟨i,t,rfl,e⟩
 | .inr x,v,h=>by
  obtain ⟨t,e⟩:=Value.isStrOf_shape (x:=x) (v:=v) h
  exact .inr ⟨x,t,rfl,e⟩
theorem JU (i:Int) (t:Tok):Je (.inl i) (.int i t)=true:=by simp [Je,Value.isInt]
theorem Jv (x:Str) (t:Tok):Je (.inr x) (.str x t)=true:=by simp [Je,Value.isStrOf]
theorem Nr (a b:Int):decide ((Sum.inl a:Key)=Sum.inl b)=(a==b):= by
 by_cases e:a=b
 ·subst e;simp
 ·have h : ¬ (Sum.inl a:Key)=Sum.inl b:=fun q=>e (Sum.inl.inj q)
  rw[decide_eq_false h]
  exact (beq_eq_false_iff_ne.mpr e).symm
theorem NK (a b:Str):decide ((Sum.inr a:Key)=Sum.inr b)=decide (a=b):= by
 by_cases e:a=b
 ·subst e;simp
 ·have h : ¬ (Sum.inr a:Key)=Sum.inr b:=fun q=>e (Sum.inr.inj q)
  rw[decide_eq_false h,decide_eq_false e]
theorem Og (a:Int) (b:Str):decide ((Sum.inl a:Key)=Sum.inr b)=false:=decide_eq_false (fun q=>nomatch q)
theorem Nw (a:Str) (b:Int):decide ((Sum.inr a:Key)=Sum.inl b)=false:=decide_eq_false (fun q=>nomatch q)
noncomputable def A0 (prog:Program) (w:World):PySem.KeyKind prog w Key where
 is:=Je
 hash:=Qh w
 inj:=fun v a b ha hb=>by
  rcases AI ha with ⟨i,t,rfl,rfl⟩ | ⟨x,t,rfl,rfl⟩
  ·rcases AI hb with ⟨j,u,rfl,e⟩ | ⟨y,u,rfl,e⟩
   ·injection e with e1 _;rw[e1]
   ·exact nomatch e
  ·rcases AI hb with ⟨j,u,rfl,e⟩ | ⟨y,u,rfl,e⟩
   ·exact nomatch e
   ·injection e with e1 _;rw[e1]
 byValue:=fun k v h=>by
  rcases AI h with ⟨i,t,rfl,rfl⟩ | ⟨x,t,rfl,rfl⟩ <;> rfl
 pyHash:=fun hv h=>by
  rcases AI hv with ⟨i,t,rfl,rfl⟩ | ⟨x,t,rfl,rfl⟩
  ·exact wpAny_pyHash_int h
  ·exact wpAny_pyHash_str h
 eqBool:=fun hu hv h=>by
  rcases AI hu with ⟨i,t,rfl,rfl⟩ | ⟨x,t,rfl,rfl⟩
  ·rcases AI hv with ⟨j,u,rfl,rfl⟩ | ⟨y,u,rfl,rfl⟩
   ·rw[Nr] at h;exact wpAny_eqBool_int h
   ·rw[Og] at h;exact SeqAt.EqAt.int_str i t y u _ _ _ _ h
  ·rcases AI hv with ⟨j,u,rfl,rfl⟩ | ⟨y,u,rfl,rfl⟩
   ·rw[Nw] at h;exact SeqAt.EqAt.str_int x t j u _ _ _ _ h
   ·rw[NK] at h;exact wpAny_eqBool_str h
 «strs»:=fun k x t v h=>by
  rcases AI h with ⟨i,u,rfl,e⟩ | ⟨y,u,rfl,e⟩
  ·exact nomatch e
  ·injection e with e1 _
   subst e1
   cases v <;> rfl
theorem G3 (prog:Program) (w:World) (i:Int) (t:Tok):(A0 prog w).is (.inl i) (.int i t)=true:=JU i t
theorem HF (prog:Program) (w:World) (x:Str) (t:Tok):(A0 prog w).is (.inr x) (.str x t)=true:=Jv x t
end L2
namespace L2
open PySem PySem.Spec PyProof.Rows
inductive V where
 | non | bl (b:Bool) | int (i:Int) | str (x:Str) | byt (b:Array UInt8) | flt (b:UInt64) | ref (a:Addr) | ty (n:String)
 deriving DecidableEq
def AR:V->Value->Prop
 | .non,u=>u=Value.none
 | .bl b,u=>u=Value.bool b
 | .int i,u=>∃ t,u=Value.int i t
 | .str x,u=>∃ t,u=Value.str x t
 | .byt b,u=>∃ t,u=Value.bytes b t
 | .flt b,u=>∃ t,u=Value.float b t
 | .ref a,u=>u=Value.ref a
 | .ty n,u=>u=Value.type n
abbrev AH:List V->List Value->Prop:=Paired AR
theorem AH.length {xs:List V} {us:List Value} (r:AH xs us):xs.length=us.length:=Paired.length r
theorem AH.get : ∀ {xs:List V} {us:List Value} {i:Nat} {x:V},AH xs us->xs[i]?=some x -> ∃ u,us[i]?=some u/\AR x u
 | _,_,_,_,.nil,e=>by simp at e
 | _,_,0,_,.cons r _,e=>by simp at e;subst e;exact ⟨_,rfl,r⟩
 | _,_,i+1,x,.cons _ t,e=>by
  obtain ⟨u,h1,h2⟩:=AH.get (i:=i) (x:=x) t (by simpa using e)
  exact ⟨u,by simpa using h1,h2⟩
theorem AH.append : ∀ {xs ys:List V} {us ws:List Value},AH xs us->AH ys ws->AH (xs++ys) (us++ws)
 | _,_,_,_,.nil,s=>s
 | _,_,_,_,.cons r t,s=>.cons r (AH.append t s)
theorem AH.take : ∀ {xs:List V} {us:List Value} (n:Nat),AH xs us->AH (xs.take n) (us.take n)
 | _,_,0,_=>.nil
 | _,_,_+1,.nil=>.nil
 | _,_,n+1,.cons r t=>.cons r (AH.take n t)
theorem AH.drop : ∀ {xs:List V} {us:List Value} (n:Nat),AH xs us->AH (xs.drop n) (us.drop n)
 | _,_,0,r=>r
 | _,_,_+1,.nil=>.nil
 | _,_,n+1,.cons _ t=>AH.drop n t
def Kz:Option V->Option Value->Prop
 | some v,some u=>AR v u
 | none,none=>True
 | _,_=>False
def KV {κ:Type}:List (κ × V)->List (κ × Value)->Prop:=Paired fun (p:κ × V) (q:κ × Value)=>p.1=q.1/\AR p.2 q.2
noncomputable def kV:Key->V
 | .inl i=>.int i
 | .inr x=>.str x
inductive HO where
 | lst (xs:List V)
 | tup (xs:List V)
 | dK (kvs:List (Key × V)) | dT (kvs:List (List Key × V))
 | set (S:Int->Bool) (n:Nat)
 | ins (C dx:Addr) (fs:List (Str × V))
 | own (x:Addr)
 | xd (fs:List (Str × V))
 | met (f x:Addr)
 | rng (lo hi:Int)
 | frz (o:Obj) (u:HO)
 | tbl (ps:Array Value)
 | ext (φ:Heap->Prop)
noncomputable abbrev Hp:=Addr->Option HO
noncomputable def upd (H:Hp) (a:Addr) (o:HO):Hp:=fun b=>if b=a then some o else H b
theorem Ab {H:Hp} {a:Addr} {o:HO}:upd H a o a=some o:=by unfold upd;rw[if_pos rfl]
theorem Ah {H:Hp} {a b:Addr} {o:HO} (h:b≠a):upd H a o b=H b:=by unfold upd;rw[if_neg h]
theorem MI {H:Hp} {a:Addr} {o u:HO}:upd (upd H a o) a u=upd H a u:= by
 funext b;unfold upd;split <;> rfl
theorem Po {H:Hp} {a b:Addr} {o u:HO} (h:H a=some o) (h':H b=some u) (d:o≠u):a≠b:= by
 intro e;subst e;rw[h] at h';exact d (Option.some.inj h')
theorem Ad {H:Hp} {a b:Addr} {o:HO} (h:H a=some o) (h':H b=none):a≠b:= by
 intro e;subst e;rw[h] at h';cases h'
section
variable (P:Program) (w:World)
def AV (H:Hp) (h:Heap) (a:Addr):HO->Prop
 | .lst xs=>xs.length <= sizeLine /\ ∃ (its : List Value) (n : Nat),AH xs its /\ h.get? a = some { cls:=.type "list",data:=.seq its.toArray n }
 | .tup xs=>xs.length<=sizeLine /\ ∃ its:List Value,AH xs its/\IsTup h a its.toArray
 | .dK kvs=>kvs.length<=sizeLine/\(a==sysModules)=false /\ ∃ vs,KV kvs vs/\h.DictOf (A0 P w) a vs
 | .dT kvs=>kvs.length<=sizeLine/\(a==sysModules)=false /\ ∃ xs:List (List Key × Addr × Value),
   Paired (fun (p:List Key × V) (q:List Key × Addr × Value)=>p.1=q.1/\H q.2.1=some (.tup (p.1.map kV))/\AR p.2 q.2.2) kvs xs /\
   ∃ o es ep,h.get? a=some o/\o.ExactDict/\o.data = .dict es ep/\es.toList=xs.map (entryOfKey (tupleKind (A0 P w)))/\(xs.map (·.1)).Nodup
 | .set S n=>h.SetOf (intKind P w) a S n
 | .ins C dx fs=>H dx=some (.own a)/\fs.length<=1000/\dx≠a/\h.get? a=some (PySem.W.instObj C dx) /\
   ∃ mA,h.Ns1 dx mA/\(∀ f,Kz (fs.lookup f) (mA f))/\PySem.Within mA (fs.map (·.1))
 | .own _=>∃ o,h.get? a=some o
 | .xd fs=>∃ mA,h.Ns1 a mA /\ ∀ f,Kz (fs.lookup f) (mA f)
 | .rng lo hi=>∃ t u v,h.get? a = some { cls:=.type "range",data:=.fields #[.int lo t,.int hi u,.int 1 v] }
 | .frz o u=>h.get? a=some o/\AV H h a u
 | .tbl ps=>h.get? a=some { cls:=.none,data:=.fields ps }
 | .met f x=>h.get? a=some (PySem.W.methodObj (.ref f) (.ref x))
 | .ext φ=>φ h/\(∃ o,h.get? a=some o) /\ ∀ h1 h2:Heap,φ h1->(∀ o,h1.get? a=some o->h2.get? a=some o)->φ h2
def HOk (H:Hp) (h:Heap):Prop:=∀ a o,H a=some o->AV P w H h a o
end
section
variable {P:Program} {w:World} {H H':Hp} {h h':Heap} {a:Addr} {o:HO}
theorem AV.lt (x:AV P w H h a o):a<h.objs.size:= by
 cases o with
 | lst xs=>refine xA x fun _ m91=>Ct m91 fun _ _ _ e=>?_;exact Heap.lt_size e
 | tup xs=>refine xA x fun _ m92=>xEA m92 fun _ _ p=>?_;exact p.lt
 | dK kvs=>refine xA2 x fun _ _ m93=>xEA m93 fun _ _ m94=>FW m94 fun o _ _ e _=>?_;exact Heap.lt_size e
 | dT kvs=>refine xA2 x fun _ _ m95=>xEA m95 fun _ _ m96=>FW m96 fun o _ _ e _=>?_;exact Heap.lt_size e
 | set S n=>refine OY x fun o _ _ _ e _=>?_;exact Heap.lt_size e
 | ins C dx fs=>refine xA4 x fun _ _ _ e _=>?_;exact Heap.lt_size e
 | own y=>refine xE x fun _ e=>?_;exact Heap.lt_size e
 | xd fs=>refine xEA x fun _ n90 _=>FW n90 fun _ _ _ e _=>?_;exact Heap.lt_size e
 | rng lo hi=>refine xE3 x fun _ _ _ e=>?_;exact Heap.lt_size e
 | frz ob u=>refine xA x fun e _=>?_;exact Heap.lt_size e
 | tbl ps=>exact Heap.lt_size (show h.get? a=some _ from x)
 | met f y=>exact Heap.lt_size (show h.get? a=some _ from x)
 | ext φ=>refine xA2 x fun _ n90 _=>xE n90 fun _ e=>?_;exact Heap.lt_size e
theorem Paired.mapP {α β:Type} {F G:α->β->Prop} : ∀ {l₁:List α} {l₂:List β},Paired F l₁ l₂->(∀ a b,F a b->G a b)->Paired G l₁ l₂
 | _,_,.nil,_=>.nil
 | _,_,.cons r t,f=>.cons (f _ _ r) (Paired.mapP t f)
theorem AV.stay (x:AV P w H h a o) (k : ∀ b u,(b=a\/H b=some (.own a))->h.get? b=some u->h'.get? b=some u)
  (ho : ∀ b,H b=some (.own a)->H' b=some (.own a)) (ht : ∀ b xs,H b=some (.tup xs)->H' b=some (.tup xs)):AV P w H' h' a o:= by
 induction o with
 | lst xs=>refine xA x fun z m97=>Ct m97 fun its n r e=>?_;exact ⟨z,its,n,r,k _ _ (.inl rfl) e⟩
 | tup xs=>refine xA x fun z m98=>xEA m98 fun its r m99=>xEA m99 fun ob e c=>?_;exact ⟨z,its,r,ob,k _ _ (.inl rfl) e,c⟩
 | dK kvs=>refine xA2 x fun z y m910=>xEA m910 fun vs r m911=>FW m911 fun ob es ep e c=>?_;exact ⟨z,y,vs,r,ob,es,ep,k _ _ (.inl rfl) e,c⟩
 | dT kvs=>
  refine xA2 x fun z y m912=>xEA m912 fun xs r m913=>FW m913 fun ob es ep e c=>?_
  exact ⟨z,y,xs,Paired.mapP r fun p q z=>⟨z.1,ht _ _ z.2.1,z.2.2⟩,ob,es,ep,k _ _ (.inl rfl) e,c⟩
 | set S n=>refine OY x fun ob es ep t e c=>?_;exact ⟨ob,es,ep,t,k _ _ (.inl rfl) e,c⟩
 | ins C dx fs=>
  refine xA4 x fun d z ne e m914=>xEA m914 fun mA n90 r=>FW n90 fun od es ep e2 c=>?_
  exact ⟨ho _ d,z,ne,k _ _ (.inl rfl) e,mA,⟨od,es,ep,k _ _ (.inr d) e2,c⟩,r⟩
 | own y=>refine xE x fun ob e=>?_;exact ⟨ob,k _ _ (.inl rfl) e⟩
 | xd fs=>refine xEA x fun mA n90 r=>FW n90 fun od es ep e c=>?_;exact ⟨mA,⟨od,es,ep,k _ _ (.inl rfl) e,c⟩,r⟩
 | rng lo hi=>refine xE3 x fun t u v e=>?_;exact ⟨t,u,v,k _ _ (.inl rfl) e⟩
 | frz ob u ih=>refine xA x fun e q=>?_;exact ⟨k _ _ (.inl rfl) e,ih q⟩
 | tbl ps=>
  have e:h.get? a=some { cls:=.none,data:=.fields ps }:=x
  show h'.get? a=some { cls:=.none,data:=.fields ps }
  exact k a _ (.inl rfl) e
 | met f y=>
  have e:h.get? a=some (PySem.W.methodObj (.ref f) (.ref y)):=x
  show h'.get? a=some (PySem.W.methodObj (.ref f) (.ref y))
  exact k a _ (.inl rfl) e
 | ext φ=>refine xA2 x fun p n90 st=>xE n90 fun o e=>?_;exact ⟨st _ _ p fun o q=>k _ _ (.inl rfl) q,⟨o,k _ _ (.inl rfl) e⟩,st⟩
theorem HOk.lt (x:HOk P w H h) (e:H a=some o):a<h.objs.size:=(x a o e).lt
theorem HOk.fresh (x:HOk P w H h) (e:h.objs.size<=a):H a=none:= by
 cases q:H a with
 | none=>rfl
 | some u=>exact absurd (Nat.lt_of_lt_of_le (x.lt q) e) (Nat.lt_irrefl _)
theorem HOk.kept (x:HOk P w H h) (k : ∀ b u,h.get? b=some u->h'.get? b=some u):HOk P w H h':=fun a o e=>
 (x a o e).stay (fun b u _ q=>k b u q) (fun _ q=>q) fun _ _ q=>q
theorem HOk.laid (x:HOk P w H h) (k : ∀ b u,h.get? b=some u->h'.get? b=some u) (hp:h.objs.size<=a) (new:AV P w (upd H a o) h' a o):HOk P w (upd H a o) h':=fun b u e=>by
 have hn:=x.fresh hp
 by_cases hb:b=a
 ·subst hb;rw[Ab] at e;cases e;exact new
 ·rw[Ah hb] at e
  exact (x b u e).stay (fun c v _ q=>k c v q) (fun c q=>by rw[Ah (Ad q hn)];exact q) fun c xs q=>by rw[Ah (Ad q hn)];exact q
end
def Rd (H:Hp) (a:Addr) (u:HO):Prop:=H a=some u \/ ∃ o,H a=some (.frz o u)
theorem Rd.ok {P:Program} {w:World} {H:Hp} {h:Heap} {a:Addr} {u:HO} (r:Rd H a u) (x:HOk P w H h):AV P w H h a u:= by
 rcases r with r | ⟨o,r⟩
 ·exact x a u r
 ·obtain ⟨_,q⟩:=x a _ r
  exact q
def Mut:Option HO->Prop
 | some (.lst _)=>True
 | some (.dK _)=>True
 | some (.dT _)=>True
 | some (.set _ _)=>True
 | some (.ins _ _ _)=>True
 | some (.ext _)=>True
 | _=>False
section
variable {P:Program} {w:World} {H:Hp} {h h':Heap} {x e:Addr} {o':HO}
theorem HOk.write (ok:HOk P w H h) (mu:Mut (H x)) (he:e=x\/H e=some (.own x)) (k : ∀ b u,b≠e->h.get? b=some u->h'.get? b=some u) (heo : ∃ u,h'.get? e=some u)
  (new:AV P w (upd H x o') h' x o'):HOk P w (upd H x o') h':=fun b u q=>by
 have nown : ∀ c y,H c=some (.own y)->c≠x:=fun c y r z=>by subst z;rw[r] at mu;exact mu
 have ntup : ∀ c xs,H c=some (.tup xs)->c≠x:=fun c xs r z=>by subst z;rw[r] at mu;exact mu
 by_cases hb:b=x
 ·subst hb;rw[Ab] at q;cases q;exact new
 ·rw[Ah hb] at q
  by_cases hbe:b=e
  ·have q':H b=some (.own x):= by
    rcases he with z | z
    ·exact absurd (hbe.trans z) hb
    ·rw[hbe];exact z
   rw[q] at q';cases q'
   obtain ⟨v,hv⟩:=heo
   exact ⟨v,by rw[hbe];exact hv⟩
  ·refine (ok b u q).stay (fun c v hc r=>k c v ?_ r) (fun c r=>by rw[Ah (nown c b r)];exact r) fun c xs r=>by rw[Ah (ntup c xs r)];exact r
   rcases hc with rfl | hc
   ·exact hbe
   ·rintro rfl
    rcases he with z | z
    ·exact nown c b hc z
    ·rw[hc] at z;cases z;exact hb rfl
end
structure Un (fs ex:List Addr) (H H':Hp) (h h':Heap):Prop where
 keep : ∀ b o,h.get? b=some o->H b=none->b ∉ fs->b ∉ ex->h'.get? b=some o
 slot : ∀ b o,h.get? b=some o->H b=none->b ∈ fs->b ∉ ex -> ∃ sl,h'.get? b=some { o with slots:=sl }
 free : ∀ b o,h.get? b=some o->H b=none->b ∉ ex->H' b=none
 there : ∀ b o,h.get? b=some o->b ∉ ex -> ∃ o',h'.get? b=some o'
 tups : ∀ b xs,H b=some (.tup xs)->H' b=some (.tup xs)
 frzs : ∀ b o u,H b=some (.frz o u)->H' b=some (.frz o u)
 tbls : ∀ b ps,H b=some (.tbl ps) -> ∃ more,H' b=some (.tbl (ps++more))
section
variable {fs fs' ex ex':List Addr} {H H1 H2:Hp} {h h1 h2 h':Heap} {a x e:Addr} {o:HO}
theorem Un.any (u:Un fs ex H H1 h h1) {b:Addr} {ob:Obj} (q:h.get? b=some ob) (n:H b=none) (hx:b ∉ ex) : ∃ sl,h1.get? b=some { ob with slots:=sl }:= by
 by_cases hb:b ∈ fs
 ·exact u.slot b ob q n hb hx
 ·exact ⟨ob.slots,u.keep b ob q n hb hx⟩
theorem Un.kept (k : ∀ b u,h.get? b=some u->h'.get? b=some u):Un fs ex H H h h':=
 ⟨fun b ob q _ _ _=>k b ob q,fun b ob q _ _ _=>⟨ob.slots,k b ob q⟩,fun _ _ _ n _=>n,fun b ob q _=>⟨ob,k b ob q⟩,fun _ _ q=>q,fun _ _ _ q=>q,fun _ ps q=>⟨#[],by rw[q];simp⟩⟩
theorem Un.refl:Un fs ex H H h h:=Un.kept fun _ _ q=>q
theorem Un.laid (k : ∀ b u,h.get? b=some u->h'.get? b=some u) (hp:h.objs.size<=a) (hn:H a=none):Un fs ex H (upd H a o) h h' where
 keep:=fun b u q _ _ _=>k b u q
 slot:=fun b u q _ _ _=>⟨u.slots,k b u q⟩
 free:=fun b u q n _=>by rw[Ah (Nat.ne_of_lt (Nat.lt_of_lt_of_le (Heap.lt_size q) hp))];exact n
 there:=fun b u q _=>⟨u,k b u q⟩
 tups:=fun b xs q=>by rw[Ah (Ad q hn)];exact q
 frzs:=fun b u xs q=>by rw[Ah (Ad q hn)];exact q
 tbls:=fun b ps q=>⟨#[],by rw[Ah (Ad q hn),q];simp⟩
theorem Un.write (mu:Mut (H x)) (he:e=x\/H e=some (.own x)) (k : ∀ b u,b≠e->h.get? b=some u->h'.get? b=some u) (heo : ∃ u,h'.get? e=some u):Un fs ex H (upd H x o) h h':= by
 have hx : ∀ b,H b=none->b≠x:=fun b n z=>by subst z;rw[n] at mu;exact mu
 have hb : ∀ b,H b=none->b≠e:=fun b n z=>by
  subst z
  rcases he with r | r
  ·exact hx b n r
  ·rw[n] at r;cases r
 have hm : ∀ b u,H b=some u -> ¬ Mut (some u)->b≠x:=fun b u q nm z=>by subst z;rw[q] at mu;exact nm mu
 refine ⟨fun b u q n _ _=>k b u (hb b n) q,fun b u q n _ _=>⟨u.slots,k b u (hb b n) q⟩,fun b u q n _=>by rw[Ah (hx b n)];exact n,fun b u q _=>?_,
  fun b xs q=>by rw[Ah (hm b _ q fun z=>z)];exact q,fun b u xs q=>by rw[Ah (hm b _ q fun z=>z)];exact q,fun b ps q=>⟨#[],by rw[Ah (hm b _ q fun z=>z),q];simp⟩⟩
 by_cases hbe:b=e
 ·subst hbe;exact heo
 ·exact ⟨u,k b u hbe q⟩
end
noncomputable def trk (h:Heap) (H:Hp):List Addr:=(List.range h.objs.size).filter fun a=>(H a).isSome
noncomputable def Lv (h:Heap) (H:Hp):Heap:=PySem.W.hideAll h (trk h H)
theorem KA (h:Heap) (H:Hp):(Lv h H).objs.size=h.objs.size:=PySem.W.hideAll_size _ _
theorem Lx {h:Heap} {H:Hp} {b:Addr} {o:Obj} (e:h.get? b=some o) (n:H b=none):(Lv h H).get? b=some o:=
 PySem.W.hideAll_get _ e fun hm=>by
  have q:(H b).isSome=true:=(List.mem_filter.mp hm).2
  rw[n] at q;simp at q
theorem MB {h:Heap} {H:Hp} {b:Addr} {o:Obj} (e:(Lv h H).get? b=some o):h.get? b=some o/\H b=none:= by
 have e':h.get? b=some o:=PySem.W.of_hideAll (trk h H) e
 refine ⟨e',?_⟩
 cases q:H b with
 | none=>rfl
 | some x=>
  have hm:b ∈ trk h H:=List.mem_filter.mpr ⟨List.mem_range.mpr (Heap.lt_size e'),by simp [q]⟩
  have z:(Lv h H).get? b=none:=PySem.W.hideAll_none (trk h H) hm
  rw[z] at e;cases e
noncomputable def Ek (g h:Heap) (L:Addr):List (Addr × Obj):=(List.range h.objs.size).filterMap fun a=>if a=L\/(g.get? a).isSome=true then none else (h.get? a).map fun o=>(a,o)
theorem Cy {g h:Heap} {L a:Addr} {o:Obj} (h1:a≠L) (h2:g.get? a=none) (h3:h.get? a=some o):(a,o) ∈ Ek g h L:=
 List.mem_filterMap.mpr ⟨a,List.mem_range.mpr (Heap.lt_size h3),by simp [h1,h2,h3]⟩
theorem EJ {g h:Heap} {L:Addr} {p:Addr × Obj} (hp:p ∈ Ek g h L):p.1≠L/\g.get? p.1=none/\h.get? p.1=some p.2:= by
 refine xEA (List.mem_filterMap.mp hp) fun b _ e=>?_
 split at e
 ·cases e
 ·rename_i hn
  cases q:h.get? b with
  | none=>rw[q] at e;simp at e
  | some u=>
   rw[q] at e
   simp only [Option.map_some,Option.some.injEq] at e
   subst e
   refine ⟨fun z=>hn (.inl z),?_,q⟩
   show g.get? b=none
   cases r:g.get? b with
   | none=>rfl
   | some v=>exact (hn (.inr (by simp [r]))).elim
theorem Lp {g h:Heap} {L:Addr}:News g L h (Ek g h L):=fun p hp=>let ⟨a,b,c⟩:=EJ hp;⟨c,a,b⟩
end L2
namespace L2
open PySem PySem.Spec PyProof.Rows
structure Mod (K:PySem.W.Frag) (mg:Str->Option Value) (base:Heap):Prop where
 kin:K.In base
 glob:base.Ns mainGlobals mg
 blt : ∃ mb,base.Ns builtinsNs mb /\ ∀ x : Str,x ≠ "__name__" -> mb x = bootBuiltins x
 nolimit:base.NoLimit
structure Cx where
 prog:Program
 w:World
 K:PySem.W.Frag
 mg:Str->Option Value
 base:Heap
 A:Around
 N:List Str
 s₀:Shared
 H₀:Hp
 env:Env
 outer:List Env
 stack:List Env
 ex:List Addr
 fn:Str->Bool
 calm:Bool
 pn:List (Addr × Obj)
 xe:Value->Shared->Prop
noncomputable def frs (l:List Env):List Addr:=l.filterMap (·.frame)
noncomputable abbrev Cx.fs (X:Cx):List Addr:=frs X.outer
def Vis (sc:Scope) (x:Str):Prop:=sc.names.lookup x=some .local\/sc.names.lookup x=some .cell\/sc.names.lookup x=some .free
def Loc (sc:Scope) (x:Str):Prop:=sc.names.lookup x=some .local\/sc.names.lookup x=some .cell
def Qi (env:Env) (h:Heap) (m:Str->Option Value) (x:Str) (u:Value):Prop:=
 (env.kindOf x=some .local/\m x=some u)\/((env.kindOf x=some .cell\/env.kindOf x=some .free) /\ ∃ c,env.cells.lookup x=some c/\h.IsCell c (some u))
structure Cx.Ok (X:Cx):Prop where
 mod:Mod X.K X.mg X.base
 kind:X.env.scope.kind = .function
 glob:X.env.globals=mainGlobals
 blt:X.env.builtins=builtinsNs
 above:X.s₀.heap.objs.size<=X.env.locals
 inj : ∀ x y c,X.env.cells.lookup x=some c->X.env.cells.lookup y=some c->x=y
 has : ∀ x,(X.env.kindOf x=some .cell\/X.env.kindOf x=some .free) -> ∃ c,X.env.cells.lookup x=some c
 cab : ∀ x c,X.fn x=true->X.env.cells.lookup x=some c->X.s₀.heap.objs.size<=c
 hd:X.calm=true->X.A.handled=none
 frames:X.A.frames=some X.stack
 stk:X.stack=X.outer\/(X.stack=X.env::X.outer/\X.env.frame=some X.env.locals)
 exf : ∀ b ∈ X.ex,b≠X.env.locals /\ ∀ x c,X.env.cells.lookup x=some c->c≠b
 bs : ∀ b o,X.base.get? b=some o->X.s₀.heap.get? b=some o/\X.H₀ b=none
 bsz:X.base.objs.size<=X.s₀.heap.objs.size
 noex : ∀ b o,X.base.get? b=some o->b ∉ X.ex
 exfs : ∀ b ∈ X.ex,b ∉ X.fs
 funs:X.s₀.heap.FunFrames X.base X.outer
 frf : ∀ b ∈ X.fs,X.H₀ b=none
structure Inv (X:Cx) (pins:List (Addr × Obj)) (σ:List (Option V)) (H:Hp) (s:Shared):Prop where
 ok:X.Ok
 os:s.os=X.s₀.os
 bare:AllBare s.gens
 base:Un X.fs X.ex X.H₀ H X.s₀.heap s.heap
 loc : ∃ m,s.heap.Ns X.env.locals m /\ ∀ (i:Nat) (x:Str) (v:V),X.N[i]?=some x->σ[i]?=some (some v)->Vis X.env.scope x -> ∃ u,AR v u/\Qi X.env s.heap m x u
 cell : ∀ x c,X.env.cells.lookup x=some c -> ∃ v,s.heap.IsCell c v
 free:H X.env.locals=none
 freeC : ∀ x c,X.env.cells.lookup x=some c->H c=none
 pin : ∀ p ∈ X.pn++pins,s.heap.get? p.1=some p.2/\H p.1=none/\p.1≠X.env.locals/\p.1 ∉ X.fs /\ ∀ v,p.2.data ≠ .cell v
 hok:HOk X.prog X.w H s.heap
 len:σ.length=X.N.length
section
variable {X:Cx} {pins:List (Addr × Obj)} {σ:List (Option V)} {H H':Hp} {s:Shared} {h':Heap}
theorem Cx.Ok.nofr (ok:X.Ok) {b:Addr} {o:Obj} (e:X.base.get? b=some o):b ∉ X.fs:=fun hb=>by
 have:=(ok.funs.mem hb).1
 rw[e] at this;cases this
theorem Inv.bs (I:Inv X pins σ H s) : ∀ b o,X.base.get? b=some o->s.heap.get? b=some o/\H b=none:=fun b o e=>
 ⟨I.base.keep b o (I.ok.bs b o e).1 (I.ok.bs b o e).2 (I.ok.nofr e) (I.ok.noex b o e),I.base.free b o (I.ok.bs b o e).1 (I.ok.bs b o e).2 (I.ok.noex b o e)⟩
theorem Inv.bk (I:Inv X pins σ H s) : ∀ b o,X.base.get? b=some o->s.heap.get? b=some o:=fun b o e=>(I.bs b o e).1
theorem Inv.mod (I:Inv X pins σ H s):Mod X.K X.mg X.base:=I.ok.mod
theorem Inv.kIn (I:Inv X pins σ H s):X.K.In s.heap:=I.ok.mod.kin.keeps I.bk
theorem Inv.fr (I:Inv X pins σ H s) : ∃ m,Fr X.base X.env.locals s.heap m:=
 let ⟨m,hn,_⟩:=I.loc
 ⟨m,hn,I.bk,Nat.le_trans I.ok.bsz I.ok.above⟩
theorem Inv.lt (I:Inv X pins σ H s):X.env.locals<s.heap.objs.size:=let ⟨_,hn,_⟩:=I.loc;hn.lt
theorem Inv.sz (I:Inv X pins σ H s):X.s₀.heap.objs.size<=s.heap.objs.size:=Nat.le_trans I.ok.above (Nat.le_of_lt I.lt)
theorem Inv.nofs (I:Inv X pins σ H s) {a:Addr} (h:s.heap.objs.size<=a):a ∉ X.fs:=fun hb=>by
 obtain ⟨_,o,ho,_⟩:=I.ok.funs.mem hb
 exact absurd (Nat.lt_of_lt_of_le (Heap.lt_size ho) (Nat.le_trans I.sz h)) (Nat.lt_irrefl _)
theorem Inv.cne (I:Inv X pins σ H s) : ∀ x c,X.env.cells.lookup x=some c->c≠X.env.locals:=fun x c e z=>by
 refine Ct (I.cell x c e) fun v o ho hd=>?_
 refine xEA I.loc fun m n90 _=>Ed n90 fun o' es ep ho' hd' _=>?_
 rw[z,ho'] at ho;cases ho;rw[hd'] at hd;cases hd
theorem Inv.funs (I:Inv X pins σ H s):s.heap.FunFrames X.base X.outer:= by
 have all : ∀ (l:List Env),(∀ b ∈ frs l,b ∈ X.fs)->X.s₀.heap.FunFrames X.base l->s.heap.FunFrames X.base l:= by
  intro l
  induction l with
  | nil=>intro _ _;trivial
  | cons env r ih=>
   intro hs hl
   refine xA2 hl fun hk n90 hr=>CI n90 fun L o hf hn ho hd=>?_
   have hL:L ∈ X.fs:=hs L (by unfold frs;rw[List.filterMap_cons,hf];exact List.mem_cons_self)
   refine xE (I.base.slot L o ho (I.ok.frf L hL) hL fun z=>I.ok.exfs L z hL) fun sl e=>?_
   exact ⟨hk,⟨L,_,hf,hn,e,hd⟩,ih (fun b hb=>hs b (by unfold frs;rw[List.filterMap_cons,hf];exact List.mem_cons_of_mem _ hb)) hr⟩
 exact all X.outer (fun _ hb=>hb) I.ok.funs
theorem Inv.stack (I:Inv X pins σ H s):s.heap.FunFrames X.base X.stack:= by
 rcases I.ok.stk with e | ⟨e,hf⟩
 ·rw[e];exact I.funs
 ·rw[e]
  obtain ⟨m,hn,_⟩:=I.loc
  refine .cons (by rw[I.ok.kind];decide) hf hn ?_ I.funs
  exact Heap.get?_none_of_le (Nat.le_trans I.ok.bsz I.ok.above)
theorem Inv.stkSub (I:Inv X pins σ H s) : ∀ b ∈ frs X.stack,b ∈ X.env.locals::X.fs:=fun b hb=>by
 rcases I.ok.stk with e | ⟨e,hf⟩
 ·rw[e] at hb;exact List.mem_cons_of_mem _ hb
 ·rw[e] at hb
  unfold frs at hb
  rw[List.filterMap_cons,hf] at hb
  exact hb
theorem Inv.stkFree (I:Inv X pins σ H s) : ∀ b ∈ frs X.stack,H b=none:=fun b hb=>by
 rcases List.mem_cons.mp (I.stkSub b hb) with e | hb
 ·rw[e];exact I.free
 ·obtain ⟨_,o,ho,_⟩:=I.ok.funs.mem hb
  exact I.base.free b o ho (I.ok.frf b hb) fun z=>I.ok.exfs b z hb
theorem Inv.step {g':Array GenState} {t':Nat} {d':Drawn} {ch:List Addr} (I:Inv X pins σ H s)
  (hch : ∀ b ∈ ch,(b ∈ X.ex\/X.s₀.heap.objs.size<=b)/\b≠X.env.locals/\(∀ x c,X.env.cells.lookup x=some c->c≠b) /\ ∀ p ∈ X.pn++pins,p.1≠b)
  (keep : ∀ b o,b≠X.env.locals->b ∉ X.fs->b ∉ ch->s.heap.get? b=some o->H b=none->h'.get? b=some o)
  (slot : ∀ b o,b≠X.env.locals->b ∈ X.fs->b ∉ ch->s.heap.get? b=some o->H b=none -> ∃ sl,h'.get? b=some { o with slots:=sl }) (free : ∀ b o,b ∉ ch->s.heap.get? b=some o->H b=none->H' b=none)
  (there : ∀ b o,b ∉ ch->s.heap.get? b=some o -> ∃ o',h'.get? b=some o')
  (tups : ∀ b xs,H b=some (.tup xs)->H' b=some (.tup xs)) (frzs : ∀ b o u,H b=some (.frz o u)->H' b=some (.frz o u)) (tbls : ∀ b ps,H b=some (.tbl ps) -> ∃ more,H' b=some (.tbl (ps++more)))
  (ns : ∀ m,s.heap.Ns X.env.locals m->h'.Ns X.env.locals m) (hok:HOk X.prog X.w H' h') (hg:AllBare g') :
  Inv X pins σ H' { s with heap:=h',gens:=g',drawn:=d',toks:=t' }:= by
 have neL : ∀ b o,X.s₀.heap.get? b=some o->b≠X.env.locals:=fun b o e=>Nat.ne_of_lt (Nat.lt_of_lt_of_le (Heap.lt_size e) I.ok.above)
 have neC : ∀ b o,X.s₀.heap.get? b=some o->b ∉ X.ex->b ∉ ch:=fun b o e hx hb=>by
  rcases (hch b hb).1 with z | z
  ·exact hx z
  ·exact absurd (Nat.lt_of_lt_of_le (Heap.lt_size e) z) (Nat.lt_irrefl _)
 have cellK : ∀ x c,X.env.cells.lookup x=some c -> ∀ v,s.heap.IsCell c v->h'.IsCell c v:=fun x c e v ⟨o,ho,hd⟩=>by
  have nch:c ∉ ch:=fun z=>(hch c z).2.2.1 x c e rfl
  by_cases hc:c ∈ X.fs
  ·obtain ⟨sl,q⟩:=slot c o (I.cne x c e) hc nch ho (I.freeC x c e)
   exact ⟨_,q,hd⟩
  ·exact ⟨o,keep c o (I.cne x c e) hc nch ho (I.freeC x c e),hd⟩
 refine ⟨I.ok,I.os,hg,⟨fun b o e n hb hx=>?_,fun b o e n hb hx=>?_,fun b o e n hx=>?_,fun b o e hx=>?_,fun b xs e=>tups b xs (I.base.tups b xs e),fun b o xs e=>frzs b o xs (I.base.frzs b o xs e),fun b ps e=>?_⟩,?_,fun x c e=>?_,?_,fun x c e=>?_,fun p hp=>?_,hok,I.len⟩
 ·exact keep b o (neL b o e) hb (neC b o e hx) (I.base.keep b o e n hb hx) (I.base.free b o e n hx)
 ·obtain ⟨sl,e1⟩:=I.base.slot b o e n hb hx
  obtain ⟨sl',e2⟩:=slot b _ (neL b o e) hb (neC b o e hx) e1 (I.base.free b o e n hx)
  exact ⟨sl',e2⟩
 ·obtain ⟨o',e1⟩:=I.base.there b o e hx
  exact free b o' (neC b o e hx) e1 (I.base.free b o e n hx)
 ·obtain ⟨o',e1⟩:=I.base.there b o e hx
  exact there b o' (neC b o e hx) e1
 ·obtain ⟨m1,e1⟩:=I.base.tbls b ps e
  obtain ⟨m2,e2⟩:=tbls b _ e1
  exact ⟨m1++m2,by rw[e2,Array.append_assoc]⟩
 ·obtain ⟨m,hn,hl⟩:=I.loc
  refine ⟨m,ns m hn,fun i x v e1 e2 e3=>?_⟩
  obtain ⟨u,r,l⟩:=hl i x v e1 e2 e3
  refine ⟨u,r,?_⟩
  rcases l with l | ⟨k,c,e,z⟩
  ·exact .inl l
  ·exact .inr ⟨k,c,e,cellK x c e _ z⟩
 ·obtain ⟨v,z⟩:=I.cell x c e
  exact ⟨v,cellK x c e v z⟩
 ·obtain ⟨m,⟨o,_,_,ho,_⟩,_⟩:=I.loc
  exact free _ o (fun z=>(hch _ z).2.1 rfl) ho I.free
 ·obtain ⟨v,o,ho,hd⟩:=I.cell x c e
  exact free c o (fun z=>(hch c z).2.2.1 x c e rfl) ho (I.freeC x c e)
 ·obtain ⟨e,n,ne,nf,d⟩:=I.pin p hp
  have nch:p.1 ∉ ch:=fun z=>(hch p.1 z).2.2.2 p hp rfl
  exact ⟨keep p.1 p.2 ne nf nch e n,free p.1 p.2 nch e n,ne,nf,d⟩
theorem Inv.un {t':Nat} (I:Inv X pins σ H s) (u:Un X.fs [] H H' s.heap h') (hok:HOk X.prog X.w H' h'):Inv X pins σ H' { s with heap:=h',toks:=t' }:= by
 refine xEA (id I.loc) fun m n90 _=>FW n90 fun o es ep ho r=>?_
 refine xE (u.any ho I.free (by simp)) fun sl hL=>?_
 exact I.step (g':=s.gens) (d':=s.drawn) (ch:=[]) (fun _ z=>nomatch z) (fun b o _ hb _ e n=>u.keep b o e n hb (by simp)) (fun b o _ hb _ e n=>u.slot b o e n hb (by simp)) (fun b o _ e n=>u.free b o e n (by simp)) (fun b o _ e=>u.there b o e (by simp)) u.tups u.frzs u.tbls (fun m' hm=>by
  refine FW hm fun o' es' ep' ho' r'=>?_
  rw[ho] at ho';cases ho'
  exact ⟨_,es',ep',hL,r'⟩) hok I.bare
theorem Inv.call {g':Array GenState} {t':Nat} {d':Drawn} {ch:List Addr} (I:Inv X pins σ H s) (u:Un (frs X.stack) ch H H' s.heap h') (hok:HOk X.prog X.w H' h') (hg:AllBare g')
  (hch : ∀ b ∈ ch,(b ∈ X.ex\/X.s₀.heap.objs.size<=b)/\b≠X.env.locals/\(∀ x c,X.env.cells.lookup x=some c->c≠b) /\ ∀ p ∈ X.pn++pins,p.1≠b) :
  Inv X pins σ H' { s with heap:=h',gens:=g',drawn:=d',toks:=t' }:= by
 refine xEA (id I.loc) fun m n90 _=>FW n90 fun o es ep ho r=>?_
 refine xE (u.any ho I.free fun z=>(hch _ z).2.1 rfl) fun sl hL=>?_
 exact I.step (ch:=ch) hch (fun b o hL hb hc e n=>u.keep b o e n (fun z=>(List.mem_cons.mp (I.stkSub b z)).elim hL hb) hc) (fun b o _ _ hc e n=>u.any e n hc) (fun b o hc e n=>u.free b o e n hc) (fun b o hc e=>u.there b o e hc) u.tups u.frzs u.tbls (fun m' hm=>by
  refine FW hm fun o' es' ep' ho' r'=>?_
  rw[ho] at ho';cases ho'
  exact ⟨_,es',ep',hL,r'⟩) hok hg
theorem Inv.turned {t':Nat} {it:Addr} (I:Inv X pins σ H s) (k : ∀ b o,b≠it->s.heap.get? b=some o->h'.get? b=some o) (hn:H it=none) (hL:it≠X.env.locals)
  (h1:it ∈ X.ex\/X.s₀.heap.objs.size<=it) (h2 : ∀ x c,X.env.cells.lookup x=some c->c≠it) (h3 : ∀ p ∈ X.pn++pins,p.1≠it):Inv X pins σ H { s with heap:=h',toks:=t' }:= by
 have nit : ∀ b u,H b=some u->b≠it:=fun b u e z=>by rw[z,hn] at e;cases e
 refine I.step (g':=s.gens) (d':=s.drawn) (ch:=[it]) (fun b hb=>?_) (fun b o _ _ hc e _=>k b o (fun z=>hc (by simp [z])) e) (fun b o _ _ hc e _=>⟨o.slots,k b o (fun z=>hc (by simp [z])) e⟩) (fun _ _ _ _ n=>n)
  (fun b o hc e=>⟨o,k b o (fun z=>hc (by simp [z])) e⟩) (fun _ _ e=>e) (fun _ _ _ e=>e) (fun b ps e=>⟨#[],by rw[e];simp⟩) (fun m hm=>?_) (fun b u e=>?_) I.bare
 ·have e:b=it:=by simpa using hb
  subst e
  exact ⟨h1,hL,h2,h3⟩
 ·refine FW hm fun o es ep ho r=>?_
  exact ⟨o,es,ep,k _ o (Ne.symm hL) ho,r⟩
 ·refine (I.hok b u e).stay (fun c v hc q=>k c v ?_ q) (fun _ q=>q) fun _ _ q=>q
  refine Or.elim hc (fun z=>?_) fun z=>?_
  ·rw[z];exact nit b u e
  ·exact nit c _ z
theorem Inv.tok (I:Inv X pins σ H s) (t:Nat):Inv X pins σ H { s with toks:=t }:=I.un (h':=s.heap) (t':=t) Un.refl I.hok
theorem Inv.kept {t':Nat} (I:Inv X pins σ H s) (k : ∀ b u,s.heap.get? b=some u->h'.get? b=some u):Inv X pins σ H { s with heap:=h',toks:=t' }:=I.un (Un.kept k) (I.hok.kept k)
theorem Inv.laid {a:Addr} {o:HO} {t':Nat} (I:Inv X pins σ H s) (k : ∀ b u,s.heap.get? b=some u->h'.get? b=some u) (hp:s.heap.objs.size<=a) (new:AV X.prog X.w (upd H a o) h' a o) :
  Inv X pins σ (upd H a o) { s with heap:=h',toks:=t' }:=I.un (Un.laid k hp (I.hok.fresh hp)) (I.hok.laid k hp new)
theorem Inv.write {x e:Addr} {o:HO} {t':Nat} (I:Inv X pins σ H s) (mu:Mut (H x)) (he:e=x\/H e=some (.own x)) (k : ∀ b u,b≠e->s.heap.get? b=some u->h'.get? b=some u) (heo : ∃ u,h'.get? e=some u)
  (new:AV X.prog X.w (upd H x o) h' x o):Inv X pins σ (upd H x o) { s with heap:=h',toks:=t' }:=I.un (Un.write mu he k heo) (I.hok.write mu he k heo new)
theorem Inv.weak {σ':List (Option V)} (I:Inv X pins σ H s) (hl:σ'.length=σ.length) (w : ∀ (i:Nat) v,σ'[i]?=some (some v)->σ[i]?=some (some v)):Inv X pins σ' H s:=
 ⟨I.ok,I.os,I.bare,I.base,let ⟨m,hn,hl'⟩:=I.loc;⟨m,hn,fun i x v e1 e2 e3=>hl' i x v e1 (w i v e2) e3⟩,I.cell,I.free,I.freeC,I.pin,I.hok,hl.trans I.len⟩
theorem Inv.pins_of {pins':List (Addr × Obj)} (I:Inv X pins σ H s) (h : ∀ p ∈ pins',s.heap.get? p.1=some p.2/\H p.1=none/\p.1≠X.env.locals/\p.1 ∉ X.fs /\ ∀ v,p.2.data ≠ .cell v):Inv X pins' σ H s:=
 ⟨I.ok,I.os,I.bare,I.base,I.loc,I.cell,I.free,I.freeC,fun p hp=>(List.mem_append.mp hp).elim (fun z=>I.pin p (List.mem_append_left _ z)) (h p),I.hok,I.len⟩
theorem Ii {N:List Str} (hN:N.Nodup) {i j:Nat} {x:Str} (a:N[i]?=some x) (b:N[j]?=some x):i=j:= by
 obtain ⟨h1,e1⟩:=List.getElem?_eq_some_iff.mp a
 obtain ⟨h2,e2⟩:=List.getElem?_eq_some_iff.mp b
 exact (List.getElem_inj hN).mp (e1.trans e2.symm)
theorem Eu {M:Model} {A:Around} {E:Value->Shared->Prop} {i:Nat} {x:Str} {v:V} {u:Value} {Q:Unit->Shared->Prop} (I:Inv X pins σ H s) (hN:X.N.Nodup) (hi:X.N[i]?=some x) (hx:Loc X.env.scope x) (r:AR v u)
  (h : ∀ s',Inv X pins (σ.set i (some v)) H s'->(∃ a,Heap.SameBut a s.heap s'.heap/\(a=X.env.locals\/X.env.cells.lookup x=some a))->Q () s') (hf:X.fn x=true\/X.env.scope.names.lookup x=some .local:=by first | exact .inl rfl | exact .inr rfl | assumption):wpAny M A (storeName X.env x u) Q E s:= by
 obtain ⟨m,hn,hl⟩:=id I.loc
 have hcls:(X.env.scope.kind == .class||(X.env.scope.kind == .module&&X.env.locals != X.env.globals))=false:=by rw[I.ok.kind];rfl
 have hiσ:i<σ.length:=by rw[I.len];exact (List.getElem?_eq_some_iff.mp hi).1
 have cne:=I.cne
 have tracked : ∀ {a:Addr} {h':Heap},(∃ o,s.heap.get? a=some o/\H a=none)->Heap.SameBut a s.heap h'->HOk X.prog X.w H h':=fun {a h'} ha hs b ob e=>by
  obtain ⟨_,_,hfree⟩:=ha
  refine (I.hok b ob e).stay (fun c w' hc q=>(hs.2 c ?_).trans q) (fun _ q=>q) fun _ _ q=>q
  rintro rfl
  rcases hc with rfl | hc
  ·rw[hfree] at e;cases e
  ·rw[hfree] at hc;cases hc
 rcases hx with hk | hk
 ·refine wpAny_storeName_local hk hn (fun h' hn' hs=>?_) hcls
  obtain ⟨oL,_,_,hoL,_⟩:=id hn
  refine h _ ⟨I.ok,I.os,I.bare,⟨fun b o e n hb hx=>?_,fun b o e n hb hx=>?_,I.base.free,fun b o e hx=>?_,I.base.tups,I.base.frzs,I.base.tbls⟩,⟨_,hn',fun j y v' e1 e2 e3=>?_⟩,fun y c e=>?_,I.free,I.freeC,fun p hp=>?_,tracked ⟨oL,hoL,I.free⟩ hs,by simpa using I.len⟩ ⟨_,hs,.inl rfl⟩
  ·exact (hs.2 b (Nat.ne_of_lt (Nat.lt_of_lt_of_le (Heap.lt_size e) I.ok.above))).trans (I.base.keep b o e n hb hx)
  ·obtain ⟨sl,e1⟩:=I.base.slot b o e n hb hx
   exact ⟨sl,(hs.2 b (Nat.ne_of_lt (Nat.lt_of_lt_of_le (Heap.lt_size e) I.ok.above))).trans e1⟩
  ·obtain ⟨o',e1⟩:=I.base.there b o e hx
   exact ⟨o',(hs.2 b (Nat.ne_of_lt (Nat.lt_of_lt_of_le (Heap.lt_size e) I.ok.above))).trans e1⟩
  ·by_cases hj:j=i
   ·subst hj
    rw[hi] at e1;cases e1
    rw[List.getElem?_set_self hiσ] at e2
    cases e2
    exact ⟨u,r,.inl ⟨hk,by simp⟩⟩
   ·rw[List.getElem?_set_ne (Ne.symm hj)] at e2
    obtain ⟨u',r',q⟩:=hl j y v' e1 e2 e3
    refine ⟨u',r',?_⟩
    rcases q with ⟨k,e⟩ | ⟨k,c,e,z⟩
    ·refine .inl ⟨k,?_⟩
     have:y≠x:=fun e=>hj (Ii hN e1 (e ▸ hi))
     simp [this,e]
    ·exact .inr ⟨k,c,e,z.sameBut hs (cne y c e)⟩
  ·obtain ⟨w',z⟩:=I.cell y c e
   exact ⟨w',z.sameBut hs (cne y c e)⟩
  ·obtain ⟨e,n,ne,nf,d⟩:=I.pin p hp
   exact ⟨(hs.2 p.1 ne).trans e,n,ne,nf,d⟩
 ·have hfn:X.fn x=true:= by
   rcases hf with z | z
   ·exact z
   ·rw[z] at hk;cases hk
  obtain ⟨c,hc⟩:=I.ok.has x (.inl hk)
  obtain ⟨w',z⟩:=I.cell x c hc
  refine wpAny_storeName_cell I.ok.kind hk hc z (fun h' hc' hs=>?_)
  obtain ⟨oc,hoc,hocd⟩:=id z
  refine h { s with heap:=h' } ⟨I.ok,I.os,I.bare,⟨fun b o e n hb hx=>?_,fun b o e n hb hx=>?_,I.base.free,fun b o e hx=>?_,I.base.tups,I.base.frzs,I.base.tbls⟩,⟨m,hn.sameBut hs (Ne.symm (cne x c hc)),fun j y v' e1 e2 e3=>?_⟩,fun y c' e=>?_,I.free,I.freeC,fun p hp=>?_,tracked ⟨oc,hoc,I.freeC x c hc⟩ hs,by simpa using I.len⟩ ⟨c,hs,.inr hc⟩
  ·exact (hs.2 b (Nat.ne_of_lt (Nat.lt_of_lt_of_le (Heap.lt_size e) (I.ok.cab x c hfn hc)))).trans (I.base.keep b o e n hb hx)
  ·obtain ⟨sl,e1⟩:=I.base.slot b o e n hb hx
   exact ⟨sl,(hs.2 b (Nat.ne_of_lt (Nat.lt_of_lt_of_le (Heap.lt_size e) (I.ok.cab x c hfn hc)))).trans e1⟩
  ·obtain ⟨o',e1⟩:=I.base.there b o e hx
   exact ⟨o',(hs.2 b (Nat.ne_of_lt (Nat.lt_of_lt_of_le (Heap.lt_size e) (I.ok.cab x c hfn hc)))).trans e1⟩
  ·by_cases hj:j=i
   ·subst hj
    rw[hi] at e1;cases e1
    rw[List.getElem?_set_self hiσ] at e2
    cases e2
    exact ⟨u,r,.inr ⟨.inl hk,c,hc,hc'⟩⟩
   ·rw[List.getElem?_set_ne (Ne.symm hj)] at e2
    obtain ⟨u',r',q⟩:=hl j y v' e1 e2 e3
    refine ⟨u',r',?_⟩
    rcases q with q | ⟨k,c',e,z'⟩
    ·exact .inl q
    ·refine .inr ⟨k,c',e,z'.sameBut hs ?_⟩
     rintro rfl
     exact hj (Ii hN e1 (I.ok.inj _ _ _ e hc ▸ hi))
  ·by_cases hcc:c'=c
   ·subst hcc;exact ⟨_,hc'⟩
   ·obtain ⟨w2,z2⟩:=I.cell y c' e
    exact ⟨w2,z2.sameBut hs hcc⟩
  ·obtain ⟨e,n,ne,nf,d⟩:=I.pin p hp
   refine ⟨(hs.2 p.1 ?_).trans e,n,ne,nf,d⟩
   intro q
   rw[q,hoc] at e
   have q':oc=p.2:=Option.some.inj e
   exact d w' (by rw[<- q'];exact hocd)
theorem Fk {M:Model} {A:Around} {E:Value->Shared->Prop} {i:Nat} {x:Str} {v:V} {u:Value} {Q:Unit->Shared->Prop} (I:Inv X pins σ H s) (hN:X.N.Nodup) (hi:X.N[i]?=some x) (hx:Loc X.env.scope x) (r:AR v u)
  (h : ∀ s',Inv X pins (σ.set i (some v)) H s'->Q () s') (hf:X.fn x=true\/X.env.scope.names.lookup x=some .local:=by first | exact .inl rfl | exact .inr rfl | assumption):wpAny M A (storeName X.env x u) Q E s:=
 Eu I hN hi hx r (fun s' I' _=>h s' I') hf
theorem Inv.call' {s':Shared} {ch:List Addr} (I:Inv X pins σ H s) (ho:s'.os=s.os) (u:Un (frs X.stack) ch H H' s.heap s'.heap) (hok:HOk X.prog X.w H' s'.heap) (hg:AllBare s'.gens)
  (hch : ∀ b ∈ ch,(b ∈ X.ex\/X.s₀.heap.objs.size<=b)/\b≠X.env.locals/\(∀ x c,X.env.cells.lookup x=some c->c≠b) /\ ∀ p ∈ X.pn++pins,p.1≠b):Inv X pins σ H' s':= by
 obtain ⟨h',g',d',t',o'⟩:=s'
 have e:o'=s.os:=ho
 subst e
 exact I.call (g':=g') (t':=t') (d':=d') u hok hg hch
end
noncomputable abbrev XK:=Value->Option Addr->Hp->Prop
noncomputable abbrev St:=List (Option V)
noncomputable abbrev VK:=V->Hp->Prop
noncomputable abbrev TE:=St->Hp->VK->Prop
noncomputable abbrev TT:=St->Hp->(Bool->Hp->Prop)->Prop
noncomputable abbrev TA:=St->Hp->(List V->Hp->Prop)->Prop
structure IG where
 nx:St->Hp->Prop
 rt:VK
 bk:St->Hp->Prop:=fun _ _=>False
 ct:St->Hp->Prop:=fun _ _=>False
noncomputable abbrev TS:=IG->St->Hp->Prop
def EP (X:Cx) (pins:List (Addr × Obj)) (σ:St) (Q:VK) (u:Value) (s':Shared):Prop:=∃ v H',Inv X pins σ H' s'/\AR v u/\Q v H'
def TP (X:Cx) (pins:List (Addr × Obj)) (σ:St) (Q:Bool->Hp->Prop) (b:Bool) (s':Shared):Prop:=∃ H',Inv X pins σ H' s'/\Q b H'
def AP (X:Cx) (pins:List (Addr × Obj)) (σ:St) (Q:List V->Hp->Prop) (us:List Value) (s':Shared):Prop:=∃ vs H',Inv X pins σ H' s'/\AH vs us/\Q vs H'
def SP (X:Cx) (pins:List (Addr × Obj)) (D:IG) (f:Flow) (s':Shared):Prop:=
 match f with
 | .next=>∃ σ' H',Inv X pins σ' H' s'/\D.nx σ' H'
 | .brk=>∃ σ' H',Inv X pins σ' H' s'/\D.bk σ' H'
 | .cont=>∃ σ' H',Inv X pins σ' H' s'/\D.ct σ' H'
 | .ret u=>∃ v σ' H',Inv X pins σ' H' s'/\AR v u/\D.rt v H'
def PE (X:Cx) (e:Expr) (t:TE):Prop:=
 ∀ (pins:List (Addr × Obj)) (s:Shared) (σ:St) (H:Hp) (Q:VK),Inv X pins σ H s->t σ H Q->wpAny (model X.prog X.w) X.A (eval e X.env) (EP X pins σ Q) X.xe s
def PT (X:Cx) (e:Expr) (t:TT):Prop:=
 ∀ (pins:List (Addr × Obj)) (s:Shared) (σ:St) (H:Hp) (Q:Bool->Hp->Prop),Inv X pins σ H s->t σ H Q->wpAny (model X.prog X.w) X.A (isTrue e X.env (eval e X.env)) (TP X pins σ Q) X.xe s
def PW (X:Cx) (e:Expr) (t:TT):Prop:=
 ∀ (whole:Sem Value) (pins:List (Addr × Obj)) (s:Shared) (σ:St) (H:Hp) (Q:Bool->Hp->Prop),Inv X pins σ H s->t σ H Q->wpAny (model X.prog X.w) X.A (isTrue e X.env whole) (TP X pins σ Q) X.xe s
theorem PW.pt {X:Cx} {e:Expr} {t:TT} (h:PW X e t):PT X e t:=h _
def PA (X:Cx) (es:List Expr) (t:TA):Prop:=
 ∀ (pos:Pos) (pins:List (Addr × Obj)) (s:Shared) (σ:St) (H:Hp) (Q:List V->Hp->Prop),Inv X pins σ H s->t σ H Q->wpAny (model X.prog X.w) X.A (spliced (backTo pos (starEach es X.env))) (AP X pins σ Q) X.xe s
def PS (X:Cx) (st:Stmt) (t:TS):Prop:=
 ∀ (pins:List (Addr × Obj)) (s:Shared) (σ:St) (H:Hp) (D:IG),Inv X pins σ H s->t D σ H->wpAny (model X.prog X.w) X.A (exec st X.env) (SP X pins D) X.xe s
def PSs (X:Cx) (st:List Stmt) (t:TS):Prop:=
 ∀ (pins:List (Addr × Obj)) (s:Shared) (σ:St) (H:Hp) (D:IG),Inv X pins σ H s->t D σ H->wpAny (model X.prog X.w) X.A (execs st X.env) (SP X pins D) X.xe s
theorem thn {α:Type} {t:Sem α} {Q Q':α->Shared->Prop} {M:Model} {A:Around} {E:Value->Shared->Prop} {s:Shared} (h:wpAny M A t Q E s) (hQ : ∀ a s,Q a s->Q' a s):wpAny M A t Q' E s:=wpAny_mono h hQ fun _ _ x=>x
end L2
namespace L2
open PySem PySem.Spec PyProof.Rows
section
variable {X:Cx}
inductive P3 (i:Nat) (σ:St) (H:Hp) (Q:VK):Prop
 | mk (v:V) (h:σ[i]?=some (some v)) (q:Q v H):P3 i σ H Q
def P4 (i:Nat):TE:=fun σ H Q=>P3 i σ H Q
def tC (v:V):TE:=fun _ H Q=>Q v H
theorem Oa {i : Nat} {x : Str} {pos : Pos} (hN : X.N[i]? = some x) (hv : Vis X.env.scope x) (hd : (x == ("__debug__" : Str)) = false:=by decide) (hcd : (x == ("__classdict__" : Str)) = false:=by decide) : PE X (.Name x pos) (P4 i):= by
 intro pins s σ H Q I h
 obtain ⟨v,e,h⟩:=h
 obtain ⟨m,hn,hl⟩:=I.loc
 obtain ⟨u,r,l⟩:=hl i x v hN e hv
 have fin:EP X pins σ Q u s:=⟨v,H,I,r,h⟩
 rcases l with ⟨hk,hm⟩ | ⟨hk,c,hc,hcell⟩
 ·exact wpAny_Name (wpAny_loadName_local I.ok.kind hk hn hm fin) hd
 ·rcases hk with hk | hk
  ·exact wpAny_Name (wpAny_loadName_cell I.ok.kind hk hc hcell fin) hd
  ·exact wpAny_Name (wpAny_loadName_free I.ok.kind hk hc hcell fin hcd) hd
theorem Af {i j pos}:PE X (.Constant (.int i) j pos) (tC (.int i)):=fun _ _ _ H _ I h=>wpAny_Constant_int ⟨.int i,H,I.tok _,⟨_,rfl⟩,h⟩
theorem DF {b j pos}:PE X (.Constant (.bool b) j pos) (tC (.bl b)):=fun _ _ _ H _ I h=>Constant_bool ⟨.bl b,H,I,rfl,h⟩
def Gl (X:Cx) (x:Str):Prop:=X.env.kindOf x=some .globalImplicit
theorem JM {E:Value->Shared->Prop} {pins:List (Addr × Obj)} {s:Shared} {σ:St} {H:Hp} {x:Str} {u:Value} {pos:Pos} {Q:Value->Shared->Prop} (I:Inv X pins σ H s) (hg:Gl X x) (hm:X.mg x=some u) (h:Q u s)
  (hd : (x == ("__debug__" : Str)) = false:=by decide) : wpAny (model X.prog X.w) X.A (eval (.Name x pos) X.env) Q E s:=
 Calls.Name_function_global I.ok.kind hg (Calls.loadGlobal_global (by rw[I.ok.glob];exact I.mod.glob.keeps I.bk) hm h) hd
theorem E3 {E:Value->Shared->Prop} {pins:List (Addr × Obj)} {s:Shared} {σ:St} {H:Hp} {x:Str} {u:Value} {pos:Pos} {Q:Value->Shared->Prop} (I:Inv X pins σ H s) (hg:Gl X x) (hm:X.mg x=none) (hv:bootBuiltins x=some u) (h:Q u s)
  (hn : x ≠ "__name__":=by decide) (hd : (x == ("__debug__" : Str)) = false:=by decide) : wpAny (model X.prog X.w) X.A (eval (.Name x pos) X.env) Q E s:= by
 refine xEA I.mod.blt fun mb h1 h2=>?_
 exact Calls.Name_function_global I.ok.kind hg (Calls.loadGlobal_builtin (by rw[I.ok.glob];exact I.mod.glob.keeps I.bk) hm (by rw[I.ok.blt];exact h1.keeps I.bk) ((h2 x hn).trans hv) h) hd
theorem KU {x : Str} {v : V} {u : Value} {pos : Pos} (hg : Gl X x) (hm : X.mg x = some u) (r : AR v u) (hd : (x == ("__debug__" : Str)) = false:=by decide) : PE X (.Name x pos) (tC v):=
 fun _ _ _ H _ I h=>JM I hg hm ⟨v,H,I,r,h⟩ hd
theorem FQ {x : Str} {v : V} {u : Value} {pos : Pos} (hg : Gl X x) (hm : X.mg x = none) (hv : bootBuiltins x = some u) (r : AR v u) (hn : x ≠ "__name__":=by decide) (hd : (x == ("__debug__" : Str)) = false:=by decide) : PE X (.Name x pos) (tC v):=
 fun _ _ _ H _ I h=>E3 I hg hm hv ⟨v,H,I,r,h⟩ hn hd
variable {a b:Expr} {ta tb:TE} {pos:Pos}
def PC (X:Cx) (op:CmpOp) (a b:Expr) (t:TE):Prop:=
 ∀ (pins:List (Addr × Obj)) (s:Shared) (σ:St) (H:Hp) (Q:VK),Inv X pins σ H s->t σ H Q ->
  wpAny (model X.prog X.w) X.A (eval a X.env) (fun v s₁=>wpAny (model X.prog X.w) X.A (eval b X.env) (fun u s₂=>wpAny (model X.prog X.w) X.A (compareOp op v u) (EP X pins σ Q) X.xe s₂) X.xe s₁) X.xe s
inductive XBl (x:V) (H:Hp) (Q:Bool->Hp->Prop):Prop
 | mk (c:Bool) (h:x = .bl c) (q:Q c H):XBl x H Q
def tB (t:TE):TT:=fun σ H Q=>t σ H fun x H1=>XBl x H1 Q
theorem NL {op:CmpOp} {t:TE} (h:PC X op a b t) (h1:behindInMarks op b=false:=by first | exact nobehind _ (by decide) (by decide) | rfl):PT X (.Compare a [op] [b] pos) (tB t):= by
 intro pins s σ H Q I hw
 refine wpAny_isTrue_Compare1 (thn (h pins s σ H _ I hw) fun v s1 h1=>thn h1 fun u s2 h2=>thn h2 fun c s3 h95=>?_) h1
 refine Ar h95 fun x H1 I1 r1 q1=>?_
 obtain ⟨d,rfl,q⟩:=q1
 cases r1
 exact wpAny_truthy_bool ⟨H1,I1,q⟩
theorem CF {e:Expr} {t:TE} (h:PE X e t) (he : ∀ whole,isTrue e X.env whole=(do let v <- whole;standAt e.pos;holding [v] (truthy v)):=by intro _;rfl):PT X e (tB t):= by
 intro pins s σ H Q I hw
 refine isTrue_plain (thn (h pins s σ H _ I hw) fun v s1 h96=>?_) (he _)
 refine Ar h96 fun x H1 I1 r1 q1=>?_
 obtain ⟨d,rfl,q⟩:=q1
 cases r1
 exact wpAny_truthy_bool ⟨H1,I1,q⟩
variable {tA tB':TT} {rest:List Expr}
def tOr (t u:TT):TT:=fun σ H Q=>t σ H fun c H1=>if c=true then Q true H1 else u σ H1 Q
def Qq (t:TT):TT:=fun σ H Q=>t σ H fun c H1=>Q (!c) H1
theorem JB (ha:PT X a tA):PW X (.BoolOp .Or [a] pos) tA:= by
 intro wh pins s σ H Q I h
 refine isTrue_or (thn (ha pins s σ H Q I h) fun c s1 e=>?_)
 cases c with
 | false=>exact isTrue_or_nil e
 | true=>exact e
theorem LZ (ha:PT X a tA) (hb:PW X (.BoolOp .Or (b::rest) pos) tB'):PW X (.BoolOp .Or (a::b::rest) pos) (tOr tA tB'):= by
 intro wh pins s σ H Q I h
 refine isTrue_or (thn (ha pins s σ H _ I h) fun c s1 h98=>?_)
 refine xEA h98 fun H1 I1 q1=>?_
 cases c with
 | true=>exact ⟨H1,I1,q1⟩
 | false=>exact hb wh pins s1 σ H1 Q I1 q1
theorem B2 (ha:PT X a tA):PT X (.UnaryOp .Not a pos) (Qq tA):= by
 intro pins s σ H Q I h
 exact isTrue_not (ha pins s σ H (fun c H1=>Q (!c) H1) I h)
def OW (ta tb:TE):TE:=fun σ H Q=>ta σ H fun x H1=>XBl x H1 fun c H1=>if c=true then tb σ H1 Q else Q (.bl false) H1
def Pu (ta:TE):TE:=fun σ H Q=>ta σ H fun x H1=>XBl x H1 fun c H1=>Q (.bl (!c)) H1
theorem JP {op} {t:TE} (h:PE X a t):PE X (.BoolOp op [a] pos) t:=fun pins s σ H Q I hw=>BoolOp_one (h pins s σ H Q I hw)
theorem K8 (ha:PE X a ta) (hb:PE X (.BoolOp .And (b::rest) pos) tb):PE X (.BoolOp .And (a::b::rest) pos) (OW ta tb):= by
 intro pins s σ H Q I h
 refine BoolOp_and (thn (ha pins s σ H _ I h) fun v s1 h99=>?_)
 refine Ar h99 fun x H1 I1 r1 q1=>?_
 obtain ⟨c,rfl,q1⟩:=q1
 cases r1
 refine wpAny_truthy_bool ?_
 cases c with
 | true=>exact hb pins s1 σ H1 Q I1 q1
 | false=>exact ⟨.bl false,H1,I1,rfl,q1⟩
theorem Oh (ha:PE X a ta):PE X (.UnaryOp .Not a pos) (Pu ta):= by
 intro pins s σ H Q I h
 refine UnaryOp_ (thn (ha pins s σ H _ I h) fun v s1 h911=>?_)
 refine Ar h911 fun x H1 I1 r1 q1=>?_
 obtain ⟨c,rfl,q1⟩:=q1
 cases r1
 exact not_of (wpAny_truthy_bool ⟨.bl (!c),H1,I1,rfl,q1⟩)
def tIf (t:TT) (ta tb:TE):TE:=fun σ H Q=>t σ H fun c H1=>if c=true then ta σ H1 Q else tb σ H1 Q
theorem Dc {c:Expr} (hc:PT X c tA) (ha:PE X a ta) (hb:PE X b tb):PE X (.IfExp c a b pos) (tIf tA ta tb):= by
 intro pins s σ H Q I h
 refine wpAny_IfExp (thn (hc pins s σ H _ I h) fun d s1 h912=>?_)
 obtain ⟨H1,I1,q1⟩:=h912
 cases d with
 | true=>exact ha pins s1 σ H1 Q I1 q1
 | false=>exact hb pins s1 σ H1 Q I1 q1
end
end L2
namespace L2
open PySem PySem.Spec PyProof.Rows
def SqL (K:PySem.W.Frag) (H:Hp) (a:Addr) (xs:List V):Prop:=
 Rd H a (.lst xs) \/
  ∃ (o : Obj) (its : Array Value) (n : Nat),K.lookup a = some o /\ o.cls = .type "list" /\ o.dict = none /\ o.data = .seq its n /\ its.size <= sizeLine /\ AH xs its.toList
def SqT (K:PySem.W.Frag) (H:Hp) (a:Addr) (xs:List V):Prop:=
 Rd H a (.tup xs) \/
  ∃ (o : Obj) (its : Array Value) (n : Nat),K.lookup a = some o /\ o.cls = .type "tuple" /\ o.data = .seq its n /\ its.size <= sizeLine /\ AH xs its.toList
noncomputable def Qx:Value->Option V
 | .none=>some .non
 | .bool b=>some (.bl b)
 | .int i _=>some (.int i)
 | .str x _=>some (.str x)
 | .bytes b _=>some (.byt b)
 | .float b _=>some (.flt b)
 | .ref a=>some (.ref a)
 | .type n=>some (.ty n)
 | _=>none
theorem AR.abs {x:V} {u:Value} (r:AR x u):Qx u=some x:= by
 cases x with
 | non=>cases r;rfl
 | bl _=>cases r;rfl
 | int _=>obtain ⟨t,rfl⟩:=r;rfl
 | str _=>obtain ⟨t,rfl⟩:=r;rfl
 | byt _=>obtain ⟨t,rfl⟩:=r;rfl
 | flt _=>obtain ⟨t,rfl⟩:=r;rfl
 | ref _=>cases r;rfl
 | ty _=>cases r;rfl
theorem AR.inj {x y:V} {u:Value} (r:AR x u) (q:AR y u):x=y:=Option.some.inj (r.abs.symm.trans q.abs)
theorem AH.inj : ∀ {xs ys:List V} {us:List Value},AH xs us->AH ys us->xs=ys:= by
 intro xs ys us h
 induction h generalizing ys with
 | nil=>intro h2;cases h2;rfl
 | cons r t ih=>intro h2;cases h2 with | cons r' t'=>rw[r.inj r',ih t']
section
variable {X:Cx} {pins:List (Addr × Obj)} {σ:St} {H:Hp} {s:Shared} {a:Addr} {xs ys:List V}
theorem SqL.of {K:PySem.W.Frag} (h:H a=some (.lst xs)):SqL K H a xs:=.inl (.inl h)
theorem SqT.of {K:PySem.W.Frag} (h:H a=some (.tup xs)):SqT K H a xs:=.inl (.inl h)
theorem Inv.list (I:Inv X pins σ H s) (h:SqL X.K H a xs) : ∃ its:List Value,AH xs its/\PlainL s.heap a its.toArray/\xs.length<=sizeLine:= by
 refine Or.elim h (fun h=>?_) fun n90=>IU n90 fun o its n hk hc hd hs hz r=>?_
 ·refine xA (h.ok I.hok) fun z m921=>Ct m921 fun its n r e=>?_
  exact ⟨its,r,⟨_,n,e,rfl,rfl,rfl⟩,z⟩
 ·refine ⟨its.toList,r,⟨o,n,I.kIn a o hk,hc,hd,by simpa using hs⟩,?_⟩
  have e:=r.length
  simp only [Array.length_toList] at e
  lia
theorem Inv.tuple (I:Inv X pins σ H s) (h:SqT X.K H a xs) : ∃ its:List Value,AH xs its/\IsTup s.heap a its.toArray/\xs.length<=sizeLine:= by
 refine Or.elim h (fun h=>?_) fun n90=>Ks n90 fun o its n hk hc hs hz r=>?_
 ·refine xA (h.ok I.hok) fun z m922=>xEA m922 fun its r p=>?_
  exact ⟨its,r,p,z⟩
 ·refine ⟨its.toList,r,⟨o,I.kIn a o hk,hc,n,by simpa using hs⟩,?_⟩
  have e:=r.length
  simp only [Array.length_toList] at e
  lia
theorem Inv.list_inj (I:Inv X pins σ H s) (h:SqL X.K H a xs) (h':SqL X.K H a ys):xs=ys:= by
 refine AM (I.list h) fun its r n90 _=>CI n90 fun o n e _ _ d=>?_
 refine AM (I.list h') fun its' r' n90 _=>CI n90 fun o' n' e' _ _ d'=>?_
 rw[e] at e';cases e'
 rw[d] at d'
 injection d' with d1 _
 have:its=its':=by simpa using congrArg Array.toList d1
 subst this
 exact r.inj r'
theorem Inv.tuple_inj (I:Inv X pins σ H s) (h:SqT X.K H a xs) (h':SqT X.K H a ys):xs=ys:= by
 obtain ⟨its,r,⟨o,e,_,n,d⟩,_⟩:=I.tuple h
 obtain ⟨its',r',⟨o',e',_,n',d'⟩,_⟩:=I.tuple h'
 rw[e] at e';cases e'
 rw[d] at d'
 injection d' with d1 _
 have:its=its':=by simpa using congrArg Array.toList d1
 subst this
 exact r.inj r'
end
noncomputable abbrev Cx.wish (X:Cx) (E:Value->Shared->Prop):Cx:={ X with xe:=E }
noncomputable abbrev Cx.nox (X:Cx):Cx:=X.wish fun _ _=>False
theorem Cx.Ok.wish {X:Cx} (ok:X.Ok) (E:Value->Shared->Prop):(X.wish E).Ok:=
 ⟨ok.mod,ok.kind,ok.glob,ok.blt,ok.above,ok.inj,ok.has,ok.cab,ok.hd,ok.frames,ok.stk,ok.exf,ok.bs,ok.bsz,ok.noex,ok.exfs,ok.funs,ok.frf⟩
theorem Cx.Ok.unwish {X:Cx} {E:Value->Shared->Prop} (ok:(X.wish E).Ok):X.Ok:=
 ⟨ok.mod,ok.kind,ok.glob,ok.blt,ok.above,ok.inj,ok.has,ok.cab,ok.hd,ok.frames,ok.stk,ok.exf,ok.bs,ok.bsz,ok.noex,ok.exfs,ok.funs,ok.frf⟩
section
variable {X:Cx} {pins:List (Addr × Obj)} {σ:St} {H:Hp} {s:Shared} {E:Value->Shared->Prop}
theorem Inv.wish (I:Inv X pins σ H s) (E:Value->Shared->Prop):Inv (X.wish E) pins σ H s:=⟨I.ok.wish E,I.os,I.bare,I.base,I.loc,I.cell,I.free,I.freeC,I.pin,I.hok,I.len⟩
theorem Inv.unwish (I:Inv (X.wish E) pins σ H s):Inv X pins σ H s:=⟨I.ok.unwish,I.os,I.bare,I.base,I.loc,I.cell,I.free,I.freeC,I.pin,I.hok,I.len⟩
theorem SP.unwish {D:IG} {f:Flow} {s':Shared} (h:SP (X.wish E) pins D f s'):SP X pins D f s':= by
 cases f with
 | next=>refine Ct h fun σ' H' I q=>?_;exact ⟨σ',H',I.unwish,q⟩
 | brk=>refine Ct h fun σ' H' I q=>?_;exact ⟨σ',H',I.unwish,q⟩
 | cont=>refine Ct h fun σ' H' I q=>?_;exact ⟨σ',H',I.unwish,q⟩
 | ret u=>refine Ed h fun v σ' H' I r q=>?_;exact ⟨v,σ',H',I.unwish,r,q⟩
theorem PSs.nox {st:List Stmt} {t:TS} (h:PSs X.nox st t):PSs X st t:=fun pins s σ H D I hw=>
 wpAny_mono (h pins s σ H D (I.wish _) hw) (fun _ _ q=>q.unwish) fun _ _ z=>False.elim z
end
section
variable {X:Cx} {st:Stmt} {rest:List Stmt} {t u:TS} {e:Expr} {te:TE} {pos:Pos}
def Ow:TS:=fun D σ H=>D.nx σ H
def OL (t u:TS):TS:=fun D σ H=>t { D with nx:=u D } σ H
theorem AQ:PSs X [] Ow:=fun _ _ σ H _ I h=>wpAny_execs_nil ⟨σ,H,I,h⟩
theorem Ae (h1:PS X st t) (h2:PSs X rest u):PSs X (st::rest) (OL t u):= by
 intro pins s σ H D I h
 refine wpAny_execs_cons (thn (h1 pins s σ H { D with nx:=u D } I h) fun f s1 q=>?_)
 cases f with
 | next=>
  refine Ct q fun σ' H' I' q=>?_
  exact h2 pins s1 σ' H' D I' q
 | ret v=>exact q
 | brk=>exact q
 | cont=>exact q
theorem Ag (h1:PS X st t):PSs X [st] t:= by
 intro pins s σ H D I h
 refine wpAny_execs_cons (thn (h1 pins s σ H D I h) fun f s1 q=>?_)
 cases f with
 | next=>exact wpAny_execs_nil q
 | ret v=>exact q
 | brk=>exact q
 | cont=>exact q
theorem Inv.quiet {pins:List (Addr × Obj)} {σ:St} {H:Hp} {s:Shared} (I:Inv X pins σ H s):interactive X.env=false:=by simp [interactive,I.ok.kind]
def Pe (te:TE):TS:=fun D σ H=>te σ H fun _ H1=>D.nx σ H1
theorem BM (he:PE X e te) (hs:swapsWith e none pos.line X.env=pure false:=by rfl):PS X (.Expr e pos) (Pe te):= by
 intro pins s σ H D I h
 exact wpAny_Expr_any (thn (he pins s σ H _ I h) fun v s1 h915=>by refine Ar h915 fun x H1 I1 r1 q1=>?_;exact ⟨σ,H1,I1,q1⟩) I.quiet hs
def QD (te:TE):TS:=fun D σ H=>te σ H D.rt
theorem At (he:PE X e te):PS X (.Return (some e) pos) (QD te):= by
 intro pins s σ H D I h
 exact wpAny_Return_some (thn (he pins s σ H _ I h) fun v s1 h916=>by refine Ar h916 fun x H1 I1 r1 q1=>?_;exact ⟨x,σ,H1,I1,r1,q1⟩)
def Pn (c:TT) (t u:TS):TS:=fun D σ H=>c σ H fun b H1=>if b=true then t D σ H1 else u D σ H1
theorem BZ {c:Expr} {a b:List Stmt} {tc:TT} (hc:PT X c tc) (ha:PSs X a t) (hb:PSs X b u):PS X (.If c a b pos) (Pn tc t u):= by
 intro pins s σ H D I h
 refine wpAny_If (thn (hc pins s σ H _ I h) fun d s1 h917=>?_)
 obtain ⟨H1,I1,q1⟩:=h917
 cases d with
 | true=>exact ha pins s1 σ H1 D I1 q1
 | false=>exact hb pins s1 σ H1 D I1 q1
def NT:TS:=fun _ _ _=>False
theorem Ip:PS X st NT:=fun _ _ _ _ _ _ h=>h.elim
end
noncomputable abbrev TG:=V->St->Hp->(St->Hp->Prop)->Prop
noncomputable abbrev TGs:=List V->St->Hp->(St->Hp->Prop)->Prop
def PG (X:Cx) (target:Expr) (t:TG):Prop:=
 ∀ (pins:List (Addr × Obj)) (s:Shared) (σ:St) (H:Hp) (v:V) (u:Value) (Q:St->Hp->Prop),Inv X pins σ H s->AR v u->t v σ H Q ->
  wpAny (model X.prog X.w) X.A (assign target X.env u) (fun _ s'=>∃ σ' H',Inv X pins σ' H' s'/\Q σ' H') X.xe s
def PGs (X:Cx) (ts:List Expr) (t:TGs):Prop:=
 ∀ (pins:List (Addr × Obj)) (s:Shared) (σ:St) (H:Hp) (vs:List V) (us:List Value) (Q:St->Hp->Prop),Inv X pins σ H s->AH vs us->t vs σ H Q ->
  wpAny (model X.prog X.w) X.A (assignInOrder ((assignEach ts X.env).map (·.2)) us) (fun _ s'=>∃ σ' H',Inv X pins σ' H' s'/\Q σ' H') X.xe s
noncomputable abbrev TIp:=V->V->Hp->VK->Prop
def PIp (X:Cx) (op:Operator) (t:TIp):Prop:=
 ∀ (pins:List (Addr × Obj)) (s:Shared) (σ:St) (H:Hp) (x y:V) (v u:Value) (Q:VK),Inv X pins σ H s->AR x v->AR y u->t x y H Q ->
  wpAny (model X.prog X.w) X.A (inplaceOp op v u) (EP X pins σ Q) X.xe s
section
variable {X:Cx} {pos:Pos}
def Fe (i:Nat):TG:=fun v σ H Q=>Q (σ.set i (some v)) H
theorem Al {i:Nat} {x:Str} (hN:X.N.Nodup) (hi:X.N[i]?=some x) (hx:Loc X.env.scope x) (hf:X.fn x=true\/X.env.scope.names.lookup x=some .local:=by first | exact .inl rfl | exact .inr rfl | assumption):PG X (.Name x pos) (Fe i):= by
 intro pins s σ H v u Q I r h
 exact wpAny_assign_Name (Fk I hN hi hx r (fun s' I'=>⟨_,H,I',h⟩) hf)
def PM:TGs:=fun vs σ H Q=>vs=[]/\Q σ H
inductive XGc (t:TG) (u:TGs) (vs:List V) (σ:St) (H:Hp) (Q:St->Hp->Prop):Prop
 | mk (v:V) (r:List V) (h:vs=v::r) (q:t v σ H fun σ' H'=>u r σ' H' Q):XGc t u vs σ H Q
def Nf (t:TG) (u:TGs):TGs:=fun vs σ H Q=>XGc t u vs σ H Q
theorem Dh:PGs X [] PM:= by
 intro pins s σ H vs us Q I r h
 obtain ⟨e,h⟩:=h
 subst e
 cases r
 exact assignInOrder_nil ⟨σ,H,I,h⟩
theorem AS {e:Expr} {es:List Expr} {t:TG} {u:TGs} (h1:PG X e t) (h2:PGs X es u)
  (hs:(assignEach (e::es) X.env).map (·.2)=assign e X.env::(assignEach es X.env).map (·.2):=by rfl):PGs X (e::es) (Nf t u):= by
 intro pins s σ H vs us Q I r h
 obtain ⟨v,vr,e1,h⟩:=h
 subst e1
 cases r with
 | cons r rr=>
  rw[hs]
  refine assignInOrder_cons (thn (h1 pins s σ H _ _ _ I r h) fun _ s1 h918=>?_)
  refine Ct h918 fun σ1 H1 I1 q1=>?_
  exact h2 pins s1 σ1 H1 _ _ Q I1 rr q1
inductive XTu (K:PySem.W.Frag) (n:Nat) (t:TGs) (v:V) (σ:St) (H:Hp) (Q:St->Hp->Prop):Prop
 | mk (a:Addr) (xs:List V) (hv:v = .ref a) (hs:SqT K H a xs) (hl:xs.length=n) (q:t xs σ H Q):XTu K n t v σ H Q
def Pa (K:PySem.W.Frag) (n:Nat) (t:TGs):TG:=fun v σ H Q=>XTu K n t v σ H Q
theorem OH {es:List Expr} {k:Nat} {t:TGs} {n:Nat} (hc:X.calm=true) (h:PGs X es t)
  (hn:(assignEach es X.env).length=n:=by rfl) (hst:(assignEach es X.env).findIdx? (·.1)=none:=by rfl):PG X (.Tuple es k pos) (Pa X.K n t):= by
 intro pins s σ H v u Q I r hw
 obtain ⟨a,xs,e1,hq,hl,hw⟩:=hw
 subst e1
 cases r
 refine AM (I.tuple hq) fun its rv ht hz=>?_
 refine assign_Tuple_tuple (I.ok.hd hc) ht (by simp [hn,<- hl,rv.length]) hst fun h' hx=>?_
 have I1:Inv X pins σ H { s with heap:=h' }:=I.kept (t':=s.toks) fun b o e=>hx b o (Nat.ne_of_lt (Heap.lt_size e)) e
 exact h pins _ σ H xs _ Q I1 (by simpa using rv) hw
def O6 (te:TE) (g:TG):TS:=fun D σ H=>te σ H fun x H1=>g x σ H1 D.nx
theorem Nu {tg e:Expr} {te:TE} {g:TG} (he:PE X e te) (hg:PG X tg g) (hs:swapsWithSole [tg] e pos.line X.env=pure false:=by rfl) (hw:swappedStores [tg] e X.env=pure none:=by rfl)
  (h1:(assignEach [tg] X.env).map (·.2)=[assign tg X.env]:=by rfl):PS X (.Assign [tg] e pos) (O6 te g):= by
 intro pins s σ H D I h
 refine wpAny_Assign_stores (thn (he pins s σ H _ I h) fun v s1 h922=>?_) hs hw
 refine Ar h922 fun x H1 I1 r1 q1=>?_
 rw[h1]
 exact thn (hg pins s1 σ H1 x v _ I1 r1 q1) fun _ s2 q=>q
theorem Av {i:Nat} {x:Str} {e:Expr} {te:TE} {pos':Pos} (hN:X.N.Nodup) (hi:X.N[i]?=some x) (hx:Loc X.env.scope x) (he:PE X e te) (hs:swapsWith e (some (.Name x pos')) pos.line X.env=pure false:=by rfl) (hf:X.fn x=true\/X.env.scope.names.lookup x=some .local:=by first | exact .inl rfl | exact .inr rfl | assumption) :
  PS X (.Assign [.Name x pos'] e pos) (O6 te (Fe i)):= by
 intro pins s σ H D I h
 refine wpAny_Assign_Name (thn (he pins s σ H _ I h) fun v s1 h923=>?_) hs
 refine Ar h923 fun y H1 I1 r1 q1=>?_
 exact Fk I1 hN hi hx r1 (fun s2 I2=>⟨_,H1,I2,q1⟩) hf
def Qk (i:Nat) (te:TE) (ti:TIp):TS:=fun D σ H=>∃ x,σ[i]?=some (some x)/\te σ H fun y H1=>ti x y H1 fun z H2=>D.nx (σ.set i (some z)) H2
theorem Ol {i:Nat} {x:Str} {e:Expr} {te:TE} {op:Operator} {ti:TIp} {pos':Pos} (hN:X.N.Nodup) (hi:X.N[i]?=some x) (hx:Loc X.env.scope x) (he:PE X e te) (ho:PIp X op ti) (hf:X.fn x=true\/X.env.scope.names.lookup x=some .local:=by first | exact .inl rfl | exact .inr rfl | assumption) :
  PS X (.AugAssign (.Name x pos') op e pos) (Qk i te ti):= by
 intro pins s σ H D I h
 refine xEA h fun v e1 h=>?_
 refine xEA I.loc fun m hn hl=>?_
 have vis:Vis X.env.scope x:=by refine Or.elim hx (fun k=>?_) fun k=>?_;exact .inl k;exact .inr (.inl k)
 refine xEA (hl i x v hi e1 vis) fun u r l=>?_
 refine wpAny_AugAssign_Name ?_
 have go:wpAny (model X.prog X.w) X.A (eval e X.env) (fun w s₂=>wpAny (model X.prog X.w) X.A (inplaceOp op u w) (fun r s₃=>wpAny (model X.prog X.w) X.A (storeName X.env x r) (fun _=>SP X pins D .next) X.xe s₃) X.xe s₂) X.xe s:= by
  refine thn (he pins s σ H _ I h) fun w s1 h925=>?_
  refine Ar h925 fun y H1 I1 r1 q1=>?_
  refine thn (ho pins s1 σ H1 v y u w _ I1 r r1 q1) fun z s2 h926=>?_
  refine Ar h926 fun zv H2 I2 r2 q2=>?_
  exact Fk I2 hN hi hx r2 (fun s3 I3=>⟨_,H2,I3,q2⟩) hf
 refine Or.elim l (fun n90=>xA n90 fun hk hm=>?_) fun n91=>xA n91 fun hk m925=>xEA m925 fun c hc hcell=>?_
 ·exact wpAny_loadName_local I.ok.kind hk hn hm go
 ·refine Or.elim hk (fun hk=>?_) fun hk=>?_
  ·exact wpAny_loadName_cell I.ok.kind hk hc hcell go
  ·refine Or.elim hx (fun k=>?_) fun k=>?_
   ·have:X.env.scope.names.lookup x=some .free:=hk
    rw[k] at this;cases this
   ·have:X.env.scope.names.lookup x=some .free:=hk
    rw[k] at this;cases this
def ipI (f:Int->Int->Int):TIp:=fun x y H Q=>∃ i j,x = .int i/\y = .int j/\Q (.int (f i j)) H
theorem N9:PIp X .Add (ipI fun i j=>i+j):= by
 intro pins s σ H x y v u Q I r1 r2 h
 obtain ⟨i,j,e1,e2,q⟩:=h
 subst e1;subst e2
 obtain ⟨t,rfl⟩:=r1
 obtain ⟨t',rfl⟩:=r2
 exact iadd_int ⟨.int _,H,I.tok _,⟨_,rfl⟩,q⟩
end
structure It where
 go:Nat->Hp->Prop
 yld:Nat->Hp->V->Hp->Prop
 stop:Nat->Hp->Prop
def DL (X:Cx) (pins:List (Addr × Obj)) (H:Hp) (b:Addr):Prop:=
 H b=none/\b≠X.env.locals/\b ∉ X.fs/\(b ∈ X.ex\/X.s₀.heap.objs.size<=b)/\(∀ x c,X.env.cells.lookup x=some c->c≠b) /\ ∀ p ∈ X.pn++pins,p.1≠b
theorem Inv.fpOk {X:Cx} {pins:List (Addr × Obj)} {σ:St} {H H':Hp} {s:Shared} {b:Addr} (I:Inv X pins σ H s) (hb:s.heap.objs.size<=b) (hn:H' b=none):DL X pins H' b:= by
 refine ⟨hn,Nat.ne_of_gt (Nat.lt_of_lt_of_le I.lt hb),I.nofs hb,.inr (Nat.le_trans I.sz hb),fun x c e z=>?_,fun p hp z=>?_⟩
 ·obtain ⟨v,q⟩:=I.cell x c e
  exact absurd (Nat.lt_of_lt_of_le q.lt (by rw[z];exact hb)) (Nat.lt_irrefl _)
 ·exact absurd (Nat.lt_of_lt_of_le (Heap.lt_size (I.pin p hp).1) (by rw[z];exact hb)) (Nat.lt_irrefl _)
structure Le (P:Program) (w:World) (K:PySem.W.Frag) (tg:Expr) (J:It) (fp:List Addr) (it:Addr) (tn:Nat->Heap->Prop):Prop where
 mem:it ∈ fp
 obj : ∀ i h,tn i h -> ∀ b ∈ fp,∃ o,h.get? b=some o /\ ∀ v,o.data ≠ .cell v
 keep : ∀ i h h',tn i h->(∀ b ∈ fp,∀ o,h.get? b=some o->h'.get? b=some o)->tn i h'
 item : ∀ (X:Cx),X.prog=P->X.w=w->X.K=K->X.calm=true -> ∀ (i:Nat) (pins:List (Addr × Obj)) (s:Shared) (σ:St) (H:Hp) (E:Value->Shared->Prop),Inv X pins σ H s->(∀ b ∈ fp,DL X pins H b)->tn i s.heap->J.go i H ->
  wpAny (model P w) X.A (pyNext (.ref it)) (fun r s1=>∃ u,r=some u /\
   wpAny (model P w) X.A (letOwnedTupleGo tg (.ref it) u) (fun _ s2=>∃ x H',Inv X pins σ H' s2/\AR x u/\J.yld i H x H'/\tn (i+1) s2.heap /\ ∀ b ∈ fp,H' b=none) E s1) E s
 done : ∀ (X:Cx),X.prog=P->X.w=w->X.K=K->X.calm=true -> ∀ (i:Nat) (pins:List (Addr × Obj)) (s:Shared) (σ:St) (H:Hp) (E:Value->Shared->Prop),Inv X pins σ H s->(∀ b ∈ fp,DL X pins H b)->tn i s.heap->J.stop i H ->
  wpAny (model P w) X.A (pyNext (.ref it)) (fun r s1=>r=none/\Inv X pins σ H s1) E s
 self : ∀ (A:Around) (i:Nat) (s:Shared) (Q:Value->Shared->Prop) (E:Value->Shared->Prop),tn i s.heap->Q (.ref it) s->wpAny (model P w) A (pyIter (.ref it)) Q E s
noncomputable abbrev TI:=St->Hp->(It->Hp->Prop)->Prop
def PIE (X:Cx) (pins:List (Addr × Obj)) (σ:St) (tg:Expr) (R:It->Hp->Prop) (itv:Value) (s2:Shared):Prop:=
 ∃ (it:Addr) (fp:List Addr) (tn:Nat->Heap->Prop) (J:It) (H':Hp),itv = .ref it/\Inv X pins σ H' s2/\Le X.prog X.w X.K tg J fp it tn/\tn 0 s2.heap/\(∀ b ∈ fp,DL X pins H' b)/\R J H'
def PI (X:Cx) (tg iter:Expr) (wi:TI):Prop:=
 ∀ (pins:List (Addr × Obj)) (s:Shared) (σ:St) (H:Hp) (R:It->Hp->Prop),Inv X pins σ H s->wi σ H R ->
  wpAny (model X.prog X.w) X.A (eval iter X.env) (fun v s1=>wpAny (model X.prog X.w) X.A (pyIter v) (PIE X pins σ tg R) X.xe s1) X.xe s
theorem MJ {M:Model} {A:Around} {E:Value->Shared->Prop} {s:Shared} {tg:Expr} {it:Addr} {u:Value} {o:Obj} {n:String} {vs:Array Value} {Q:Unit->Shared->Prop} (ho:s.heap.get? it=some o) (hc:o.cls = .type n) (hd:o.data = .fields vs)
    (hn : ["enumerate","zip","dict_itemiterator","dict_reverseitemiterator","odict_iterator","itertools.zip_longest","itertools.pairwise"].contains n = false) (hQ : Q () s) : wpAny M A (letOwnedTupleGo tg (.ref it) u) Q E s:= by
  unfold letOwnedTupleGo
  cases tg <;> first
    | exact wpAny_pure hQ
    | (cases u <;> first
        | exact wpAny_pure hQ
        | (refine wpAny_bind (wpAny_load ho ?_)
           rw[hc,hd]
           show wpAny M A (if (["enumerate","zip","dict_itemiterator","dict_reverseitemiterator","odict_iterator","itertools.zip_longest","itertools.pairwise"].contains n && vs[0]? == some (rawInt _)) = true then _ else _) Q E s
           rw[if_neg (by intro h;rw[hn,Bool.false_and] at h;cases h)]
           exact wpAny_pure hQ))
noncomputable def Itl (K:PySem.W.Frag) (a:Addr):It:=
 ⟨fun i H=>∃ xs x,SqL K H a xs/\xs[i]?=some x,fun i H x H'=>H'=H /\ ∀ xs,SqL K H a xs->xs[i]?=some x,fun i H=>∃ xs,SqL K H a xs/\xs.length<=i⟩
noncomputable def Itt (K:PySem.W.Frag) (a:Addr):It:=
 ⟨fun i H=>∃ xs x,SqT K H a xs/\xs[i]?=some x,fun i H x H'=>H'=H /\ ∀ xs,SqT K H a xs->xs[i]?=some x,fun i H=>∃ xs,SqT K H a xs/\xs.length<=i⟩
noncomputable def Itr (lo:Int) (n:Nat):It:=⟨fun i _=>i<n,fun i H x H'=>H'=H/\x = .int (lo+i),fun i _=>n<=i⟩
theorem JE {P:Program} {w:World} {K:PySem.W.Frag} {tg:Expr} (a it:Addr):Le P w K tg (Itl K a) [it] it (fun i h=>h.IsListIter it a i) where
 mem:=by simp
 obj:=fun i h st b hb=>by
  have e:b=it:=by simpa using hb
  subst e
  refine AM st fun o e c d=>?_
  exact ⟨o,e,fun v z=>by rw[d] at z;cases z⟩
 keep:=fun i h h' st k=>st.at fun o e=>k it (by simp) o e
 item:= by
  intro X hP hw hK hc i pins s σ H E I hf st hg
  subst hP hw hK
  refine Ct hg fun xs x hq hx=>?_
  refine AM (I.list hq) fun its rv p hz=>?_
  refine xEA (rv.get hx) fun u hu ru=>?_
  refine xA5 (hf it (by simp)) fun f0 f1 f2 f3 f4 f5=>?_
  refine wpAny_pyNext_list_item st p.isList (x:=u) (by simpa using hu) fun h' st' sb=>?_
  have I1:Inv X pins σ H { s with heap:=h' }:=I.turned (t':=s.toks) (fun b o hb e=>(sb.2 b hb).trans e) f0 f1 f3 f4 f5
  refine AM (id st') fun o e c d=>?_
  exact ⟨u,rfl,MJ (s:={ s with heap:=h' }) e c d (by decide) ⟨x,H,I1,ru,⟨rfl,fun ys hy=>by rw[I.list_inj hy hq];exact hx⟩,st',fun b hb=>(hf b hb).1⟩⟩
 done:= by
  intro X hP hw hK hc i pins s σ H E I hf st hg
  subst hP hw hK
  refine xEA hg fun xs hq hx=>?_
  refine AM (I.list hq) fun its rv p hz=>?_
  refine xA5 (hf it (by simp)) fun f0 f1 f2 f3 f4 f5=>?_
  have hl:=rv.length
  exact wpAny_pyNext_list_end (I.ok.hd hc) st p.isList (by simp;lia) fun h' eb=>⟨rfl,I.turned (t':=s.toks) (fun b o hb e=>eb b o hb e) f0 f1 f3 f4 f5⟩
 self:=fun _ _ _ _ _ st h=>wpAny_pyIter_listiter st h
theorem Jh {P:Program} {w:World} {K:PySem.W.Frag} {tg:Expr} (a it:Addr):Le P w K tg (Itt K a) [it] it (fun i h=>h.IsTupleIter it a i) where
 mem:=by simp
 obj:=fun i h st b hb=>by
  have e:b=it:=by simpa using hb
  subst e
  refine AM st fun o e c d=>?_
  exact ⟨o,e,fun v z=>by rw[d] at z;cases z⟩
 keep:=fun i h h' st k=>st.at fun o e=>k it (by simp) o e
 item:= by
  intro X hP hw hK hc i pins s σ H E I hf st hg
  subst hP hw hK
  refine Ct hg fun xs x hq hx=>?_
  refine AM (I.tuple hq) fun its rv p hz=>?_
  refine xEA (rv.get hx) fun u hu ru=>?_
  refine xA5 (hf it (by simp)) fun f0 f1 f2 f3 f4 f5=>?_
  refine wpAny_pyNext_tuple_item st (show s.heap.IsTuple a its.toArray from p) (x:=u) (by simpa using hu) fun h' st' sb=>?_
  have I1:Inv X pins σ H { s with heap:=h' }:=I.turned (t':=s.toks) (fun b o hb e=>(sb.2 b hb).trans e) f0 f1 f3 f4 f5
  refine AM (id st') fun o e c d=>?_
  exact ⟨u,rfl,MJ (s:={ s with heap:=h' }) e c d (by decide) ⟨x,H,I1,ru,⟨rfl,fun ys hy=>by rw[I.tuple_inj hy hq];exact hx⟩,st',fun b hb=>(hf b hb).1⟩⟩
 done:= by
  intro X hP hw hK hc i pins s σ H E I hf st hg
  subst hP hw hK
  refine xEA hg fun xs hq hx=>?_
  refine AM (I.tuple hq) fun its rv p hz=>?_
  refine xA5 (hf it (by simp)) fun f0 f1 f2 f3 f4 f5=>?_
  have hl:=rv.length
  exact wpAny_pyNext_tuple_end (I.ok.hd hc) st (show s.heap.IsTuple a its.toArray from p) (by simp;lia) fun h' eb=>⟨rfl,I.turned (t':=s.toks) (fun b o hb e=>eb b o hb e) f0 f1 f3 f4 f5⟩
 self:=fun _ _ _ _ _ st h=>wpAny_pyIter_tupleiter st h
theorem IR {P:Program} {w:World} {K:PySem.W.Frag} {tg:Expr} (it:Addr) (lo:Int) (n:Nat):Le P w K tg (Itr lo n) [it] it (fun i h=>IsRangeIter h it (lo+(i:Nat)*1) ((n:Int)-(i:Nat)) 1) where
 mem:=by simp
 obj:=fun i h st b hb=>by
  have e:b=it:=by simpa using hb
  subst e
  exact ⟨_,st,fun v z=>by
   have z':Data.fields _=Data.cell v:=z
   cases z'⟩
 keep:=fun i h h' st k=>k it (by simp) _ st
 item:= by
  intro X hP hw hK hc i pins s σ H E I hf st hg
  subst hP hw hK
  refine xA5 (hf it (by simp)) fun f0 f1 f2 f3 f4 f5=>?_
  have W:=Walks.range (prog:=X.prog) (w:=X.w) (I.ok.hd hc) it lo 1 n
  refine W.item i s _ _ hg st fun v h' tk hv st' kk=>?_
  refine xE hv fun t e90=>?_;subst e90
  have I1:Inv X pins σ H { s with heap:=h',toks:=tk }:=I.turned (fun b o hb e=>kk b o (by simpa using hb) e) f0 f1 f3 f4 f5
  refine ⟨_,rfl,MJ (s:={ s with heap:=h',toks:=tk }) (n:="range_iterator") st' rfl rfl (by decide) ⟨.int (lo + i),H,I1,⟨t,?_⟩,⟨rfl,rfl⟩,st',fun b hb=>(hf b hb).1⟩⟩
  rw[Int.mul_one]
 done:= by
  intro X hP hw hK hc i pins s σ H E I hf st hg
  subst hP hw hK
  refine xA5 (hf it (by simp)) fun f0 f1 f2 f3 f4 f5=>?_
  exact wpAny_pyNext_range_end (I.ok.hd hc) st (by have:n<=i:=hg;lia) fun h' eb=>⟨rfl,I.turned (t':=s.toks) (fun b o hb e=>eb b o hb e) f0 f1 f3 f4 f5⟩
 self:=fun _ _ _ _ _ st h=>wpAny_pyIter_rangeiter st h
end L2
namespace L2
open PySem PySem.Spec PyProof.Rows
section
variable {X:Cx} {tg:Expr}
inductive XIl (K:PySem.W.Frag) (x:V) (H:Hp) (R:It->Hp->Prop):Prop
 | mk (a:Addr) (hx:x = .ref a) (hs : ∃ xs,SqL K H a xs) (q:R (Itl K a) H):XIl K x H R
def NB (K:PySem.W.Frag) (tl:TE):TI:=fun σ H R=>tl σ H fun x H1=>XIl K x H1 R
inductive XIt (K:PySem.W.Frag) (x:V) (H:Hp) (R:It->Hp->Prop):Prop
 | mk (a:Addr) (hx:x = .ref a) (hs : ∃ xs,SqT K H a xs) (q:R (Itt K a) H):XIt K x H R
def P2 (K:PySem.W.Frag) (tl:TE):TI:=fun σ H R=>tl σ H fun x H1=>XIt K x H1 R
theorem M7 {l:Expr} {tl:TE} (hl:PE X l tl):PI X tg l (NB X.K tl):= by
 intro pins s σ H R I h
 refine thn (hl pins s σ H _ I h) fun v s1 h934=>?_
 refine Ar h934 fun x H1 I1 r1 q1=>?_
 obtain ⟨a,e,⟨xs,hq⟩,q⟩:=q1
 subst e
 cases r1
 refine AM (I1.list hq) fun its rv p hz=>?_
 refine wpAny_pyIter_list p.isList ?_
 refine ⟨s1.heap.objs.size,[s1.heap.objs.size],_,_,H1,rfl,I1.kept (t':=s1.toks) fun b o e=>Heap.get?_push_of_some _ e,JE a _,⟨_,Heap.get?_push_size _ rfl,rfl,rfl⟩,fun b hb=>?_,q⟩
 have e:b=s1.heap.objs.size:=by simpa using hb
 subst e
 exact I1.fpOk (Nat.le_refl _) (I1.hok.fresh (Nat.le_refl _))
theorem Oo {l:Expr} {tl:TE} (hl:PE X l tl):PI X tg l (P2 X.K tl):= by
 intro pins s σ H R I h
 refine thn (hl pins s σ H _ I h) fun v s1 h935=>?_
 refine Ar h935 fun x H1 I1 r1 q1=>?_
 obtain ⟨a,e,⟨xs,hq⟩,q⟩:=q1
 subst e
 cases r1
 refine AM (I1.tuple hq) fun its rv p hz=>?_
 refine wpAny_pyIter_tuple (show s1.heap.IsTuple a its.toArray from p) ?_
 refine ⟨s1.heap.objs.size,[s1.heap.objs.size],_,_,H1,rfl,I1.kept (t':=s1.toks) fun b o e=>Heap.get?_push_of_some _ e,Jh a _,⟨_,Heap.get?_push_size _ rfl,rfl,rfl⟩,fun b hb=>?_,q⟩
 have e:b=s1.heap.objs.size:=by simpa using hb
 subst e
 exact I1.fpOk (Nat.le_refl _) (I1.hok.fresh (Nat.le_refl _))
theorem Iw {pins:List (Addr × Obj)} {σ:St} {H:Hp} {s:Shared} {R:It->Hp->Prop} {E:Value->Shared->Prop} {lo hi:Int} {t u v:Tok} {tk:Nat} (I:Inv X pins σ H s) (h1 : -(2 ^ 62)<=lo) (h2:lo<2 ^ 62) (h3 : -(2 ^ 62)<=hi) (h4:hi<2 ^ 62)
  (q : R (Itr lo (hi - lo).toNat) H) : wpAny (model X.prog X.w) X.A (pyIter (.ref s.heap.objs.size)) (PIE X pins σ tg R) E { s with heap:=s.heap.push { cls:=.type "range",data:=.fields #[.int lo t,.int hi u,.int 1 v] },toks:=tk }:= by
 refine wpAny_pyIter_range (IsRange.new ..) (small_one h1 h2 h3 h4) ?_
 have I1 : Inv X pins σ H { s with heap:=s.heap.push { cls:=.type "range",data:=.fields #[.int lo t,.int hi u,.int 1 v] },toks:=tk }:=I.kept fun b o e=>Heap.get?_push_of_some _ e
 refine ⟨(s.heap.push { cls:=.type "range",data:=.fields #[.int lo t,.int hi u,.int 1 v] }).objs.size,[(s.heap.push { cls:=.type "range",data:=.fields #[.int lo t,.int hi u,.int 1 v] }).objs.size],_,_,H,rfl,
  I1.kept (t':=tk) fun b o e=>Heap.get?_push_of_some _ e,IR _ lo (hi-lo).toNat,?_,fun b hb=>?_,q⟩
 ·have e1:lo+((0:Nat):Int)*1=lo:=by simp
  have e2:(((hi-lo).toNat:Nat):Int)-((0:Nat):Int)=Builtin.Range.rangeSize lo hi 1:=by rw[rangeSize_one];split <;> lia
  show IsRangeIter _ _ (lo+((0:Nat):Int)*1) ((((hi-lo).toNat:Nat):Int)-((0:Nat):Int)) 1
  rw[e1,e2]
  exact Heap.get?_push_size _ rfl
 ·have e : b = (s.heap.push { cls:=.type "range",data:=.fields #[.int lo t,.int hi u,.int 1 v] }).objs.size:=by simpa using hb
  subst e
  exact I1.fpOk (Nat.le_refl _) (I1.hok.fresh (Nat.le_refl _))
inductive XIr (vs:List V) (H:Hp) (R:It->Hp->Prop):Prop
 | mk (j:Int) (hx:vs=[.int j]) (h1 : -(2 ^ 62)<=j) (h2:j<2 ^ 62) (q:R (Itr 0 j.toNat) H):XIr vs H R
def O1 (ta:TA):TI:=fun σ H R=>ta σ H fun vs H1=>XIr vs H1 R
def OS (ta:TA):TI:=fun σ H R=>ta σ H fun vs H1=>∃ i j:Int,vs=[.int i,.int j]/\(-(2 ^ 62)<=i/\i<2 ^ 62 /\ -(2 ^ 62)<=j/\j<2 ^ 62)/\R (Itr i (j-i).toNat) H1
theorem AB {a : Expr} {ta : TA} {p pos : Pos} (hg : Gl X "range") (hm : X.mg "range" = none) (ha : PA X [a] ta) (hs : starEach [a] X.env = [(false,eval a X.env)]:=by rfl) : PI X tg (.Call (.Name "range" p) [a] [] pos) (O1 ta):= by
 intro pins s σ H R I h
 refine Call_ (E3 I hg hm boot_range (PyProof.Rows.callWith_type1 (thn (ha pos pins s σ H _ I h) fun us s1 h936=>?_) hs rfl))
 obtain ⟨vs,H1,I1,r1,q1⟩:=h936
 obtain ⟨j,e,q1,q2,q⟩:=q1
 subst e
 cases r1 with
 | cons r rr=>
  cases rr
  obtain ⟨t,rfl⟩:=r
  exact call_range_1 (Iw I1 (by lia) (by lia) q1 q2 (by simpa using q))
theorem Kk {a b : Expr} {ta : TA} {p pos : Pos} (hg : Gl X "range") (hm : X.mg "range" = none) (ha : PA X [a,b] ta) (hs : starEach [a,b] X.env = [(false,eval a X.env),(false,eval b X.env)]:=by rfl) (hs2 : starEach [b] X.env = [(false,eval b X.env)]:=by rfl) :
  PI X tg (.Call (.Name "range" p) [a,b] [] pos) (OS ta):= by
 intro pins s σ H R I h
 refine Call_ (E3 I hg hm boot_range (PyProof.Rows.callWith_type1 (thn (ha pos pins s σ H _ I h) fun us s1 h937=>?_) (by rw[hs,hs2]) (by rw[hs2];rfl)))
 obtain ⟨vs,H1,I1,r1,q1⟩:=h937
 obtain ⟨i,j,e,⟨q1,q2,q3,q4⟩,q⟩:=q1
 subst e
 cases r1 with
 | cons r rr=>
  cases rr with
  | cons r' rr=>
   cases rr
   obtain ⟨t,rfl⟩:=r
   obtain ⟨t',rfl⟩:=r'
   exact call_range_2 (Iw I1 q1 q2 q3 q4 q)
def Qm (wi:TI) (g:TG) (tb:TS):TS:=fun D σ H=>wi σ H fun J H1=>∃ W:Nat->Nat->St->Hp->Prop,(∃ m,W 0 m σ H1) /\ ∀ i m σ H,W i m σ H ->
 (J.stop i H/\D.nx σ H)\/(J.go i H /\ ∃ N:St->Hp->Prop,(∀ σ' H',N σ' H' -> ∃ m',m'<m/\W (i+1) m' σ' H') /\ ∀ x H',J.yld i H x H'->g x σ H' fun σ2 H2=>tb { D with nx:=N,ct:=N,bk:=D.nx } σ2 H2)
noncomputable def CU (fp:List Addr) (h:Heap):List (Addr × Obj):=fp.filterMap fun b=>(h.get? b).map fun o=>(b,o)
theorem AW {fp:List Addr} {h:Heap} {b:Addr} {o:Obj} (hb:b ∈ fp) (e:h.get? b=some o):(b,o) ∈ CU fp h:=List.mem_filterMap.mpr ⟨b,hb,by rw[e];rfl⟩
theorem F0 {fp:List Addr} {h:Heap} {p:Addr × Obj} (hp:p ∈ CU fp h):p.1 ∈ fp/\h.get? p.1=some p.2:= by
 obtain ⟨b,hb,e⟩:=List.mem_filterMap.mp hp
 cases q:h.get? b with
 | none=>rw[q] at e;cases e
 | some o=>
  rw[q] at e
  have e':(b,o)=p:=Option.some.inj e
  subst e'
  exact ⟨hb,q⟩
theorem Inv.pinned {pins:List (Addr × Obj)} {σ:St} {H:Hp} {s:Shared} {fp:List Addr} (I:Inv X pins σ H s) (hf : ∀ b ∈ fp,DL X pins H b) (ho : ∀ b ∈ fp,∃ o,s.heap.get? b=some o /\ ∀ v,o.data ≠ .cell v):Inv X (pins++CU fp s.heap) σ H s:=
 I.pins_of fun p hp=>(List.mem_append.mp hp).elim (fun z=>I.pin p (List.mem_append_right _ z)) fun z=>by
  refine xA (F0 z) fun hb e=>?_
  refine xA3 (hf p.1 hb) fun f0 f1 f2 _=>?_
  refine xEA (ho p.1 hb) fun o e' d=>?_
  rw[e] at e';cases e'
  exact ⟨e,f0,f1,f2,d⟩
theorem Inv.unpinned {pins pl:List (Addr × Obj)} {σ:St} {H:Hp} {s:Shared} (I:Inv X (pins++pl) σ H s):Inv X pins σ H s:=I.pins_of fun p hp=>I.pin p (List.mem_append_right _ (List.mem_append_left _ hp))
theorem Bq {iter:Expr} {body:List Stmt} {wi:TI} {g:TG} {tb:TS} {pos:Pos} (hp:PassesOwn (model X.prog X.w) X.A X.env X.xe) (hc:X.calm=true) (hi:PI X tg iter wi) (hg:PG X tg g) (hb:PSs X body tb)
  (hs : ∀ x,foldedSetIterable iter X.env x=pure x:=by intro _;rfl):PS X (.For tg iter body [] pos) (Qm wi g tb):= by
 intro pins s σ H D I h
 refine wpAny_For (thn (hi pins s σ H _ I h) fun v s1 h1=>thn h1 fun itv s2 h2=>?_) hs
 refine IX h2 fun it fp tn J H2 e I2 T st2 f2 m926=>xEA m926 fun W n90 turn=>xE n90 fun m0 w0=>?_
 subst e
 have stat : ∀ {H':Hp},(∀ b ∈ fp,H' b=none) -> ∀ b ∈ fp,DL X pins H' b:=fun hn b hb=>⟨hn b hb,(f2 b hb).2⟩
 refine codeAny_forLoop_any (fun n s'=>∃ i σ' H',Inv X pins σ' H' s'/\tn i s'.heap/\(∀ b ∈ fp,H' b=none)/\W i n σ' H') ?_ m0 ⟨0,σ,H2,I2,st2,fun b hb=>(f2 b hb).1,w0⟩
 intro n s3 n90;refine Hv n90 fun i σ3 H3 I3 st3 fr3 w3=>?_
 refine Or.elim (turn i n σ3 H3 w3) (fun n90=>xA n90 fun stop qn=>?_) fun n91=>xA n91 fun go m927=>xEA m927 fun N hN step=>?_
 ·refine wpAny_passesOwn hp (thn (T.done X rfl rfl rfl hc i pins s3 σ3 H3 X.xe I3 (stat fr3) st3 stop) fun r s4 h938=>?_)
  refine xA h938 fun hr I4=>?_
  subst hr
  exact wpAny_execs_nil ⟨σ3,H3,I4,qn⟩
 ·refine wpAny_passesOwn hp (thn (T.item X rfl rfl rfl hc i pins s3 σ3 H3 X.xe I3 (stat fr3) st3 go) fun r s4 h939=>?_)
  refine xEA h939 fun u hr h4=>?_
  subst hr
  refine wpAny_passesOwn hp (thn h4 fun _ s5 h940=>?_)
  refine Kg h940 fun x H5 I5 r5 y5 st5 fr5=>?_
  have I5':=I5.pinned (stat fr5) (T.obj _ _ st5)
  refine wpAny_passesOwn hp (thn (hg _ s5 σ3 H5 x u _ I5' r5 (step x H5 y5)) fun _ s6 h941=>?_)
  refine Ct h941 fun σ6 H6 I6 q6=>?_
  refine wpAny_passesOwn hp (thn (hb _ s6 σ6 H6 _ I6 q6) fun f s7 q7=>?_)
  have again : ∀ {σ7:St} {H7:Hp},Inv X (pins++CU fp s5.heap) σ7 H7 s7->N σ7 H7 -> ∃ m,m<n /\ ∃ i σ' H',Inv X pins σ' H' s7/\tn i s7.heap/\(∀ b ∈ fp,H' b=none)/\W i m σ' H':=fun {σ7 H7} I7 n7=>by
   refine xEA (hN σ7 H7 n7) fun m' hm w7=>?_
   refine ⟨m',hm,i+1,σ7,H7,I7.unpinned,T.keep _ _ _ st5 fun b hb o e=>(I7.pin (b,o) (List.mem_append_right _ (List.mem_append_right _ (AW hb e)))).1,fun b hb=>?_,w7⟩
   refine xEA (T.obj _ _ st5 b hb) fun o e d=>?_
   exact (I7.pin (b,o) (List.mem_append_right _ (List.mem_append_right _ (AW hb e)))).2.1
  cases f with
  | next=>refine Ct q7 fun σ7 H7 I7 n7=>?_;exact again I7 n7
  | cont=>refine Ct q7 fun σ7 H7 I7 n7=>?_;exact again I7 n7
  | brk=>refine Ct q7 fun σ7 H7 I7 q7=>?_;exact ⟨σ7,H7,I7.unpinned,q7⟩
  | ret v=>refine Ed q7 fun x7 σ7 H7 I7 r7 q7=>?_;exact ⟨x7,σ7,H7,I7.unpinned,r7,q7⟩
end
theorem BN {K:PySem.W.Frag} {a:Addr} {xs:List V} {g:TG} {tb:TS} {D:IG} {σ:St} {H:Hp} (Pv:Nat->St->Hp->Prop) (h0:Pv 0 σ H) (hl : ∀ i σ H,i<=xs.length->Pv i σ H->SqL K H a xs)
  (hs : ∀ i x σ H,xs[i]?=some x->Pv i σ H->g x σ H fun σ2 H2=>tb { D with nx:=Pv (i+1),ct:=Pv (i+1),bk:=D.nx } σ2 H2) (hd : ∀ σ H,Pv xs.length σ H->D.nx σ H) :
  ∃ W:Nat->Nat->St->Hp->Prop,(∃ m,W 0 m σ H) /\ ∀ i m σ H,W i m σ H ->
   ((Itl K a).stop i H/\D.nx σ H)\/((Itl K a).go i H /\ ∃ N:St->Hp->Prop,(∀ σ' H',N σ' H' -> ∃ m',m'<m/\W (i+1) m' σ' H') /\ ∀ x H',(Itl K a).yld i H x H'->g x σ H' fun σ2 H2=>tb { D with nx:=N,ct:=N,bk:=D.nx } σ2 H2):= by
 refine ⟨fun i m σ H=>m=xs.length-i/\i<=xs.length/\Pv i σ H,⟨xs.length,by simp,Nat.zero_le _,h0⟩,?_⟩
 rintro i m σ H ⟨rfl,hi,p⟩
 have q:=hl i σ H hi p
 by_cases hlt:i<xs.length
 ·refine .inr ⟨⟨xs,xs[i],q,by simp [hlt]⟩,Pv (i+1),fun σ' H' p'=>⟨xs.length-(i+1),by lia,rfl,hlt,p'⟩,fun x H' y=>?_⟩
  obtain ⟨e,y⟩:=y
  subst e
  exact hs i x σ _ (y xs q) p
 ·have e:i=xs.length:=by lia
  subst e
  exact .inl ⟨⟨xs,q,Nat.le_refl _⟩,hd σ H p⟩
theorem MT {K:PySem.W.Frag} {a:Addr} {xs:List V} {g:TG} {tb:TS} {D:IG} {σ:St} {H:Hp} (Pv:Nat->St->Hp->Prop) (h0:Pv 0 σ H) (hl : ∀ i σ H,i<=xs.length->Pv i σ H->SqT K H a xs)
  (hs : ∀ i x σ H,xs[i]?=some x->Pv i σ H->g x σ H fun σ2 H2=>tb { D with nx:=Pv (i+1),ct:=Pv (i+1),bk:=D.nx } σ2 H2) (hd : ∀ σ H,Pv xs.length σ H->D.nx σ H) :
  ∃ W:Nat->Nat->St->Hp->Prop,(∃ m,W 0 m σ H) /\ ∀ i m σ H,W i m σ H ->
   ((Itt K a).stop i H/\D.nx σ H)\/((Itt K a).go i H /\ ∃ N:St->Hp->Prop,(∀ σ' H',N σ' H' -> ∃ m',m'<m/\W (i+1) m' σ' H') /\ ∀ x H',(Itt K a).yld i H x H'->g x σ H' fun σ2 H2=>tb { D with nx:=N,ct:=N,bk:=D.nx } σ2 H2):= by
 refine ⟨fun i m σ H=>m=xs.length-i/\i<=xs.length/\Pv i σ H,⟨xs.length,by simp,Nat.zero_le _,h0⟩,?_⟩
 rintro i m σ H ⟨rfl,hi,p⟩
 have q:=hl i σ H hi p
 by_cases hlt:i<xs.length
 ·refine .inr ⟨⟨xs,xs[i],q,by simp [hlt]⟩,Pv (i+1),fun σ' H' p'=>⟨xs.length-(i+1),by lia,rfl,hlt,p'⟩,fun x H' y=>?_⟩
  obtain ⟨e,y⟩:=y
  subst e
  exact hs i x σ _ (y xs q) p
 ·have e:i=xs.length:=by lia
  subst e
  exact .inl ⟨⟨xs,q,Nat.le_refl _⟩,hd σ H p⟩
theorem BX {lo:Int} {n:Nat} {g:TG} {tb:TS} {D:IG} {σ:St} {H:Hp} (Pv:Nat->St->Hp->Prop) (h0:Pv 0 σ H)
  (hs : ∀ i σ H,i<n->Pv i σ H->g (.int (lo+i)) σ H fun σ2 H2=>tb { D with nx:=Pv (i+1),ct:=Pv (i+1),bk:=D.nx } σ2 H2) (hd : ∀ σ H,Pv n σ H->D.nx σ H) :
  ∃ W:Nat->Nat->St->Hp->Prop,(∃ m,W 0 m σ H) /\ ∀ i m σ H,W i m σ H ->
   ((Itr lo n).stop i H/\D.nx σ H)\/((Itr lo n).go i H /\ ∃ N:St->Hp->Prop,(∀ σ' H',N σ' H' -> ∃ m',m'<m/\W (i+1) m' σ' H') /\ ∀ x H',(Itr lo n).yld i H x H'->g x σ H' fun σ2 H2=>tb { D with nx:=N,ct:=N,bk:=D.nx } σ2 H2):= by
 refine ⟨fun i m σ H=>m=n-i/\i<=n/\Pv i σ H,⟨n,by simp,Nat.zero_le _,h0⟩,?_⟩
 rintro i m σ H ⟨rfl,hi,p⟩
 by_cases hlt:i<n
 ·refine .inr ⟨hlt,Pv (i+1),fun σ' H' p'=>⟨n-(i+1),by lia,rfl,hlt,p'⟩,fun x H' y=>?_⟩
  obtain ⟨e,y⟩:=y
  subst e y
  exact hs i σ _ hlt p
 ·have e:i=n:=by lia
  subst e
  exact .inl ⟨Nat.le_refl _,hd σ H p⟩
end L2
namespace L2
open PySem PySem.Spec PyProof.Rows
noncomputable abbrev R2:=V->V->Hp->VK->Prop
def OpR (X:Cx) (f:Value->Value->Sem Value) (r:R2):Prop:=
 ∀ (pins:List (Addr × Obj)) (s:Shared) (σ:St) (H:Hp) (x y:V) (v u:Value) (Q:VK),Inv X pins σ H s->AR x v->AR y u->r x y H Q ->
  wpAny (model X.prog X.w) X.A (f v u) (EP X pins σ Q) X.xe s
def UnR (X:Cx) (f:Value->Sem Value) (r:V->Hp->VK->Prop):Prop:=
 ∀ (pins:List (Addr × Obj)) (s:Shared) (σ:St) (H:Hp) (x:V) (v:Value) (Q:VK),Inv X pins σ H s->AR x v->r x H Q ->
  wpAny (model X.prog X.w) X.A (f v) (EP X pins σ Q) X.xe s
def AO (X:Cx) (f:Value) (r:List V->Hp->VK->Prop):Prop:=
 ∀ (pins:List (Addr × Obj)) (s:Shared) (σ:St) (H:Hp) (xs:List V) (us:List Value) (Q:VK),Inv X pins σ H s->AH xs us->r xs H Q ->
  wpAny (model X.prog X.w) X.A (call f us) (EP X pins σ Q) X.xe s
def QA (X:Cx) (r:V->Hp->(Bool->Hp->Prop)->Prop):Prop:=
 ∀ (pins:List (Addr × Obj)) (s:Shared) (σ:St) (H:Hp) (x:V) (v:Value) (Q:Bool->Hp->Prop),Inv X pins σ H s->AR x v->r x H Q ->
  wpAny (model X.prog X.w) X.A (truthy v) (TP X pins σ Q) X.xe s
def tOp (r:R2) (ta tb:TE):TE:=fun σ H Q=>ta σ H fun x H1=>tb σ H1 fun y H2=>r x y H2 Q
def tUn (r:V->Hp->VK->Prop) (ta:TE):TE:=fun σ H Q=>ta σ H fun x H1=>r x H1 Q
inductive XI (C:Int->Int->Prop) (g:Int->Int->V) (x y:V) (H:Hp) (Q:VK):Prop
 | mk (i j:Int) (hx:x = .int i) (hy:y = .int j) (c:C i j) (q:Q (g i j) H):XI C g x y H Q
def rI (C:Int->Int->Prop) (g:Int->Int->V):R2:=fun x y H Q=>XI C g x y H Q
inductive XI0 (g:Int->Int->V) (x y:V) (H:Hp) (Q:VK):Prop
 | mk (i j:Int) (hx:x = .int i) (hy:y = .int j) (q:Q (g i j) H):XI0 g x y H Q
def rI0 (g:Int->Int->V):R2:=fun x y H Q=>XI0 g x y H Q
def rU (g:Int->V):V->Hp->VK->Prop:=fun x H Q=>∃ i,x = .int i/\Q (g i) H
section
variable {X:Cx} {a b c:Expr} {ta tb tc:TE} {pos:Pos}
theorem Pg (ha:PE X a ta) (hb:PE X b tb) {pins:List (Addr × Obj)} {s:Shared} {σ:St} {H:Hp} {R:V->V->Hp->Prop} (I:Inv X pins σ H s)
  (h:ta σ H fun x H1=>tb σ H1 fun y H2=>R x y H2) {Q:Value->Shared->Prop} {f:Value->Value->Sem Value}
  (hf : ∀ v u s2 x y H2,Inv X pins σ H2 s2->AR x v->AR y u->R x y H2->wpAny (model X.prog X.w) X.A (f v u) Q X.xe s2) :
  wpAny (model X.prog X.w) X.A (eval a X.env) (fun v s₁=>wpAny (model X.prog X.w) X.A (eval b X.env) (fun u s₂=>wpAny (model X.prog X.w) X.A (f v u) Q X.xe s₂) X.xe s₁) X.xe s:= by
 refine thn (ha pins s σ H _ I h) fun v s1 h943=>?_
 refine Ar h943 fun x H1 I1 r1 q1=>?_
 refine thn (hb pins s1 σ H1 _ I1 q1) fun u s2 h944=>?_
 refine Ar h944 fun y H2 I2 r2 q2=>?_
 exact hf v u s2 x y H2 I2 r1 r2 q2
theorem Ap {op:Operator} {r:R2} (ho:OpR X (binaryOp op) r) (ha:PE X a ta) (hb:PE X b tb):PE X (.BinOp a op b pos) (tOp r ta tb):= by
 intro pins s σ H Q I h
 exact wpAny_BinOp (Pg ha hb I h fun v u s2 x y H2 I2 rx ry q=>ho pins s2 σ H2 x y v u Q I2 rx ry q)
theorem OG {op:UnaryOp} {r:V->Hp->VK->Prop} (ho:UnR X (unaryOp op) r) (ha:PE X a ta):PE X (.UnaryOp op a pos) (tUn r ta):= by
 intro pins s σ H Q I h
 exact UnaryOp_ (thn (ha pins s σ H _ I h) fun v s1 h945=>by refine Ar h945 fun x H1 I1 r1 q1=>?_;exact ho pins s1 σ H1 x v Q I1 r1 q1)
theorem opI {f:Value->Value->Sem Value} {C:Int->Int->Prop} {g:Int->Int->Int}
  (rule : ∀ (i j:Int) (t u:Tok) (s:Shared) (Q:Value->Shared->Prop) (E:Value->Shared->Prop),C i j->Q (.int (g i j) s.toks) { s with toks:=s.toks+1 }->wpAny (model X.prog X.w) X.A (f (.int i t) (.int j u)) Q E s) :
  OpR X f (rI C fun i j=>.int (g i j)):= by
 intro pins s σ H x y v u Q I rx ry h
 obtain ⟨i,j,rfl,rfl,hc,q⟩:=h
 obtain ⟨t,rfl⟩:=rx
 obtain ⟨t',rfl⟩:=ry
 exact rule i j t t' s _ _ hc ⟨.int (g i j),H,I.tok _,⟨_,rfl⟩,q⟩
theorem P7 {f:Value->Value->Sem Value} {g:Int->Int->Int}
  (rule : ∀ (i j:Int) (t u:Tok) (s:Shared) (Q:Value->Shared->Prop) (E:Value->Shared->Prop),Q (.int (g i j) s.toks) { s with toks:=s.toks+1 }->wpAny (model X.prog X.w) X.A (f (.int i t) (.int j u)) Q E s) :
  OpR X f (rI0 fun i j=>.int (g i j)):= by
 intro pins s σ H x y v u Q I rx ry h
 obtain ⟨i,j,rfl,rfl,q⟩:=h
 obtain ⟨t,rfl⟩:=rx
 obtain ⟨t',rfl⟩:=ry
 exact rule i j t t' s _ _ ⟨.int (g i j),H,I.tok _,⟨_,rfl⟩,q⟩
theorem OJ {f:Value->Value->Sem Value} {g:Int->Int->Bool}
  (rule : ∀ (i j:Int) (t u:Tok) (s:Shared) (Q:Value->Shared->Prop) (E:Value->Shared->Prop),Q (.bool (g i j)) s->wpAny (model X.prog X.w) X.A (f (.int i t) (.int j u)) Q E s) :
  OpR X f (rI0 fun i j=>.bl (g i j)):= by
 intro pins s σ H x y v u Q I rx ry h
 obtain ⟨i,j,rfl,rfl,q⟩:=h
 obtain ⟨t,rfl⟩:=rx
 obtain ⟨t',rfl⟩:=ry
 exact rule i j t t' s _ _ ⟨.bl (g i j),H,I,rfl,q⟩
def Qo (i j:Int):Prop:=0<=j/\j<=1000000/\i.natAbs<2 ^ 64
def OM (i j:Int):Prop:=(-(2 ^ 64)<i/\i<2 ^ 64)\/(-(2 ^ 64)<j/\j<2 ^ 64)
theorem OM.ok {i j:Int} (h:OM i j):IntMulOk i j:= by
 rcases h with ⟨h1,h2⟩ | ⟨h1,h2⟩
 ·exact .of_left (intBits_le_64 h1 h2)
 ·exact .of_right (intBits_le_64 h1 h2)
theorem AY:OpR X (binaryOp .Add) (rI0 fun i j=>.int (i+j)):=P7 fun _ _ _ _ _ _ _ q=>add_int q
theorem GT:OpR X (binaryOp .Sub) (rI0 fun i j=>.int (i-j)):=P7 fun _ _ _ _ _ _ _ q=>sub_int q
theorem Cj:OpR X (binaryOp .Mod) (rI (fun _ j=>0<j) fun i j=>.int (i % j)):=opI fun i j _ _ _ _ _ hc q=>by
 have h1:(0:Int)<j:=hc
 exact mod_int' (by lia) (by rw[Int.fmod_eq_emod_of_nonneg i (by lia)];exact q)
theorem E4:OpR X (binaryOp .Pow) (rI Qo fun i j=>.int (i ^ j.toNat)):=opI fun _ _ _ _ _ _ _ hc q=>pow_int_small hc.1 hc.2.1 hc.2.2 q
theorem unI {f:Value->Sem Value} {g:Int->Int}
  (rule : ∀ (i:Int) (t:Tok) (s:Shared) (Q:Value->Shared->Prop) (E:Value->Shared->Prop),Q (.int (g i) s.toks) { s with toks:=s.toks+1 }->wpAny (model X.prog X.w) X.A (f (.int i t)) Q E s) :
  UnR X f (rU fun i=>.int (g i)):= by
 intro pins s σ H x v Q I rx h
 obtain ⟨i,rfl,q⟩:=h
 obtain ⟨t,rfl⟩:=rx
 exact rule i t s _ _ ⟨.int (g i),H,I.tok _,⟨_,rfl⟩,q⟩
theorem Mi:UnR X (unaryOp .USub) (rU fun i=>.int (-i)):=unI fun _ _ _ _ _ q=>neg_int q
end
noncomputable def PZ:V->V->Bool
 | .non,.non=>true | .non,.int _=>true | .int _,.non=>true | .non,.bl _=>true | .bl _,.non=>true | .non,.str _=>true | .str _,.non=>true
 | .int _,.int _=>true | .bl _,.bl _=>true | .str _,.str _=>true | .byt _,.byt _=>true
 | .int _,.str _=>true | .str _,.int _=>true | .bl _,.str _=>true | .str _,.bl _=>true
 | _,_=>false
def rEq:R2:=fun x y H Q=>PZ x y=true/\Q (.bl (decide (x=y))) H
def rNe:R2:=fun x y H Q=>PZ x y=true/\Q (.bl (!decide (x=y))) H
theorem Kh {i j:Int}:decide (V.int i=V.int j)=(i==j):= by
 rw[Bool.eq_iff_iff]
 simp
theorem Mg {i j:Bool}:decide (V.bl i=V.bl j)=(i==j):= by
 rw[Bool.eq_iff_iff]
 simp
theorem Jo {i j:Str}:decide (V.str i=V.str j)=(i==j):= by
 rw[Bool.eq_iff_iff]
 simp
theorem Jz {i j:Array UInt8}:decide (V.byt i=V.byt j)=(i.toList==j.toList):= by
 rw[Bool.eq_iff_iff]
 cases i
 cases j
 simp
section
variable {X:Cx} {a b c:Expr} {ta tb tc:TE} {pos:Pos}
theorem Ay {pins:List (Addr × Obj)} {σ:St} {H:Hp} {s:Shared} {Q:VK} {k k':Bool} (I:Inv X pins σ H s) (q:Q (.bl k) H) (e:k=k'):EP X pins σ Q (.bool k') s:= by
 subst e
 exact ⟨.bl k,H,I,rfl,q⟩
theorem G8:OpR X (compareOp .Eq) rEq:= by
 intro pins s σ H x y v u Q I rx ry h
 obtain ⟨hs,q⟩:=h
 cases x with
 | non=>
  cases rx
  cases y with
  | non=>cases ry;exact PySem.EqNone.eq_none_none (Ay I q (by simp))
  | bl j=>cases ry;exact PySem.EqNone.eq_none_bool (Ay I q (by simp))
  | int j=>obtain ⟨t',rfl⟩:=ry;exact PySem.EqNone.eq_none_int (Ay I q (by simp))
  | str j=>obtain ⟨t',rfl⟩:=ry;exact PySem.EqNone.eq_none_str (Ay I q (by simp))
  | _=>exact absurd (show false=true from hs) Bool.false_ne_true
 | bl i=>
  cases rx
  cases y with
  | non=>cases ry;exact PySem.EqNone.eq_bool_none (Ay I q (by simp))
  | bl j=>cases ry;exact eq_bool (Ay I q Mg)
  | str j=>obtain ⟨t',rfl⟩:=ry;exact PySem.EqMixed.eq_bool_str (Ay I q (by simp))
  | _=>exact absurd (show false=true from hs) Bool.false_ne_true
 | int i=>
  obtain ⟨t,rfl⟩:=rx
  cases y with
  | non=>cases ry;exact PySem.EqNone.eq_int_none (Ay I q (by simp))
  | int j=>obtain ⟨t',rfl⟩:=ry;exact eq_int (Ay I q Kh)
  | str j=>obtain ⟨t',rfl⟩:=ry;exact PySem.EqMixed.eq_int_str (Ay I q (by simp))
  | _=>exact absurd (show false=true from hs) Bool.false_ne_true
 | str i=>
  obtain ⟨t,rfl⟩:=rx
  cases y with
  | non=>cases ry;exact PySem.EqNone.eq_str_none (Ay I q (by simp))
  | bl j=>cases ry;exact PySem.EqMixed.eq_str_bool (Ay I q (by simp))
  | int j=>obtain ⟨t',rfl⟩:=ry;exact PySem.EqMixed.eq_str_int (Ay I q (by simp))
  | str j=>obtain ⟨t',rfl⟩:=ry;exact eq_str (Ay I q Jo)
  | _=>exact absurd (show false=true from hs) Bool.false_ne_true
 | byt i=>
  obtain ⟨t,rfl⟩:=rx
  cases y with
  | byt j=>obtain ⟨t',rfl⟩:=ry;exact PySem.W.eq_bytes (Ay I q Jz)
  | _=>exact absurd (show false=true from hs) Bool.false_ne_true
 | _=>cases y <;> exact absurd (show false=true from hs) Bool.false_ne_true
theorem Nc:OpR X (compareOp .NotEq) rNe:= by
 intro pins s σ H x y v u Q I rx ry h
 obtain ⟨hs,q⟩:=h
 cases x with
 | non=>
  cases rx
  cases y with
  | non=>cases ry;exact PySem.EqNone.ne_none_none (Ay I q (by simp))
  | bl j=>cases ry;exact PySem.EqNone.ne_none_bool (Ay I q (by simp))
  | int j=>obtain ⟨t',rfl⟩:=ry;exact PySem.EqNone.ne_none_int (Ay I q (by simp))
  | str j=>obtain ⟨t',rfl⟩:=ry;exact PySem.EqNone.ne_none_str (Ay I q (by simp))
  | _=>exact absurd (show false=true from hs) Bool.false_ne_true
 | bl i=>
  cases rx
  cases y with
  | non=>cases ry;exact PySem.EqNone.ne_bool_none (Ay I q (by simp))
  | bl j=>cases ry;exact ne_bool (Ay I q (congrArg not Mg))
  | str j=>obtain ⟨t',rfl⟩:=ry;exact PySem.EqMixed.ne_bool_str (Ay I q (by simp))
  | _=>exact absurd (show false=true from hs) Bool.false_ne_true
 | int i=>
  obtain ⟨t,rfl⟩:=rx
  cases y with
  | non=>cases ry;exact PySem.EqNone.ne_int_none (Ay I q (by simp))
  | int j=>obtain ⟨t',rfl⟩:=ry;exact ne_int (Ay I q (congrArg not Kh))
  | str j=>obtain ⟨t',rfl⟩:=ry;exact PySem.EqMixed.ne_int_str (Ay I q (by simp))
  | _=>exact absurd (show false=true from hs) Bool.false_ne_true
 | str i=>
  obtain ⟨t,rfl⟩:=rx
  cases y with
  | non=>cases ry;exact PySem.EqNone.ne_str_none (Ay I q (by simp))
  | bl j=>cases ry;exact PySem.EqMixed.ne_str_bool (Ay I q (by simp))
  | int j=>obtain ⟨t',rfl⟩:=ry;exact PySem.EqMixed.ne_str_int (Ay I q (by simp))
  | str j=>obtain ⟨t',rfl⟩:=ry;exact ne_str (Ay I q (congrArg not Jo))
  | _=>exact absurd (show false=true from hs) Bool.false_ne_true
 | byt i=>
  obtain ⟨t,rfl⟩:=rx
  cases y with
  | byt j=>obtain ⟨t',rfl⟩:=ry;exact PySem.W.ne_bytes (Ay I q (congrArg not Jz))
  | _=>exact absurd (show false=true from hs) Bool.false_ne_true
 | _=>cases y <;> exact absurd (show false=true from hs) Bool.false_ne_true
theorem Pr:OpR X (compareOp .Lt) (rI0 fun i j=>.bl (decide (i<j))):=OJ fun _ _ _ _ _ _ _ q=>lt_int q
theorem DT:OpR X (compareOp .LtE) (rI0 fun i j=>.bl (decide (i<=j))):=OJ fun _ _ _ _ _ _ _ q=>le_int q
theorem O8:OpR X (compareOp .Gt) (rI0 fun i j=>.bl (decide (j<i))):=OJ fun _ _ _ _ _ _ _ q=>gt_int q
theorem Ob:OpR X (compareOp .GtE) (rI0 fun i j=>.bl (decide (j<=i))):=OJ fun _ _ _ _ _ _ _ q=>ge_int q
theorem A2 (b:Expr) {op:CmpOp} (h:op ≠ .In:=by decide) (h2:op ≠ .NotIn:=by decide):behindInMarks op b=false:= by
 have e1:(op==CmpOp.In)=false:=by cases op <;> first | rfl | exact absurd rfl h
 have e2:(op==CmpOp.NotIn)=false:=by cases op <;> first | rfl | exact absurd rfl h2
 cases b <;> simp [behindInMarks,e1,e2]
theorem Ea {op:CmpOp} {r:R2} (ho:OpR X (compareOp op) r) (ha:PE X a ta) (hb:PE X b tb) (hm:behindInMarks op b=false):PE X (.Compare a [op] [b] pos) (tOp r ta tb):= by
 intro pins s σ H Q I h
 exact wpAny_Compare1 (Pg ha hb I h fun v u s2 x y H2 I2 rx ry q=>ho pins s2 σ H2 x y v u Q I2 rx ry q) hm
def Ov (t:TE):TT:=fun σ H Q=>t σ H fun x H1=>XBl x H1 Q
theorem AT {op:CmpOp} {r:R2} (ho:OpR X (compareOp op) r) (ha:PE X a ta) (hb:PE X b tb) (hm:behindInMarks op b=false):PT X (.Compare a [op] [b] pos) (Ov (tOp r ta tb)):= by
 intro pins s σ H Q I h
 refine wpAny_isTrue_Compare1 (thn (ha pins s σ H _ I h) fun v s1 ⟨x,H1,I1,r1,q1⟩=>thn (hb pins s1 σ H1 _ I1 q1) fun u s2 ⟨y,H2,I2,r2,q2⟩=>
  thn (ho pins s2 σ H2 x y v u _ I2 r1 r2 q2) fun c s3 ⟨z,H3,I3,r3,k,e,q3⟩=>?_) hm
 subst e
 cases r3
 exact wpAny_truthy_bool ⟨H3,I3,q3⟩
def Mn (r r':R2) (ta tb tc:TE):TE:=fun σ H Q=>ta σ H fun x H1=>tb σ H1 fun y H2=>r x y H2 fun z H3=>XBl z H3 fun k H3=>if k=true then tc σ H3 fun w' H4=>r' y w' H4 Q else Q (.bl false) H3
theorem Lj {op op':CmpOp} {r r':R2} (ho:OpR X (compareOp op) r) (ho':OpR X (compareOp op') r') (ha:PE X a ta) (hb:PE X b tb) (hc:PE X c tc)
  (hm:lastMarks [op,op'] [b,c]=false:=by with_unfolding_all rfl):PE X (.Compare a [op,op'] [b,c] pos) (Mn r r' ta tb tc):= by
 intro pins s σ H Q I h
 refine Compare_chain (thn (ha pins s σ H _ I h) fun v s1 ⟨x,H1,I1,r1,q1⟩=>chain_link (thn (hb pins s1 σ H1 _ I1 q1) fun u s2 ⟨y,H2,I2,r2,q2⟩=>
  thn (ho pins s2 σ H2 x y v u _ I2 r1 r2 q2) fun d s3 ⟨z,H3,I3,r3,k,e,q3⟩=>?_)) hm
 subst e
 cases r3
 refine wpAny_truthy_bool ?_
 cases k with
 | false=>exact ite_ff ⟨.bl false,H3,I3,rfl,q3⟩
 | true=>exact ite_tt (chain_last (thn (hc pins s3 σ H3 _ I3 q3) fun w' s4 h948=>by refine Ar h948 fun z' H4 I4 r4 q4=>?_;exact ho' pins s4 σ H4 y z' u w' Q I4 r2 r4 q4))
theorem DR {op op':CmpOp} {r r':R2} (ho:OpR X (compareOp op) r) (ho':OpR X (compareOp op') r') (ha:PE X a ta) (hb:PE X b tb) (hc:PE X c tc)
  (hm:lastMarks [op,op'] [b,c]=false:=by with_unfolding_all rfl):PT X (.Compare a [op,op'] [b,c] pos) (Ov (Mn r r' ta tb tc)):= by
 intro pins s σ H Q I h
 refine isTrue_chain (thn (ha pins s σ H _ I h) fun v s1 ⟨x,H1,I1,r1,q1⟩=>test_link (thn (hb pins s1 σ H1 _ I1 q1) fun u s2 ⟨y,H2,I2,r2,q2⟩=>
  thn (ho pins s2 σ H2 x y v u _ I2 r1 r2 q2) fun d s3 ⟨z,H3,I3,r3,k,e,q3⟩=>?_)) hm
 subst e
 cases r3
 refine wpAny_truthy_bool ?_
 cases k with
 | false=>
  obtain ⟨k',e',q'⟩:=q3
  cases e'
  exact ite_ff ⟨H3,I3,q'⟩
 | true=>
  refine ite_tt (test_last (thn (hc pins s3 σ H3 _ I3 q3) fun w' s4 h950=>?_))
  refine Ar h950 fun z' H4 I4 r4 q4=>?_
  refine thn (ho' pins s4 σ H4 y z' u w' _ I4 r2 r4 q4) fun d' s5 h951=>?_
  refine Ar h951 fun z2 H5 I5 r5 r90=>?_;obtain ⟨k2,e2,q5⟩:=r90
  subst e2
  cases r5
  exact wpAny_truthy_bool ⟨H5,I5,q5⟩
def PB (K:PySem.W.Frag) (x:V) (H:Hp) (k:Bool):Prop:=
 match x with
 | .non=>k=false
 | .bl b=>k=b
 | .int i=>k=(i != 0)
 | .str y=>y.length<=sizeLine/\k=((y.length:Int) != 0)
 | .byt y=>y.size<=sizeLine/\k=((y.size:Int) != 0)
 | .ref p=>(∃ xs,SqL K H p xs/\k = !xs.isEmpty)\/(∃ xs,SqT K H p xs/\k = !xs.isEmpty) \/ ∃ kvs,H p=some (.dK kvs)/\k = !kvs.isEmpty
 | _=>False
theorem I0 {κ:Type} {kvs:List (κ × V)} {vs:List (κ × Value)} (r:KV kvs vs):(!vs.isEmpty) = !kvs.isEmpty:= by
 cases r <;> rfl
theorem EO {xs:List V} {its:List Value} (r:AH xs its):(!its.toArray.isEmpty) = !xs.isEmpty:= by
 cases r <;> simp
theorem HP:(sizeLine:Nat)<2 ^ 63:=by rw[sizeLine_eq];decide
theorem Od:QA X (fun x H Q=>∃ k,PB X.K x H k/\Q k H):= by
 intro pins s σ H x v Q I rx h
 obtain ⟨k,e,q⟩:=h
 have hl:=HP
 have hs:sizeLine=16777216:=sizeLine_eq
 cases x with
 | non=>
  cases rx
  have e':k=false:=e
  subst e'
  exact truthy_none ⟨H,I,q⟩
 | bl b=>
  cases rx
  have e':k=b:=e
  subst e'
  exact wpAny_truthy_bool ⟨H,I,q⟩
 | int i=>
  obtain ⟨t,rfl⟩:=rx
  have e':k=(i != 0):=e
  subst e'
  exact PySem.P.truthy_int ⟨H,I,q⟩
 | str y=>
  obtain ⟨t,rfl⟩:=rx
  obtain ⟨hy,e'⟩:y.length<=sizeLine/\k=((y.length:Int) != 0):=e
  subst e'
  exact PySem.P.truthy_str (by lia) ⟨H,I.tok _,q⟩
 | byt y=>
  obtain ⟨t,rfl⟩:=rx
  obtain ⟨hy,e'⟩:y.size<=sizeLine/\k=((y.size:Int) != 0):=e
  subst e'
  exact PySem.W.truthy_bytes (by lia) ⟨H,I.tok _,q⟩
 | ref p=>
  cases rx
  have e':(∃ xs,SqL X.K H p xs/\k = !xs.isEmpty)\/(∃ xs,SqT X.K H p xs/\k = !xs.isEmpty) \/ ∃ kvs,H p=some (.dK kvs)/\k = !kvs.isEmpty:=e
  rcases e' with ⟨xs,hx,e'⟩ | ⟨xs,hx,e'⟩ | ⟨kvs,hx,e'⟩
  ·subst e'
   obtain ⟨its,r,pl,hz⟩:=I.list hx
   have hlen:=r.length
   exact wpAny_truthy_list pl.isList (by simp only [List.size_toArray];lia) ⟨H,I.tok _,by rw[EO r];exact q⟩
  ·subst e'
   obtain ⟨its,r,pl,hz⟩:=I.tuple hx
   have hlen:=r.length
   exact truthy_tuple pl (by simp only [List.size_toArray];lia) ⟨H,I.tok _,by rw[EO r];exact q⟩
  ·subst e'
   obtain ⟨hz,hS,vs,r,m⟩:kvs.length<=sizeLine/\(p==sysModules)=false /\ ∃ vs,KV kvs vs/\s.heap.DictOf (A0 X.prog X.w) p vs:=I.hok p _ hx
   have hlen:kvs.length=vs.length:=Paired.length r
   exact wpAny_truthy_dict hS m (by lia) ⟨H,I.tok _,by rw[I0 r];exact q⟩
 | _=>exact (show False from e).elim
theorem LD (ha:PE X a ta) (he : ∀ whole,isTrue a X.env whole=(do let v <- whole;standAt a.pos;holding [v] (truthy v))) :
  PT X a (fun σ H Q=>ta σ H fun x H'=>∃ k,PB X.K x H' k/\Q k H'):= by
 intro pins s σ H Q I h
 exact isTrue_plain (thn (ha pins s σ H _ I h) fun v s1 h952=>by refine Ar h952 fun x H1 I1 r1 q1=>?_;exact Od pins s1 σ H1 x v Q I1 r1 q1) (he _)
theorem FL {x:V} {us:List Value} (r:AH [x] us) : ∃ u,us=[u]/\AR x u:= by
 cases r with
 | cons r1 r2=>cases r2;exact ⟨_,rfl,r1⟩
theorem M4 {x y:V} {us:List Value} (r:AH [x,y] us) : ∃ u w',us=[u,w']/\AR x u/\AR y w':= by
 cases r with
 | cons r1 r2=>
  cases r2 with
  | cons r3 r4=>cases r4;exact ⟨_,_,rfl,r1,r3⟩
theorem KS (hc : X.calm = true) : AO X (.builtin "max") (fun xs H Q=>∃ i j,xs = [.int i,.int j] /\ Q (.int (if j > i then j else i)) H):= by
 intro pins s σ H xs us Q I r h
 obtain ⟨i,j,rfl,q⟩:=h
 obtain ⟨u,w',rfl,⟨t,rfl⟩,⟨t',rfl⟩⟩:=M4 r
 refine max_two_ints (I.ok.hd hc) fun h' tk k=>⟨_,H,I.kept k,?_,q⟩
 by_cases hj:j > i
 ·rw[if_pos hj,if_pos hj];exact ⟨_,rfl⟩
 ·rw[if_neg hj,if_neg hj];exact ⟨_,rfl⟩
theorem JN (hc : X.calm = true) : AO X (.builtin "min") (fun xs H Q=>∃ i j,xs = [.int i,.int j] /\ Q (.int (if j < i then j else i)) H):= by
 intro pins s σ H xs us Q I r h
 obtain ⟨i,j,rfl,q⟩:=h
 obtain ⟨u,w',rfl,⟨t,rfl⟩,⟨t',rfl⟩⟩:=M4 r
 refine min_two_ints (I.ok.hd hc) fun h' tk k=>⟨_,H,I.kept k,?_,q⟩
 by_cases hj:j<i
 ·rw[if_pos hj,if_pos hj];exact ⟨_,rfl⟩
 ·rw[if_neg hj,if_neg hj];exact ⟨_,rfl⟩
end
end L2
namespace L2
open PySem PySem.Spec PyProof.Rows
structure Ps (h:Heap) (x dx C:Addr) (mA:Str->Option Value):Prop where
 obj:h.get? x=some (PySem.W.instObj C dx)
 ns:h.Ns1 dx mA
 ne:dx≠x
theorem Kl {h:Heap} {dx:Addr} {mA:Str->Option Value} (n:h.Ns1 dx mA) : ∃ od,h.get? dx=some od /\ ∀ name,PySem.W.lookIn name od=some (mA name):= by
 refine Ks n fun o es ep ho hd hk _ hm=>?_
 refine ⟨o,ho,fun name=>?_⟩
 have e:=hm name
 unfold nsFind findBy at e
 rw[<- Array.find?_toList] at e
 unfold PySem.W.lookIn
 rw[hd]
 dsimp only
 split
 ·rename_i y q
  rw[q] at e
  exact congrArg some e
 ·rename_i q
  rw[q] at e
  have a:es.toList.any (·.refKey)=false:= by
   rw[List.any_eq_false]
   intro y hy
   refine xE2 (hk y (Array.mem_toList_iff.mp hy)) fun z t hkey=>?_
   simp [DictEntry.refKey,hkey]
  have a' : ¬ es.toList.any (·.refKey)=true:=by rw[a];exact Bool.false_ne_true
  rw[if_neg a']
  exact congrArg some e
theorem Ps.look {h:Heap} {x dx C:Addr} {mA:Str->Option Value} (I:Ps h x dx C mA) : ∃ od,PySem.W.InstAt h x (PySem.W.instObj C dx) C (some od) /\ ∀ name,PySem.W.lookIn name od=some (mA name):=
 let ⟨od,ho,hl⟩:=Kl I.ns
 ⟨od,⟨I.obj,rfl,rfl,ho⟩,hl⟩
theorem Kz.some_of {v:V} {o:Option Value} (r:Kz (some v) o) : ∃ u,o=some u/\AR v u:= by
 cases o with
 | none=>exact (show False from r).elim
 | some u=>exact ⟨u,rfl,r⟩
section
variable {P:Program} {w:World} {H H':Hp} {h h':Heap} {a C dx:Addr} {fs fs':List (Str × V)}
theorem MX (hok:HOk P w H h) (e:H a=some (.ins C dx fs)) : ∃ mA,Ps h a dx C mA/\(∀ f,Kz (fs.lookup f) (mA f))/\PySem.Within mA (fs.map (·.1))/\fs.length<=1000/\H dx=some (.own a):= by
 refine xA4 ((show AV P w H h a (.ins C dx fs) from hok a _ e)) fun d z ne ob m934=>AM m934 fun mA n r q=>?_
 exact ⟨mA,⟨ob,n,ne⟩,r,q,z,d⟩
end
structure Cls (K:PySem.W.Frag) (C:Addr):Prop where
 pg:PySem.W.plainGet K C Str.empty=true
 hd:PySem.W.hasDictIn K C=true
 po:PySem.W.plainOver K C=true
 sa : PySem.W.findIn K (.ref C) "__setattr__" = some (some (.builtin "object.__setattr__"))
theorem Cls.get {K:PySem.W.Frag} {C:Addr} (c:Cls K C) (f:Str):PySem.W.plainGet K C f=true:=c.pg
section
variable {X:Cx} {pins:List (Addr × Obj)} {σ:St} {H:Hp} {s:Shared} {A:Around} {E:Value->Shared->Prop} {Q:Value->Shared->Prop} {c:Value} {b:Bool}
inductive FV (K:PySem.W.Frag) (H:Hp):V->Value->Prop where
 | non : FV K H .non (.type "NoneType")
 | bl (x : Bool) : FV K H (.bl x) (.type "bool")
 | int (i : Int) : FV K H (.int i) (.type "int")
 | str (x : Str) : FV K H (.str x) (.type "str")
 | flt (x : UInt64) : FV K H (.flt x) (.type "float")
 | lst {a : Addr} {xs : List V} (e : H a = some (.lst xs)) : FV K H (.ref a) (.type "list")
 | frz {a : Addr} {o : Obj} {xs : List V} (e : H a = some (.frz o (.lst xs))) : FV K H (.ref a) (.type "list")
 | tup {a : Addr} {xs : List V} (e : H a = some (.tup xs)) : FV K H (.ref a) (.type "tuple")
 | dK {a : Addr} {kvs : List (Key × V)} (e : H a = some (.dK kvs)) : FV K H (.ref a) (.type "dict")
 | dT {a : Addr} {kvs : List (List Key × V)} (e : H a = some (.dT kvs)) : FV K H (.ref a) (.type "dict")
 | ins {a C dx : Addr} {fs : List (Str × V)} (e : H a = some (.ins C dx fs)) (cl : Cls K C) (ha : PySem.W.findIn K (.ref C) "__class__" = some (some (.builtin "object.__class__")))
   (hn : PySem.W.specialIn K (.builtin "object.__class__") "__get__" = some (some (.builtin "getset_descriptor.__get__"))) (htk : PySem.W.takesIn K (.builtin "object.__class__") = some true)
   (hm : PySem.W.mroIn K C (.type "object") = some true) : FV K H (.ref a) (.ref C)
theorem JA {x:V} {u t:Value} (I:Inv X pins σ H s) (rx:AR x u) (ty:FV X.K H x t) (e:PySem.W.kitOne X.K t c=some b) (h : ∀ tk,Q (.bool b) { s with toks:=tk }) :
  wpAny (model X.prog X.w) A (call (.builtin "isinstance") [u,c]) Q E s:= by
 cases ty with
 | non=>cases (show u=Value.none from rx);exact PySem.W.kia_one PySem.W.kitx_none I.kIn True.intro e (fun z=>nomatch z) h
 | bl y=>cases (show u=Value.bool y from rx);exact PySem.W.kia_one PySem.W.kitx_bool I.kIn True.intro e (fun z=>nomatch z) h
 | int i=>refine xE ((show ∃ t,u=Value.int i t from rx)) fun t q=>?_;cases q;exact PySem.W.kia_one PySem.W.kitx_int I.kIn True.intro e (fun z=>nomatch z) h
 | str y=>refine xE ((show ∃ t,u=Value.str y t from rx)) fun t q=>?_;cases q;exact PySem.W.kia_one PySem.W.kitx_str I.kIn True.intro e (fun z=>nomatch z) h
 | flt y=>refine xE ((show ∃ t,u=Value.float y t from rx)) fun t q=>?_;cases q;exact PySem.W.kia_one PySem.W.kitx_float I.kIn True.intro e (fun z=>nomatch z) h
 | @lst a xs ea=>
  cases (show u=Value.ref a from rx)
  refine xA ((show AV X.prog X.w H s.heap a (.lst xs) from I.hok a _ ea)) fun _ m940=>Ct m940 fun _ n _ h1=>?_
  exact PySem.W.kia_one PySem.W.kitx_list I.kIn ⟨_,h1,rfl⟩ e (fun z=>nomatch z) h
 | @frz a ob xs ea=>
  cases (show u=Value.ref a from rx)
  refine xA2 ((show AV X.prog X.w H s.heap a (.frz ob (.lst xs)) from I.hok a _ ea)) fun _ _ m941=>Ct m941 fun _ n _ h1=>?_
  exact PySem.W.kia_one PySem.W.kitx_list I.kIn ⟨_,h1,rfl⟩ e (fun z=>nomatch z) h
 | @tup a xs ea=>
  cases (show u=Value.ref a from rx)
  refine xA ((show AV X.prog X.w H s.heap a (.tup xs) from I.hok a _ ea)) fun _ m942=>xEA m942 fun _ _ p=>?_
  refine AM p fun o h1 h2 _=>?_
  exact PySem.W.kia_one PySem.W.kitx_tuple I.kIn ⟨o,h1,h2⟩ e (fun z=>nomatch z) h
 | @dK a kvs ea=>
  cases (show u=Value.ref a from rx)
  refine xA2 ((show AV X.prog X.w H s.heap a (.dK kvs) from I.hok a _ ea)) fun _ _ m943=>xEA m943 fun vs _ p=>?_
  refine Ed p fun o es ep h1 h2 _=>?_
  exact PySem.W.kia_one PySem.W.kitx_dict I.kIn ⟨o,h1,h2.1⟩ e (fun z=>nomatch z) h
 | @dT a kvs ea=>
  cases (show u=Value.ref a from rx)
  refine xA2 ((show AV X.prog X.w H s.heap a (.dT kvs) from I.hok a _ ea)) fun _ _ m944=>xEA m944 fun xs _ m945=>Ed m945 fun o es ep h1 h2 _=>?_
  exact PySem.W.kia_one PySem.W.kitx_dict I.kIn ⟨o,h1,h2.1⟩ e (fun z=>nomatch z) h
 | @ins a C dx fs ea cl ha hn htk hm=>
  cases (show u=Value.ref a from rx)
  refine xEA (MX I.hok ea) fun mA O _=>?_
  refine xEA O.look fun od J _=>?_
  exact PySem.W.kia_one (PySem.W.kitx_own (cl.get _) cl.hd ha hn htk hm) I.kIn J e (fun z=>nomatch z) h
end
end L2
namespace L2
open PySem PySem.Spec PyProof.Rows
structure Ee (k:Nat) (A:Around):Prop where
 hd:A.handled=none
 dp:A.depth+3*k+5<recursionLimit
 un:A.units+16*k+200<cLine
theorem Ee.mono {j k:Nat} {A:Around} (r:Ee k A) (h:j<=k):Ee j A:=⟨r.hd,by have:=r.dp;lia,by have:=r.un;lia⟩
theorem Ee.deeper {k:Nat} {A:Around} (r:Ee (k+1) A) (env:Env):Ee k (A.deeper env):=
 ⟨r.hd,by have:=r.dp;show A.depth+1+3*k+5<_;lia,by have:=r.un;show A.units+3+16*k+200<_;lia⟩
theorem Ee.depth {k:Nat} {A:Around} (r:Ee k A):A.depth<recursionLimit:=by have:=r.dp;lia
theorem Ee.units {k:Nat} {A:Around} (r:Ee k A):A.units+64<cLine:=by have:=r.un;lia
theorem Ee.units0 {k:Nat} {A:Around} (r:Ee k A):A.units<cLine:=by have:=r.un;lia
def Qu:TA:=fun _ H Q=>Q [] H
def O4 (ta:TE) (tr:TA):TA:=fun σ H Q=>ta σ H fun x H1=>tr σ H1 fun xs H2=>Q (x::xs) H2
section
variable {X:Cx} {e:Expr} {es:List Expr} {te:TE} {t:TA} {pos:Pos}
theorem Ac:PA X [] Qu:=fun _ _ _ _ H Q I h=>Calls.spliced_nil ⟨[],H,I,.nil,h⟩
theorem Aa (ha:PE X e te) (hr:PA X es t) (hs:starEach (e::es) X.env=(false,eval e X.env)::starEach es X.env:=by rfl):PA X (e::es) (O4 te t):= by
 intro pos pins s σ H Q I h
 rw[hs]
 show wpAny _ _ (spliced ((false,eval e X.env)::backTo pos (starEach es X.env))) _ _ s
 refine Calls.spliced_cons (thn (ha pins s σ H _ I h) fun u s1 h961=>?_)
 refine Ar h961 fun x H1 I1 r1 q1=>?_
 exact thn (hr pos pins s1 σ H1 _ I1 q1) fun us s2 h962=>by refine Ar h962 fun xs H2 I2 r2 q2=>?_;exact ⟨x::xs,H2,I2,.cons r1 r2,q2⟩
def Qy (t:TA):TE:=fun σ H Q=>t σ H fun xs H1=>xs.length<=sizeLine /\ ∀ p,H1 p=none->Q (.ref p) (upd H1 p (.tup xs))
def Qr (t:TA):TE:=fun σ H Q=>t σ H fun xs H1=>xs.length<=sizeLine /\ ∀ p,H1 p=none->Q (.ref p) (upd H1 p (.lst xs))
theorem GG {x1} (h:PA X es t):PE X (.Tuple es x1 pos) (Qy t):= by
 intro pins s σ H Q I hq
 refine wpAny_Tuple_spliced (thn (h pos pins s σ H _ I hq) fun us s1 h963=>?_)
 refine CI h963 fun xs H1 I1 r z q=>?_
 refine ⟨by rw[<- r.length];exact z,?_⟩
 have hf:H1 s1.heap.objs.size=none:=I1.hok.fresh (Nat.le_refl _)
 refine ⟨.ref s1.heap.objs.size,upd H1 s1.heap.objs.size (.tup xs),I1.laid (t':=s1.toks) (fun b u e=>Heap.get?_push_of_some _ e) (Nat.le_refl _) ?_,rfl,q _ hf⟩
 exact ⟨z,us,r,⟨_,Heap.get?_push_size _ rfl,rfl,_,rfl⟩⟩
theorem Be (h:PA X es t):PE X (.List es pos) (Qr t):= by
 intro pins s σ H Q I hq
 refine wpAny_List_spliced (thn (h pos pins s σ H _ I hq) fun us s1 h964=>?_)
 refine CI h964 fun xs H1 I1 r z q=>?_
 refine ⟨by rw[<- r.length];exact z,?_⟩
 have hf:H1 s1.heap.objs.size=none:=I1.hok.fresh (Nat.le_refl _)
 refine ⟨.ref s1.heap.objs.size,upd H1 s1.heap.objs.size (.lst xs),I1.laid (t':=s1.toks) (fun b u e=>Heap.get?_push_of_some _ e) (Nat.le_refl _) ?_,rfl,q _ hf⟩
 exact ⟨z,us,0,r,Heap.get?_push_size _ rfl⟩
end
noncomputable abbrev Sp:=List V->Hp->VK->XK->Prop
noncomputable abbrev CXT:=List Env->Hp->Shared->XK->Value->Shared->Prop
structure OK (P:Program) (w:World) (K:PySem.W.Frag) (mg:Str->Option Value) (base:Heap) (A:Around) (outer:List Env) (s:Shared) (H:Hp):Prop where
 frames:A.frames=some outer
 mod:Mod K mg base
 bs : ∀ b o,base.get? b=some o->s.heap.get? b=some o/\H b=none
 bsz:base.objs.size<=s.heap.objs.size
 funs:s.heap.FunFrames base outer
 frf : ∀ b ∈ frs outer,H b=none
 hok:HOk P w H s.heap
 bare:AllBare s.gens
def CE (outer:List Env) (P:Program) (w:World) (H:Hp) (s:Shared) (Q:VK) (u:Value) (s':Shared):Prop:=
 ∃ v H',s'.os=s.os/\AllBare s'.gens/\Un (frs outer) [] H H' s.heap s'.heap/\HOk P w H' s'.heap/\AR v u/\Q v H'
def CR (CX:CXT) (outer:List Env) (P:Program) (w:World) (H:Hp) (s:Shared) (Q:VK) (E:XK) (r:Result) (s':Shared):Prop:=
 match r with
 | .ok (.ret u)=>CE outer P w H s Q u s'
 | .ok _=>False
 | .error e=>CX outer H s E e s'
structure BQ (P:Program) (w:World) (K:PySem.W.Frag) (mg:Str->Option Value) (base:Heap) (CX:CXT) (k:Nat) (f:Addr) (fd:FuncData) (ps:List Str) (sp:Sp):Prop where
 len : ∀ vs H Q E,sp vs H Q E->vs.length=ps.length
 run : ∀ (A:Around) (outer:List Env) (s:Shared) (H:Hp) (args:Args) (us:List Value) (vs:List V) (Q:VK) (E:XK),Ee k A->OK P w K mg base A outer s H->BindsTo s fd args (ps.zip us)->AH vs us->sp vs H Q E ->
  codeAny (model P w) A (.call (.ref f) args) (CR CX outer P w H s Q E) s
section
variable {X:Cx} {pins:List (Addr × Obj)} {σ:St} {H:Hp} {s s':Shared}
theorem Inv.env0 (I:Inv X pins σ H s):OK X.prog X.w X.K X.mg X.base X.A X.stack s H:=
 ⟨I.ok.frames,I.ok.mod,I.bs,Nat.le_trans I.ok.bsz I.sz,I.stack,I.stkFree,I.hok,I.bare⟩
theorem Inv.after {Q:VK} {u:Value} (I:Inv X pins σ H s) (h:CE X.stack X.prog X.w H s Q u s'):EP X pins σ Q u s':= by
 refine NX h fun v H' os bare un hok r q=>?_
 obtain ⟨hh,g,d,t,os'⟩:=s'
 obtain rfl:os'=s.os:=os
 exact ⟨v,H',I.call (h':=hh) (g':=g) (d':=d) (t':=t) (ch:=[]) un hok bare (fun b z=>absurd z (by simp)),r,q⟩
end
def NA (sp:Sp) (dvs:List V) (E:XK) (t:TA):TE:=fun σ H Q=>t σ H fun vs H1=>sp (vs++dvs) H1 Q E
def Ha (K:PySem.W.Frag) (fd:FuncData) (ps:List Str) (ds:List Value):Prop:=
 ∀ (s:Shared) (us:List Value),K.In s.heap->(us++ds).length=ps.length->BindsTo s fd ⟨us,[]⟩ (ps.zip (us++ds))
theorem Ha.all {K:PySem.W.Frag} {fd:FuncData} {ps:List Str} (h : ∀ us:List Value,us.length=ps.length->bindArgs fd ⟨us,[]⟩=pure (ps.zip us)):Ha K fd ps []:=fun s us _ hl=>by
 rw[List.append_nil] at hl ⊢
 exact .of_eq (h us hl)
def Kv (CX:CXT) (X:Cx) (E:XK):Prop:=∀ (pins:List (Addr × Obj)) (σ:St) (H:Hp) (s:Shared) (e:Value) (s':Shared),Inv X pins σ H s->CX X.stack H s E e s'->X.xe e s'
section
variable {X:Cx} {CX:CXT} {k:Nat} {f C:Addr} {fd:FuncData} {ps:List Str} {sp:Sp} {dvs:List V} {ds:List Value} {E:XK} {x m:Str} {p pos apos:Pos} {e o:Expr} {es:List Expr} {ta:TE} {t:TA}
theorem OB {pins:List (Addr × Obj)} {σ:St} {H:Hp} {s:Shared} {Q:VK} {us:List Value} {vs:List V} (F:BQ X.prog X.w X.K X.mg X.base CX k f fd ps sp) (hr:Ee k X.A) (hb:Ha X.K fd ps ds) (hd:AH dvs ds) (hx:Kv CX X E)
  (I:Inv X pins σ H s) (r:AH vs us) (h:sp (vs++dvs) H Q E):wpAny (model X.prog X.w) X.A (call (.ref f) us) (EP X pins σ Q) X.xe s:= by
 have r2:AH (vs++dvs) (us++ds):=r.append hd
 have hl:(us++ds).length=ps.length:=by rw[<- r2.length];exact F.len _ _ _ _ h
 refine wpAny_call (codeAny_mono (F.run X.A X.stack s H ⟨us,[]⟩ (us++ds) (vs++dvs) Q E hr I.env0 (hb s us I.kIn hl) r2 h) fun r s' hq=>?_)
 cases r with
 | error e=>exact hx pins σ H s e s' I hq
 | ok fl=>
  cases fl with
  | ret u=>exact I.after hq
  | next=>exact False.elim hq
  | brk=>exact False.elim hq
  | cont=>exact False.elim hq
theorem Mz (F:BQ X.prog X.w X.K X.mg X.base CX k f fd ps sp) (hr:Ee k X.A) (hg:Gl X x) (hm:X.mg x=some (.ref f)) (hk:PySem.W.keepIn X.K (.ref f)=true) (hb:Ha X.K fd ps ds) (hd:AH dvs ds) (hx:Kv CX X E)
  (ha : PA X (e :: es) t) (hdb : (x == ("__debug__" : Str)) = false:=by decide) (he : starEach (e :: es) X.env = (false,eval e X.env) :: starEach es X.env:=by rfl) (hpl : (backTo pos (starEach es X.env)).any (·.1) = false:=by rfl) :
  PE X (.Call (.Name x p) (e::es) [] pos) (NA sp dvs E t):= by
 intro pins s σ H Q I h
 refine wpAny_Call_Name_kw (JM I hg hm ?_ hdb)
 refine PySem.W.callWith_K (h₀:=X.base) I.ok.mod.kin hk (thn (ha pos pins s σ H _ I h) fun us s1 h965=>?_) he hpl
 refine Ar h965 fun vs H1 I1 r q=>?_
 refine ⟨I1.kIn,?_⟩
 exact OB F hr hb hd hx I1 r q
end
structure Aq (N P:List Str) (sc:Scope):Prop where
 kind:sc.kind = .function
 co:sc.isCoroutine=false
 gen:sc.isGenerator=false
 nd:N.Nodup
 pre:N.take P.length=P
 par : ∀ x ∈ P,sc.names.lookup x=some .local\/sc.names.lookup x=some .cell
 nofree : ∀ y ∈ sc.names,y.2 ≠ .free
theorem GL {kindOf:Str->Option NameKind} {x:Str} : ∀ {binds:List (Str × Value)} {m:Str->Option Value},(∀ v,(x,v) ∉ binds)->bindL kindOf binds m x=m x
 | [],_,_=>rfl
 | (n,v)::r,m,h=>by
  unfold bindL
  rw[GL fun w hw=>h w (List.mem_cons_of_mem _ hw)]
  split
  ·have:x≠n:=by rintro rfl;exact h v List.mem_cons_self
   simp [this]
  ·rfl
theorem Gk {kindOf:Str->Option NameKind} {x:Str} : ∀ {binds:List (Str × Value)} {m:Str->Option Value},(∀ v,(x,v) ∉ binds)->bindC kindOf binds m x=m x
 | [],_,_=>rfl
 | (n,v)::r,m,h=>by
  unfold bindC
  rw[Gk fun w hw=>h w (List.mem_cons_of_mem _ hw)]
  split
  ·rfl
  ·have:x≠n:=by rintro rfl;exact h v List.mem_cons_self
   simp [this]
theorem Gr {kindOf:Str->Option NameKind} {x:Str} {v:Value} : ∀ {P:List Str} {vs:List Value} {i:Nat} {m:Str->Option Value},P.Nodup->P[i]?=some x->vs[i]?=some v->kindOf x=some .local ->
  bindL kindOf (P.zip vs) m x=some v
 | [],_,_,_,_,h,_,_=>by simp at h
 | _::_,[],_,_,_,_,h,_=>by simp at h
 | p::P,w::vs,0,m,nd,h1,h2,hk=>by
  simp at h1 h2;subst h1;subst h2
  show bindL kindOf ((p,w)::P.zip vs) m p=_
  unfold bindL
  rw[GL fun v hv=>(List.nodup_cons.mp nd).1 (List.of_mem_zip hv).1,if_pos hk]
  simp
 | p::P,w::vs,i+1,m,nd,h1,h2,hk=>by
  show bindL kindOf ((p,w)::P.zip vs) m x=_
  unfold bindL
  exact Gr (i:=i) (List.nodup_cons.mp nd).2 (by simpa using h1) (by simpa using h2) hk
theorem GW {kindOf:Str->Option NameKind} {x:Str} {v:Value} : ∀ {P:List Str} {vs:List Value} {i:Nat} {m:Str->Option Value},P.Nodup->P[i]?=some x->vs[i]?=some v->kindOf x≠some .local ->
  bindC kindOf (P.zip vs) m x=some v
 | [],_,_,_,_,h,_,_=>by simp at h
 | _::_,[],_,_,_,_,h,_=>by simp at h
 | p::P,w::vs,0,m,nd,h1,h2,hk=>by
  simp at h1 h2;subst h1;subst h2
  show bindC kindOf ((p,w)::P.zip vs) m p=_
  unfold bindC
  rw[Gk fun v hv=>(List.nodup_cons.mp nd).1 (List.of_mem_zip hv).1,if_neg hk]
  simp
 | p::P,w::vs,i+1,m,nd,h1,h2,hk=>by
  show bindC kindOf ((p,w)::P.zip vs) m x=_
  unfold bindC
  exact GW (i:=i) (List.nodup_cons.mp nd).2 (by simpa using h1) (by simpa using h2) hk
noncomputable def FA (N:List Str) (vs:List V):St:=vs.map some++List.replicate (N.length-vs.length) none
noncomputable def MD (CX:CXT) (P:Program) (w:World) (K:PySem.W.Frag) (mg:Str->Option Value) (base:Heap) (N:List Str) (qual:Str) (scope:Scope) (f:Addr) (cd:Value) (A:Around) (outer:List Env) (s:Shared) (H:Hp) (E:XK):Cx where
 prog:=P
 w:=w
 K:=K
 mg:=mg
 base:=base
 A:=A.deeper (envOfC qual scope s.heap.objs.size f cd)
 N:=N
 s₀:=s
 H₀:=H
 env:=envOfC qual scope s.heap.objs.size f cd
 outer:=outer
 stack:=envOfC qual scope s.heap.objs.size f cd::outer
 ex:=[]
 calm:=true
 fn:=fun _=>true
 pn:=[]
 xe:=fun e s'=>wpAny (model P w) (A.deeper (envOfC qual scope s.heap.objs.size f cd)) (leaving (envOfC qual scope s.heap.objs.size f cd) e) (fun _ s''=>CX outer H s E e s'') (fun e' s''=>CX outer H s E e' s'') s'
theorem HS {sc:Scope} {n:Nat} {x:Str} (h:sc.names.lookup x=some .cell) : ∃ c,(cellsFrom n sc.names []).lookup x=some c:= by
 have q:=PySem.W.cellsFrom_some sc.names n [] (.inl h)
 exact Option.isSome_iff_exists.mp q
theorem KO {CX:CXT} {P:Program} {w:World} {K:PySem.W.Frag} {mg:Str->Option Value} {base:Heap} {N ps:List Str} {qual:Str} {scope:Scope} {f:Addr} {cd:Value} {A:Around} {outer:List Env} {s s1:Shared} {H:Hp} {E:XK} {us:List Value} {vs:List V}
  (S:Aq N ps scope) (hd:A.handled=none) (e0:OK P w K mg base A outer s H) (hl:vs.length=ps.length) (r:AH vs us)
  (x:InCallC s s.heap.objs.size (bindL (envOfC qual scope s.heap.objs.size f cd).kindOf (ps.zip us) fun _=>none) (cellsFrom (s.heap.objs.size+1) scope.names []) (bindC (envOfC qual scope s.heap.objs.size f cd).kindOf (ps.zip us) fun _=>none) s1) :
  Inv (MD CX P w K mg base N qual scope f cd A outer s H E) [] (FA N vs) H s1:= by
 have hpl:ps.length<=N.length:=by have:=congrArg List.length S.pre;rw[List.length_take] at this;lia
 refine Ct x.done fun h1 tk e90 hk=>?_;subst e90
 have noA : ∀ b:Addr,b ∉ (MD CX P w K mg base N qual scope f cd A outer s H E).ex:=fun b z=>absurd (show b ∈ ([]:List Addr) from z) (by simp)
 refine ⟨⟨e0.mod,S.kind,rfl,rfl,Nat.le_refl _,fun y z c h1 h2=>?_,fun y hy=>?_,fun y c _ h=>?_,fun _=>hd,Around.frames_deeper e0.frames,.inr ⟨rfl,rfl⟩,fun b z=>absurd z (noA b),e0.bs,e0.bsz,fun b _ _=>noA b,fun b z=>absurd z (noA b),e0.funs,e0.frf⟩,
  rfl,e0.bare,Un.kept hk,⟨_,x.toInCall.ns,fun i y v h1 h2 h3=>?_⟩,fun y c h=>⟨_,x.cell y c h⟩,e0.hok.fresh (Nat.le_refl _),fun y c h=>?_,fun p hp=>absurd (show p ∈ ([]:List (Addr × Obj)) from hp) (by simp),e0.hok.kept hk,?_⟩
 ·exact name_of_addr x.apart (PySem.mem_of_lookup h1) (PySem.mem_of_lookup h2)
 ·have hy:scope.names.lookup y=some .cell\/scope.names.lookup y=some .free:=hy
  refine Or.elim hy (fun hy=>?_) fun hy=>?_
  ·exact HS hy
  ·exact absurd rfl (S.nofree _ (PySem.mem_of_lookup hy))
 ·exact Nat.le_of_lt (x.above y c (PySem.mem_of_lookup h))
 ·have hi:i<vs.length:= by
   unfold FA at h2
   by_cases hi:i<vs.length
   ·exact hi
   ·rw[List.getElem?_append_right (by simpa using hi)] at h2
    rw[List.getElem?_replicate] at h2
    split at h2 <;> cases h2
  have ha:vs[i]?=some v:= by
   unfold FA at h2
   rw[List.getElem?_append_left (by simpa using hi),List.getElem?_map] at h2
   cases e:vs[i]? with
   | none=>rw[e] at h2;cases h2
   | some a=>rw[e] at h2;cases h2;rfl
  refine xEA (r.get ha) fun u hu rv=>?_
  have hp:ps[i]?=some y:= by
   rw[<- S.pre,List.getElem?_take_of_lt (by lia)];exact h1
  have ndP:ps.Nodup:=by rw[<- S.pre];exact S.nd.sublist (List.take_sublist _ _)
  refine ⟨u,rv,?_⟩
  refine Or.elim (S.par y (List.mem_of_getElem? hp)) (fun k=>?_) fun k=>?_
  ·exact .inl ⟨k,Gr ndP hp hu k⟩
  ·refine xE (HS (n:=s.heap.objs.size+1) k) fun c e=>?_
   refine .inr ⟨.inl k,c,e,?_⟩
   have q:=x.cell y c e
   rw[GW ndP hp hu (by show scope.names.lookup y≠_;rw[k];decide)] at q
   exact q
 ·exact e0.hok.fresh (Nat.le_of_lt (x.above y c (PySem.mem_of_lookup h)))
 ·unfold FA
  show _=N.length
  rw[List.length_append,List.length_map,List.length_replicate]
  lia
theorem N1 {CX:CXT} {P:Program} {w:World} {K:PySem.W.Frag} {mg:Str->Option Value} {base:Heap} {k:Nat} {f:Addr} {name qual:Str} {params:Arguments} {body:List Stmt} {scope:Scope} {dV kV doc pm cdv ct oc:Value} {an od:Option Addr}
  {osl:Array (Option Value)} {N ps:List Str} {sp:Sp} (lk:K.lookup f=some ⟨oc,od,.func (PySem.W.fnOf name qual params body scope dV kV doc pm an cdv ct),osl⟩) (hcd:PySem.W.codeIn K cdv qual=true) (S:Aq N ps scope)
  (len : ∀ vs H Q E,sp vs H Q E->vs.length=ps.length)
  (hbody : ∀ (A:Around) (outer:List Env) (s:Shared) (H:Hp) (vs:List V) (Q:VK) (E:XK),Ee k (A.deeper (envOfC qual scope s.heap.objs.size f cdv))->sp vs H Q E ->
   ∃ t,PSs (MD CX P w K mg base N qual scope f cdv A outer s H E) body t/\t { nx:=fun _ H'=>Q .non H',rt:=Q } (FA N vs) H) :
  BQ P w K mg base CX (k+1) f (PySem.W.fnOf name qual params body scope dV kV doc pm an cdv ct) ps sp:= by
 refine ⟨len,fun A outer s H args us vs Q E hr e0 hb r hsp=>?_⟩
 have hl:=len _ _ _ _ hsp
 have KX:K.In s.heap:=e0.mod.kin.keeps fun b o e=>(e0.bs b o e).1
 have lim:s.heap.NoLimit:=e0.mod.nolimit.keeps fun b o e=>(e0.bs b o e).1
 have hkind : ∀ y ∈ ps.zip us,scope.names.lookup y.1=some .local\/(scope.names.lookup y.1=some .cell/\((cellsFrom (s.heap.objs.size+1) scope.names []).lookup y.1).isSome=true):=fun ⟨n,v⟩ hy=>by
  refine Or.elim (S.par n (List.of_mem_zip hy).1) (fun q=>?_) fun q=>?_
  ·exact .inl q
  ·exact .inr ⟨q,PySem.W.cellsFrom_some _ _ _ (.inl q)⟩
 refine codeAny_call_function hr.depth (KX _ _ lk) rfl S.co S.gen rfl (PySem.W.codeRec_of KX hcd) (hb _ _ _ _ ?_)
 refine wpAny_newFunctionEnv_cells S.kind hkind fun env he s1 x=>?_
 subst he
 refine ⟨lim.keeps x.toInCall.keep,codeAny_func ?_⟩
 refine xEA (hbody A outer s H vs Q E (hr.deeper _) hsp) fun t ht hq=>?_
 have I:Inv (MD CX P w K mg base N qual scope f cdv A outer s H E) [] (FA N vs) H s1:=KO S hr.hd e0 hl r x
 refine wpAny_mono (ht [] s1 (FA N vs) H _ I hq) (fun fl s' hs=>?_) fun e s' hs=>hs
 have fin : ∀ {σ':St} {H':Hp} {v:V} {u:Value},Inv (MD CX P w K mg base N qual scope f cdv A outer s H E) [] σ' H' s'->AR v u->Q v H'->CE outer P w H s Q u s':=
  fun {σ' H' v u} J rv q=>⟨v,H',J.os,J.bare,J.base,J.hok,rv,q⟩
 cases fl with
 | ret u=>
  refine Ed hs fun v σ' H' J rv q=>?_
  exact fin J rv q
 | next=>
  refine Ct hs fun σ' H' J q=>?_
  exact fin (v:=V.non) (u:=Value.none) J rfl q
 | brk=>
  refine Ct hs fun _ _ _ q=>?_
  exact False.elim q
 | cont=>
  refine Ct hs fun _ _ _ q=>?_
  exact False.elim q
end L2
namespace L2
open PySem PySem.Spec PyProof.Rows
section
variable {X:Cx} {x:Str} {p pos:Pos} {e:Expr} {es:List Expr} {t:TA} {id T:String} {r:List V->Hp->VK->Prop}
def tCB (r:List V->Hp->VK->Prop) (t:TA):TE:=fun σ H Q=>t σ H fun vs H1=>r vs H1 Q
theorem Aj (hc : AO X (.builtin id) r) (hg : Gl X x) (hm : X.mg x = none) (hv : bootBuiltins x = some (.builtin id)) (ha : PA X (e :: es) t) (hn : x ≠ "__name__":=by decide) (hdb : (x == ("__debug__" : Str)) = false:=by decide)
  (he:starEach (e::es) X.env=(false,eval e X.env)::starEach es X.env:=by rfl) (hpl:(backTo pos (starEach es X.env)).any (·.1)=false:=by rfl):PE X (.Call (.Name x p) (e::es) [] pos) (tCB r t):= by
 intro pins s σ H Q I h
 refine wpAny_Call_Name_kw (E3 I hg hm hv ?_ hn hdb)
 exact PyProof.Rows.callWith_builtin1 (thn (ha pos pins s σ H _ I h) fun us s1 h974=>by refine Ar h974 fun vs H1 I1 r1 q1=>?_;exact hc pins s1 σ H1 vs us Q I1 r1 q1) he hpl
theorem D1 (hc : AO X (.type T) r) (hg : Gl X x) (hm : X.mg x = none) (hv : bootBuiltins x = some (.type T)) (ha : PA X (e :: es) t) (hn : x ≠ "__name__":=by decide) (hdb : (x == ("__debug__" : Str)) = false:=by decide)
  (he:starEach (e::es) X.env=(false,eval e X.env)::starEach es X.env:=by rfl) (hpl:(backTo pos (starEach es X.env)).any (·.1)=false:=by rfl):PE X (.Call (.Name x p) (e::es) [] pos) (tCB r t):= by
 intro pins s σ H Q I h
 refine wpAny_Call_Name_kw (E3 I hg hm hv ?_ hn hdb)
 exact PyProof.Rows.callWith_type1 (thn (ha pos pins s σ H _ I h) fun us s1 h975=>by refine Ar h975 fun vs H1 I1 r1 q1=>?_;exact hc pins s1 σ H1 vs us Q I1 r1 q1) he hpl
end
end L2
namespace HT
open PySem PyProof.Rows
noncomputable def lexLt:List Int->List Int->Bool
 | [],[]=>false
 | [],_::_=>true
 | _::_,[]=>false
 | x::xs,y::ys=>if x=y then lexLt xs ys else decide (x<y)
theorem lexLt_cons (x y:Int) (xs ys:List Int):lexLt (x::xs) (y::ys)=if x=y then lexLt xs ys else decide (x<y):=rfl
theorem lexLt_nil_nil:lexLt [] []=false:=rfl
theorem lexLt_nil_cons (y:Int) (ys:List Int):lexLt [] (y::ys)=true:=rfl
theorem lexLt_cons_nil (x:Int) (xs:List Int):lexLt (x::xs) []=false:=rfl
theorem LF (A:Around) (s:Shared) (a:Int) (t:Tok) (c:Int) (u:Tok) : ∃ e,SeqAt.EqAt A s (.int a t) (.int c u) e/\(e=true ↔ a=c):=
 ⟨(a==c),SeqAt.EqAt.int_int a t c u,by simp⟩
theorem Ls (A:Around) (s:Shared) (a:Int) (t:Tok) (c:Int) (u:Tok) (prog:Program) (w:World) (E:Value->Shared->Prop) (Q:Value->Shared->Prop) (h:Q (.bool (decide (a<c))) s) :
  wpAny (model prog w) A (richCompare .Lt (.int a t) (.int c u)) Q E s:=
 (PyProof.Rows.lt_int h:wpAny (model prog w) A (compareOp .Lt (.int a t) (.int c u)) Q E s)
section
open PySem.SeqAt
open PySem.AutoSeq1 (wpAny_loadPart')
open PySem.MeetsSeq PySem.MeetsSeq2 PySem.MeetsSeq3
theorem Fn (l b:Addr) (items items2:Array Value) (n n2:Nat) (dd dd2:Option Addr) (sl sl2:Array (Option Value)) (ns ms:List Int) (hi:IntsAre items.toList ns) (hj:IntsAre items2.toList ms) :
  Meets (Builtin.«tuple.__lt__» ⟨[.ref l,.ref b],[]⟩)
   (fun _ R s=>s.heap.get? l = some { cls:=.type "tuple",dict:=dd,data:=.seq items n,slots:=sl } /\ s.heap.get? b = some { cls:=.type "tuple",dict:=dd2,data:=.seq items2 n2,slots:=sl2 } /\
    R (.ok (.ret (.bool (lexLt ns ms)))) s):=
 .of_wp fun prog w A R s h=>by
  obtain ⟨hp,g,d,tk,os⟩:=s;refine xA2 h fun hl hb h=>?_
  have f2:=AutoSeq1.sub_tuple_tuple
  have z1:items.size=ns.length:=by rw[<- hi.length];simp
  have z2:items2.size=ms.length:=by rw[<- hj.length];simp
  wp_walk using wpAny_loadPart' hl,wpAny_loadPart' hb,wpAny_forIn_list _ (fun rest b s'=>b.1=none/\s'=⟨hp,g,d,tk,os⟩ /\ ∃ (vs ws:List Value) (ns' ms':List Int),rest=vs.zip ws /\
   IntsAre vs ns'/\IntsAre ws ms'/\ns'.length+items2.size=ms'.length+items.size/\R (.ok (.ret (.bool (lexLt ns' ms')))) ⟨hp,g,d,tk,os⟩) _
  case turn=>
   rintro ⟨y,x⟩ rest b s' ⟨hb',rfl,vs,ws,ns',ms',hz,hvi,hwi,hlen,hR⟩
   cases hvi with
   | nil=>rw[List.zip_nil_left] at hz;cases hz
   | cons a t hvi'=>
    cases hwi with
    | nil=>rw[List.zip_nil_right] at hz;cases hz
    | cons c u hwi'=>
     rw[List.zip_cons_cons] at hz
     injection hz with hyx hrest
     injection hyx with hy hx
     subst hy hx
     rw[lexLt_cons] at hR
     simp only [List.length_cons] at hlen
     refine xEA (LF A.in1 ⟨hp,g,d,tk,os⟩ a t c u) fun e he hiff=>?_
     refine wpAny_bind (he prog w _ _ ?_)
     cases e with
     | true=>
      rw[if_pos (hiff.mp rfl)] at hR
      wp_walk
      exact ⟨rfl,rfl,_,_,_,_,hrest,hvi',hwi',by lia,hR⟩
     | false=>
      rw[if_neg (fun q=>absurd (hiff.mpr q) Bool.false_ne_true)] at hR
      have hri:=Ls A.in1 ⟨hp,g,d,tk,os⟩ a t c u prog w
      wp_walk using hri
      exact ⟨_,rfl,by simpa using hR⟩
  case fin=>
   rintro ⟨b1,b2⟩ s' ⟨hb',rfl,vs,ws,ns',ms',hz,hvi,hwi,hlen,hR⟩
   simp only at hb'
   subst hb'
   have hv:lexLt ns' ms'=decide (items.size<items2.size):= by
    cases hvi with
    | nil=>
     cases hwi with
     | nil=>
      simp only [List.length_nil] at hlen
      rw[lexLt_nil_nil]
      exact (decide_eq_false (by lia)).symm
     | cons c u hw=>
      simp only [List.length_nil,List.length_cons] at hlen
      rw[lexLt_nil_cons]
      exact (decide_eq_true (by lia)).symm
    | cons a t hv=>
     cases hwi with
     | nil=>
      simp only [List.length_nil,List.length_cons] at hlen
      rw[lexLt_cons_nil]
      exact (decide_eq_false (by lia)).symm
     | cons c u hw=>
      rw[List.zip_cons_cons] at hz
      cases hz
   rw[hv] at hR
   wp_walk
   exact ⟨_,rfl,by simpa [Builtin.Tuple.tupleCompareSizes] using hR⟩
  case h=>
   exact ⟨rfl,rfl,items.toList,items2.toList,ns,ms,rfl,hi,hj,by lia,h⟩
end
section
variable {prog:Program} {w:World} {A:Around} {E:Value->Shared->Prop} {s:Shared}
theorem lt_tupInts {l b:Addr} {items items2:Array Value} {ns ms:List Int} {Q:Value->Shared->Prop} (hl:IsTup s.heap l items) (hb:IsTup s.heap b items2) (hi:IntsAre items.toList ns) (hj:IntsAre items2.toList ms)
  (hu:A.units<cLine) (h:Q (.bool (lexLt ns ms)) s):wpAny (model prog w) A (compareOp .Lt (.ref l) (.ref b)) Q E s:= by
 obtain ⟨⟨cls,dd,data,sl⟩,ho,hc,n,hd⟩:=id hl
 obtain ⟨⟨cls2,dd2,data2,sl2⟩,ho2,hc2,n2,hd2⟩:=id hb
 simp only at hc hd hc2 hd2
 subst hc hd hc2 hd2
 exact richCompare_meets_room (op:=.Lt) ⟨_,ho,rfl⟩ ⟨_,ho2,rfl⟩ PySem.F.slot_tuple_lt PySem.F.entry_tuple_lt (PySem.F.args_tuple_lt_2 _ _) (Fn l b items items2 n n2 dd dd2 sl sl2 ns ms hi hj)
  ⟨ho,ho2,show Value.bool (lexLt ns ms)≠Value.notImplemented/\Q (.bool (lexLt ns ms)) s from ⟨(fun x=>nomatch x),h⟩⟩ hu
theorem cat_tup {t b:Addr} {vs ws:List Value} {Q:Value->Shared->Prop} (ht:IsTup s.heap t vs.toArray) (hb:IsTup s.heap b ws.toArray) (hv:vs≠[])
  (h1 : ws = [] -> Q (.ref t) s) (h2 : ws ≠ [] -> Q (.ref s.heap.objs.size) { s with heap:=s.heap.push { cls:=.type "tuple",data:=.seq (vs ++ ws).toArray } })
  (hsz:vs.length+ws.length<=sizeLine):wpAny (model prog w) A (binaryOp .Add (.ref t) (.ref b)) Q E s:= by
 obtain ⟨⟨cls,dd,data,sl⟩,ho,hc,n,hd⟩:=id ht
 obtain ⟨⟨cls2,dd2,data2,sl2⟩,ho2,hc2,n2,hd2⟩:=id hb
 simp only at hc hd hc2 hd2
 subst hc hd hc2 hd2
 have e:vs.toArray++ws.toArray=(vs++ws).toArray:=by simp
 by_cases hw:ws=[]
 ·exact concat_meets ⟨_,ho,rfl⟩ ⟨_,ho2,rfl⟩ noFill_tuple_add seq_tuple_add PySem.F.slot_tuple_add PySem.F.entry_tuple_add (PySem.F.args_tuple_add_2 _ _)
   (tuple_addW1 t b vs.toArray ws.toArray n n2 dd dd2 sl sl2 (by simpa using hv) (by simp [hw])) ⟨ho,ho2,h1 hw⟩
 ·refine concat_meets ⟨_,ho,rfl⟩ ⟨_,ho2,rfl⟩ noFill_tuple_add seq_tuple_add PySem.F.slot_tuple_add PySem.F.entry_tuple_add (PySem.F.args_tuple_add_2 _ _)
   (tuple_addW2 t b vs.toArray ws.toArray n n2 dd dd2 sl sl2 (by simpa using hv) (by simpa using hw) (by rw[List.size_toArray,List.size_toArray];exact hsz)) ⟨ho,ho2,?_⟩
  rw[e]
  exact h2 hw
noncomputable def sIx (n d:Nat):Option Int->Nat
 | none=>d
 | some v=>if v<0 then (v+(n:Int)).toNat else min v.toNat n
theorem sIx_none (n d:Nat):sIx n d none=d:=rfl
theorem sIx_nat (n d k:Nat):sIx n d (some (k:Int))=min k n:= by
 show (if (k:Int)<0 then ((k:Int)+(n:Int)).toNat else min (k:Int).toNat n)=min k n
 rw[if_neg (by lia),Int.toNat_natCast]
theorem NG (n d:Nat) (hd:d<=n) (o:Option Int):sIx n d o<=n:= by
 cases o with
 | none=>exact hd
 | some v=>
  show (if v<0 then (v+(n:Int)).toNat else min v.toNat n)<=n
  by_cases hv:v<0
  ·rw[if_pos hv];lia
  ·rw[if_neg hv];exact Nat.min_le_right _ _
theorem Ke (v:Int) (n d:Nat):(if v<0 then max (v+(n:Int)) 0 else min v (n:Int))=((sIx n d (some v):Nat):Int):= by
 show (if v<0 then max (v+(n:Int)) 0 else min v (n:Int))=(((if v<0 then (v+(n:Int)).toNat else min v.toNat n):Nat):Int)
 by_cases hv:v<0
 ·simp only [if_pos hv];lia
 ·simp only [if_neg hv];lia
theorem IH (lo hi:Option Int) (n:Nat):Builtin.Slice.sliceAdjust lo hi 1 (n:Int)=(((sIx n 0 lo:Nat):Int),((sIx n n hi:Nat):Int)):= by
 have h1 : ¬ ((1:Int)<0):=by lia
 unfold Builtin.Slice.sliceAdjust
 simp only [h1,if_false]
 refine Prod.ext ?_ ?_
 ·cases lo with
  | none=>rfl
  | some v=>exact Ke v n 0
 ·cases hi with
  | none=>rfl
  | some v=>exact Ke v n n
theorem IL (i j:Nat):Builtin.Slice.slicePlaces (i:Int) (j:Int) 1=j-i:= by
 unfold Builtin.Slice.slicePlaces
 have h1:(1:Int) > 0:=by lia
 simp only [h1,if_true,Int.ediv_one]
 split <;> lia
theorem EQ {v:Value} {o:Option Int} {Q:Option Int->Shared->Prop} (p:IsPart v o) (h:Q o s):wpAny (model prog w) A (Builtin.Slice.slicePartIndex v) Q E s:= by
 cases p with
 | none=>exact slicePart_none h
 | int i t=>exact slicePart_int h
theorem sliceApplied_gen {sl:Addr} {vl vu:Value} {lo hi:Option Int} {n:Nat} {Q:Int × Int × Nat->Shared->Prop} (hs:s.heap.IsSliceOf sl vl vu .none) (pl:IsPart vl lo) (pu:IsPart vu hi)
  (h:Q (((sIx n 0 lo:Nat):Int),1,sIx n n hi-sIx n 0 lo) s):wpAny (model prog w) A (Builtin.Slice.sliceApplied (.ref sl) (pure (n:Int))) Q E s:= by
 refine AM (id hs) fun os hos hcs hds=>?_
 unfold Builtin.Slice.sliceApplied Builtin.Slice.sliceFields
 refine wpAny_bind (wpAny_bind (wpAny_field hos hds (x:=vl) rfl (wpAny_bind (wpAny_field hos hds (x:=vu) rfl (wpAny_bind (wpAny_field hos hds (x:=.none) rfl (wpAny_pure ?_)))))))
 refine wpAny_bind (slicePart_none ?_)
 show wpAny _ _ (if ((1:Int)==0)=true then _ else _) _ _ s
 rw[if_neg (by decide)]
 refine wpAny_bind (EQ pl (wpAny_bind (EQ pu (wpAny_bind (wpAny_pure ?_)))))
 show wpAny _ _ (match Builtin.Slice.sliceAdjust lo hi 1 (n:Int) with | (lo,hi)=>pure (lo,(1:Int),Builtin.Slice.slicePlaces lo hi 1)) _ _ s
 rw[IH lo hi n]
 show wpAny _ _ (pure (((sIx n 0 lo:Nat):Int),(1:Int),Builtin.Slice.slicePlaces ((sIx n 0 lo:Nat):Int) ((sIx n n hi:Nat):Int) 1)) _ _ s
 rw[IL]
 exact wpAny_pure h
theorem LA (xs:Array Value) (i k:Nat):((List.range k).filterMap fun (m:Nat)=>xs[((i:Int)+(m:Int)*1).toNat]?).toArray=((xs.toList.drop i).take k).toArray:= by
 have e:(fun (m:Nat)=>xs[((i:Int)+(m:Int)*1).toNat]?)=fun m=>xs[i+m]?:= by
  funext m
  have:((i:Int)+(m:Int)*1).toNat=i+m:=by lia
  rw[this]
 rw[e]
 have:=pick_run xs i k
 rw[List.filterMap_map] at this
 have e2:((fun x=>xs[x]?)∘fun x=>i+x)=fun m=>xs[i+m]?:=rfl
 rw[e2] at this
 rw[this]
theorem getItem_tuple_cut {t sl:Addr} {items:Array Value} {vl vu:Value} {lo hi:Option Int} {Q:Value->Shared->Prop} (ht:IsTup s.heap t items) (hs:s.heap.IsSliceOf sl vl vu .none) (pl:IsPart vl lo) (pu:IsPart vu hi)
  (hw : ¬ (sIx items.size 0 lo=0/\sIx items.size items.size hi=items.size))
  (h : Q (.ref s.heap.objs.size) { s with heap:=s.heap.push { cls:=.type "tuple",data:=.seq ((items.toList.drop (sIx items.size 0 lo)).take (sIx items.size items.size hi - sIx items.size 0 lo)).toArray } })
  (hsz:items.size<=sizeLine):wpAny (model prog w) A (getItem (.ref t) (.ref sl)) Q E s:= by
 have htake:sizeOk (.seq ((items.toList.drop (sIx items.size 0 lo)).take (sIx items.size items.size hi-sIx items.size 0 lo)).toArray):= by
  show ((items.toList.drop (sIx items.size 0 lo)).take (sIx items.size items.size hi-sIx items.size 0 lo)).toArray.size<=sizeLine
  rw[List.size_toArray,List.length_take,List.length_drop,Array.length_toList]
  omega
 have hj:sIx items.size items.size hi<=items.size:=NG _ _ (Nat.le_refl _) hi
 refine AM (id hs) fun os hos hcs hds=>?_
 have hTs : s.TypeIs (.ref sl) "slice":=⟨os,hos,hcs⟩
 unfold getItem
 try with_reducible refine wpAny_holding ?_
 first | refine wpAny_bind (wpAny_pure ?_) | skip
 refine wpAny_bind (wpAny_sequenceKey ht.typeIs (by decide) ?_)
 refine wpAny_bind (wpAny_callSpecial?_slot (name:=Str.ofString "__getitem__") ht.typeIs PyProof.Rows.slot_tuple_getitem
  (wpAny_call_entry PyProof.Rows.slot_tuple_getitem ht.typeIs entry_tuple_getitem ?_ (args_tuple_getitem _ _)))
 show wpAny _ _ (Builtin.Tuple.tupleItemsOf (.ref t) >>= _) _ _ s
 refine wpAny_bind (tupleItemsOf_ ht ?_)
 refine wpAny_bind (wpAny_typeOf hTs ?_)
 rw[if_pos (by decide)]
 refine wpAny_bind (sliceApplied_gen hs pl pu ?_)
 have hno : ¬ ((((sIx items.size 0 lo:Nat):Int)==0&&(1:Int)==1&&(sIx items.size items.size hi-sIx items.size 0 lo)==items.size)=true):= by
  intro q
  rw[Bool.and_eq_true,Bool.and_eq_true] at q
  have q1:((sIx items.size 0 lo:Nat):Int)=0:=eq_of_beq q.1.1
  have q2:sIx items.size items.size hi-sIx items.size 0 lo=items.size:=eq_of_beq q.2
  exact hw ⟨by omega,by omega⟩
 show wpAny _ _ (if (((sIx items.size 0 lo:Nat):Int)==0&&(1:Int)==1&&(sIx items.size items.size hi-sIx items.size 0 lo)==items.size)=true then _ else _) _ _ s
 rw[if_neg hno,LA]
 first
  | exact wpAny_bind (m:=Builtin.Tuple.tupleExact _) (wpAny_newObj_type (wpAny_pure ⟨_,rfl,wpAny_pure h⟩) htake)
  | exact wpAny_bind (m:=Builtin.Tuple.tupleExact _) (wpAny_newObj_type (wpAny_bind (wpAny_pure (wpAny_pure ⟨_,rfl,wpAny_pure h⟩))) htake)
  | exact wpAny_bind (wpAny_bind (m:=Builtin.Tuple.tupleExact _) (wpAny_newObj_type (wpAny_pure (wpAny_pure ⟨_,rfl,wpAny_pure h⟩)) htake))
  | exact wpAny_bind (wpAny_bind (m:=Builtin.Tuple.tupleExact _) (wpAny_newObj_type (wpAny_pure ⟨_,rfl,wpAny_pure h⟩) htake))
end
end HT
namespace L2
open PySem PySem.Spec PyProof.Rows
noncomputable abbrev TO:=St->Hp->(Option Int->Hp->Prop)->Prop
def PO (X:Cx) (e:Option Expr) (t:TO):Prop:=
 ∀ (pins:List (Addr × Obj)) (s:Shared) (σ:St) (H:Hp) (Q:Option Int->Hp->Prop),Inv X pins σ H s->t σ H Q ->
  wpAny (model X.prog X.w) X.A (evalPart e X.env) (fun u s'=>∃ o H',Inv X pins σ H' s'/\IsPart u o/\Q o H') X.xe s
def Nb:TO:=fun _ H Q=>Q none H
inductive Op (x:V) (H:Hp) (Q:Option Int->Hp->Prop):Prop
 | mk (i:Int) (hx:x = .int i) (q:Q (some i) H):Op x H Q
def Pf (t:TE):TO:=fun σ H Q=>t σ H fun x H1=>Op x H1 Q
theorem EN {ns:List Int} : ∀ {us:List Value},AH (ns.map V.int) us->IntsAre us ns:= by
 induction ns with
 | nil=>intro us r;rw[List.map_nil] at r;cases r;exact .nil
 | cons n ns ih=>
  intro us r
  rw[List.map_cons] at r
  cases r with
  | cons r1 r2=>
   obtain ⟨t,e⟩:=r1
   subst e
   exact .cons n t (ih r2)
section
variable {X:Cx} {e:Expr} {te:TE} {lo hi:Option Expr} {tl th:TO} {pos p2:Pos}
theorem D2:PO X none Nb:= by
 intro pins s σ H Q I h
 rw[evalPart_none]
 exact wpAny_pure ⟨none,H,I,.none,h⟩
theorem DZ (h:PE X e te):PO X (some e) (Pf te):= by
 intro pins s σ H Q I hw
 rw[evalPart_some]
 refine thn (h pins s σ H _ I hw) fun u s1 h976=>?_
 refine Ar h976 fun x H1 I1 r1 q1=>?_
 obtain ⟨i,rfl,q⟩:=q1
 refine xE r1 fun t e90=>?_;subst e90
 exact ⟨some i,H1,I1,.int i t,q⟩
def SlR (X:Cx) (r:V->Option Int->Option Int->Hp->VK->Prop):Prop:=
 ∀ (pins:List (Addr × Obj)) (s:Shared) (σ:St) (H:Hp) (x:V) (v vl vu:Value) (lo hi:Option Int) (sl:Addr) (Q:VK),Inv X pins σ H s->AR x v->s.heap.IsSliceOf sl vl vu .none->IsPart vl lo->IsPart vu hi->r x lo hi H Q ->
  ∃ T id,typeLookup (.type T) "__getitem__" = pure (some (.builtin id)) /\ s.TypeIs v T /\ wpAny (model X.prog X.w) X.A (getItem v (.ref sl)) (EP X pins σ Q) X.xe s
def tSl (r:V->Option Int->Option Int->Hp->VK->Prop) (te:TE) (tl th:TO):TE:=fun σ H Q=>te σ H fun x H1=>tl σ H1 fun l H2=>th σ H2 fun u H3=>r x l u H3 Q
theorem De {r:V->Option Int->Option Int->Hp->VK->Prop} (hr:SlR X r) (he:PE X e te) (hl:PO X lo tl) (hu:PO X hi th):PE X (.Subscript e (.Slice lo hi none p2) pos) (tSl r te tl th):= by
 intro pins s σ H Q I h
 refine Subscript_ (thn (he pins s σ H _ I h) fun v s1 h977=>?_)
 refine Ar h977 fun x H1 I1 r1 q1=>?_
 refine wpAny_Slice (thn (hl pins s1 σ H1 _ I1 q1) fun vl s2 h978=>?_)
 refine Ar h978 fun l H2 I2 pl q2=>?_
 refine thn (hu pins s2 σ H2 _ I2 q2) fun vu s3 h979=>?_
 refine Ar h979 fun u H3 I3 pu q3=>?_
 rw[evalPart_none]
 refine wpAny_pure ?_
 have I4 : Inv X pins σ H3 { s3 with heap:=s3.heap.push { cls:=.type "slice",data:=.fields #[vl,vu,.none] } }:=I3.kept (t':=s3.toks) fun b ob q=>Heap.get?_push_of_some _ q
 refine Ar (hr pins { s3 with heap:=s3.heap.push { cls:=.type "slice",data:=.fields #[vl,vu,.none] } } σ H3 x v vl vu l u s3.heap.objs.size Q I4 r1 (Heap.IsSliceOf.new ..) pl pu q3) fun T id hT ht hg=>?_
 show wpAny (model X.prog X.w) X.A (subscriptTail e (.Slice lo hi none p2) v (.ref s3.heap.objs.size)) (EP X pins σ Q) X.xe { s3 with heap:=s3.heap.push { cls:=.type "slice",data:=.fields #[vl,vu,.none] } }
 exact tail_any (ops:=[.ref s3.heap.objs.size,v]) ht hT hg (by with_unfolding_all rfl)
noncomputable def DE (xs:List V) (lo hi:Option Int):List V:=(xs.drop (HT.sIx xs.length 0 lo)).take (HT.sIx xs.length xs.length hi-HT.sIx xs.length 0 lo)
theorem DX (xs:List V) (lo hi:Option Int):(DE xs lo hi).length<=xs.length:= by
 unfold DE
 rw[List.length_take,List.length_drop]
 lia
def Ql (K:PySem.W.Frag):V->Option Int->Option Int->Hp->VK->Prop:=fun x lo hi H Q=>∃ a xs,x = .ref a/\SqT K H a xs /\
 ¬ (HT.sIx xs.length 0 lo=0/\HT.sIx xs.length xs.length hi=xs.length) /\ ∀ p,H p=none->Q (.ref p) (upd H p (.tup (DE xs lo hi)))
theorem NR:SlR X (Ql X.K):= by
 intro pins s σ H x v vl vu lo hi sl Q I rx hs pl pu h
 refine CI h fun a xs e90 hx hw q=>?_;subst e90
 cases rx
 refine AM (I.tuple hx) fun its r ht hz=>?_
 have hlen:its.toArray.size=xs.length:=by rw[List.size_toArray];exact r.length.symm
 refine ⟨"tuple",_,PyProof.Rows.slot_tuple_getitem.lookup,ht.typeIs,?_⟩
 refine HT.getItem_tuple_cut ht hs pl pu (by rw[hlen];exact hw) ?_ (by rw[hlen];exact hz)
 rw[hlen]
 refine ⟨.ref s.heap.objs.size,_,I.laid (t':=s.toks) (o:=.tup (DE xs lo hi)) (fun b ob q=>Heap.get?_push_of_some _ q) (Nat.le_refl _) ?_,rfl,q _ (I.hok.fresh (Nat.le_refl _))⟩
 exact ⟨Nat.le_trans (DX xs lo hi) hz,_,(r.drop (HT.sIx xs.length 0 lo)).take (HT.sIx xs.length xs.length hi-HT.sIx xs.length 0 lo),IsTup.new _ _⟩
def Qc (K:PySem.W.Frag):R2:=fun x y H Q=>∃ a b ns ms,x = .ref a/\y = .ref b/\SqT K H a (ns.map V.int)/\SqT K H b (ms.map V.int)/\Q (.bl (HT.lexLt ns ms)) H
theorem Oe (hu:X.A.units<cLine):OpR X (compareOp .Lt) (Qc X.K):= by
 intro pins s σ H x y v u Q I rx ry h
 refine NW h fun a b ns ms e90 e91 ha hb q=>?_;subst e90;subst e91
 cases rx
 cases ry
 refine AM (I.tuple ha) fun its r1 p1 _=>?_
 refine AM (I.tuple hb) fun its2 r2 p2 _=>?_
 have i1:IntsAre its.toArray.toList ns:=EN r1
 have i2:IntsAre its2.toArray.toList ms:=EN r2
 exact HT.lt_tupInts p1 p2 i1 i2 hu ⟨.bl (HT.lexLt ns ms),H,I,rfl,q⟩
def OZ (K:PySem.W.Frag):R2:=fun x y H Q=>∃ a b xs ys,x = .ref a/\y = .ref b/\SqT K H a xs/\SqT K H b ys/\xs≠[]/\xs.length+ys.length<=sizeLine /\
 (ys=[]->Q (.ref a) H)/\(ys≠[] -> ∀ p,H p=none->Q (.ref p) (upd H p (.tup (xs++ys))))
theorem AH.nil_iff {xs:List V} {us:List Value} (r:AH xs us):us=[] ↔ xs=[]:= by
 cases r with
 | nil=>simp
 | cons _ _=>simp
theorem Nj:OpR X (binaryOp .Add) (OZ X.K):= by
 intro pins s σ H x y v u Q I rx ry h
 refine Pq h fun a b xs ys e90 e91 ha hb hx hz q1 q2=>?_;subst e90;subst e91
 cases rx
 cases ry
 refine AM (I.tuple ha) fun its r1 p1 _=>?_
 refine AM (I.tuple hb) fun its2 r2 p2 _=>?_
 refine HT.cat_tup p1 p2 (fun z=>hx (r1.nil_iff.mp z)) (fun z=>⟨.ref a,H,I,rfl,q1 (r2.nil_iff.mp z)⟩) (fun z=>?_) (by rw[<- r1.length,<- r2.length];exact hz)
 refine ⟨.ref s.heap.objs.size,_,I.laid (t':=s.toks) (o:=.tup (xs++ys)) (fun b ob q=>Heap.get?_push_of_some _ q) (Nat.le_refl _) ?_,rfl,q2 (fun w=>z (r2.nil_iff.mpr w)) _ (I.hok.fresh (Nat.le_refl _))⟩
 exact ⟨by rw[List.length_append];exact hz,_,r1.append r2,IsTup.new _ _⟩
end
end L2
namespace L2
open PySem PySem.Spec PyProof.Rows
noncomputable def ixN (n:Nat) (i:Int):Option Nat:=if 0<=i then (if i<n then some i.toNat else none) else if -(n:Int)<=i then some (i+n).toNat else none
noncomputable def atI {α:Type} (xs:List α) (i:Int):Option α:=(ixN xs.length i).bind fun j=>xs[j]?
theorem MM {n:Nat} {i:Int} {j:Nat} (h:ixN n i=some j):seqIndex? i n=some j/\j<n /\ -(n:Int)<=i/\i<n:= by
 unfold ixN at h
 by_cases h0:0<=i
 ·rw[if_pos h0] at h
  by_cases h1:i<n
  ·rw[if_pos h1] at h
   have e:i.toNat=j:=Option.some.inj h
   exact ⟨by rw[seqIndex_of h0 h1,e],by lia,by lia,h1⟩
  ·rw[if_neg h1] at h;cases h
 ·rw[if_neg h0] at h
  by_cases h1 : -(n:Int)<=i
  ·rw[if_pos h1] at h
   have e:(i+n).toNat=j:=Option.some.inj h
   exact ⟨by rw[seqIndex_neg (by lia) h1,e],by lia,h1,by lia⟩
  ·rw[if_neg h1] at h;cases h
theorem Ju {α:Type} {xs:List α} {i:Int} {v:α} (h:atI xs i=some v) : ∃ j,seqIndex? i xs.length=some j/\xs[j]?=some v/\j<xs.length /\ -(xs.length:Int)<=i/\i<xs.length:= by
 unfold atI at h
 cases e:ixN xs.length i with
 | none=>rw[e] at h;cases h
 | some j=>
  rw[e] at h
  refine xA3 (MM e) fun h1 h2 h3 h4=>?_
  exact ⟨j,h1,h,h2,h3,h4⟩
theorem FG {α:Type} {xs:List α} {j:Nat} {v:α} (h:xs[j]?=some v):atI xs (j:Int)=some v:= by
 have hj:j<xs.length:=(List.getElem?_eq_some_iff.mp h).1
 have e:ixN xs.length (j:Int)=some j:= by
  unfold ixN
  rw[if_pos (by lia),if_pos (by lia)];simp
 unfold atI;rw[e];exact h
def M5 (b:Expr):Prop:=∀ o i,subscripted b false o i=operate [o,i] (getItem o i)
def IxR (X:Cx) (r:R2):Prop:=
 ∀ (value slice:Expr) (pins:List (Addr × Obj)) (s:Shared) (σ:St) (H:Hp) (x y:V) (v u:Value) (Q:VK),Inv X pins σ H s->AR x v->AR y u->r x y H Q ->
  subscripted slice false v u=operate [v,u] (getItem v u)->wpAny (model X.prog X.w) X.A (subscriptTail value slice v u) (EP X pins σ Q) X.xe s
def MtR (X:Cx) (id:String) (r:V->List V->Hp->VK->Prop):Prop:=
 ∀ (pins:List (Addr × Obj)) (s:Shared) (σ:St) (H:Hp) (x:V) (xs:List V) (v:Value) (us:List Value) (Q:VK),Inv X pins σ H s->AR x v->AH xs us->r x xs H Q ->
  wpAny (model X.prog X.w) X.A (call (.builtin id) (v::us)) (EP X pins σ Q) X.xe s
section
variable {X:Cx} {a b:Expr} {ta tb:TE} {pos:Pos}
theorem BW {r:R2} (hr:IxR X r) (ha:PE X a ta) (hb:PE X b tb) (hs:M5 b):PE X (.Subscript a b pos) (tOp r ta tb):= by
 intro pins s σ H Q I h
 exact Subscript_ (Pg ha hb I h fun v u s2 x y H2 I2 rx ry q=>hr a b pins s2 σ H2 x y v u Q I2 rx ry q (hs _ _))
inductive PX (K:PySem.W.Frag) (x y:V) (H:Hp) (Q:VK):Prop
 | mk (p:Addr) (xs:List V) (i:Int) (v:V) (hx:x = .ref p) (hy:y = .int i) (hs:SqL K H p xs) (ha:atI xs i=some v) (q:Q v H):PX K x y H Q
def Qb (K:PySem.W.Frag):R2:=fun x y H Q=>PX K x y H Q
inductive PK (K:PySem.W.Frag) (x y:V) (H:Hp) (Q:VK):Prop
 | mk (p:Addr) (xs:List V) (i:Int) (v:V) (hx:x = .ref p) (hy:y = .int i) (hs:SqT K H p xs) (ha:atI xs i=some v) (q:Q v H):PK K x y H Q
def Qd (K:PySem.W.Frag):R2:=fun x y H Q=>PK K x y H Q
theorem Ng:IxR X (Qb X.K):= by
 intro value slice pins s σ H x y v u Q I rx ry h hs
 obtain ⟨p,xs,i,z,rfl,rfl,hq,he,q⟩:=h
 cases rx
 refine xE ry fun t e90=>?_;subst e90
 refine AM (I.list hq) fun its r pl hz=>?_
 refine PN (Ju he) fun j h1 h2 h3 h4 h5=>?_
 refine xEA (r.get h2) fun w ew rw'=>?_
 have hl:=r.length
 have hn:=HP
 have fin:EP X pins σ Q w s:=⟨z,H,I,rw',q⟩
 by_cases h0:0<=i
 ·have hj:i.toNat=j:= by
   rw[seqIndex_of h0 h5] at h1
   exact Option.some.inj h1
  exact item_listR pl.isList h0 (by lia) (by rw[hj];simpa using ew) fin hs
 ·have hj:(i+(its.toArray.size:Int)).toNat=j:= by
   rw[seqIndex_neg (by lia) h4] at h1
   rw[List.size_toArray,<- hl]
   exact Option.some.inj h1
  exact subscriptTail_builtinR (x:=w) pl.isList.typeIs slot_list_getitem.lookup
   (wpAny_getItem_list_neg (Q:=fun r s'=>r=w/\EP X pins σ Q r s') pl.isList (by lia) (by rw[List.size_toArray] <;> lia) (by lia) (by rw[hj];simpa using ew) ⟨rfl,fin⟩) hs
theorem NY:IxR X (Qd X.K):= by
 intro value slice pins s σ H x y v u Q I rx ry h hs
 obtain ⟨p,xs,i,z,rfl,rfl,hq,he,q⟩:=h
 cases rx
 refine xE ry fun t e90=>?_;subst e90
 refine AM (I.tuple hq) fun its r pl hz=>?_
 refine PN (Ju he) fun j h1 h2 h3 h4 h5=>?_
 refine xEA (r.get h2) fun w ew rw'=>?_
 have hl:=r.length
 have hn:=HP
 have fin:EP X pins σ Q w s:=⟨z,H,I,rw',q⟩
 exact subscriptTail_builtinR (x:=w) pl.typeIs slot_tuple_getitem.lookup
  (getItem_tuple (j:=j) (Q:=fun r s'=>r=w/\EP X pins σ Q r s') pl (by lia) (by lia) (by rw[List.size_toArray,<- hl];exact h1) (by simpa using ew) ⟨rfl,fin⟩) hs
theorem Gc (lo hi:Option Int) (n:Nat):(sliceBounds lo hi none n).1=((HT.sIx n 0 lo:Nat):Int)/\(sliceBounds lo hi none n).2.1=((HT.sIx n n hi:Nat):Int)/\(sliceBounds lo hi none n).2.2=1:= by
 refine ⟨?_,?_,rfl⟩
 ·cases lo with
  | none=>simp [sliceBounds,HT.sIx]
  | some i=>
   simp only [sliceBounds,HT.sIx,Option.getD_none,show (1:Int) > 0 by decide,if_true]
   by_cases h:i<0
   ·simp only [h,if_true] <;> lia
   ·simp only [h,if_false] <;> lia
 ·cases hi with
  | none=>simp [sliceBounds,HT.sIx]
  | some i=>
   simp only [sliceBounds,HT.sIx,Option.getD_none,show (1:Int) > 0 by decide,if_true]
   by_cases h:i<0
   ·simp only [h,if_true] <;> lia
   ·simp only [h,if_false] <;> lia
theorem Fa (its:List Value) (lo hi:Option Int):slicePick its.toArray lo hi none=((its.drop (HT.sIx its.length 0 lo)).take (HT.sIx its.length its.length hi-HT.sIx its.length 0 lo)).toArray:= by
 refine xA2 (Gc lo hi its.toArray.size) fun h1 h2 h3=>?_
 unfold slicePick
 rw[h1,h2,h3]
 simp only [sliceRange_one,pick_run,List.size_toArray] <;> rfl
inductive PY (K:PySem.W.Frag) (x:V) (lo hi:Option Int) (H:Hp) (Q:VK):Prop
 | mk (a:Addr) (xs:List V) (hx:x = .ref a) (hs:SqL K H a xs) (q : ∀ p,H p=none->Q (.ref p) (upd H p (.lst (DE xs lo hi)))):PY K x lo hi H Q
def P5 (K:PySem.W.Frag):V->Option Int->Option Int->Hp->VK->Prop:=fun x lo hi H Q=>PY K x lo hi H Q
theorem M1:SlR X (P5 X.K):= by
 intro pins s σ H x v vl vu lo hi sl Q I rx hs pl pu h
 obtain ⟨a,xs,rfl,hx,q⟩:=h
 cases rx
 refine AM (I.list hx) fun its r ht hz=>?_
 have hlen:=r.length
 refine ⟨"list",_,slot_list_getitem.lookup,ht.isList.typeIs,?_⟩
 refine wpAny_getItem_list_slice ht.isList hs pl pu .none (by simp) ?_ (by rw[List.size_toArray] <;> lia)
 rw[Fa,<- hlen]
 refine ⟨.ref s.heap.objs.size,_,I.laid (t':=s.toks) (o:=.lst (DE xs lo hi)) (fun b ob q=>Heap.get?_push_of_some _ q) (Nat.le_refl _) ?_,rfl,q _ (I.hok.fresh (Nat.le_refl _))⟩
 exact ⟨Nat.le_trans (DX xs lo hi) hz,_,0,(r.drop (HT.sIx xs.length 0 lo)).take (HT.sIx xs.length xs.length hi-HT.sIx xs.length 0 lo),Heap.get?_push_size _ rfl⟩
noncomputable def Fi:V->Bool
 | .non=>true
 | .bl _=>true
 | .int _=>true
 | .str _=>true
 | _=>false
noncomputable def eqV:V->V->Bool
 | .non,.non=>true
 | .bl a,.bl b=>a==b
 | .bl a,.int b=>(if a then 1 else 0)==b
 | .int a,.bl b=>a==(if b then 1 else 0)
 | .int a,.int b=>a==b
 | .str a,.str b=>a==b
 | _,_=>false
theorem Mb {A:Around} {s:Shared} {y x:V} {u v:Value} (ry:AR y u) (rx:AR x v) (fy:Fi y=true) (fx:Fi x=true):SeqAt.EqAt A s u v (eqV y x):= by
 cases y with
 | non=>
  cases ry
  cases x with
  | non=>cases rx;exact SeqAt.EqAt.same _
  | bl b=>cases rx;exact SeqAt.EqAt.none_bool b
  | int b=>obtain ⟨t,rfl⟩:=rx;exact SeqAt.EqAt.none_int b t
  | str b=>obtain ⟨t,rfl⟩:=rx;exact SeqAt.EqAt.none_str b t
  | _=>exact absurd (show false=true from fx) Bool.false_ne_true
 | bl a=>
  cases ry
  cases x with
  | non=>cases rx;exact SeqAt.EqAt.bool_none a
  | bl b=>cases rx;exact SeqAt.EqAt.bool_bool a b
  | int b=>obtain ⟨t,rfl⟩:=rx;exact SeqAt.EqAt.bool_int a b t
  | str b=>obtain ⟨t,rfl⟩:=rx;exact SeqAt.EqAt.bool_str a b t
  | _=>exact absurd (show false=true from fx) Bool.false_ne_true
 | int a=>
  obtain ⟨t',rfl⟩:=ry
  cases x with
  | non=>cases rx;exact SeqAt.EqAt.int_none a t'
  | bl b=>cases rx;exact SeqAt.EqAt.int_bool a t' b
  | int b=>obtain ⟨t,rfl⟩:=rx;exact SeqAt.EqAt.int_int a t' b t
  | str b=>obtain ⟨t,rfl⟩:=rx;exact SeqAt.EqAt.int_str a t' b t
  | _=>exact absurd (show false=true from fx) Bool.false_ne_true
 | str a=>
  obtain ⟨t',rfl⟩:=ry
  cases x with
  | non=>cases rx;exact SeqAt.EqAt.str_none a t'
  | bl b=>cases rx;exact SeqAt.EqAt.str_bool a t' b
  | int b=>obtain ⟨t,rfl⟩:=rx;exact SeqAt.EqAt.str_int a t' b t
  | str b=>obtain ⟨t,rfl⟩:=rx;exact SeqAt.EqAt.str_str a t' b t
  | _=>exact absurd (show false=true from fx) Bool.false_ne_true
 | _=>exact absurd (show false=true from fy) Bool.false_ne_true
noncomputable def eqU (x:V) (u:Value):Bool:=match u with
 | .none=>eqV .non x
 | .bool b=>eqV (.bl b) x
 | .int i _=>eqV (.int i) x
 | .str z _=>eqV (.str z) x
 | _=>false
theorem Mh {x y:V} {u:Value} (r:AR y u) (f:Fi y=true):eqU x u=eqV y x:= by
 cases y with
 | non=>cases r;rfl
 | bl b=>cases r;rfl
 | int i=>obtain ⟨t,rfl⟩:=r;rfl
 | str z=>obtain ⟨t,rfl⟩:=r;rfl
 | _=>exact absurd (show false=true from f) Bool.false_ne_true
theorem Hi {x:V} : ∀ {xs:List V} {us:List Value},AH xs us->xs.all Fi=true->us.any (eqU x)=xs.any fun y=>eqV y x
 | _,_,.nil,_=>rfl
 | y::xs,u::us,.cons r t,f=>by
  rw[List.all_cons,Bool.and_eq_true] at f
  rw[List.any_cons,List.any_cons,Mh r f.1,Hi t f.2]
theorem FB {A:Around} {s:Shared} {x:V} {v:Value} (rx:AR x v) (fx:Fi x=true) : ∀ {xs:List V} {us:List Value},AH xs us->xs.all Fi=true -> ∀ u ∈ us,SeqAt.EqAt A s u v (eqU x u)
 | _,_,.nil,_=>fun u hu=>by cases hu
 | y::xs,u::us,.cons r t,f=>fun u' hu=>by
  rw[List.all_cons,Bool.and_eq_true] at f
  rcases List.mem_cons.mp hu with rfl | hu
  ·rw[Mh r f.1];exact Mb r rx f.1 fx
  ·exact FB rx fx t f.2 u' hu
noncomputable def inV (x:V) (xs:List V):Bool:=xs.any fun y=>eqV y x
def rIn (K:PySem.W.Frag) (neg:Bool):R2:=fun x y H Q=>∃ p xs,y = .ref p/\(SqL K H p xs\/SqT K H p xs)/\Fi x=true/\xs.all Fi=true/\Q (.bl (if neg then !inV x xs else inV x xs)) H
theorem KI:OpR X (compareOp .In) (rIn X.K false):= by
 intro pins s σ H x y v u Q I rx ry h
 refine Kg h fun p xs e90 hq fx fs q=>?_;subst e90
 cases ry
 refine Or.elim hq (fun hq=>?_) fun hq=>?_
 ·refine AM (I.list hq) fun its r pl hz=>?_
  refine SeqAt.in_listAt (eqU x) pl.isList (fun w hw=>FB rx fx r fs w (by simpa using hw)) ⟨.bl _,H,I,rfl,?_⟩
  rw[show its.toArray.any (eqU x)=its.any (eqU x) by simp,Hi r fs]
  exact q
 ·refine AM (I.tuple hq) fun its r pl hz=>?_
  refine SeqAt.in_tupleAt (eqU x) pl (fun w hw=>FB rx fx r fs w (by simpa using hw)) ⟨.bl _,H,I,rfl,?_⟩
  rw[show its.toArray.any (eqU x)=its.any (eqU x) by simp,Hi r fs]
  exact q
theorem Gd : AO X (.builtin "len") (fun xs H Q=>∃ p ys,xs = [.ref p] /\ (SqL X.K H p ys \/ SqT X.K H p ys) /\ Q (.int ys.length) H):= by
 intro pins s σ H xs us Q I r h
 refine Ar h fun p ys e90 hq q=>?_;subst e90
 refine xEA (FL r) fun u e90 rx=>?_;subst e90
 cases rx
 have hn:=HP
 refine Or.elim hq (fun hq=>?_) fun hq=>?_
 ·refine AM (I.list hq) fun its r' pl hz=>?_
  have hlen:=r'.length
  exact Calls.call_len_list pl.isList (by simp only [List.size_toArray] <;> lia) ⟨.int ys.length,H,I.tok _,⟨s.toks+1,by rw[List.size_toArray,hlen]⟩,q⟩
 ·refine AM (I.tuple hq) fun its r' pl hz=>?_
  have hlen:=r'.length
  exact len_tuple pl (by simp only [List.size_toArray] <;> lia) ⟨.int ys.length,H,I.tok _,⟨s.toks+1,by rw[List.size_toArray,hlen]⟩,q⟩
theorem GB : AO X (.type "list") (fun xs H Q=>∃ p ys,xs = [.ref p] /\ (SqL X.K H p ys \/ SqT X.K H p ys) /\ ∀ l,H l = none -> Q (.ref l) (upd H l (.lst ys))):= by
 intro pins s σ H xs us Q I r h
 refine Ar h fun p ys e90 hq q=>?_;subst e90
 refine xEA (FL r) fun u e90 rx=>?_;subst e90
 cases rx
 have fin : ∀ (its:List Value),AH ys its->ys.length<=sizeLine -> ∀ (h':Heap) (c':Nat),(∀ b o',s.heap.get? b=some o'->h'.get? b=some o') ->
   h'.get? s.heap.objs.size = some { cls:=.type "list",dict:=none,data:=.seq its.toArray c',slots:=#[] } -> EP X pins σ Q (.ref s.heap.objs.size) { s with heap:=h' }:=fun its r' hz h' c' kp e=>
  ⟨.ref s.heap.objs.size,_,I.laid (t':=s.toks) kp (Nat.le_refl _) (show AV X.prog X.w _ h' _ (.lst ys) from ⟨hz,its,c',r',e⟩),rfl,q _ (I.hok.fresh (Nat.le_refl _))⟩
 refine Or.elim hq (fun hq=>?_) fun hq=>?_
 ·refine AM (I.list hq) fun its r' pl hz=>?_
  have hlen:=r'.length
  refine AM pl.isList fun o ho hc m948=>xE m948 fun n hd=>?_
  exact call_list_seq p (.inl rfl) ho hc hd (fun h' c' kp e=>fin its r' hz h' c' kp e) (by simp only [List.size_toArray] <;> lia)
 ·refine AM (I.tuple hq) fun its r' pl hz=>?_
  have hlen:=r'.length
  refine AM pl fun o ho hc m949=>xE m949 fun n hd=>?_
  exact call_list_seq p (.inr rfl) ho hc hd (fun h' c' kp e=>fin its r' hz h' c' kp e) (by simp only [List.size_toArray] <;> lia)
theorem FH : AO X (.type "tuple") (fun xs H Q=>∃ p ys,xs = [.ref p] /\ ((SqL X.K H p ys /\ ∀ l,H l = none -> Q (.ref l) (upd H l (.tup ys))) \/ (SqT X.K H p ys /\ Q (.ref p) H))):= by
 intro pins s σ H xs us Q I r h
 obtain ⟨p,ys,rfl,h⟩:=h
 obtain ⟨u,rfl,rx⟩:=FL r
 cases rx
 rcases h with ⟨hq,q⟩ | ⟨hq,q⟩
 ·obtain ⟨its,r',pl,hz⟩:=I.list hq
  have hlen:=r'.length
  refine call_tuple_list pl.isList (fun h' kp=>?_) (by simp only [List.size_toArray] <;> lia)
  have I1:Inv X pins σ H { s with heap:=h' }:=I.kept (t':=s.toks) kp
  have I2 : Inv X pins σ (upd H h'.objs.size (.tup ys)) { s with heap:=h'.push { cls:=.type "tuple",data:=.seq its.toArray } }:=
   I1.laid (t':=s.toks) (fun b o e=>Heap.get?_push_of_some _ e) (Nat.le_refl _) (show AV X.prog X.w _ _ _ (.tup ys) from ⟨hz,its,r',IsTup.new _ _⟩)
  exact ⟨.ref h'.objs.size,_,I2,rfl,q _ (I1.hok.fresh (Nat.le_refl _))⟩
 ·obtain ⟨its,r',pl,hz⟩:=I.tuple hq
  exact call_tuple_same pl ⟨.ref p,H,I,rfl,q⟩
def tyV (K:PySem.W.Frag) (T:String) (x:V) (H:Hp):Prop:=match x with
 | .str _=>T = "str"
 | .int _=>T = "int"
 | .ref p=>(T = "list" /\ ∃ xs,SqL K H p xs) \/ (T = "tuple" /\ ∃ o,K.lookup p = some o /\ o.cls = .type "tuple" /\ o.dict = none) \/
   (T = "dict" /\ ((∃ kvs,H p = some (.dK kvs)) \/ ∃ kvs,H p = some (.dT kvs))) \/ (T = "set" /\ ∃ S n,H p = some (.set S n))
 | _=>False
theorem NE {pins:List (Addr × Obj)} {σ:St} {H:Hp} {s:Shared} {T:String} {x:V} {v:Value} (I:Inv X pins σ H s) (r:AR x v) (ty:tyV X.K T x H) :
  s.TypeIs v T /\ ∀ a,v = .ref a -> ∃ ob,s.heap.get? a=some ob/\ob.dict=none:= by
 cases x with
 | str z=>
  refine xE r fun t e90=>?_;subst e90
  cases (show T = "str" from ty)
  exact ⟨typeIs_str s z t,fun _ e=>nomatch e⟩
 | int i=>
  refine xE r fun t e90=>?_;subst e90
  cases (show T = "int" from ty)
  exact ⟨typeIs_int s i t,fun _ e=>nomatch e⟩
 | ref p=>
  cases r
  rcases ty with ⟨rfl,xs,hq⟩ | ⟨rfl,o,hk,hc,hd⟩ | ⟨rfl,hk⟩ | ⟨rfl,S,n,hk⟩
  ·refine AM (I.list hq) fun its _ pl _=>?_
   refine ⟨pl.isList.typeIs,fun a e=>?_⟩
   cases e
   refine CI pl fun o n e c hd _=>?_
   exact ⟨o,e,hd⟩
  ·refine ⟨⟨o,I.kIn p o hk,hc⟩,fun a e=>?_⟩
   cases e
   exact ⟨o,I.kIn _ o hk,hd⟩
  ·have z : ∃ o,s.heap.get? p=some o/\o.ExactDict:= by
    refine Or.elim hk (fun n90=>xE n90 fun kvs hk=>?_) fun n91=>xE n91 fun kvs hk=>?_
    ·refine xA2 (I.hok p _ hk) fun _ _ m950=>xEA m950 fun _ _ m951=>Ed m951 fun o _ _ e ex _=>?_
     exact ⟨o,e,ex⟩
    ·refine xA2 (I.hok p _ hk) fun _ _ m952=>xEA m952 fun _ _ m953=>Ed m953 fun o _ _ e ex _=>?_
     exact ⟨o,e,ex⟩
   refine xEA z fun o e ex=>?_
   refine ⟨⟨o,e,ex.1⟩,fun a e2=>?_⟩
   cases e2
   exact ⟨o,e,ex.2.1⟩
  ·refine OR (I.hok p _ hk) fun o _ _ _ e ex _=>?_
   refine ⟨⟨o,e,ex.1⟩,fun a e2=>?_⟩
   cases e2
   exact ⟨o,e,ex.2.1⟩
 | _=>exact False.elim ty
def tBM (K:PySem.W.Frag) (T:String) (r:V->List V->Hp->VK->Prop) (to:TE) (t:TA):TE:=fun σ H Q=>to σ H fun x H1=>tyV K T x H1/\t σ H1 fun xs H2=>r x xs H2 Q
variable {o e:Expr} {es:List Expr} {to:TE} {t:TA} {name:Str} {apos cpos:Pos} {T id:String} {r:V->List V->Hp->VK->Prop}
theorem Px (pa : PlainAttrs T) (slot : Slot T name id) (hty : typeOf (.builtin id) = pure (.type "method_descriptor")) (hm : MtR X id r) (ho : PE X o to) (ha : PA X (e :: es) t)
  (hbase:attributeBase o name X.env (eval o X.env)=eval o X.env:=by rfl)
  (hfew:((backTo cpos (starEach (e::es) X.env)).all (fun x=>!x.1)&&(backToKw cpos (keywordEach [] X.env)).all (fun x=>x.1.isSome)
   && decide ((e::es).length+([]:List Keyword).length+(if ([]:List Keyword).isEmpty then 0 else 1)<30))=true:=by rfl)
  (hline:(apos.endLine==cpos.line)=true:=by rfl) (hs:starEach (e::es) X.env=(false,eval e X.env)::starEach es X.env:=by rfl) (hplain:(backTo cpos (starEach es X.env)).any (·.1)=false:=by rfl) :
  PE X (.Call (.Attribute o name apos) (e::es) [] cpos) (tBM X.K T r to t):= by
 intro pins s σ H Q I h
 refine wpAny_Call_method_late hbase hfew hline rfl (thn (ho pins s σ H _ I h) fun v s1 h981=>?_)
 refine CI h981 fun x H1 I1 r1 ty q1=>?_
 refine xA (NE I1 r1 ty) fun h1 h2=>?_
 refine ⟨T,id,pa,slot,hty,h1,h2,?_⟩
 have hA:=ha cpos pins s1 σ H1 _ I1 q1
 rw[hs] at hA ⊢
 refine Calls.callWith_builtin (by show (false||(backTo cpos (starEach es X.env)).any (·.1))=false;rw[hplain] <;> rfl) (Calls.evalArgs_plain ?_)
 exact thn hA fun us s2 h982=>by refine Ar h982 fun vs H2 I2 r2 q2=>?_;exact hm pins s2 σ H2 x vs v us Q I2 r1 r2 q2
end
end L2
namespace L2
open PySem PySem.Spec PyProof.Rows
def MtM (X:Cx) (id:String) (r:V->List V->Hp->VK->Prop):Prop:=
 ∀ (pins:List (Addr × Obj)) (s:Shared) (σ:St) (H:Hp) (x:V) (xs:List V) (v:Value) (us:List Value) (Q:VK),Inv X pins σ H s->AR x v->AH xs us->r x xs H Q ->
  wpAny (model X.prog X.w) X.A (call (.builtin id) (v::us)) (EP X pins σ Q) X.xe s
theorem AH.un {x:V} {xs:List V} {us:List Value} (h:AH (x::xs) us) : ∃ u vs,us=u::vs/\AR x u/\AH xs vs:= by
 cases h with | cons r t=>exact ⟨_,_,rfl,r,t⟩
theorem AH.no {us:List Value} (h:AH [] us):us=[]:=by cases h;rfl
theorem AH.one : ∀ {x:V} {us:List Value},AH [x] us -> ∃ u,us=[u]/\AR x u:= by
 intro x us h
 refine Ar h.un fun u vs e90 r t=>?_;subst e90
 rw[t.no];exact ⟨_,rfl,r⟩
theorem AH.two : ∀ {x y:V} {us:List Value},AH [x,y] us -> ∃ u v,us=[u,v]/\AR x u/\AR y v:= by
 intro x y us h
 refine Ar h.un fun u vs e90 r t=>?_;subst e90
 refine xEA t.one fun v e90 q=>?_;subst e90
 exact ⟨_,_,rfl,r,q⟩
section
variable {X:Cx} {pins:List (Addr × Obj)} {σ:St} {H:Hp} {s:Shared} {l b:Addr} {xs ys zs:List V}
theorem Inv.lset {its its':List Value} {n:Nat} {f:Array Value->Array Value} {t':Nat} (I:Inv X pins σ H s) (hH:H l=some (.lst xs))
  (e : s.heap.get? l = some { cls:=.type "list",data:=.seq its.toArray n }) (hf : f its.toArray = its'.toArray) (hv : AH ys its') (hz : ys.length <= sizeLine) :
  Inv X pins σ (upd H l (.lst ys)) { s with heap:=s.heap.update l (Obj.mapSeq f),toks:=t' }:= by
 have q:=PySem.IsL.update e f
 rw[hf] at q
 refine I.write (x:=l) (e:=l) (by rw[hH];exact trivial) (.inl rfl) (fun b' u hb hu=>(Heap.get?_update_other s.heap (Obj.mapSeq f) (Ne.symm hb)).trans hu) ⟨_,q⟩ ?_
 exact ⟨hz,its',_,hv,q⟩
theorem Inv.lnew {its:List Value} {t':Nat} (I:Inv X pins σ H s) (hv:AH ys its) (hz:ys.length<=sizeLine) :
  Inv X pins σ (upd H s.heap.objs.size (.lst ys)) { s with heap:=s.heap.push { cls:=.type "list",data:=.seq its.toArray },toks:=t' }:=
 I.laid (fun _ _ q=>Heap.get?_push_of_some _ q) (Nat.le_refl _) ⟨hz,its,0,hv,Heap.get?_push_size _ rfl⟩
theorem Inv.fresh (I:Inv X pins σ H s):H s.heap.objs.size=none:=I.hok.fresh (Nat.le_refl _)
theorem Inv.lstM (I : Inv X pins σ H s) (hH : H l = some (.lst xs)) : xs.length <= sizeLine /\ ∃ (its : List Value) (n : Nat),AH xs its /\ xs.length = its.length /\ s.heap.get? l = some { cls:=.type "list",data:=.seq its.toArray n }:= by
 refine xA (I.hok l _ hH) fun z m954=>Ct m954 fun its n r e=>?_
 exact ⟨z,its,n,r,r.length,e⟩
theorem LW {n:Nat} (h:n<=sizeLine):Builtin.List.listTooLong n=false:= by
 unfold Builtin.List.listTooLong
 exact decide_eq_false (by lia)
end
section
variable {X:Cx}
inductive PQ (x:V) (vs:List V) (H:Hp) (Q:VK):Prop
 | mk (l:Addr) (xs:List V) (y:V) (hx:x = .ref l) (hv:vs=[y]) (hl:H l=some (.lst xs)) (hz:xs.length<sizeLine) (q:Q .non (upd H l (.lst (xs++[y])))):PQ x vs H Q
def Ms:V->List V->Hp->VK->Prop:=fun x vs H Q=>PQ x vs H Q
theorem BV : MtM X "list.append" Ms:= by
 intro pins s σ H x vs v us Q I rx rv h
 obtain ⟨l,xs,y,rfl,rfl,hH,hz,q⟩:=h
 cases rx
 refine xEA rv.one fun u e90 ru=>?_;subst e90
 refine xA (I.lstM hH) fun z m955=>Ar m955 fun its n r hl e=>?_
 refine call_meets F.slot_list_append ⟨_,e,rfl⟩ F.entry_list_append (F.args_list_append_2 _ _) (PySem.list_append l its.toArray n u (by rw[List.size_toArray];lia)) ⟨e,?_⟩
 refine ⟨.non,_,I.lset (its':=its++[u]) hH e (by simp) (r.append (.cons ru .nil)) ?_,rfl,q⟩
 rw[List.length_append,List.length_singleton]
 lia
inductive PH (x:V) (vs:List V) (H:Hp) (Q:VK):Prop
 | mk (l b:Addr) (xs zs:List V) (hx:x = .ref l) (hv:vs=[.ref b]) (hl:H l=some (.lst xs)) (hb:H b=some (.lst zs)) (hz:xs.length+zs.length<=sizeLine) (q:Q .non (upd H l (.lst (xs++zs)))):PH x vs H Q
def Mw:V->List V->Hp->VK->Prop:=fun x vs H Q=>PH x vs H Q
theorem Gx : MtM X "list.extend" Mw:= by
 intro pins s σ H x vs v us Q I rx rv h
 obtain ⟨l,b,xs,zs,rfl,rfl,hH,hB,hz,q⟩:=h
 cases rx
 refine xEA rv.one fun u e90 ru=>?_;subst e90
 cases ru
 refine xA (I.lstM hH) fun z m956=>Ar m956 fun its n r hl e=>?_
 refine xA (I.lstM hB) fun z2 m957=>Ar m957 fun its2 n2 r2 hl2 e2=>?_
 have hsz:its.toArray.size+its2.toArray.size<=sizeLine:=by rw[List.size_toArray,List.size_toArray];lia
 have hlong : ¬ (!its.toArray.isEmpty&&Builtin.List.listTooLong (its.toArray.size+its2.toArray.size))=true:= by
  rw[LW hsz,Bool.and_false]
  exact Bool.false_ne_true
 refine call_meets F.slot_list_extend ⟨_,e,rfl⟩ F.entry_list_extend (F.args_list_extend_2 _ _)
  (AutoSeq1.list_extend_list_list_0 l its.toArray n b its2.toArray n2 hlong (by rw[List.size_toArray];lia) (by lia)) ⟨e,e2,?_⟩
 refine ⟨.non,_,I.lset (its':=its++its2) hH e (by simp) (r.append r2) ?_,rfl,q⟩
 rw[List.length_append]
 lia
inductive PF (x y:V) (H:Hp) (Q:VK):Prop
 | mk (l b:Addr) (xs zs:List V) (hx:x = .ref l) (hy:y = .ref b) (hl:H l=some (.lst xs)) (hb:H b=some (.lst zs)) (hz:xs.length+zs.length<=sizeLine) (q : ∀ p,H p=none->Q (.ref p) (upd H p (.lst (xs++zs)))):PF x y H Q
def Qt:R2:=fun x y H Q=>PF x y H Q
theorem EW:OpR X (binaryOp .Add) Qt:= by
 intro pins s σ H x y v u Q I rx ry h
 obtain ⟨l,b,xs,zs,rfl,rfl,hH,hB,hz,q⟩:=h
 cases rx
 cases ry
 refine xA (I.lstM hH) fun z m962=>Ar m962 fun its n r hl e=>?_
 refine xA (I.lstM hB) fun z2 m963=>Ar m963 fun its2 n2 r2 hl2 e2=>?_
 refine PySem.P.add_list e e2 ?_ (by rw[List.size_toArray,List.size_toArray];lia)
 have ea:its.toArray++its2.toArray=(its++its2).toArray:=by simp
 rw[ea]
 exact ⟨.ref _,_,I.lnew (t':=s.toks) (r.append r2) (by rw[List.length_append];lia),rfl,q _ I.fresh⟩
end
end L2
namespace Att
open PySem PySem.W PySem.Calls PyProof.Rows
theorem D3 {P:Params} {h:Heap} : ∀ (ns:List Int) (vs:List Value),WellAll P h vs (ns.map WData.int)->IntsAre vs ns:= by
 intro ns
 induction ns with
 | nil=>
  intro vs w
  rw[List.map_nil] at w
  cases w
  exact .nil
 | cons n ns ih=>
  intro vs w
  rw[List.map_cons] at w
  cases w with
  | cons a b=>
   cases a
   exact .cons _ _ (ih _ b)
theorem Kf {l:OpenLaw} {n:Nat} (hn:l.most=some n) {P:Params} {h:Heap} {args:List WData} {vals:List Value}
  (hpre:l.row.toRowW.claim.pre args=true) (hwl:WellAll P h vals args) :
  ∃ a vs ns,vals = [Value.ref a] /\ args = [WData.list (ns.map WData.int)] /\ h.get? a = some { cls:=.type "list",data:=.seq vs.toArray } /\ IntsAre vs ns /\ ns.length <= n:= by
 have hsh:WShape.hasAll [] args [.list .int]=true:=(pre_splitW hpre).1
 have hc:l.pre.holds [] { args:=args }=true:=(pre_splitW hpre).2
 refine Ar (hasAllW_cons hsh) fun d r e90 h1 h2=>?_;subst e90
 obtain rfl:=hasAllW_nil h2
 refine xEA (hasW_list h1) fun xs e90 h3=>?_;subst e90
 refine xE (items_int h3) fun ns e90=>?_;subst e90
 have hlen:ns.length<=n:= by
  unfold OpenLaw.pre at hc
  have h4:(WTm.not (.lt (.lit (.int (n:Int))) (.len (.arg 0)))).holds [] { args:=[.list (ns.map .int)] }=true:= by
   have h4:=(holds_andW hc).1
   rw[hn] at h4
   exact h4
  have h5:=condW_of h4 (w_not (w_lt w_lit (w_len_list (w_arg rfl))))
  rw[List.length_map] at h5
  refine Nat.le_of_not_lt fun q=>?_
  have q':(n:Int)<((ns.length:Nat):Int):=by omega
  first
   | (rw[decide_eq_true q'] at h5;exact absurd h5 (by decide))
   | (simp at h5;omega)
 cases hwl with
 | cons w1 w2=>
  cases w2
  cases w1 with
  | list ho hall=>exact ⟨_,_,ns,rfl,rfl,ho,D3 ns _ hall,hlen⟩
theorem KZ (l:OpenLaw) (args:List WData):l.row.toRowW.claim.post args (.bool true) args=true:=
 postW_of (r:=l.row.toRowW) (X:=(true==true))
  (show WShape.has [] (.bool true) .bool=true by first | rfl | decide | simp [WShape.has,WShape.arms,WShape.armsAll])
  (show (WTm.eq .res (.lit (.bool true))).value [] { args:=args,res:=some (.bool true),after:=args }=some (.bool (true==true)) from w_eq_bool (w_res rfl) w_lit) rfl
theorem attach_call {l:OpenLaw} {n:Nat} {q:Program} {loose:List Str} {XP:(Str->Option Value)->Heap->Prop} {YP:World->Heap->Prop} {d:DefRec}
  (hn:l.most=some n) (hdf:d.params.defaults=[])
  (call : ∀ (w:World) (s₀ s₁:Shared) (mg mb:Str->Option Value) (fa:Addr) (o:Obj) (pm cd doc:Value) (a:Addr) (vs:List Value) (ns:List Int),
   Ground q loose [] XP w s₀ mg mb s₁.heap->YP w s₁.heap ->
   s₁.heap.get? fa=some o->o.data = .func (docDef d.name d.params d.body d.scope pm cd doc)->s₁.heap.CodeRec cd d.name->mg d.name=some (.ref fa) ->
   s₁.heap.get? a = some { cls:=.type "list",data:=.seq vs.toArray } -> IntsAre vs ns -> ns.length <= n -> s₁.gens = #[] ->
   codeAny (model l.prog w) callerA (.call (.ref fa) ⟨[.ref a],[]⟩) (fun r s'=>r = .ok (.ret (.bool true))/\OldK s₁.heap s'.heap/\s'.os=s₁.os/\AllBare s'.gens) s₁) :
  WalkO q loose XP YP l.row.toRowW d [] (fun f vs=>PySem.call f vs):= by
 intro w s₀ s₁ mg mb G Y fa o pm cd doc dV kV ho hd hcd hD hmg hg args vals as hpre hlay hrd hwl hlo
 obtain rfl:dV = .none:=Dflts.none hD hdf
 obtain rfl:kV = .none:=Dflts.noKw hD
 refine Ks (Kf hn hpre hwl) fun a vs ns e90 e91 hobj hints hlen=>?_;subst e90;subst e91
 refine enter_call (codeAny_mono (call w s₀ s₁ mg mb fa o pm cd doc a vs ns G Y ho (fd_plain hd) hcd hmg hobj hints hlen hg) fun r s' hq=>?_)
 refine xA3 hq fun e90 h2 h3 h4=>?_;subst e90
 exact ⟨.inl ⟨.bool true,.bool true,[],rfl,fun _=>rfl,.bool true,KZ l _,fun _=>⟨List.Pairwise.nil,fun _ hm=>(nomatch hm)⟩⟩,h2,h3,h4⟩
end Att
namespace L2
open PySem PySem.Spec PyProof.Rows
theorem Gu : ∀ {vs:List Value} {ns:List Int},IntsAre vs ns->AH (ns.map V.int) vs
 | _,_,.nil=>.nil
 | _,_,.cons n t h=>.cons ⟨t,rfl⟩ (Gu h)
def OQ (H:Hp):Prop:=∀ b,H b=none \/ ∃ o xs,H b=some (.frz o (.lst xs))
theorem Lu {P:Program} {w:World} {K:PySem.W.Frag} {mg mb:Str->Option Value} {CX:CXT} {k:Nat} {fa a:Addr} {fd:FuncData} {x:Str} {sp:Sp} {s₁:Shared} {vs:List Value} {ns:List Int}
  (KX : K.In s₁.heap) (hns : s₁.heap.Ns mainGlobals mg) (hb : s₁.heap.Ns builtinsNs mb) (hbb : ∀ x : Str,x ≠ "__name__" -> mb x = bootBuiltins x) (hlim : s₁.heap.NoLimit) (hg : s₁.gens = #[])
  (ha : s₁.heap.get? a = some { cls:=.type "list",data:=.seq vs.toArray }) (hi : IntsAre vs ns) (hl : ns.length <= sizeLine) (hr : Ee k callerA)
  (F : ∀ base:Heap,K.In base->base.Ns mainGlobals mg->BQ P w K mg base CX k fa fd [x] sp) (hbind : ∀ (s:Shared) (u:Value),BindsTo s fd ⟨[u],[]⟩ [(x,u)])
  (hsp : ∀ H:Hp,OQ H->SqL K H a (ns.map V.int)->sp [.ref a] H (fun v _=>v = .bl true) fun _ _ _=>False)
  (hCX : ∀ H e s',CX [] H s₁ (fun _ _ _=>False) e s'->False) :
  codeAny (model P w) callerA (.call (.ref fa) ⟨[.ref a],[]⟩) (fun r s'=>r = .ok (.ret (.bool true))/\OldK s₁.heap s'.heap/\s'.os=s₁.os/\AllBare s'.gens) s₁:= by
 have rv:=Gu hi
 have lenV:=hi.length
 have core : ∀ H:Hp,OQ H->SqL K H a (ns.map V.int)->HOk P w H s₁.heap->(∀ b,H b≠none->b=a)->(H a≠none->K.lookup a=none) ->
   codeAny (model P w) callerA (.call (.ref fa) ⟨[.ref a],[]⟩) (fun r s'=>r = .ok (.ret (.bool true))/\OldK s₁.heap s'.heap/\s'.os=s₁.os/\AllBare s'.gens) s₁:= by
  intro H hO hS hok hA hK
  have base_of : ∀ {b:Addr} {o:Obj},s₁.heap.get? b=some o->H b=none->(Lv s₁.heap H).get? b=some o:=fun e n=>Lx e n
  have noA : ∀ {b:Addr} {o:Obj} {es:Array DictEntry} {ep:Nat},s₁.heap.get? b=some o->o.data = .dict es ep->H b=none:=fun {b o es ep} e d=>by
   cases q:H b with
   | none=>rfl
   | some u=>
    have e':b=a:=hA b (by rw[q];simp)
    subst e'
    rw[ha] at e;cases e
    have d':Data.seq vs.toArray _=Data.dict es ep:=d
    cases d'
  have nsK : ∀ {b:Addr} {m:Str->Option Value},s₁.heap.Ns b m->(Lv s₁.heap H).Ns b m:=fun {b m} ⟨o,es,ep,e,d,r⟩=>⟨o,es,ep,base_of e (noA e d),d,r⟩
  have hKb:K.In (Lv s₁.heap H):=fun b o e=>base_of (KX b o e) (by
   cases q:H b with
   | none=>rfl
   | some u=>
    have e':b=a:=hA b (by rw[q];simp)
    subst e'
    rw[hK (by rw[q];simp)] at e;cases e)
  have hM:Mod K mg (Lv s₁.heap H):=⟨hKb,nsK hns,⟨mb,nsK hb,hbb⟩,let ⟨mc,h1,h2⟩:=hlim;⟨mc,nsK h1,h2⟩⟩
  have e0:OK P w K mg (Lv s₁.heap H) callerA [] s₁ H:=⟨rfl,hM,fun b o e=>MB e,Nat.le_of_eq (KA _ _),trivial,fun b hb=>absurd (show b ∈ ([]:List Addr) from hb) (by simp),hok,.of_eq hg⟩
  refine codeAny_mono ((F _ hKb (nsK hns)).run callerA [] s₁ H ⟨[.ref a],[]⟩ [.ref a] [.ref a] _ _ hr e0 (hbind s₁ (.ref a)) (.cons rfl .nil) (hsp H hO hS)) fun r s' h=>?_
  cases r with
  | error e=>exact (hCX H e s' h).elim
  | ok fl=>
   cases fl with
   | next=>exact False.elim h
   | brk=>exact False.elim h
   | cont=>exact False.elim h
   | ret u=>
    refine NX h fun v H' os bare un hok' r' q=>?_
    have q':v = .bl true:=q
    subst q'
    obtain rfl:u=Value.bool true:=r'
    refine ⟨rfl,OldK.of_keep fun b o e=>?_,os,bare⟩
    cases q:H b with
    | none=>exact un.keep b o e q (by intro z;exact absurd (show b ∈ ([]:List Addr) from z) (by simp)) (by simp)
    | some u=>
     refine Or.elim (hO b) (fun z=>?_) fun n90=>xE2 n90 fun ob xs z=>?_
     ·rw[q] at z;cases z
     ·have z2:=un.frzs b ob _ z
      refine xA (hok b _ z) fun e1 _=>?_
      refine xA (hok' b _ z2) fun e2 _=>?_
      rw[e] at e1;cases e1
      exact e2
 cases hk:K.lookup a with
 | some o=>
  have e:=KX a o hk
  rw[ha] at e
  cases e
  refine core (fun _=>none) (fun _=>.inl rfl) (.inr ⟨_,vs.toArray,_,hk,rfl,rfl,rfl,by rw[List.size_toArray,lenV];exact hl,by simpa using rv⟩) (fun b u z=>by have z':(none:Option HO)=some u:=z;cases z') (fun b z=>absurd rfl z) fun z=>absurd rfl z
 | none=>
  refine core (fun b=>if b = a then some (.frz { cls:=.type "list",data:=.seq vs.toArray } (.lst (ns.map V.int))) else none) (fun b=>?_) (.inl (.inr ⟨{ cls:=.type "list",data:=.seq vs.toArray },if_pos rfl⟩)) (fun b u z=>?_) (fun b z=>?_) fun _=>hk
  ·by_cases hb:b=a
   ·exact .inr ⟨_,_,if_pos hb⟩
   ·exact .inl (if_neg hb)
  ·by_cases hb:b=a
   ·have z':=(if_pos hb).symm.trans z
    cases z'
    subst hb
    exact ⟨ha,by rw[List.length_map];exact hl,vs,_,rv,ha⟩
   ·have z':=(if_neg hb).symm.trans z
    cases z'
  ·by_cases hb:b=a
   ·exact hb
   ·exact absurd (if_neg hb) z
end L2
namespace L2
open PySem PySem.Spec PyProof.Rows
theorem MZ {l:PySem.W.OpenLaw} {n k:Nat} {q:Program} {loose:List Str} {XP:(Str->Option Value)->Heap->Prop} {YP:World->Heap->Prop} {d:DefRec} {K:Params->PySem.W.Frag} {CX:World->CXT} {sp:World->Sp} {x:Str}
  (hn:l.most=some n) (hn2:n<=sizeLine) (hdf:d.params.defaults=[]) (hr:Ee k callerA)
  (hY : ∀ (w:World) (h:Heap),YP w h->(K w.params).In h)
  (F : ∀ (w:World) (mg:Str->Option Value) (fa:Addr) (h:Heap),(K w.params).In h->h.Ns mainGlobals mg->mg d.name=some (.ref fa) ->
   ∃ fd:FuncData,(∀ (s:Shared) (u:Value),BindsTo s fd ⟨[u],[]⟩ [(x,u)]) /\
    ∀ base:Heap,(K w.params).In base->base.Ns mainGlobals mg->BQ l.prog w (K w.params) mg base (CX w) k fa fd [x] (sp w))
  (hsp : ∀ (w:World) (H:Hp) (a:Addr) (ns:List Int),ns.length<=n->OQ H->SqL (K w.params) H a (ns.map V.int)->sp w [.ref a] H (fun v _=>v = .bl true) fun _ _ _=>False)
  (hCX : ∀ (w:World) (H:Hp) (s:Shared) (e:Value) (s':Shared),CX w [] H s (fun _ _ _=>False) e s'->False) :
  PySem.W.WalkO q loose XP YP l.row.toRowW d [] (fun f vs=>PySem.call f vs):= by
 refine Att.attach_call hn hdf fun w s₀ s₁ mg mb fa o pm cd doc a vs ns G Y ho hd hcd hmg hobj hints hlen hg=>?_
 have KX:=hY w _ Y
 refine xEA (F w mg fa _ KX G.T.g hmg) fun fd hb hF=>?_
 exact Lu KX G.T.g G.T.b G.T.builtins G.T.nolimit hg hobj hints (Nat.le_trans hlen hn2) hr hF hb (fun H hO hS=>hsp w H a ns hlen hO hS) fun H e s'=>hCX w H s₁ e s'
end L2
namespace L2
open PySem PySem.Spec PyProof.Rows
noncomputable def Bd (s:Stmt):Arguments:=match s with
 | .FunctionDef _ a _ _ _ _ _ _ _ _=>a
 | _=>{ posonlyargs:=[],args:=[],vararg:=none,kwonlyargs:=[],kw_defaults:=[],kwarg:=none,defaults:=[] }
noncomputable def A1 (s:Stmt):List Stmt:=match s with
 | .FunctionDef _ _ b _ _ _ _ _ _ _=>b
 | _=>[]
noncomputable def Ai (s:Stmt):Scope:=match s with
 | .FunctionDef _ _ _ _ _ _ sc _ _ _=>sc
 | _=>{ kind:=.function,names:=[],isGenerator:=false,isCoroutine:=false }
noncomputable abbrev CX0:CXT:=fun _ _ _ _ _ _=>False
noncomputable abbrev E0:XK:=fun _ _ _=>False
theorem OO {X:Cx}:Kv CX0 X E0:=fun _ _ _ _ _ _ _ h=>h.elim
structure Fun (K:PySem.W.Frag) (x qual:Str) (st:Stmt) (f:Addr) (fd:FuncData):Prop where
 ex : ∃ (oc:Value) (od:Option Addr) (kV doc pm:Value) (an:Option Addr) (cdv ct:Value) (osl:Array (Option Value)),
  fd=PySem.W.fnOf x qual (Bd st) (A1 st) (Ai st) .none kV doc pm an cdv ct/\K.lookup f=some ⟨oc,od,.func fd,osl⟩/\PySem.W.codeIn K cdv qual=true
 kp:PySem.W.keepIn K (.ref f)=true
section
variable {P:Program} {w:World} {K:PySem.W.Frag} {mg:Str->Option Value} {base:Heap}
theorem Fun.ok {x qual:Str} {st:Stmt} {f:Addr} {fd:FuncData} {N ps:List Str} {k:Nat} {sp:Sp} (F:Fun K x qual st f fd) (S:Aq N ps (Ai st)) (len : ∀ vs H Q E,sp vs H Q E->vs.length=ps.length)
  (hbody : ∀ (cdv:Value) (A:Around) (outer:List Env) (s:Shared) (H:Hp) (vs:List V) (Q:VK) (E:XK),Ee k (A.deeper (envOfC qual (Ai st) s.heap.objs.size f cdv))->sp vs H Q E ->
   ∃ t,PSs (MD CX0 P w K mg base N qual (Ai st) f cdv A outer s H E).nox (A1 st) t/\t { nx:=fun _ H'=>Q .non H',rt:=Q } (FA N vs) H):BQ P w K mg base CX0 (k+1) f fd ps sp:= by
 refine xE6 F.ex fun oc od kV doc pm an m968=>Ed m968 fun cdv ct osl e90 lk hcd=>?_;subst e90
 refine N1 lk hcd S len fun A outer s H vs Q E hr hsp=>?_
 refine xEA (hbody cdv A outer s H vs Q E hr hsp) fun t h q=>?_
 exact ⟨t,h.nox,q⟩
theorem Fun.binds {x qual:Str} {st:Stmt} {f:Addr} {fd:FuncData} {ps:List Str} (F:Fun K x qual st f fd)
  (h : ∀ (kV doc pm:Value) (an:Option Addr) (cdv ct:Value) (us:List Value),us.length=ps.length->bindArgs (PySem.W.fnOf x qual (Bd st) (A1 st) (Ai st) .none kV doc pm an cdv ct) ⟨us,[]⟩=pure (ps.zip us)):Ha K fd ps []:= by
 refine xE6 F.ex fun oc od kV doc pm an m969=>Ed m969 fun cdv ct osl e90 lk hcd=>?_;subst e90
 exact .all (h kV doc pm an cdv ct)
theorem Mc {x qual:Str} {st:Stmt} {f:Addr} {oc:Value} {od an:Option Addr} {osl:Array (Option Value)} {kV doc pm cdv ct:Value} (l:K.lookup f=some ⟨oc,od,.func (PySem.W.fnOf x qual (Bd st) (A1 st) (Ai st) .none kV doc pm an cdv ct),osl⟩)
  (c:PySem.W.codeIn K cdv qual=true) (k:PySem.W.keepIn K (.ref f)=true):Fun K x qual st f (PySem.W.fnOf x qual (Bd st) (A1 st) (Ai st) .none kV doc pm an cdv ct):=⟨⟨oc,od,kV,doc,pm,an,cdv,ct,osl,rfl,l,c⟩,k⟩
end
theorem MG {A:Around} {k:Nat} (hr:Ee k A):A.units+1<cLine:=Nat.lt_of_le_of_lt (Nat.add_le_add_left (by decide:1<=64) _) hr.units
section
variable {X:Cx}
theorem pv (i : Nat) {x : Str} {pos : Pos} (hN : X.N[i]? = some x:=by rfl) (hv : Vis X.env.scope x:=by first | exact Or.inl rfl | exact Or.inr (Or.inl rfl) | exact Or.inr (Or.inr rfl)) (hd : (x == ("__debug__" : Str)) = false:=by decide)
  (hcd : (x == ("__classdict__" : Str)) = false:=by decide) : PE X (.Name x pos) (P4 i):=Oa hN hv hd hcd
end
theorem MQ {A B:Prop} (h:B):if false=true then A else B:= by
 rw[if_neg Bool.false_ne_true]
 exact h
theorem Jj {A B:Prop} (h:A):if true=true then A else B:= by
 rw[if_pos rfl]
 exact h
theorem D5 {c A B:Prop} [Decidable c] (h1:c->A) (h2 : ¬ c->B):if c then A else B:= by
 by_cases h:c
 ·rw[if_pos h]
  exact h1 h
 ·rw[if_neg h]
  exact h2 h
theorem NP {c A B:Prop} [Decidable c] (hc:c) (h:B):if (!decide c)=true then A else B:= by
 rw[decide_eq_true hc]
 exact MQ h
def An (H H':Hp):Prop:=∀ b o,H b=some o->H' b=some o
theorem An.refl (H:Hp):An H H:=fun _ _ h=>h
theorem An.trans {H H1 H2:Hp} (a:An H H1) (b:An H1 H2):An H H2:=fun c o h=>b c o (a c o h)
theorem An.free {H H':Hp} (e:An H H') {l:Addr} (h:H' l=Option.none):H l=Option.none:= by
 cases q:H l with
 | none=>rfl
 | some o=>
  rw[e l o q] at h
  cases h
theorem An.seq {K:PySem.W.Frag} {H H':Hp} {a:Addr} {xs:List V} (e:An H H') (h:SqL K H a xs):SqL K H' a xs:= by
 rcases h with (h | ⟨o,h⟩) | h
 ·exact .inl (.inl (e _ _ h))
 ·exact .inl (.inr ⟨o,e _ _ h⟩)
 ·exact .inr h
end L2
namespace L2
open PySem PySem.Spec PyProof.Rows
theorem Bm {env:Env} : ∀ {names:List (Str × NameKind)} {x:Str} {k:NameKind},names.lookup x=some k ->
  ∃ k',(names.map fun (n,k)=>if (k==NameKind.free&&env.scope.kind == .function&&env.kindOf n==some .cell) then (n,NameKind.cell) else (n,k)).lookup x=some k'/\(k'=k\/(k = .free/\k' = .cell))
 | [],_,_,h=>by simp at h
 | (n,k0)::r,x,k,h=>by
  have ih:=@Bm env r x k
  show ∃ k',List.lookup x ((if (k0==NameKind.free&&env.scope.kind == .function&&env.kindOf n==some .cell)=true then (n,NameKind.cell) else (n,k0))::_)=some k'/\_
  cases hx:x==n with
  | true=>
   simp only [List.lookup_cons,hx] at h
   cases h
   by_cases hc:(k0==NameKind.free&&env.scope.kind == .function&&env.kindOf n==some .cell)=true
   ·rw[if_pos hc]
    refine ⟨.cell,by simp only [List.lookup_cons,hx],.inr ⟨?_,rfl⟩⟩
    have q:(k0==NameKind.free)=true:= by
     rw[Bool.and_eq_true,Bool.and_eq_true] at hc
     exact hc.1.1
    cases k0 <;> first | rfl | exact absurd q (by decide)
   ·rw[if_neg hc]
    exact ⟨k0,by simp only [List.lookup_cons,hx],.inl rfl⟩
  | false=>
   simp only [List.lookup_cons,hx] at h
   obtain ⟨k',e,q⟩:=ih h
   by_cases hc:(k0==NameKind.free&&env.scope.kind == .function&&env.kindOf n==some .cell)=true
   ·rw[if_pos hc];exact ⟨k',by simp only [List.lookup_cons,hx];exact e,q⟩
   ·rw[if_neg hc];exact ⟨k',by simp only [List.lookup_cons,hx];exact e,q⟩
theorem Bt {env:Env} : ∀ {names:List (Str × NameKind)} {x:Str},names.lookup x=none ->
  (names.map fun (n,k)=>if (k==NameKind.free&&env.scope.kind == .function&&env.kindOf n==some .cell) then (n,NameKind.cell) else (n,k)).lookup x=none
 | [],_,_=>rfl
 | (n,k0)::r,x,h=>by
  have ih:=@Bt env r x
  show List.lookup x ((if (k0==NameKind.free&&env.scope.kind == .function&&env.kindOf n==some .cell)=true then (n,NameKind.cell) else (n,k0))::_)=none
  cases hx:x==n with
  | true=>simp only [List.lookup_cons,hx] at h;cases h
  | false=>
   simp only [List.lookup_cons,hx] at h
   by_cases hc:(k0==NameKind.free&&env.scope.kind == .function&&env.kindOf n==some .cell)=true
   ·rw[if_pos hc];simp only [List.lookup_cons,hx];exact ih h
   ·rw[if_neg hc];simp only [List.lookup_cons,hx];exact ih h
theorem Cc {env:Env} : ∀ (names:List (Str × NameKind)) (cs:List (Str × Addr)),(∀ y ∈ names,y.2=NameKind.free -> ∃ c,env.cells.lookup y.1=some c) ->
  (∀ y c,cs.lookup y=some c->env.cells.lookup y=some c) ->
  ∃ cl,(forIn names cs fun x r=>(match x with
   | (name,kind)=>if (kind==NameKind.free)=true then (do let a <- cellOf env name;pure (ForInStep.yield ((name,a)::r))) else pure (ForInStep.yield r)):Sem (List (Str × Addr)))=pure cl /\
   (∀ y c,cl.lookup y=some c->env.cells.lookup y=some c)/\(∀ y,((∃ c,cs.lookup y=some c)\/(y,NameKind.free) ∈ names) -> ∃ c,cl.lookup y=some c)
 | [],cs,_,h=>⟨cs,by simp,h,fun y q=>q.elim id fun z=>absurd z (by simp)⟩
 | (n,k)::r,cs,hf,h=>by
  by_cases hk:(k==NameKind.free)=true
  ·have hk':k=NameKind.free:=by cases k <;> first | rfl | exact absurd hk (by decide)
   obtain ⟨c,hc⟩:=hf (n,k) List.mem_cons_self hk'
   have h' : ∀ y c',((n,c)::cs).lookup y=some c'->env.cells.lookup y=some c':=fun y c' e=>by
    cases hy:y==n with
    | true=>
     simp only [List.lookup_cons,hy] at e
     cases e
     have:y=n:=by simpa using hy
     rw[this];exact hc
    | false=>
     simp only [List.lookup_cons,hy] at e
     exact h y c' e
   obtain ⟨cl,e,q1,q2⟩:=Cc r ((n,c)::cs) (fun y hy=>hf y (List.mem_cons_of_mem _ hy)) h'
   refine ⟨cl,?_,q1,fun y q=>q2 y ?_⟩
   ·rw[List.forIn_cons]
    have ec:cellOf env n=pure c:=by unfold cellOf;rw[hc]
    simp only [hk,if_true,ec,pure_bind]
    exact e
   ·rcases q with ⟨c',q⟩ | q
    ·left
     cases hy:y==n with
     | true=>exact ⟨c,by simp only [List.lookup_cons,hy]⟩
     | false=>exact ⟨c',by simp only [List.lookup_cons,hy];exact q⟩
    ·rcases List.mem_cons.mp q with z | z
     ·cases z
      left
      exact ⟨c,by simp [List.lookup_cons]⟩
     ·exact .inr z
  ·obtain ⟨cl,e,q1,q2⟩:=Cc r cs (fun y hy=>hf y (List.mem_cons_of_mem _ hy)) h
   refine ⟨cl,?_,q1,fun y q=>q2 y ?_⟩
   ·rw[List.forIn_cons]
    simp only [hk,if_false,pure_bind]
    exact e
   ·rcases q with q | q
    ·exact .inl q
    ·rcases List.mem_cons.mp q with z | z
     ·cases z
      exact absurd rfl hk
     ·exact .inr z
theorem II {scope:Scope} {env:Env} (h : ∀ y ∈ scope.names,y.2=NameKind.free -> ∃ c,env.cells.lookup y.1=some c) :
  ∃ cl,closureFor scope env=pure cl/\(∀ y c,cl.lookup y=some c->env.cells.lookup y=some c)/\(∀ y,(y,NameKind.free) ∈ scope.names -> ∃ c,cl.lookup y=some c):= by
 refine AM (Cc (env:=env) scope.names [] h (fun y c e=>by simp at e)) fun cl e q1 q2=>?_
 refine ⟨cl,?_,q1,fun y hy=>q2 y (.inr hy)⟩
 unfold closureFor
 dsimp only
 rw[show (forIn scope.names ([]:List (Str × Addr)) fun x r=>(match x with
   | (name,kind)=>if (kind==NameKind.free)=true then (do let a <- cellOf env name;pure (ForInStep.yield ((name,a)::r))) else pure (ForInStep.yield r)):Sem (List (Str × Addr)))=pure cl from e]
 rfl
end L2
namespace L2
open PySem PySem.Spec PyProof.Rows
section
variable {prog:Program} {w:World} {A:Around} {R:Result->Shared->Prop} {s:Shared}
theorem Dz {elt target iter:Expr} {ifs:List Expr} {scope:Scope} {pos:Pos} {it acc:Value} {env:Env} (Iv:Nat->Shared->Prop)
  (turn : ∀ n s,Iv n s->wpAny (model prog w) A (pyNext it) (fun r s₁=>match r with
   | none=>R (.ok .next) s₁
   | some v=>wpAny (model prog w) A (letOwnedTupleGo target it v) (fun _ s₁'=>wpAny (model prog w) A (assign target env v) (fun _ s₂=>
     wpAny (model prog w) A (forIn ifs true fun c r=>if r=true then do let ok <- isTrue c env (eval c env);pure (ForInStep.yield ok) else pure (ForInStep.yield r)) (fun ok s₃=>
      if ok=true then wpAny (model prog w) A (eval elt env) (fun x s₄=>
       wpAny (model prog w) A (call (.builtin "list.append") [acc,x]) (fun _ s₅=>∃ m,m < n /\ Iv m s₅) (fun _ _=>False) s₄) (fun _ _=>False) s₃
      else ∃ m,m<n/\Iv m s₃) (fun _ _=>False) s₂) (fun _ _=>False) s₁') (fun _ _=>False) s₁) (fun _ _=>False) s)
  (n:Nat) (h:Iv n s) :
  codeAny (model prog w) A (.compLoop (.ListComp elt [⟨target,iter,ifs,0⟩] scope pos) 0 it acc env) R s:= by
 refine codeAny_loop rfl Iv (fun n s hI=>?_) n h
 show wpAny _ A ((compTurn (.ListComp elt [⟨target,iter,ifs,0⟩] scope pos) 0 it acc env).onRaise (fun x=>do noteFrame x env;theTreesLotGoes x)) _ _ s
 refine wpAny_noted ?_
 rw[compTurn_list]
 refine wpAny_bind (wpAny_standAt (wpAny_bind (wpAny_mono (turn n s hI) (fun r s₁ h₁=>?_) fun _ _ z=>z.elim)))
 cases r with
 | none=>exact wpAny_pure h₁
 | some v=>
  refine wpAny_bind (wpAny_mono h₁ (fun _ s₁' h₁'=>?_) fun _ _ z=>z.elim)
  refine wpAny_bind (wpAny_mono h₁' (fun _ s₂ h₂=>wpAny_bind (wpAny_mono h₂ (fun ok s₃ h₃=>?_) fun _ _ z=>z.elim)) fun _ _ z=>z.elim)
  cases ok with
  | false=>exact wpAny_pure ⟨rfl,h₃⟩
  | true=>
   exact wpAny_bind (wpAny_bind (wpAny_mono h₃ (fun x s₄ h₄=>wpAny_bind (wpAny_mono h₄ (fun _ s₅ h₅=>wpAny_pure (wpAny_pure ⟨rfl,h₅⟩)) fun _ _ z=>z.elim)) fun _ _ z=>z.elim))
end
noncomputable def CY (M:List (Option Nat)) (σ:St):St:=M.map fun o=>o.bind fun j=>(σ[j]?).join
theorem CA (M:List (Option Nat)) (σ:St):(CY M σ).length=M.length:=by unfold CY;rw[List.length_map]
theorem CZ {M:List (Option Nat)} {σ:St} {i:Nat} {v:V} (h:(CY M σ)[i]?=some (some v)) : ∃ j,M[i]?=some (some j)/\σ[j]?=some (some v):= by
 unfold CY at h
 rw[List.getElem?_map] at h
 cases e:M[i]? with
 | none=>rw[e] at h;cases h
 | some o=>
  rw[e] at h
  cases o with
  | none=>cases h
  | some j=>
   refine ⟨j,rfl,?_⟩
   have h':(σ[j]?).join=some v:=Option.some.inj h
   cases q:σ[j]? with
   | none=>rw[q] at h';cases h'
   | some o2=>rw[q] at h';cases o2 with
    | none=>cases h'
    | some v2=>cases h';rfl
noncomputable def DB (X:Cx) (N':List Str) (scope:Scope) (cl:List (Str × Addr)) (C:Addr) (s:Shared) (H:Hp) (fp:List Addr):Cx:=
 { X with N:=N',s₀:=s,H₀:=H,env:=compEnvC scope cl C X.env,outer:=X.stack,stack:=X.stack,ex:=fp,fn:=fun _=>false,pn:=[],xe:=fun _ _=>False }
structure L9 (N N':List Str) (M:List (Option Nat)) (sc osc:Scope):Prop where
 kind:sc.kind = .function
 len:N'.length=M.length
 cell : ∀ y ∈ sc.names,y.2≠NameKind.cell
 own : ∀ y ∈ sc.names,y.2=NameKind.local->sc.names.lookup y.1=some NameKind.local
 fre : ∀ y ∈ sc.names,y.2=NameKind.free->osc.names.lookup y.1=some NameKind.cell\/osc.names.lookup y.1=some NameKind.free
 at_ : ∀ (i j:Nat),M[i]?=some (some j) -> ∃ y,N'[i]?=some y/\N[j]?=some y/\sc.names.lookup y=some NameKind.free
def Frm (M:List (Option Nat)) (g:TG):Prop:=∀ v σ H Q,g v σ H Q->g v σ H fun σ' H'=>Q σ' H'/\σ'.length=σ.length /\ ∀ (i j:Nat),M[i]?=some (some j)->σ'[i]?=σ[i]?
theorem Az {M:List (Option Nat)} {i:Nat} (h:M[i]?=some none):Frm M (Fe i):=fun v σ H Q q=>by
 refine ⟨q,List.length_set ..,fun k j e=>?_⟩
 have:i≠k:=by rintro rfl;rw[h] at e;cases e
 exact List.getElem?_set_ne this
def PTs (X:Cx) (ifs:List Expr) (t:TT):Prop:=
 ∀ (pins:List (Addr × Obj)) (s:Shared) (σ:St) (H:Hp) (Q:Bool->Hp->Prop),Inv X pins σ H s->t σ H Q ->
  wpAny (model X.prog X.w) X.A (forIn ifs true fun c r=>if r=true then do let ok <- isTrue c X.env (eval c X.env);pure (ForInStep.yield ok) else pure (ForInStep.yield r)) (TP X pins σ Q) X.xe s
def NO:TT:=fun _ H Q=>Q true H
theorem AG {X:Cx}:PTs X [] NO:=fun pins s σ H Q I h=>wpAny_tests_nil ⟨H,I,h⟩
theorem FE {X:Cx} {c:Expr} {t:TT} (h:PT X c t):PTs X [c] t:=fun pins s σ H Q I q=>wpAny_tests_one (h pins s σ H Q I q)
def tLc (wi:TI) (M:List (Option Nat)) (g:TG) (tc:TT) (te:TE) (σ:St) (H:Hp) (F:List V->Hp->Prop):Prop:=wi σ H fun J H1=>
 ∃ W:Nat->Nat->List V->Hp->Prop,(∃ m,W 0 m [] H1) /\ ∀ i m ys H,W i m ys H->ys.length<=sizeLine /\
  ((J.stop i H/\F ys H)\/(J.go i H/\ys.length<sizeLine /\ ∃ N:List V->Hp->Prop,(∀ ys' H',N ys' H' -> ∃ m',m'<m/\W (i+1) m' ys' H') /\ ∀ x H',J.yld i H x H'->g x (CY M σ) H' fun σ2 H2=>tc σ2 H2 fun b H3=>
   if b=true then te σ2 H3 fun v H4=>N (ys++[v]) H4 else N ys H3))
theorem HZ {X:Cx} {N':List Str} {M:List (Option Nat)} {scope:Scope} {cl:List (Str × Addr)} {tg elt iter:Expr} {ifs:List Expr} {pos:Pos} {g:TG} {tc:TT} {te:TE} {pins:List (Addr × Obj)} {σ:St} {H2:Hp} {s2:Shared}
  {it:Addr} {fp:List Addr} {tn:Nat->Heap->Prop} {J:It} {F:List V->Hp->Prop} {RR:Value->Addr->Result->Shared->Prop} {E:Value->Shared->Prop}
  (S:L9 X.N N' M scope X.env.scope) (hc:X.calm=true) (q1 : ∀ y c,cl.lookup y=some c->X.env.cells.lookup y=some c) (q2 : ∀ y,(y,NameKind.free) ∈ scope.names -> ∃ c,cl.lookup y=some c)
  (hg : ∀ C s H fp,PG (DB X N' scope cl C s H fp) tg g) (hf:Frm M g) (ht : ∀ C s H fp,PTs (DB X N' scope cl C s H fp) ifs tc) (he : ∀ C s H fp,PE (DB X N' scope cl C s H fp) elt te)
  (I2:Inv X pins σ H2 s2) (T:Le X.prog X.w X.K tg J fp it tn) (st2:tn 0 s2.heap) (f2 : ∀ b ∈ fp,DL X pins H2 b)
  (hw : ∃ W:Nat->Nat->List V->Hp->Prop,(∃ m,W 0 m [] H2) /\ ∀ i m ys H,W i m ys H->ys.length<=sizeLine /\
   ((J.stop i H/\F ys H)\/(J.go i H/\ys.length<sizeLine /\ ∃ N:List V->Hp->Prop,(∀ ys' H',N ys' H' -> ∃ m',m'<m/\W (i+1) m' ys' H') /\ ∀ x H',J.yld i H x H'->g x (CY M σ) H' fun σ2 H2=>tc σ2 H2 fun b H3=>
    if b=true then te σ2 H3 fun v H4=>N (ys++[v]) H4 else N ys H3)))
  (hend : ∀ (D C:Addr) (s':Shared) (H':Hp) (ys:List V),Inv X pins σ (upd H' D (.lst ys)) s'->H' D=none->s2.heap.objs.size<=D->s2.heap.objs.size<C->(∃ m,s'.heap.Ns C m)->(upd H' D (.lst ys)) C=none->F ys H'->RR (.ref D) C (.ok .next) s') :
  wpAny (model X.prog X.w) X.A (newList []) (fun acc s₃=>wpAny (model X.prog X.w) X.A (newFunctionEnv scope X.env.globals cl [] X.env.qual none .none (some X.env)) (fun cenv s₄=>
   codeAny (model X.prog X.w) X.A (.compStart (.ListComp elt [⟨tg,iter,ifs,0⟩] scope pos) 0 (.ref it) acc { cenv with scope:=relabel scope X.env }) (RR acc cenv.locals) s₄) E s₃) E s2:= by
 refine xEA hw fun W n90 turn=>xE n90 fun m0 w0=>?_
 refine wpAny_newObj_type (wpAny_newFunctionEnv S.cell (by intro y hy;simp at hy) (fun h₁ hns₁ hsb₁=>?_) S.kind)
 dsimp only at hns₁ hsb₁ ⊢
 generalize hG : s2.heap.push { cls:=.type "list",dict:=none,data:=.seq ([] : List Value).toArray } = G at hns₁ hsb₁ ⊢
 generalize hD:s2.heap.objs.size=D at *
 have hC:G.objs.size=D+1:=by rw[<- hG,Heap.size_push,hD]
 generalize hCC:G.objs.size=C at *
 have DC:D<C:=by rw[hC];exact Nat.lt_succ_self _
 have lo : ∀ b o,s2.heap.get? b=some o->b<D:=fun b o e=>hD ▸ Heap.lt_size e
 have old : ∀ b o,s2.heap.get? b=some o->h₁.get? b=some o:=fun b o e=>by
  have hb:=lo b o e
  exact hsb₁.extBut b o (Nat.ne_of_lt (Nat.lt_trans hb DC)) (Heap.get?_push_of_some _ (hG ▸ Heap.get?_push_of_some _ e))
 have hacc : h₁.get? D = some { cls:=.type "list",data:=.seq ([] : List Value).toArray }:=
  hsb₁.extBut _ _ (Nat.ne_of_lt DC) (Heap.get?_push_of_some _ (by rw[<- hG,<- hD];exact Heap.get?_push_size _ rfl))
 have fpl : ∀ b ∈ fp,b<D:=fun b hb=>by
  refine xEA (T.obj _ _ st2 b hb) fun o e _=>?_
  exact lo b o e
 have cel : ∀ y c,cl.lookup y=some c->c<D:=fun y c e=>by
  refine xE (I2.cell y c (q1 y c e)) fun v z=>?_
  exact hD ▸ z.lt
 generalize hX':DB X N' scope cl C s2 H2 fp=X'
 have envE:X'.env=compEnvC scope cl C X.env:=by rw[<- hX'];rfl
 have locE:X'.env.locals=C:=by rw[envE];rfl
 have fsE:X'.fs=frs X.stack:=by rw[<- hX'];rfl
 have fsl : ∀ b ∈ frs X.stack,b<D:=fun b hb=>by
  refine Or.elim (List.mem_cons.mp (I2.stkSub b hb)) (fun z=>?_) fun z=>?_
  ·rw[z];exact hD ▸ I2.lt
  ·exact Nat.lt_of_not_le fun q=>I2.nofs (hD ▸ q) z
 have relS : ∀ x k,scope.names.lookup x=some k -> ∃ k',X'.env.kindOf x=some k'/\(k'=k\/(k = .free/\k' = .cell)):=fun x k e=>by
  refine xEA (Bm (env:=X.env) e) fun k' e' q=>?_
  exact ⟨k',by rw[envE];exact e',q⟩
 have relN : ∀ x,scope.names.lookup x=none->X'.env.kindOf x=none:=fun x e=>by
  rw[envE];exact Bt (env:=X.env) e
 have cellsE:X'.env.cells=cl:=by rw[envE];rfl
 have ok':X'.Ok:= by
  refine ⟨?mod,?kind,?glob,?blt,?above,?inj,?has,?cab,?hd,?frames,?stk,?exf,?bs,?bsz,?noex,?exfs,?funs,?frf⟩
  case mod=>rw[<- hX'];exact I2.ok.mod
  case kind=>rw[envE];exact S.kind
  case glob=>rw[envE];exact I2.ok.glob
  case blt=>rw[envE];exact I2.ok.blt
  case above=>rw[locE,<- hX'];show s2.heap.objs.size<=C;rw[hD];exact Nat.le_of_lt DC
  case inj=>intro x y c e1 e2;rw[cellsE] at e1 e2;exact I2.ok.inj x y c (q1 x c e1) (q1 y c e2)
  case has=>
   intro x hx
   rw[cellsE]
   cases e:scope.names.lookup x with
   | none=>rw[relN x e] at hx;rcases hx with z | z <;> cases z
   | some k=>
    refine xEA (relS x k e) fun k' e' q=>?_
    rw[e'] at hx
    have kf:k = .free:= by
     refine Or.elim q (fun q=>?_) fun q=>?_
     ·refine Or.elim hx (fun z=>?_) fun z=>?_
      ·cases z;exact absurd q.symm (S.cell _ (PySem.mem_of_lookup e))
      ·cases z;exact q.symm
     ·exact q.1
    subst kf
    exact q2 x (PySem.mem_of_lookup e)
  case cab=>intro x c h;rw[<- hX'] at h;exact absurd h (by show ¬ (false=true);decide)
  case hd=>rw[<- hX'];exact I2.ok.hd
  case frames=>rw[<- hX'];exact I2.ok.frames
  case stk=>rw[<- hX'];exact .inl rfl
  case exf=>
   intro b hb
   have hb':b ∈ fp:=by rw[<- hX'] at hb;exact hb
   refine ⟨by rw[locE];exact Nat.ne_of_lt (Nat.lt_trans (fpl b hb') DC),fun x c e=>?_⟩
   rw[cellsE] at e
   exact (f2 b hb').2.2.2.2.1 x c (q1 x c e)
  case bs=>rw[<- hX'];exact I2.bs
  case bsz=>rw[<- hX'];exact Nat.le_trans I2.ok.bsz I2.sz
  case noex=>
   intro b o e hb
   have hb':b ∈ fp:=by rw[<- hX'] at hb;exact hb
   have e':X.base.get? b=some o:=by rw[<- hX'] at e;exact e
   refine Or.elim ((f2 b hb').2.2.2.1) (fun z=>?_) fun z=>?_
   ·exact I2.ok.noex b o e' z
   ·exact absurd (Nat.lt_of_lt_of_le (Heap.lt_size e') (Nat.le_trans I2.ok.bsz z)) (Nat.lt_irrefl _)
  case exfs=>
   intro b hb
   have hb':b ∈ fp:=by rw[<- hX'] at hb;exact hb
   rw[fsE]
   intro z
   refine Or.elim (List.mem_cons.mp (I2.stkSub b z)) (fun q=>?_) fun q=>?_
   ·exact (f2 b hb').2.1 q
   ·exact (f2 b hb').2.2.1 q
  case funs=>rw[<- hX'];exact I2.stack
  case frf=>rw[fsE,<- hX'];exact I2.stkFree
 have c0:H2 C=none:=I2.hok.fresh (by rw[hD];exact Nat.le_of_lt DC)
 have d0:H2 D=none:=I2.hok.fresh (by rw[hD];exact Nat.le_refl _)
 have I3:Inv X' [] (CY M σ) H2 { s2 with heap:=h₁,toks:=s2.toks+([]:List (Str × Value)).length }:= by
  refine ⟨ok',?os,?bare,?base,?loc,?cell,?free,?freeC,?pin,?hok,?len⟩
  case os=>rw[<- hX'];rfl
  case bare=>exact I2.bare
  case base=>rw[fsE,<- hX'];exact Un.kept old
  case loc=>
   refine ⟨_,by rw[locE];exact hns₁,fun i x v e1 e2 _=>?_⟩
   refine xEA (CZ e2) fun j eM eσ=>?_
   refine AM (S.at_ i j eM) fun y n1 n2 n3=>?_
   have e1':N'[i]?=some x:=by rw[<- hX'] at e1;exact e1
   rw[n1] at e1';cases e1'
   have hyf:(x,NameKind.free) ∈ scope.names:=PySem.mem_of_lookup n3
   have kd:=S.fre _ hyf rfl
   refine xEA (id I2.loc) fun m hn hl=>?_
   refine xEA (hl j x v n2 eσ (kd.elim (fun z=>.inr (.inl z)) fun z=>.inr (.inr z))) fun u ru lk=>?_
   refine ⟨u,ru,?_⟩
   refine Or.elim lk (fun n90=>xA n90 fun k _=>?_) fun n91=>xA n91 fun k m91=>xEA m91 fun c ec z=>?_
   ·have k':X.env.scope.names.lookup x=some NameKind.local:=k
    rcases kd with q | q <;> (rw[k'] at q;cases q)
   ·refine xE (q2 x hyf) fun c' ec'=>?_
    have hcc:=q1 x c' ec'
    rw[ec] at hcc;cases hcc
    refine xEA (relS x _ n3) fun k' e' q=>?_
    refine .inr ⟨?_,c,by rw[cellsE];exact ec',?_⟩
    ·rw[e'];refine Or.elim q (fun q=>?_) fun q=>?_
     ·right;rw[q]
     ·left;rw[q.2]
    ·refine xEA z fun o ho hd'=>?_
     exact ⟨o,old _ _ ho,hd'⟩
  case cell=>
   intro x c e
   rw[cellsE] at e
   refine Ct (I2.cell x c (q1 x c e)) fun v o ho hd'=>?_
   exact ⟨v,o,old _ _ ho,hd'⟩
  case free=>rw[locE];exact c0
  case freeC=>intro x c e;rw[cellsE] at e;exact I2.freeC x c (q1 x c e)
  case pin=>intro p hp;rw[<- hX'] at hp;exact absurd (show p ∈ ([]:List (Addr × Obj)) from hp) (by simp)
  case hok=>rw[<- hX'];exact I2.hok.kept old
  case len=>rw[CA,<- hX'];exact S.len.symm
 have xE : ∀ (e:Value) (s':Shared),¬ X'.xe e s':=fun e s' z=>by rw[<- hX'] at z;exact z
 have progE:X'.prog=X.prog:=by rw[<- hX'];rfl
 have wE:X'.w=X.w:=by rw[<- hX'];rfl
 have KE':X'.K=X.K:=by rw[<- hX'];rfl
 have AE:X'.A=X.A:=by rw[<- hX'];rfl
 have cE:X'.calm=true:=by rw[<- hX'];exact hc
 have exE:X'.ex=fp:=by rw[<- hX'];rfl
 have s0E:X'.s₀=s2:=by rw[<- hX'];rfl
 have pnE:X'.pn=[]:=by rw[<- hX'];rfl
 have hgX:PG X' tg g:=by rw[<- hX'];exact hg C s2 H2 fp
 have htX:PTs X' ifs tc:=by rw[<- hX'];exact ht C s2 H2 fp
 have heX:PE X' elt te:=by rw[<- hX'];exact he C s2 H2 fp
 have Dfp:D ∉ fp:=fun z=>Nat.lt_irrefl _ (fpl D z)
 have Dcl : ∀ x c,X'.env.cells.lookup x=some c->c≠D:=fun x c e=>by rw[cellsE] at e;exact Nat.ne_of_lt (cel x c e)
 have Dloc:D≠X'.env.locals:=by rw[locE];exact Nat.ne_of_lt DC
 have Dfs:D ∉ X'.fs:=by rw[fsE];exact fun z=>Nat.lt_irrefl _ (fsl D z)
 have D0:D ∈ X'.ex\/X'.s₀.heap.objs.size<=D:=.inr (by rw[s0E,hD];exact Nat.le_refl _)
 have stat : ∀ {pl:List (Addr × Obj)} {H':Hp},(∀ p ∈ pl,p.1=D)->(∀ b ∈ fp,H' b=none) -> ∀ b ∈ fp,DL X' pl H' b:=fun {pl H'} hpl hn b hb=>by
  refine ⟨hn b hb,by rw[locE];exact Nat.ne_of_lt (Nat.lt_trans (fpl b hb) DC),?_,.inl (by rw[exE];exact hb),fun x c e=>?_,fun p hp=>?_⟩
  ·exact ok'.exfs b (by rw[exE];exact hb)
  ·rw[cellsE] at e;exact (f2 b hb).2.2.2.2.1 x c (q1 x c e)
  ·rw[pnE,List.nil_append] at hp
   rw[hpl p hp];exact (Nat.ne_of_lt (fpl b hb)).symm
 have loop:codeAny (model X.prog X.w) X.A (.compLoop (.ListComp elt [⟨tg,iter,ifs,0⟩] scope pos) 0 (.ref it) (.ref D) X'.env) (RR (.ref D) C) { s2 with heap:=h₁,toks:=s2.toks+([]:List (Str × Value)).length }:= by
  refine Dz (fun n s'=>∃ i ys H',Inv X' [] (CY M σ) H' s' /\ tn i s'.heap /\ (∀ b ∈ fp,H' b = none) /\ (∃ (its : List Value) (k : Nat),AH ys its /\ s'.heap.get? D = some { cls:=.type "list",data:=.seq its.toArray k }) /\ H' D = none /\ W i n ys H') ?_ m0
   ⟨0,[],H2,I3,T.keep _ _ _ st2 fun b hb o e=>old b o e,fun b hb=>(f2 b hb).1,⟨[],0,.nil,hacc⟩,d0,w0⟩
  intro n s3 n90;refine IU n90 fun i ys H3 J3 st3 fr3 n91 dn w3=>Ct n91 fun its k rv hDs=>?_
  refine xA (turn i n ys H3 w3) fun hsz hcase=>?_
  have J3' : Inv X' [(D,{ cls:=.type "list",data:=.seq its.toArray k })] (CY M σ) H3 s3:=J3.pins_of fun p hp=>by
   have e : p = (D,{ cls:=.type "list",data:=.seq its.toArray k }):=by simpa using hp
   subst e
   exact ⟨hDs,dn,Dloc,Dfs,fun v z=>by cases z⟩
  have hpl : ∀ p ∈ [((D,{ cls:=.type "list",data:=.seq its.toArray k }) : Addr × Obj)],p.1 = D:=fun p hp=>by
   have e : p = (D,{ cls:=.type "list",data:=.seq its.toArray k }):=by simpa using hp
   rw[e]
  refine Or.elim hcase (fun n90=>xA n90 fun stop qF=>?_) fun n91=>xA2 n91 fun go hlt m92=>xEA m92 fun N hN step=>?_
  ·have q:=T.done X' progE wE KE' cE i _ s3 _ H3 (fun _ _=>False) J3' (stat hpl fr3) st3 stop
   rw[AE] at q
   refine thn q fun r s4 h91=>?_
   refine xA h91 fun hr J4=>?_
   subst hr
   have hD4 : s4.heap.get? D = some { cls:=.type "list",data:=.seq its.toArray k }:=(J4.pin _ (List.mem_append_right _ (List.mem_singleton.mpr rfl))).1
   refine xEA (id J4.loc) fun mC hnC _=>?_
   rw[locE] at hnC
   have b4:=J4.base
   rw[fsE,exE,s0E,show X'.H₀=H2 by rw[<- hX'];rfl] at b4
   refine hend D C s4 H3 ys ?_ dn (Nat.le_refl _) DC ⟨mC,hnC⟩ (by rw[Ah (Nat.ne_of_gt DC)];have:=J4.free;rw[locE] at this;exact this) qF
   have hok4:=J4.hok
   rw[progE,wE] at hok4
   refine I2.call' (ch:=fp) (H':=upd H3 D (.lst ys)) (by rw[J4.os,s0E]) ⟨b4.keep,b4.slot,fun b o e nn hb=>?_,b4.there,fun b xs e=>?_,fun b o u e=>?_,fun b ps e=>?_⟩ ?_ J4.bare fun b hb=>?_
   ·rw[Ah (Nat.ne_of_lt (lo b o e))];exact b4.free b o e nn hb
   ·rw[Ah (Ad (b4.tups b xs e) dn)];exact b4.tups b xs e
   ·rw[Ah (Ad (b4.frzs b o u e) dn)];exact b4.frzs b o u e
   ·obtain ⟨more,e'⟩:=b4.tbls b ps e
    exact ⟨more,by rw[Ah (Ad e' dn)];exact e'⟩
   ·intro b u e
    by_cases hb:b=D
    ·subst hb
     rw[Ab] at e;cases e
     exact ⟨hsz,its,k,rv,hD4⟩
    ·rw[Ah hb] at e
     exact (hok4 b u e).stay (fun c v _ q=>q) (fun c q=>by rw[Ah (Ad q dn)];exact q) fun c xs q=>by rw[Ah (Ad q dn)];exact q
   ·refine xA5 (f2 b hb) fun f0 f1 f3 f4 f5 f6=>?_
    exact ⟨f4,f1,f5,f6⟩
  ·have q:=T.item X' progE wE KE' cE i _ s3 _ H3 (fun _ _=>False) J3' (stat hpl fr3) st3 go
   rw[AE] at q
   refine thn q fun r s4 h92=>?_
   refine xEA h92 fun u hr h4=>?_
   subst hr
   dsimp only
   refine thn h4 fun _ s5 h93=>?_
   refine Kg h93 fun x H5 J5 r5 y5 st5 fr5=>?_
   have J5':=J5.pinned (stat hpl fr5) (T.obj _ _ st5)
   have qg:=hgX _ s5 (CY M σ) H5 x u _ J5' r5 (hf _ _ _ _ (step x H5 y5))
   rw[progE,wE,AE] at qg
   refine wpAny_mono qg (fun _ s6 h6=>?_) fun e s' z=>xE e s' z
   refine CI h6 fun σ6 H6 J6 q6 l6 k6=>?_
   have qt:=htX _ s6 σ6 H6 _ J6 q6
   rw[progE,wE,AE] at qt
   refine wpAny_mono qt (fun b s7 h7=>?_) fun e s' z=>xE e s' z
   refine xEA h7 fun H7 J7 q7=>?_
   have fin : ∀ {ys' : List V} {σ8 : St} {H8 : Hp} {s8 : Shared},σ8 = σ6 -> Inv X' ([(D,{ cls:=.type "list",data:=.seq its.toArray k })] ++ CU fp s5.heap) σ8 H8 s8 ->
     s8.heap.get? D = some { cls:=.type "list",data:=.seq its.toArray k } /\ H8 D = none /\ tn (i + 1) s8.heap /\ (∀ b ∈ fp,H8 b = none) /\ Inv X' [] (CY M σ) H8 s8:=fun {ys' σ8 H8 s8} e8 J8=>by
    subst e8
    refine xA2 (J8.pin _ (List.mem_append_right _ (List.mem_append_left _ (List.mem_singleton.mpr rfl)))) fun p1 p2 _=>?_
    refine ⟨p1,p2,T.keep _ _ _ st5 fun b hb o e=>(J8.pin (b,o) (List.mem_append_right _ (List.mem_append_right _ (AW hb e)))).1,fun b hb=>?_,?_⟩
    ·refine xEA (T.obj _ _ st5 b hb) fun o e d=>?_
     exact (J8.pin (b,o) (List.mem_append_right _ (List.mem_append_right _ (AW hb e)))).2.1
    ·have J9:Inv X' [] σ8 H8 s8:=J8.pins_of fun p hp=>absurd hp (by simp)
     refine J9.weak (l6.symm) fun a v e=>?_
     refine xEA (CZ e) fun j eM _=>?_
     rw[k6 a j eM];exact e
   cases b with
   | false=>
    rw[if_neg (by decide)] at q7
    rw[if_neg (by decide)]
    refine xEA (hN _ _ q7) fun m' hm w7=>?_
    refine xA4 (fin (ys':=ys) rfl J7) fun a1 a2 a3 a4 a5=>?_
    exact ⟨m',hm,i+1,ys,H7,a5,a3,a4,⟨its,k,rv,a1⟩,a2,w7⟩
   | true=>
    rw[if_pos rfl] at q7
    rw[if_pos rfl]
    have qe:=heX _ s7 σ6 H7 _ J7 q7
    rw[progE,wE,AE] at qe
    refine wpAny_mono qe (fun v8 s8 h8=>?_) fun e s' z=>xE e s' z
    refine Ar h8 fun y8 H8 J8 r8 n8=>?_
    refine xEA (hN _ _ n8) fun m' hm w8=>?_
    refine xA4 (fin (ys':=ys) rfl J8) fun a1 a2 a3 a4 a5=>?_
    refine wpAny_list_append_plain (items:=its.toArray) ⟨k,a1⟩ (fun h9 hl9 hs9=>?_) (by have:=rv.length;rw[List.size_toArray,<- this];exact hsz)
    have J9:Inv X' [] (CY M σ) H8 { s8 with heap:=h9 }:=a5.turned (t':=s8.toks) (fun b o hb e=>(hs9.2 b hb).trans e) a2 Dloc D0 Dcl fun p hp=>by rw[pnE] at hp;exact absurd hp (by simp)
    obtain ⟨k9,e9⟩:=hl9
    refine ⟨m',hm,i+1,ys++[y8],H8,J9,T.keep _ _ _ a3 fun b hb o e=>(hs9.2 b (fun z=>Dfp (z ▸ hb))).trans e,a4,⟨its++[v8],k9,rv.append (.cons r8 .nil),?_⟩,a2,w8⟩
    rw[show (its++[v8]).toArray=its.toArray.push v8 by simp]
    exact e9
 have loop':codeAny (model X.prog X.w) X.A (.compLoop (.ListComp elt [⟨tg,iter,ifs,0⟩] scope pos) 0 (.ref it) (.ref D) (compEnvC scope cl C X.env)) (RR (.ref D) C) { s2 with heap:=h₁,toks:=s2.toks+([]:List (Str × Value)).length }:=envE ▸ loop
 exact codeAny_compStart_list loop' (T.self _ 0 _ _ _ (T.keep _ _ _ st2 fun b hb o e=>old b o e) loop')
end L2
namespace L2
open PySem PySem.Spec PyProof.Rows
section
variable {X:Cx} {N':List Str} {M:List (Option Nat)} {scope:Scope} {tg elt iter:Expr} {ifs:List Expr} {pos:Pos} {g:TG} {tc:TT} {te:TE} {wi:TI}
theorem Ht {pins:List (Addr × Obj)} {σ:St} {H:Hp} {s:Shared} (S:L9 X.N N' M scope X.env.scope) (I:Inv X pins σ H s) :
  ∃ cl,closureFor scope X.env=pure cl/\(∀ y c,cl.lookup y=some c->X.env.cells.lookup y=some c)/\(∀ y,(y,NameKind.free) ∈ scope.names -> ∃ c,cl.lookup y=some c):=
 II fun y hy hk=>I.ok.has y.1 (S.fre y hy hk)
theorem Inv.gone {pins:List (Addr × Obj)} {σ:St} {H:Hp} {s s':Shared} {C:Addr} {h':Heap} (I:Inv X pins σ H s) (hs:Heap.SameBut C s.heap h') (hn:H C=none) (hC:C≠X.env.locals) (h1:X.s₀.heap.objs.size<=C)
  (h2 : ∀ x c,X.env.cells.lookup x=some c->c≠C) (h3 : ∀ p ∈ X.pn++pins,p.1≠C):Inv X pins σ H { s with heap:=h' }:=
 I.turned (t':=s.toks) (fun b o hb e=>(hs.2 b hb).trans e) hn hC (.inr h1) h2 h3
theorem Inv.young {pins:List (Addr × Obj)} {σ:St} {H:Hp} {s:Shared} {C:Addr} (I:Inv X pins σ H s) (h:s.heap.objs.size<=C) :
  C≠X.env.locals/\X.s₀.heap.objs.size<=C/\(∀ x c,X.env.cells.lookup x=some c->c≠C) /\ ∀ p ∈ X.pn++pins,p.1≠C:= by
 refine ⟨(Nat.ne_of_lt (Nat.lt_of_lt_of_le I.lt h)).symm,Nat.le_trans I.sz h,fun x c e=>?_,fun p hp=>?_⟩
 ·obtain ⟨v,z⟩:=I.cell x c e
  exact Nat.ne_of_lt (Nat.lt_of_lt_of_le z.lt h)
 ·exact Nat.ne_of_lt (Nat.lt_of_lt_of_le (Heap.lt_size (I.pin p hp).1) h)
theorem BS (S:L9 X.N N' M scope X.env.scope) (hc:X.calm=true) (hi:PI X tg iter wi) (hg : ∀ cl C s H fp,PG (DB X N' scope cl C s H fp) tg g) (hf:Frm M g)
  (ht : ∀ cl C s H fp,PTs (DB X N' scope cl C s H fp) ifs tc) (he : ∀ cl C s H fp,PE (DB X N' scope cl C s H fp) elt te)
  (hs : ∀ x,foldedSetIterable iter X.env x=pure x:=by intro _;rfl) :
  PE X (.ListComp elt [⟨tg,iter,ifs,0⟩] scope pos) (fun σ H Q=>tLc wi M g tc te σ H fun ys H'=>∀ p,H' p=none->Q (.ref p) (upd H' p (.lst ys))):= by
 intro pins s σ H Q I h
 refine AM (Ht S I) fun cl hclos q1 q2=>?_
 rw[eval_ListComp]
 refine wpAny_comprehension_free (use:=none) rfl hs hclos S.kind S.own (thn (hi pins s σ H _ I h) fun v s1 h1=>thn h1 fun itv s2 h2=>?_)
 refine IX h2 fun it fp tn J H2 e I2 T st2 f2 hw=>?_
 subst e
 refine HZ (RR:=fun acc C=>compPost (model X.prog X.w) X.A X.xe none (EP X pins σ Q) acc C) S hc q1 q2 (hg cl) hf (ht cl) (he cl) I2 T st2 f2 hw ?_
 intro D C s' H' ys I' dn hD hC ⟨m,hn⟩ hCn q
 refine xA3 (I2.young (Nat.le_of_lt hC)) fun y1 y2 y3 y4=>?_
 exact ⟨m,hn,fun h' hs'=>⟨.ref D,_,I'.gone (s':=s') hs' hCn y1 y2 y3 y4,rfl,q D dn⟩⟩
theorem Of {i:Nat} {x:Str} {pos' spos:Pos} (hN:X.N.Nodup) (hi:X.N[i]?=some x) (hx:X.env.scope.names.lookup x=some NameKind.local)
  (S:L9 X.N N' M scope X.env.scope) (hc:X.calm=true) (hit:PI X tg iter wi) (hg : ∀ cl C s H fp,PG (DB X N' scope cl C s H fp) tg g) (hf:Frm M g)
  (ht : ∀ cl C s H fp,PTs (DB X N' scope cl C s H fp) ifs tc) (he : ∀ cl C s H fp,PE (DB X N' scope cl C s H fp) elt te)
  (hsw:swapsWith (.ListComp elt [⟨tg,iter,ifs,0⟩] scope pos) (some (.Name x pos')) spos.line X.env=pure true:=by rfl)
  (hs : ∀ x,foldedSetIterable iter X.env x=pure x:=by intro _;rfl) :
  PS X (.Assign [.Name x pos'] (.ListComp elt [⟨tg,iter,ifs,0⟩] scope pos) spos) (fun D σ H=>tLc wi M g tc te σ H fun ys H'=>∀ p,H' p=none->D.nx (σ.set i (some (.ref p))) (upd H' p (.lst ys))):= by
 intro pins s σ H Dn I h
 refine AM (Ht S I) fun cl hclos q1 q2=>?_
 rw[exec_Assign_Name_used _ _ _ _ hsw]
 refine wpAny_bind (wpAny_standAt (wpAny_bind ?_))
 show wpAny _ X.A (do let _ <- comprehension (.ListComp elt [⟨tg,iter,ifs,0⟩] scope pos) scope X.env _ (newList []) false (eval iter X.env) (some (assign (.Name x pos') X.env))) _ _ s
 refine wpAny_bind (wpAny_mono (wpAny_comprehension_free (use:=some (assign (.Name x pos') X.env)) (Q:=fun _ s'=>SP X pins Dn .next s') rfl hs hclos S.kind S.own
  (thn (hit pins s σ H _ I h) fun v s1 h1=>thn h1 fun itv s2 h2=>?_)) (fun _ s' hq=>wpAny_pure (wpAny_pure hq)) fun _ _ e=>e)
 refine IX h2 fun it fp tn J H2 e I2 T st2 f2 hw=>?_
 subst e
 refine HZ (RR:=fun acc C=>compPost (model X.prog X.w) X.A X.xe (some (assign (.Name x pos') X.env)) (fun _ s'=>SP X pins Dn .next s') acc C) S hc q1 q2 (hg cl) hf (ht cl) (he cl) I2 T st2 f2 hw ?_
 intro D C s' H' ys I' dn hD hC ⟨m,hn⟩ hCn q
 refine xA3 (I2.young (Nat.le_of_lt hC)) fun y1 y2 y3 y4=>?_
 show wpAny _ X.A (assign (.Name x pos') X.env (.ref D)) _ _ s'
 refine wpAny_assign_Name (Eu I' hN hi (.inl hx) (v:=.ref D) rfl (fun s'' I'' h91=>?_) (.inr hx))
 refine xEA h91 fun a hsb ha=>?_
 have hCa:C≠a:= by
  refine Or.elim ha (fun z=>?_) fun z=>?_
  ·rw[z];exact y1
  ·exact (y3 x a z).symm
 exact ⟨m,hn.sameBut hsb hCa,fun h' hs'=>⟨_,_,I''.gone (s':=s'') hs' hCn y1 y2 y3 y4,q D dn⟩⟩
end
end L2
namespace L2
open PySem PySem.Spec PyProof.Rows
theorem An.seqT {K:PySem.W.Frag} {H H':Hp} {a:Addr} {xs:List V} (e:An H H') (h:SqT K H a xs):SqT K H' a xs:= by
 rcases h with (h | ⟨o,h⟩) | h
 ·exact .inl (.inl (e _ _ h))
 ·exact .inl (.inr ⟨o,e _ _ h⟩)
 ·exact .inr h
theorem An.new {H:Hp} {p:Addr} {o:HO} (h:H p=none):An H (upd H p o):=fun b u e=>by rw[Ah (Ad e h)];exact e
theorem An.new2 {H H1:Hp} {p:Addr} {o:HO} (e:An H H1) (h:H1 p=none):An H (upd H1 p o):=e.trans (An.new h)
theorem An.put {H H1:Hp} {p:Addr} {o:HO} (e:An H H1) (h:H p=none):An H (upd H1 p o):=fun b u q=>by rw[Ah (Ad q h)];exact e b u q
section
variable {X:Cx}
theorem AU:OpR X (binaryOp .Mult) (rI IntMulOk fun i j=>.int (i*j)):=opI fun _ _ _ _ _ _ _ hc q=>mul_int q hc
def Pd (i j:Int):Prop:=0<j/\j.natAbs.log2<9000
theorem Fu:OpR X (binaryOp .FloorDiv) (rI Pd fun i j=>.int (i / j)):=opI fun i j _ _ _ _ _ hc q=>by
 have e:i.fdiv j=i / j:=Int.fdiv_eq_ediv_of_nonneg i (Int.le_of_lt hc.1)
 exact floordiv_int (Int.ne_of_gt hc.1) (by rw[e];exact q) (.inl (PyProof.noPylong_of_log2 hc.2))
theorem KD {a b:Int} (h : -(2 ^ 64)<a/\a<2 ^ 64):IntMulOk a b:=OM.ok (.inl h)
theorem BK {a b:Int} (h : -(2 ^ 64)<b/\b<2 ^ 64):IntMulOk a b:=OM.ok (.inr h)
theorem K4 {s : Shared} {l : Addr} {h' : Heap} (hk : ∀ b o,b ∉ [s.heap.objs.size] -> (s.heap.push { cls:=.type "tuple_iterator",data:=.fields #[.ref l,.int 0 0] }).get? b = some o -> h'.get? b = some o) :
  ∀ b o,s.heap.get? b=some o->h'.get? b=some o:=fun b o e=>hk b o (fun hm=>absurd (Heap.lt_size e) (by rw[List.mem_singleton.mp hm];exact Nat.lt_irrefl _)) (Heap.get?_push_of_some _ e)
theorem Ff {pins:List (Addr × Obj)} {σ:St} {H:Hp} {s:Shared} {a:Addr} {xs:List V} {A:Around} {E:Value->Shared->Prop} {Q:Value->Shared->Prop} (I:Inv X pins σ H s) (hh:A.handled=none) (hq:SqL X.K H a xs\/SqT X.K H a xs)
  (h : ∀ (its:List Value) (I':Addr) (fp wr:List Addr) (St':Nat->Heap->Prop) (s2:Shared),AH xs its->Walks X.prog X.w A I' fp wr its.toArray.size (fun i v=>its.toArray[i]?=some v) St'->St' 0 s2.heap->(∀ b ∈ fp,b<s2.heap.objs.size) ->
   s2.toks=s.toks->s2.os=s.os->s2.gens=s.gens->s2.drawn=s.drawn->(∀ h' tk,(∀ b o,b ∉ wr->s2.heap.get? b=some o->h'.get? b=some o)->Inv X pins σ H { s2 with heap:=h',toks:=tk })->Q (.ref I') s2) :
  wpAny (model X.prog X.w) A (pyIter (.ref a)) Q E s:= by
 rcases hq with hq | hq
 ·obtain ⟨its,rv,p,hz⟩:=I.list hq
  obtain ⟨o,ho,_⟩:=id p.isList
  have hlt:=Heap.lt_size ho
  refine wpAny_pyIter_list p.isList (h its s.heap.objs.size [s.heap.objs.size,a] [s.heap.objs.size] _ _ rv (Walks.list hh _ a (Nat.ne_of_lt hlt) its.toArray) ⟨⟨_,Heap.get?_push_size _ rfl,rfl,rfl⟩,p.isList.push _⟩ (fun b hb=>?_) rfl rfl rfl rfl fun h' tk hk=>?_)
  ·show b<(s.heap.push _).objs.size
   rw[Heap.size_push]
   rcases List.mem_cons.mp hb with rfl | hb
   ·exact Nat.lt_succ_self _
   ·rw[List.mem_singleton.mp hb];exact Nat.lt_succ_of_lt hlt
  ·exact I.kept (t':=tk) (old_kept hk)
 ·obtain ⟨its,rv,p,hz⟩:=I.tuple hq
  obtain ⟨o,ho,_⟩:=id p
  have hlt:=Heap.lt_size ho
  have p':s.heap.IsTuple a its.toArray:=p
  refine wpAny_pyIter_tuple p' (h its s.heap.objs.size [s.heap.objs.size,a] [s.heap.objs.size] _ _ rv (Walks.tuple hh _ a (Nat.ne_of_lt hlt) its.toArray) ⟨⟨_,Heap.get?_push_size _ rfl,rfl,rfl⟩,p'.push _⟩ (fun b hb=>?_) rfl rfl rfl rfl fun h' tk hk=>?_)
  ·show b<(s.heap.push _).objs.size
   rw[Heap.size_push]
   rcases List.mem_cons.mp hb with rfl | hb
   ·exact Nat.lt_succ_self _
   ·rw[List.mem_singleton.mp hb];exact Nat.lt_succ_of_lt hlt
  ·exact I.kept (t':=tk) (K4 hk)
theorem Cr {ns:List Int} {its:List Value} (r:AH (ns.map V.int) its) {i:Nat} {v:Value} (h:its.toArray[i]?=some v) : ∃ t,v = .int (ns.getD i 0) t/\i<ns.length:= by
 have h':its[i]?=some v:=by simpa using h
 have hl:=r.length
 rw[List.length_map] at hl
 have hi:i<ns.length:=by rw[hl];exact (List.getElem?_eq_some_iff.mp h').1
 obtain ⟨u,hu,ru⟩:=r.get (i:=i) (x:=V.int (ns[i])) (by rw[List.getElem?_map,List.getElem?_eq_getElem hi];rfl)
 rw[hu] at h';cases h'
 obtain ⟨t,rfl⟩:=ru
 exact ⟨t,by rw[List.getD_eq_getElem?_getD,List.getElem?_eq_getElem hi];rfl,hi⟩
def DG (ns:List Int) (m:Int):Prop:=m ∈ ns /\ ∀ a ∈ ns,a<=m
theorem Ko {ns:List Int} {i:Nat} (h:i<ns.length):ns.getD i 0 ∈ ns:= by
 rw[List.getD_eq_getElem?_getD,List.getElem?_eq_getElem h];exact List.getElem_mem h
theorem JD {ns:List Int} {a:Int} (h:a ∈ ns) : ∃ i,i<ns.length/\ns.getD i 0=a:= by
 obtain ⟨i,hi,e⟩:=List.mem_iff_getElem.mp h
 exact ⟨i,hi,by rw[List.getD_eq_getElem?_getD,List.getElem?_eq_getElem hi];exact e⟩
theorem K3 (hc : X.calm = true) : AO X (.builtin "max") (fun xs H Q=>∃ (a : Addr) (ns : List Int),xs = [.ref a] /\ (SqL X.K H a (ns.map V.int) \/ SqT X.K H a (ns.map V.int)) /\ ns ≠ [] /\ ∀ m,DG ns m -> Q (.int m) H):= by
 intro pins s σ H xs us Q I r h
 obtain ⟨a,ns,rfl,hq,hne,q⟩:=h
 obtain ⟨u,rfl,ru⟩:=FL r
 cases ru
 refine call_max_walk (Ff I (A:=X.A.in1) (I.ok.hd hc) hq fun its I' fp wr St' s2 rv W st hfp _ _ _ _ hI=>?_)
 have hlen:its.toArray.size=ns.length:=by rw[List.size_toArray,<- rv.length,List.length_map]
 have hpos:0<ns.length:=List.length_pos_iff.mpr hne
 refine ⟨_,_,_,_,_,_,_,rfl,W,st,hfp,by rw[hlen];exact hpos,CmpOf.ints_gt (fun i=>ns.getD i 0) (fun i v hv=>(Cr rv hv).imp fun t e=>e.1),fun v h' tk hP hk=>?_⟩
 obtain ⟨t,rfl,hi⟩:=Cr rv hP
 obtain ⟨h1,h2⟩:=argBest_gt (fun i=>ns.getD i 0) (its.toArray.size-1)
 refine ⟨.int _,H,hI h' tk hk,⟨t,rfl⟩,q _ ⟨Ko hi,fun b hb=>?_⟩⟩
 obtain ⟨j,hj,rfl⟩:=JD hb
 exact h2 j (by lia)
theorem JV (hc : X.calm = true) : AO X (.builtin "sum") (fun xs H Q=>∃ (a : Addr) (ns : List Int),xs = [.ref a] /\ (SqL X.K H a (ns.map V.int) \/ SqT X.K H a (ns.map V.int)) /\ Q (.int ns.sum) H):= by
 intro pins s σ H xs us Q I r h
 refine Ar h fun a ns e90 hq q=>?_;subst e90
 refine xEA (FL r) fun u e90 ru=>?_;subst e90
 cases ru
 refine call_sum_walkG (Ff I (A:=X.A.in1) (I.ok.hd hc) hq fun its I' fp wr St' s2 rv W st hfp _ _ _ _ hI=>?_)
 refine ⟨_,_,_,_,_,_,fun i=>ns.getD i 0,rfl,W,st,hfp,(fun i v hv=>(Cr rv hv).imp fun t e=>e.1),fun h' tk t' hk=>?_⟩
 have hlen:its.toArray.size=ns.length:=by rw[List.size_toArray,<- rv.length,List.length_map]
 refine ⟨.int _,H,hI h' tk hk,⟨t',rfl⟩,?_⟩
 have e:preSum (fun i=>ns.getD i 0) its.toArray.size=ns.sum:= by
  rw[hlen]
  have gen : ∀ n,n<=ns.length->preSum (fun i=>ns.getD i 0) n=(ns.take n).sum:= by
   intro n
   induction n with
   | zero=>intro _;rfl
   | succ n ih=>
    intro hn
    have e1:preSum (fun i=>ns.getD i 0) (n+1)=preSum (fun i=>ns.getD i 0) n+ns.getD n 0:=rfl
    have hn':n<ns.length:=hn
    have e2:ns.take (n+1)=ns.take n++[ns[n]]:=by simp
    rw[e1,ih (by lia),e2,List.getD_eq_getElem?_getD,List.getElem?_eq_getElem hn',List.sum_append]
    simp
  rw[gen _ (Nat.le_refl _),List.take_length]
 rw[e];exact q
theorem IZ {bs:List Bool} {its:List Value} (r:AH (bs.map V.bl) its) {i:Nat} {v:Value} (h:its.toArray[i]?=some v):v = .bool (bs.getD i true)/\i<bs.length:= by
 have h':its[i]?=some v:=by simpa using h
 have hl:=r.length
 rw[List.length_map] at hl
 have hi:i<bs.length:=by rw[hl];exact (List.getElem?_eq_some_iff.mp h').1
 refine xEA (r.get (i:=i) (x:=V.bl (bs[i])) (by rw[List.getElem?_map,List.getElem?_eq_getElem hi];rfl)) fun u hu ru=>?_
 rw[hu] at h';cases h'
 cases (show v=Value.bool (bs[i]) from ru)
 exact ⟨by rw[List.getD_eq_getElem?_getD,List.getElem?_eq_getElem hi];rfl,hi⟩
theorem K2 (bs:List Bool) (d:Bool):(List.range bs.length).all (fun i=>bs.getD i d)=bs.all id:= by
 rw[Bool.eq_iff_iff,List.all_eq_true,List.all_eq_true]
 constructor
 ·intro h b hb
  obtain ⟨i,hi,e⟩:=List.mem_iff_getElem.mp hb
  have:=h i (List.mem_range.mpr hi)
  rw[List.getD_eq_getElem?_getD,List.getElem?_eq_getElem hi] at this
  rw[<- e];exact this
 ·intro h i hi
  have hi:=List.mem_range.mp hi
  rw[List.getD_eq_getElem?_getD,List.getElem?_eq_getElem hi]
  exact h _ (List.getElem_mem hi)
theorem JX (hc : X.calm = true) : AO X (.builtin "all") (fun xs H Q=>∃ (a : Addr) (bs : List Bool),xs = [.ref a] /\ (SqL X.K H a (bs.map V.bl) \/ SqT X.K H a (bs.map V.bl)) /\ Q (.bl (bs.all id)) H):= by
 intro pins s σ H xs us Q I r h
 refine Ar h fun a bs e90 hq q=>?_;subst e90
 refine xEA (FL r) fun u e90 ru=>?_;subst e90
 cases ru
 refine call_all_walk (Ff I (A:=X.A.in1) (I.ok.hd hc) hq fun its I' fp wr St' s2 rv W st hfp _ _ _ _ hI=>?_)
 refine ⟨_,_,_,_,_,_,fun i=>bs.getD i true,rfl,W,st,(fun i v s Q E hv hQ=>by rw[(IZ rv hv).1];exact wpAny_truthy_bool hQ),fun h' tk hk=>?_⟩
 have hlen:its.toArray.size=bs.length:=by rw[List.size_toArray,<- rv.length,List.length_map]
 rw[hlen,K2]
 exact ⟨.bl _,H,hI h' tk hk,rfl,q⟩
theorem LQ : AO X (.builtin "isinstance") (fun xs H Q=>∃ x n t b,xs = [x,.ty n] /\ FV X.K H x t /\ PySem.W.kitOne X.K t (.type n) = some b /\ Q (.bl b) H):= by
 intro pins s σ H xs us Q I r h
 refine Ny h fun x n t b e90 ty e q=>?_;subst e90
 refine Ar (M4 r) fun u w' e90 rx ru=>?_;subst e90
 cases (show w'=Value.type n from ru)
 exact JA I rx ty e fun tk=>⟨.bl b,H,I.tok tk,rfl,q⟩
end
end L2
namespace L2
open PySem PySem.Spec PyProof.Rows
section
variable {prog:Program} {w:World} {A:Around} {E:Value->Shared->Prop} {s:Shared}
theorem Hk {t:Addr} {items:Array Value} {Q:Bool->Shared->Prop} (ht:IsTup s.heap t items) (h:Q true s):wpAny (model prog w) A (Builtin.Tuple.tupleIsExact (.ref t)) Q E s:= by
 unfold Builtin.Tuple.tupleIsExact
 exact wpAny_bind (wpAny_typeOf ht.typeIs (wpAny_pure h))
theorem Dl {t sl:Addr} {items:Array Value} {vl vu:Value} {lo hi:Option Int} {Q:Value->Shared->Prop} (ht:IsTup s.heap t items) (hs:s.heap.IsSliceOf sl vl vu .none) (pl:IsPart vl lo) (pu:IsPart vu hi)
  (hw:HT.sIx items.size 0 lo=0/\HT.sIx items.size items.size hi=items.size) (h:Q (.ref t) s):wpAny (model prog w) A (getItem (.ref t) (.ref sl)) Q E s:= by
 refine AM (id hs) fun os hos hcs hds=>?_
 have hTs : s.TypeIs (.ref sl) "slice":=⟨os,hos,hcs⟩
 unfold getItem
 try with_reducible refine wpAny_holding ?_
 first | refine wpAny_bind (wpAny_pure ?_) | skip
 refine wpAny_bind (wpAny_sequenceKey ht.typeIs (by decide) ?_)
 refine wpAny_bind (wpAny_callSpecial?_slot (name:=Str.ofString "__getitem__") ht.typeIs PyProof.Rows.slot_tuple_getitem
  (wpAny_call_entry PyProof.Rows.slot_tuple_getitem ht.typeIs entry_tuple_getitem ?_ (args_tuple_getitem _ _)))
 show wpAny _ _ (Builtin.Tuple.tupleItemsOf (.ref t) >>= _) _ _ s
 refine wpAny_bind (tupleItemsOf_ ht ?_)
 refine wpAny_bind (wpAny_typeOf hTs ?_)
 rw[if_pos (by decide)]
 refine wpAny_bind (HT.sliceApplied_gen hs pl pu ?_)
 have hyes:((((HT.sIx items.size 0 lo:Nat):Int)==0&&(1:Int)==1&&(HT.sIx items.size items.size hi-HT.sIx items.size 0 lo)==items.size)=true):= by
  rw[hw.1,hw.2];simp
 show wpAny _ _ (if (((HT.sIx items.size 0 lo:Nat):Int)==0&&(1:Int)==1&&(HT.sIx items.size items.size hi-HT.sIx items.size 0 lo)==items.size)=true then _ else _) _ _ s
 rw[if_pos hyes]
 refine wpAny_bind (Hk ht ?_)
 rw[if_pos rfl]
 exact wpAny_bind (wpAny_rule (wpAny_bind (wpAny_pure (wpAny_pure ⟨_,rfl,wpAny_pure h⟩))))
end
section
variable {X:Cx}
theorem M9:SlR X (fun x lo hi H Q=>∃ a xs,x = .ref a/\SqT X.K H a xs /\ ∀ p H',An H H'->SqT X.K H' p (DE xs lo hi)->Q (.ref p) H'):= by
 intro pins s σ H x v vl vu lo hi sl Q I rx hs pl pu h
 refine Ar h fun a xs e92 hx q=>?_;subst e92
 by_cases hw:HT.sIx xs.length 0 lo=0/\HT.sIx xs.length xs.length hi=xs.length
 ·cases rx
  refine AM (I.tuple hx) fun its r ht hz=>?_
  have hlen:its.toArray.size=xs.length:=by rw[List.size_toArray];exact r.length.symm
  refine ⟨"tuple",_,PyProof.Rows.slot_tuple_getitem.lookup,ht.typeIs,?_⟩
  refine Dl ht hs pl pu (by rw[hlen];exact hw) ⟨.ref a,H,I,rfl,q a H (An.refl H) ?_⟩
  have e:DE xs lo hi=xs:=by unfold DE;rw[hw.1,hw.2];simp
  rw[e];exact hx
 ·exact NR pins s σ H _ v vl vu lo hi sl Q I rx hs pl pu ⟨a,xs,rfl,hx,hw,fun p hp=>q p _ (An.new hp) (SqT.of Ab)⟩
theorem MP:OpR X (binaryOp .Add) (fun x y H Q=>∃ a b xs ys,x = .ref a/\y = .ref b/\SqT X.K H a xs/\SqT X.K H b ys/\xs.length+ys.length<=sizeLine /\ ∀ p H',An H H'->SqT X.K H' p (xs++ys)->Q (.ref p) H'):= by
 intro pins s σ H x y v u Q I rx ry h
 refine N6 h fun a b xs ys e94 e95 ha hb hz q=>?_;subst e94;subst e95
 by_cases hx:xs=[]
 ·cases rx
  cases ry
  refine AM (I.tuple ha) fun its r1 p1 _=>?_
  refine AM (I.tuple hb) fun its2 r2 p2 _=>?_
  have hv:its=[]:=r1.nil_iff.mpr hx
  refine AM (id p1) fun n90 ho hc m91=>xE m91 fun n hd=>?_;obtain ⟨cls,dd,data,sl⟩:=n90
  refine AM (id p2) fun n90 ho2 hc2 m92=>xE m92 fun n2 hd2=>?_;obtain ⟨cls2,dd2,data2,sl2⟩:=n90
  simp only at hc hd hc2 hd2
  subst hc hd hc2 hd2
  refine concat_meets ⟨_,ho,rfl⟩ ⟨_,ho2,rfl⟩ noFill_tuple_add seq_tuple_add PySem.F.slot_tuple_add PySem.F.entry_tuple_add (PySem.F.args_tuple_add_2 _ _)
   (tuple_addW0 a b its.toArray its2.toArray n n2 dd dd2 sl sl2 (by simp [hv])) ⟨ho,ho2,?_⟩
  exact ⟨.ref b,H,I,rfl,q b H (An.refl H) (by rw[hx,List.nil_append];exact hb)⟩
 ·refine Nj pins s σ H _ _ v u Q I rx ry ⟨a,b,xs,ys,rfl,rfl,ha,hb,hx,hz,fun e=>q a H (An.refl H) (by rw[e,List.append_nil];exact ha),fun _ p hp=>q p _ (An.new hp) (SqT.of Ab)⟩
end
section
variable {X:Cx}
theorem GQ {prog:Program} {w:World} {A:Around} {E:Value->Shared->Prop} {it t:Addr} {items:Array Value} (hne:t≠it) : ∀ (n i:Nat) (s:Shared) (Q:List Value->Shared->Prop),s.heap.IsListIter it t i->s.heap.IsList t items->i+n<=items.size ->
  (∀ h',h'.IsListIter it t (i+n)->Heap.SameBut it s.heap h'->Q ((items.toList.drop i).take n) { s with heap:=h' })->wpAny (model prog w) A (draw (.ref it) n) Q E s
 | 0,i,s,Q,hit,_,_,hQ=>by
  show wpAny _ _ (pure []) Q E s
  exact wpAny_pure (by simpa using hQ s.heap hit (Heap.SameBut.refl ..))
 | n+1,i,s,Q,hit,ht,hle,hQ=>by
  have hlt:i<items.size:=by lia
  show wpAny _ _ (pyNext (.ref it) >>= _) Q E s
  refine wpAny_bind (wpAny_pyNext_list_item hit ht (x:=items[i]) (by simp [hlt]) fun h₁ hit₁ hs₁=>?_)
  refine wpAny_bind (wpAny_holding (GQ hne n (i+1) _ _ hit₁ (ht.extBut hs₁.extBut hne) (by lia) fun h₂ hit₂ hs₂=>wpAny_pure ?_))
  have hd:items.toList.drop i=items[i]::items.toList.drop (i+1):=by simp [List.drop_eq_getElem_cons,hlt]
  have:=hQ h₂ (by rw[show i+(n+1)=i+1+n by lia];exact hit₂) (hs₁.trans hs₂)
  rw[hd,List.take_succ_cons] at this
  exact this
theorem DD {prog:Program} {w:World} {A:Around} {E:Value->Shared->Prop} {s:Shared} {t:Addr} {items:Array Value} {Q:List Value->Shared->Prop} (hh:A.handled=none) (ht:s.heap.IsList t items)
  (hQ : ∀ h',Heap.ExtBut s.heap.objs.size s.heap h'->Q items.toList { s with heap:=h' }):wpAny (model prog w) A (unpackItems (.ref t) items.size none) Q E s:= by
 have hlt:t≠s.heap.objs.size:=by obtain ⟨o,ho,_⟩:=ht;exact Nat.ne_of_lt (Heap.lt_size ho)
 unfold unpackItems
 refine wpAny_bind ?_
 unfold notIterableAtAll
 refine wpAny_bind (wpAny_specialOf ht.typeIs slot_list_iter.lookup ?_)
 refine wpAny_pure ?_
 simp only [Bool.false_eq_true,if_false]
 refine wpAny_bind (wpAny_holding (wpAny_pyIter_list ht ?_))
 refine wpAny_bind (wpAny_holding (GQ hlt items.size 0 _ _ ⟨_,Heap.get?_push_size _ rfl,rfl,rfl⟩ (ht.push _) (by lia) fun h₁ hit₁ hs₁=>?_))
 have hall:List.take items.size (List.drop 0 items.toList)=items.toList:= by
  rw[List.drop_zero];exact List.take_of_length_le (by simp)
 rw[hall]
 rw[if_neg (by simp)]
 have ht₁:h₁.IsList t items:=(ht.push _).extBut hs₁.extBut hlt
 refine wpAny_bind (wpAny_holding (wpAny_pyNext_list_end hh hit₁ ht₁ (by simp) fun h₂ he₂=>?_))
 simp only [Option.isSome_none,Bool.false_eq_true,if_false]
 refine wpAny_pure (hQ h₂ fun b o hb e=>he₂ b o hb (hs₁.extBut b o hb (Heap.get?_push_of_some _ e)))
inductive XLs (K:PySem.W.Frag) (n:Nat) (t:TGs) (v:V) (σ:St) (H:Hp) (Q:St->Hp->Prop):Prop
 | mk (a:Addr) (xs:List V) (hv:v = .ref a) (hs:SqL K H a xs) (hl:xs.length=n) (q:t xs σ H Q):XLs K n t v σ H Q
def Qa (K:PySem.W.Frag) (n:Nat) (t:TGs):TG:=fun v σ H Q=>XLs K n t v σ H Q
theorem ND {es:List Expr} {k:Nat} {t:TGs} {n:Nat} {pos:Pos} (hc:X.calm=true) (h:PGs X es t)
  (hn:(assignEach es X.env).length=n:=by rfl) (hst:(assignEach es X.env).findIdx? (·.1)=none:=by rfl):PG X (.Tuple es k pos) (Qa X.K n t):= by
 intro pins s σ H v u Q I r hw
 obtain ⟨a,xs,e1,hq,hl,hw⟩:=hw
 subst e1
 cases r
 refine AM (I.list hq) fun its rv ht hz=>?_
 rw[assign_Tuple]
 refine wpAny_bind (wpAny_standAt ?_)
 unfold unpack
 rw[show (assignEach es X.env).length=its.toArray.size by rw[hn,<- hl,rv.length,List.size_toArray],hst]
 refine wpAny_bind (wpAny_holding (DD (I.ok.hd hc) ht.isList fun h' hx=>?_))
 have I1:Inv X pins σ H { s with heap:=h' }:=I.kept (t':=s.toks) fun b o e=>hx b o (Nat.ne_of_lt (Heap.lt_size e)) e
 exact h pins _ σ H xs _ Q I1 (by simpa using rv) hw
end
end L2
namespace L2
open PySem PySem.Spec PyProof.Rows
noncomputable def NI (N N':List Str) (M:List (Option Nat)) (sc osc:Scope):Bool:=
 (sc.kind == .function)&&(N'.length==M.length)&&(sc.names.all fun y=>y.2 != NameKind.cell)&&(sc.names.all fun y=>y.2 != NameKind.local||sc.names.lookup y.1==some NameKind.local) &&
 (sc.names.all fun y=>y.2 != NameKind.free||(osc.names.lookup y.1==some NameKind.cell||osc.names.lookup y.1==some NameKind.free)) &&
 ((N'.zip M).all fun p=>match p.2 with | none=>true | some j=>N[j]?==some p.1&&sc.names.lookup p.1==some NameKind.free)
theorem LS {a b:NameKind} (h:(a==b)=true):a=b:= by
 cases a <;> cases b <;> first | rfl | exact absurd h (by decide)
theorem CM {a:Option NameKind} {b:NameKind} (h:(a==some b)=true):a=some b:= by
 cases a with
 | none=>exact absurd h (by cases b <;> decide)
 | some x=>rw[LS (show (x==b)=true from h)]
theorem Jp {a b:NameKind} (h:(a != b)=true):a≠b:= by
 cases a <;> cases b <;> first | (intro z;cases z;done) | exact absurd h (by decide)
theorem AC {N N':List Str} {M:List (Option Nat)} {sc osc:Scope} (h:NI N N' M sc osc=true):L9 N N' M sc osc:= by
 unfold NI at h
 simp only [Bool.and_eq_true] at h
 obtain ⟨⟨⟨⟨⟨h1,h2⟩,h3⟩,h4⟩,h5⟩,h6⟩:=h
 have hl:N'.length=M.length:=by simpa using h2
 refine ⟨?_,hl,fun y hy=>Jp (List.all_eq_true.mp h3 y hy),fun y hy hk=>?_,fun y hy hk=>?_,fun i j e=>?_⟩
 ·revert h1;cases sc.kind <;> intro h1 <;> first | rfl | exact absurd h1 (by decide)
 ·have q:=List.all_eq_true.mp h4 y hy
  rw[Bool.or_eq_true] at q
  rcases q with q | q
  ·exact absurd hk (Jp q)
  ·exact CM q
 ·have q:=List.all_eq_true.mp h5 y hy
  rw[Bool.or_eq_true,Bool.or_eq_true] at q
  rcases q with q | q | q
  ·exact absurd hk (Jp q)
  ·exact .inl (CM q)
  ·exact .inr (CM q)
 ·have hi:i<M.length:=(List.getElem?_eq_some_iff.mp e).1
  have hi':i<N'.length:=by rw[hl];exact hi
  have em:(N'[i],some j) ∈ N'.zip M:= by
   refine List.mem_iff_getElem?.mpr ⟨i,?_⟩
   rw[List.getElem?_zip_eq_some]
   exact ⟨List.getElem?_eq_getElem hi',e⟩
  have q:=List.all_eq_true.mp h6 _ em
  simp only [Bool.and_eq_true] at q
  exact ⟨N'[i],List.getElem?_eq_getElem hi',by simpa using q.1,CM q.2⟩
section
variable {K:PySem.W.Frag} {a:Addr} {xs:List V} {M:List (Option Nat)} {σ:St} {g:TG} {tc:TT} {te:TE} {F:List V->Hp->Prop} {H:Hp}
abbrev HW (J:It) (M:List (Option Nat)) (σ:St) (g:TG) (tc:TT) (te:TE) (F:List V->Hp->Prop) (H1:Hp):Prop:=
 ∃ W:Nat->Nat->List V->Hp->Prop,(∃ m,W 0 m [] H1) /\ ∀ i m ys H,W i m ys H->ys.length<=sizeLine /\
  ((J.stop i H/\F ys H)\/(J.go i H/\ys.length<sizeLine /\ ∃ N:List V->Hp->Prop,(∀ ys' H',N ys' H' -> ∃ m',m'<m/\W (i+1) m' ys' H') /\ ∀ x H',J.yld i H x H'->g x (CY M σ) H' fun σ2 H2=>tc σ2 H2 fun b H3=>
   if b=true then te σ2 H3 fun v H4=>N (ys++[v]) H4 else N ys H3))
theorem Bu (Pv:Nat->List V->Hp->Prop) (hz:xs.length<=sizeLine) (h0:Pv 0 [] H) (hl : ∀ i ys H,i<=xs.length->Pv i ys H->SqL K H a xs/\ys.length<=i)
  (hs : ∀ i x ys H,xs[i]?=some x->Pv i ys H->g x (CY M σ) H fun σ2 H2=>tc σ2 H2 fun b H3=>if b=true then te σ2 H3 fun v H4=>Pv (i+1) (ys++[v]) H4 else Pv (i+1) ys H3)
  (hd : ∀ ys H,Pv xs.length ys H->F ys H):HW (Itl K a) M σ g tc te F H:= by
 refine ⟨fun i m ys H=>m=xs.length-i/\i<=xs.length/\Pv i ys H,⟨xs.length,by simp,Nat.zero_le _,h0⟩,?_⟩
 rintro i m ys H ⟨rfl,hi,p⟩
 obtain ⟨q,hy⟩:=hl i ys H hi p
 refine ⟨by lia,?_⟩
 by_cases hlt:i<xs.length
 ·refine .inr ⟨⟨xs,xs[i],q,by simp [hlt]⟩,by lia,Pv (i+1),fun ys' H' p'=>⟨xs.length-(i+1),by lia,rfl,hlt,p'⟩,fun x H' y=>?_⟩
  obtain ⟨e,y⟩:=y
  subst e
  exact hs i x ys _ (y xs q) p
 ·have e:i=xs.length:=by lia
  subst e
  exact .inl ⟨⟨xs,q,Nat.le_refl _⟩,hd ys H p⟩
theorem Me (Pv:Nat->List V->Hp->Prop) (hz:xs.length<=sizeLine) (h0:Pv 0 [] H) (hl : ∀ i ys H,i<=xs.length->Pv i ys H->SqT K H a xs/\ys.length<=i)
  (hs : ∀ i x ys H,xs[i]?=some x->Pv i ys H->g x (CY M σ) H fun σ2 H2=>tc σ2 H2 fun b H3=>if b=true then te σ2 H3 fun v H4=>Pv (i+1) (ys++[v]) H4 else Pv (i+1) ys H3)
  (hd : ∀ ys H,Pv xs.length ys H->F ys H):HW (Itt K a) M σ g tc te F H:= by
 refine ⟨fun i m ys H=>m=xs.length-i/\i<=xs.length/\Pv i ys H,⟨xs.length,by simp,Nat.zero_le _,h0⟩,?_⟩
 rintro i m ys H ⟨rfl,hi,p⟩
 obtain ⟨q,hy⟩:=hl i ys H hi p
 refine ⟨by lia,?_⟩
 by_cases hlt:i<xs.length
 ·refine .inr ⟨⟨xs,xs[i],q,by simp [hlt]⟩,by lia,Pv (i+1),fun ys' H' p'=>⟨xs.length-(i+1),by lia,rfl,hlt,p'⟩,fun x H' y=>?_⟩
  obtain ⟨e,y⟩:=y
  subst e
  exact hs i x ys _ (y xs q) p
 ·have e:i=xs.length:=by lia
  subst e
  exact .inl ⟨⟨xs,q,Nat.le_refl _⟩,hd ys H p⟩
theorem Bn {lo:Int} {n:Nat} (Pv:Nat->List V->Hp->Prop) (hz:n<=sizeLine) (h0:Pv 0 [] H) (hl : ∀ i ys H,i<=n->Pv i ys H->ys.length<=i)
  (hs : ∀ i ys H,i<n->Pv i ys H->g (.int (lo+i)) (CY M σ) H fun σ2 H2=>tc σ2 H2 fun b H3=>if b=true then te σ2 H3 fun v H4=>Pv (i+1) (ys++[v]) H4 else Pv (i+1) ys H3)
  (hd : ∀ ys H,Pv n ys H->F ys H):HW (Itr lo n) M σ g tc te F H:= by
 refine ⟨fun i m ys H=>m=n-i/\i<=n/\Pv i ys H,⟨n,by simp,Nat.zero_le _,h0⟩,?_⟩
 intro i m ys H n90;refine xA2 n90 fun e91 hi p=>?_;subst e91
 have hy:=hl i ys H hi p
 refine ⟨by lia,?_⟩
 by_cases hlt:i<n
 ·refine .inr ⟨hlt,by lia,Pv (i+1),fun ys' H' p'=>⟨n-(i+1),by lia,rfl,hlt,p'⟩,fun x H' y=>?_⟩
  obtain ⟨e,y⟩:=y
  subst e y
  exact hs i ys _ hlt p
 ·have e:i=n:=by lia
  subst e
  exact .inl ⟨Nat.le_refl _,hd ys H p⟩
theorem DQ {α:Type} (f:Nat->α) (i:Nat):(List.range i).map f++[f i]=(List.range (i+1)).map f:=by rw[List.range_succ,List.map_append];rfl
end
structure Cal (P:Program) (w:World) (K:PySem.W.Frag) (mg:Str->Option Value) (base:Heap) (k:Nat) (x:Str) (dvs:List V) (sp:Sp):Prop where
 ex : ∃ f fd ps ds,BQ P w K mg base CX0 k f fd ps sp/\mg x=some (.ref f)/\PySem.W.keepIn K (.ref f)=true/\Ha K fd ps ds/\AH dvs ds
theorem Au {X : Cx} {k : Nat} {x : Str} {dvs : List V} {sp : Sp} {e : Expr} {es : List Expr} {t : TA} {p pos : Pos} (c : Cal X.prog X.w X.K X.mg X.base k x dvs sp) (hr : Ee k X.A) (hg : Gl X x) (ha : PA X (e :: es) t) (hd : (x == ("__debug__" : Str)) = false:=by decide)
  (he:starEach (e::es) X.env=(false,eval e X.env)::starEach es X.env:=by rfl) (hpl:(backTo pos (starEach es X.env)).any (·.1)=false:=by rfl) :
  PE X (.Call (.Name x p) (e::es) [] pos) (NA sp dvs E0 t):= by
 refine NW c.ex fun f fd ps ds F hm hk hb hv=>?_
 exact Mz F hr hg hm hk hb hv OO ha hd he hpl
end L2
namespace L2
open PySem
abbrev DY:List Int->List Int->Prop:=Paired fun l r=>0<=r/\r<l
def L6 (l:Int):Prop:=0<l/\l.natAbs.log2<9000
def Ig (K:PySem.W.Frag):Sp:=fun vs H Q _=>∃ (c:Int) (a:Addr) (ls:List Int),vs=[.int c,.ref a]/\SqL K H a (ls.map V.int)/\(∀ l ∈ ls,L6 l)/\ls.length<=1000 /\
 ∀ (p:Addr) (rs:List Int) (H':Hp),H p=none->An H H'->H' p=some (.lst (rs.map V.int))->DY ls rs->Q (.ref p) H'
def Km (K:PySem.W.Frag):Sp:=fun vs H Q _=>∃ (a:Addr) (ns:List Int) (k:Int),vs=[.ref a,.int k]/\SqL K H a (ns.map V.int)/\0<=k/\k<=1000/\ns.length<=1000 /\ ∀ z,Q (.int z) H
def K6 (K:PySem.W.Frag):Sp:=fun vs H Q _=>∃ (a:Addr) (ns:List Int) (f:Int),vs=[.ref a,.int f]/\SqL K H a (ns.map V.int) /\ ∀ z,f<=z->(z<=63\/z=f)->Q (.int z) H
def E7:Sp:=fun vs H Q _=>∃ (c n:Int) (w:Int),vs=[.int c,.int n,.int w]/\0<=n/\n<=100/\0<=w/\w<=2 /\
 ∀ (p:Addr) (rs:List Int) (H':Hp),H p=none->An H H'->H' p=some (.lst (rs.map V.int))->rs.length=n.toNat->Q (.ref p) H'
noncomputable def AF:Int->List Int->Bool
 | _,[]=>true
 | f,w::r=>decide (0<=w)&&decide (w<=f)&&AF (if w=f then f+1 else f) r
noncomputable def As (ns:List Int):Bool:=decide (1<=ns.length)&&decide (ns.length<=9)&&AF 0 ns
def MV (K:PySem.W.Frag):Sp:=fun vs H Q _=>∃ (c n:Int),vs=[.int c,.int n]/\1<=n/\n<=9 /\
 ∀ (p:Addr) (ws:List Int) (H':Hp),H p=none->An H H'->H' p=some (.tup (ws.map V.int))->ws.length=n.toNat->As ws=true->Q (.ref p) H'
theorem Lf {ns:List Int} {i:Nat} {y:V} (h:(ns.map V.int)[i]?=some y) : ∃ z,y=V.int z/\ns[i]?=some z/\i<ns.length:= by
 rw[List.getElem?_map] at h
 cases e:ns[i]? with
 | none=>rw[e] at h;cases h
 | some z=>rw[e] at h;exact ⟨z,(Option.some.inj h).symm,rfl,(List.getElem?_eq_some_iff.mp e).1⟩
theorem L4 {ns:List Int} {z:Int}:ns.map V.int++[V.int z]=(ns++[z]).map V.int:=by rw[List.map_append];rfl
theorem P8:(sizeLine:Nat)=16777216:=by decide
theorem Ak {n:Nat} (h:n<=16777216):n<=sizeLine:=by rw[P8];exact h
theorem Cz {n:Nat} (h:n<16777216):n<sizeLine:=by rw[P8];exact h
theorem ltm (l:List Int):(l.map V.int).length=l.length:=List.length_map ..
theorem IN {ls rs:List Int} {l r:Int} (h:DY ls rs) (h1:0<=r) (h2:r<l):DY (ls++[l]) (rs++[r]):=Paired.snoc h ⟨h1,h2⟩
theorem Aw {α:Type} {l:List α} {i:Nat} {x:α} (h:l[i]?=some x):l.take (i+1)=l.take i++[x]:= by
 rw[List.take_add_one,h];rfl
theorem MC (z:Int) {l:Int} (h:0<l):0<=z % l/\z % l<l:=⟨Int.emod_nonneg _ (Int.ne_of_gt h),Int.emod_lt_of_pos _ h⟩
theorem p0 {n:Nat}:(0:Int)<((n+1:Nat):Int):=Int.natCast_pos.mpr (Nat.succ_pos n)
theorem OA {c:Prop} [Decidable c] {ta tb:TE} {σ:St} {H:Hp} {Q:VK} (P:Int->Prop) (h : ∀ r,P r->Q (.int r) H) (ha : ∀ Q':VK,(∀ r,P r->Q' (.int r) H)->ta σ H Q') (hb : ∀ Q':VK,(∀ r,P r->Q' (.int r) H)->tb σ H Q'):if c then ta σ H Q else tb σ H Q:= by
 split
 ·exact ha _ h
 ·exact hb _ h
end L2
namespace L2
open PySem PySem.Spec PyProof.Rows
structure Np (K:PySem.W.Frag) (x qual:Str) (st:Stmt) (f:Addr) (fd:FuncData) (ds:List Value):Prop where
 ex : ∃ (oc:Value) (od:Option Addr) (T:Addr) (oT:Obj) (nT:Nat) (kV doc pm:Value) (an:Option Addr) (cdv ct:Value) (osl:Array (Option Value)),
  fd=PySem.W.fnOf x qual (Bd st) (A1 st) (Ai st) (.ref T) kV doc pm an cdv ct/\K.lookup f=some ⟨oc,od,.func fd,osl⟩/\PySem.W.codeIn K cdv qual=true/\K.lookup T=some oT/\oT.data = .seq ds.toArray nT
 kp:PySem.W.keepIn K (.ref f)=true
section
variable {P:Program} {w:World} {K:PySem.W.Frag} {mg:Str->Option Value} {base:Heap}
theorem Np.ok {x qual:Str} {st:Stmt} {f:Addr} {fd:FuncData} {ds:List Value} {N ps:List Str} {k:Nat} {sp:Sp} (F:Np K x qual st f fd ds) (S:Aq N ps (Ai st)) (len : ∀ vs H Q E,sp vs H Q E->vs.length=ps.length)
  (hbody : ∀ (cdv:Value) (A:Around) (outer:List Env) (s:Shared) (H:Hp) (vs:List V) (Q:VK) (E:XK),Ee k (A.deeper (envOfC qual (Ai st) s.heap.objs.size f cdv))->sp vs H Q E ->
   ∃ t,PSs (MD CX0 P w K mg base N qual (Ai st) f cdv A outer s H E).nox (A1 st) t/\t { nx:=fun _ H'=>Q .non H',rt:=Q } (FA N vs) H):BQ P w K mg base CX0 (k+1) f fd ps sp:= by
 refine xE6 F.ex fun oc od T oT nT kV m91=>Ox m91 fun doc pm an cdv ct osl e912 lk hcd _ _=>?_;subst e912
 refine N1 lk hcd S len fun A outer s H vs Q E hr hsp=>?_
 refine xEA (hbody cdv A outer s H vs Q E hr hsp) fun t h q=>?_
 exact ⟨t,h.nox,q⟩
theorem Np.binds {x qual:Str} {st:Stmt} {f:Addr} {fd:FuncData} {ds es:List Value} {ps:List Str} (F:Np K x qual st f fd ds)
  (h : ∀ (T:Addr) (kV doc pm:Value) (an:Option Addr) (cdv ct:Value) (us:List Value),(us++es).length=ps.length -> ∃ kk,bindArgs (PySem.W.fnOf x qual (Bd st) (A1 st) (Ai st) (.ref T) kV doc pm an cdv ct) ⟨us,[]⟩=seqItems? (.ref T) >>= kk/\kk (some ds.toArray)=pure (ps.zip (us++es))):Ha K fd ps es:= by
 refine xE6 F.ex fun oc od T oT nT kV m92=>Ox m92 fun doc pm an cdv ct osl e912 lk hcd lT dT=>?_;subst e912
 intro s us KX hl
 refine xEA (h T kV doc pm an cdv ct us hl) fun kk e1 e2=>?_
 exact BindsTo.of_defaults rfl (KX _ _ lT) dT e1 e2
theorem My {x qual:Str} {st:Stmt} {f T:Addr} {oT:Obj} {nT:Nat} {ds:List Value} {oc:Value} {od an:Option Addr} {osl:Array (Option Value)} {kV doc pm cdv ct:Value} (l:K.lookup f=some ⟨oc,od,.func (PySem.W.fnOf x qual (Bd st) (A1 st) (Ai st) (.ref T) kV doc pm an cdv ct),osl⟩)
  (c:PySem.W.codeIn K cdv qual=true) (k:PySem.W.keepIn K (.ref f)=true) (lT:K.lookup T=some oT) (dT:oT.data = .seq ds.toArray nT):Np K x qual st f (PySem.W.fnOf x qual (Bd st) (A1 st) (Ai st) (.ref T) kV doc pm an cdv ct) ds:=⟨⟨oc,od,T,oT,nT,kV,doc,pm,an,cdv,ct,osl,rfl,l,c,lT,dT⟩,k⟩
theorem Fun.cal {x:Str} {qual:Str} {st:Stmt} {f:Addr} {fd:FuncData} {ps:List Str} {k:Nat} {sp:Sp} (F:Fun K x qual st f fd) (G:BQ P w K mg base CX0 k f fd ps sp) (hm:mg x=some (.ref f))
  (h : ∀ (kV doc pm:Value) (an:Option Addr) (cdv ct:Value) (us:List Value),us.length=ps.length->bindArgs (PySem.W.fnOf x qual (Bd st) (A1 st) (Ai st) .none kV doc pm an cdv ct) ⟨us,[]⟩=pure (ps.zip us)):Cal P w K mg base k x [] sp:=
 ⟨f,fd,ps,[],G,hm,F.kp,F.binds h,.nil⟩
end
end L2
namespace L2
open PySem
theorem DG.uniq {l:List Int} {m n:Int} (h:DG l m) (h':DG l n):m=n:=Int.le_antisymm (h'.2 m h.1) (h.2 n h'.1)
noncomputable def FX:List Int->Int
 | []=>0
 | a::r=>r.foldl max a
theorem GN : ∀ (r:List Int) (a:Int),DG (a::r) (r.foldl max a)
 | [],a=>⟨List.mem_cons_self,fun b hb=>by rw[List.mem_singleton.mp hb];exact Int.le_refl _⟩
 | b::r,a=>by
  obtain ⟨h1,h2⟩:=GN r (max a b)
  refine ⟨?_,fun c hc=>?_⟩
  ·show r.foldl max (max a b) ∈ a::b::r
   rcases List.mem_cons.mp h1 with e | e
   ·rw[e]
    by_cases q:a<=b
    ·rw[Int.max_eq_right q];exact List.mem_cons_of_mem _ List.mem_cons_self
    ·rw[Int.max_eq_left (by lia)];exact List.mem_cons_self
   ·exact List.mem_cons_of_mem _ (List.mem_cons_of_mem _ e)
  ·show c<=r.foldl max (max a b)
   have q:=h2 (max a b) List.mem_cons_self
   rcases List.mem_cons.mp hc with e | e
   ·rw[e];have:=Int.le_max_left a b;lia
   ·rcases List.mem_cons.mp e with e | e
    ·rw[e];have:=Int.le_max_right a b;lia
    ·exact h2 c (List.mem_cons_of_mem _ e)
theorem K0 {l:List Int} (h:l≠[]):DG l (FX l):= by
 cases l with
 | nil=>exact absurd rfl h
 | cons a r=>exact GN r a
theorem DG.eq {l:List Int} {m:Int} (h:DG l m):m=FX l:=h.uniq (K0 (by rintro rfl;exact absurd h.1 (by simp)))
noncomputable def fresh (f:Int) (xs:List Int):Int:=xs.foldl (fun f w=>if w=f then f+1 else f) f
theorem BG (f:Int) (xs:List Int) (z:Int):fresh f (xs++[z])=if z=fresh f xs then fresh f xs+1 else fresh f xs:= by
 unfold fresh;rw[List.foldl_append];rfl
theorem AX : ∀ (xs:List Int) (f z:Int),AF f (xs++[z])=(AF f xs&&(decide (0<=z)&&decide (z<=fresh f xs)))
 | [],f,z=>by
  show (decide (0<=z)&&decide (z<=f)&&true)=(true&&_)
  rw[Bool.and_true,Bool.true_and];rfl
 | w::r,f,z=>by
  show (decide (0<=w)&&decide (w<=f)&&AF (if w=f then f+1 else f) (r++[z]))=((decide (0<=w)&&decide (w<=f)&&AF (if w=f then f+1 else f) r)&&_)
  rw[AX r,Bool.and_assoc,Bool.and_assoc,Bool.and_assoc];rfl
theorem AD {α:Type} {P:List α->Prop} (h0:P []) (h1 : ∀ xs z,P xs->P (xs++[z])) (l:List α):P l:= by
 have : ∀ n (l:List α),l.length=n->P l:= by
  intro n
  induction n with
  | zero=>intro l e;rw[List.length_eq_zero_iff.mp e];exact h0
  | succ n ih=>
   intro l e
   have hl:l≠[]:=by rintro rfl;simp at e
   rw[<- List.dropLast_concat_getLast hl]
   exact h1 _ _ (ih _ (by rw[List.length_dropLast,e];rfl))
 exact this _ l rfl
theorem C0 (xs:List Int):AF 0 xs=true->DG (-1::xs) (fresh 0 xs-1):= by
 refine AD (P:=fun xs=>AF 0 xs=true->DG (-1::xs) (fresh 0 xs-1)) ?_ ?_ xs
 ·intro _
  exact ⟨by simp [fresh],fun a ha=>by simp at ha;simp [fresh,ha]⟩
 ·intro xs z ih h
  rw[AX,Bool.and_eq_true,Bool.and_eq_true] at h
  obtain ⟨h1,h2,h3⟩:=h
  have h2:=of_decide_eq_true h2
  have h3:=of_decide_eq_true h3
  obtain ⟨i1,i2⟩:=ih h1
  rw[BG]
  by_cases e:z=fresh 0 xs
  ·rw[if_pos e]
   refine ⟨by rw[e];simp,fun a ha=>?_⟩
   rcases List.mem_cons.mp ha with q | q
   ·lia
   ·rcases List.mem_append.mp q with q | q
    ·have:=i2 a (List.mem_cons_of_mem _ q);lia
    ·rw[List.mem_singleton.mp q];lia
  ·rw[if_neg e]
   refine ⟨?_,fun a ha=>?_⟩
   ·rcases List.mem_cons.mp i1 with q | q
    ·rw[q];exact List.mem_cons_self
    ·exact List.mem_cons_of_mem _ (List.mem_append_left _ q)
   ·rcases List.mem_cons.mp ha with q | q
    ·rw[q];exact i2 _ List.mem_cons_self
    ·rcases List.mem_append.mp q with q | q
     ·exact i2 a (List.mem_cons_of_mem _ q)
     ·rw[List.mem_singleton.mp q];lia
theorem AL {xs:List Int} (h:AF 0 xs=true) (hne:xs≠[]):1<=fresh 0 xs/\DG xs (fresh 0 xs-1):= by
 obtain ⟨i1,i2⟩:=C0 xs h
 cases xs with
 | nil=>exact absurd rfl hne
 | cons w r=>
  have hw:0<=w:= by
   have h':(decide (0<=w)&&decide (w<=0)&&AF (if w=0 then 0+1 else 0) r)=true:=h
   rw[Bool.and_eq_true,Bool.and_eq_true] at h'
   exact of_decide_eq_true h'.1.1
  have:=i2 w (by simp)
  refine ⟨by omega,?_,fun a ha=>i2 a (List.mem_cons_of_mem _ ha)⟩
  rcases List.mem_cons.mp i1 with q | q
  ·omega
  ·exact q
noncomputable def CV (ns:List Int):Bool:=(List.range (ns.length-1)).all fun i=>decide (0<=ns.getD (i+1) 0)&&decide (ns.getD (i+1) 0<=FX (ns.take (i+1))+1)
noncomputable def Gp (ns:List Int):Bool:=decide (1<=ns.length)&&decide (ns.length<=9)&&decide (ns.getD 0 1=0)&&CV ns
theorem Hb {xs:List Int} (h:xs≠[]) (z:Int):CV (xs++[z])=(CV xs&&(decide (0<=z)&&decide (z<=FX xs+1))):= by
 unfold CV
 have hp:0<xs.length:=List.length_pos_iff.mpr h
 have e1:(xs++[z]).length-1=(xs.length-1)+1:=by rw[List.length_append];simp;omega
 rw[e1,List.range_succ,List.all_append]
 congr 1
 ·rw[Bool.eq_iff_iff,List.all_eq_true,List.all_eq_true]
  constructor
  ·intro q i hi
   have q:=q i hi
   have hi:=List.mem_range.mp hi
   rw[List.getD_eq_getElem?_getD,List.getElem?_append_left (by omega),<- List.getD_eq_getElem?_getD,List.take_append_of_le_length (by omega)] at q
   exact q
  ·intro q i hi
   have q:=q i hi
   have hi:=List.mem_range.mp hi
   rw[List.getD_eq_getElem?_getD,List.getElem?_append_left (by omega),<- List.getD_eq_getElem?_getD,List.take_append_of_le_length (by omega)]
   exact q
 ·have e2:xs.length-1+1=xs.length:=by omega
  simp only [List.all_cons,List.all_nil,Bool.and_true]
  rw[e2,List.getD_eq_getElem?_getD,List.getElem?_append_right (Nat.le_refl _),Nat.sub_self,List.take_append_of_le_length (Nat.le_refl _),List.take_length]
  rfl
theorem M6 (xs:List Int):xs≠[]->AF 0 xs=(decide (xs.getD 0 1=0)&&CV xs):= by
 refine AD (P:=fun xs=>xs≠[]->AF 0 xs=(decide (xs.getD 0 1=0)&&CV xs)) (fun h=>absurd rfl h) ?_ xs
 intro xs z ih _
 by_cases hx:xs=[]
 ·subst hx
  show (decide (0<=z)&&decide (z<=0)&&true)=(decide (z=0)&&true)
  rw[Bool.and_true,Bool.and_true,Bool.eq_iff_iff,Bool.and_eq_true,decide_eq_true_iff,decide_eq_true_iff,decide_eq_true_iff]
  lia
 ·have e0:(xs++[z]).getD 0 1=xs.getD 0 1:= by
   rw[List.getD_eq_getElem?_getD,List.getElem?_append_left (List.length_pos_iff.mpr hx),<- List.getD_eq_getElem?_getD]
  rw[AX,Hb hx,e0,ih hx,<- Bool.and_assoc (decide (xs.getD 0 1=0))]
  cases e:(decide (xs.getD 0 1=0)&&CV xs) with
  | false=>simp
  | true=>
   rw[Bool.true_and,Bool.true_and]
   have q:=(AL (by rw[ih hx];exact e) hx).2.eq
   rw[show fresh 0 xs=FX xs+1 by lia]
theorem Jx (ns:List Int):As ns=Gp ns:= by
 unfold As Gp
 by_cases h:ns=[]
 ·subst h;rfl
 ·rw[M6 ns h,<- Bool.and_assoc]
end L2
namespace L2
open PySem
theorem Ij (xs:List V) (k:Nat):DE xs none (some (k:Int))=xs.take k:= by
 unfold DE
 rw[HT.sIx_none,HT.sIx_nat,List.drop_zero,Nat.sub_zero]
 by_cases h:k<=xs.length
 ·rw[Nat.min_eq_left h]
 ·rw[Nat.min_eq_right (by lia),List.take_of_length_le (Nat.le_refl _),List.take_of_length_le (by lia)]
theorem Li (xs:List V) (k:Nat):DE xs (some (k:Int)) none=xs.drop k:= by
 unfold DE
 rw[HT.sIx_none,HT.sIx_nat]
 by_cases h:k<=xs.length
 ·rw[Nat.min_eq_left h,List.take_of_length_le (by rw[List.length_drop];exact Nat.le_refl _)]
 ·rw[Nat.min_eq_right (by lia),List.drop_of_length_le (Nat.le_refl _),List.drop_of_length_le (by lia)]
  simp
theorem Gz (ns:List Int) (k:Nat):DE (ns.map V.int) none (some (k:Int))=(ns.take k).map V.int:=by rw[Ij,List.map_take]
theorem Dv (ns:List Int) (k:Nat):DE (ns.map V.int) (some (k:Int)) none=(ns.drop k).map V.int:=by rw[Li,List.map_drop]
theorem KQ {ns:List Int} {i:Int} {z:Int} (h0:0<=i) (h:ns[i.toNat]?=some z):atI (ns.map V.int) i=some (V.int z):= by
 have:=FG (xs:=ns.map V.int) (j:=i.toNat) (v:=V.int z) (by rw[List.getElem?_map,h];rfl)
 rw[Int.toNat_of_nonneg h0] at this
 exact this
theorem D8 {ns:List Int} {i:Int} (h0:0<=i) (h1:i<ns.length):atI (ns.map V.int) i=some (V.int (ns.getD i.toNat 0)):= by
 refine KQ h0 ?_
 have:i.toNat<ns.length:=by lia
 rw[List.getElem?_eq_getElem this,List.getD_eq_getElem?_getD,List.getElem?_eq_getElem this];rfl
theorem Pk (f:Nat->Int) (n:Nat):((List.range n).map fun j=>V.int (f j))=((List.range n).map f).map V.int:=by rw[List.map_map];rfl
theorem Pw (f:Nat->Bool) (n:Nat):((List.range n).map fun j=>V.bl (f j))=((List.range n).map f).map V.bl:=by rw[List.map_map];rfl
theorem DY.uncons {l:Int} {ls rs:List Int} (h:DY (l::ls) rs) : ∃ r rs',rs=r::rs'/\0<=r/\r<l/\DY ls rs':= by
 cases h with
 | cons h t=>exact ⟨_,_,rfl,h.1,h.2,t⟩
theorem El {l:Int} (h0:0<l) (h1:l<1000000):L6 l:= by
 refine ⟨h0,?_⟩
 by_cases h:l.natAbs=0
 ·omega
 ·exact Nat.lt_of_lt_of_le (Nat.log2_lt h |>.mpr (show l.natAbs<2 ^ 20 by omega)) (by decide)
end L2
namespace L2
open PySem PySem.Spec PyProof.Rows
inductive P1 (K:PySem.W.Frag) (xs:List V) (H:Hp) (Q:VK):Prop
 | mk (p:Addr) (ys:List V) (h1:xs=[.ref p]) (h2:(SqL K H p ys\/SqT K H p ys)) (h3:Q (.int ys.length) H):P1 K xs H Q
inductive PJ (K:PySem.W.Frag) (xs:List V) (H:Hp) (Q:VK):Prop
 | mk (a:Addr) (ns:List Int) (h1:xs=[.ref a]) (h2:(SqL K H a (ns.map V.int)\/SqT K H a (ns.map V.int))) (h3:ns≠[]) (h4 : ∀ m,DG ns m->Q (.int m) H):PJ K xs H Q
inductive P6 (K:PySem.W.Frag) (xs:List V) (H:Hp) (Q:VK):Prop
 | mk (a:Addr) (ns:List Int) (h1:xs=[.ref a]) (h2:(SqL K H a (ns.map V.int)\/SqT K H a (ns.map V.int))) (h3:Q (.int ns.sum) H):P6 K xs H Q
inductive P0 (K:PySem.W.Frag) (xs:List V) (H:Hp) (Q:VK):Prop
 | mk (a:Addr) (bs:List Bool) (h1:xs=[.ref a]) (h2:(SqL K H a (bs.map V.bl)\/SqT K H a (bs.map V.bl))) (h3:Q (.bl (bs.all id)) H):P0 K xs H Q
inductive PR (K:PySem.W.Frag) (xs:List V) (H:Hp) (Q:VK):Prop
 | mk (x:V) (n:String) (t:Value) (b:Bool) (h1:xs=[x,.ty n]) (h2:FV K H x t) (h3:PySem.W.kitOne K t (.type n)=some b) (h4:Q (.bl b) H):PR K xs H Q
inductive PL (K:PySem.W.Frag) (xs:List V) (H:Hp) (Q:VK):Prop
 | mk (p:Addr) (ys:List V) (h1:xs=[.ref p]) (h2:(SqL K H p ys\/SqT K H p ys)) (h3 : ∀ l,H l=none->Q (.ref l) (upd H l (.lst ys))):PL K xs H Q
inductive Qe (xs:List V) (H:Hp) (Q:VK):Prop
 | mk (i j:Int) (h1:xs=[.int i,.int j]) (h2:Q (.int (if j > i then j else i)) H):Qe xs H Q
inductive PU (xs:List V) (H:Hp) (Q:VK):Prop
 | mk (i j:Int) (h1:xs=[.int i,.int j]) (h2:Q (.int (if j<i then j else i)) H):PU xs H Q
theorem AO.imp {X:Cx} {f:Value} {r r':List V->Hp->VK->Prop} (h : ∀ xs H Q,r' xs H Q->r xs H Q) (c:AO X f r):AO X f r':=fun pins s σ H xs us Q I v q=>c pins s σ H xs us Q I v (h _ _ _ q)
section
variable {X:Cx} {K:PySem.W.Frag}
theorem A7 (h:X.K=K:=by rfl):IxR X (Qb K):=by subst h;exact Ng
theorem Ck (h:X.K=K:=by rfl):IxR X (Qd K):=by subst h;exact NY
theorem DN (h:X.K=K:=by rfl):SlR X (P5 K):=by subst h;exact M1
theorem Nk (h:X.K=K:=by rfl):SlR X (fun x lo hi H Q=>∃ a xs,x = .ref a/\SqT K H a xs /\ ∀ p H',An H H'->SqT K H' p (DE xs lo hi)->Q (.ref p) H'):=by subst h;exact M9
theorem MO (h:X.K=K:=by rfl):OpR X (binaryOp .Add) (fun x y H Q=>∃ a b xs ys,x = .ref a/\y = .ref b/\SqT K H a xs/\SqT K H b ys/\xs.length+ys.length<=sizeLine /\ ∀ p H',An H H'->SqT K H' p (xs++ys)->Q (.ref p) H'):=by subst h;exact MP
theorem NU (h:X.K=K:=by rfl):OpR X (compareOp .In) (rIn K false):=by subst h;exact KI
theorem Bb (h : X.K = K:=by rfl) : AO X (.builtin "len") (P1 K):=by subst h; exact AO.imp (fun _ _ _ h=>by obtain ⟨p,ys,h1,h2,h3⟩:=h; exact ⟨p,ys,h1,h2,h3⟩) (Gd)
theorem D9 (hc : X.calm = true:=by rfl) (h : X.K = K:=by rfl) : AO X (.builtin "max") (PJ K):=by subst h; exact AO.imp (fun _ _ _ h=>by obtain ⟨a,ns,h1,h2,h3,h4⟩:=h; exact ⟨a,ns,h1,h2,h3,h4⟩) (K3 hc)
theorem NV (hc : X.calm = true:=by rfl) (h : X.K = K:=by rfl) : AO X (.builtin "sum") (P6 K):=by subst h; exact AO.imp (fun _ _ _ h=>by obtain ⟨a,ns,h1,h2,h3⟩:=h; exact ⟨a,ns,h1,h2,h3⟩) (JV hc)
theorem Es (hc : X.calm = true:=by rfl) (h : X.K = K:=by rfl) : AO X (.builtin "all") (P0 K):=by subst h; exact AO.imp (fun _ _ _ h=>by obtain ⟨a,bs,h1,h2,h3⟩:=h; exact ⟨a,bs,h1,h2,h3⟩) (JX hc)
theorem HX (h : X.K = K:=by rfl) : AO X (.builtin "isinstance") (PR K):=by subst h; exact AO.imp (fun _ _ _ h=>by obtain ⟨x,n,t,b,h1,h2,h3,h4⟩:=h; exact ⟨x,n,t,b,h1,h2,h3,h4⟩) (LQ)
theorem HY (h : X.K = K:=by rfl) : AO X (.type "tuple") (fun xs H Q=>∃ p ys,xs = [.ref p] /\ ((SqL K H p ys /\ ∀ l,H l = none -> Q (.ref l) (upd H l (.tup ys))) \/ (SqT K H p ys /\ Q (.ref p) H))):=by subst h; exact FH
theorem MA (h : X.K = K:=by rfl) : AO X (.type "list") (PL K):=by subst h; exact AO.imp (fun _ _ _ h=>by obtain ⟨p,ys,h1,h2,h3⟩:=h; exact ⟨p,ys,h1,h2,h3⟩) (GB)
theorem MS (hc : X.calm = true:=by rfl) : AO X (.builtin "max") (Qe):=AO.imp (fun _ _ _ h=>by obtain ⟨i,j,h1,h2⟩:=h; exact ⟨i,j,h1,h2⟩) (KS hc)
theorem HK (hc : X.calm = true:=by rfl) : AO X (.builtin "min") (PU):=AO.imp (fun _ _ _ h=>by obtain ⟨i,j,h1,h2⟩:=h; exact ⟨i,j,h1,h2⟩) (JN hc)
theorem AA {tg l:Expr} {tl:TE} (hl:PE X l tl) (h:X.K=K:=by rfl):PI X tg l (NB K tl):=by subst h;exact M7 hl
theorem Hs {tg l:Expr} {tl:TE} (hl:PE X l tl) (h:X.K=K:=by rfl):PI X tg l (P2 K tl):=by subst h;exact Oo hl
end
theorem DH {a b:Int} (h:(decide (Builtin.Int.intBits a<=2 ^ 20)&&decide (Builtin.Int.intBits b<=2 ^ 20))=true):IntMulOk a b:= by
 rw[Bool.and_eq_true] at h
 exact IntMulOk.of_bits (of_decide_eq_true h.1) (of_decide_eq_true h.2)
theorem lcN {i:Nat} {x:V} {te:TE} {σ:St} {H:Hp} {N:V->Hp->Prop} {N':Hp->Prop} (h:te (σ.set i (some x)) H N):Fe i x σ H fun σ2 H2=>NO σ2 H2 fun b H3=>if b=true then te σ2 H3 N else N' H3:= by
 show if true=true then te (σ.set i (some x)) H N else N' H
 rw[if_pos rfl];exact h
end L2
namespace PySem
open Sem (wp)
namespace Heap
end Heap
end PySem
namespace L2
open PySem PySem.Spec PyProof.Rows
end L2
namespace L2
open PySem PySem.Spec PyProof.Rows
theorem AV.get {P:Program} {w:World} {H:Hp} {h:Heap} {a:Addr} {o:HO} (x:AV P w H h a o) : ∃ ob,h.get? a=some ob:= by
 cases o with
 | lst xs=>refine xA x fun _ m91=>Ct m91 fun _ _ _ e=>?_;exact ⟨_,e⟩
 | tup xs=>refine xA x fun _ m92=>xEA m92 fun _ _ m93=>xEA m93 fun ob e _=>?_;exact ⟨ob,e⟩
 | dK kvs=>refine xA2 x fun _ _ m94=>xEA m94 fun _ _ m95=>FW m95 fun ob _ _ e _=>?_;exact ⟨ob,e⟩
 | dT kvs=>refine xA2 x fun _ _ m96=>xEA m96 fun _ _ m97=>FW m97 fun ob _ _ e _=>?_;exact ⟨ob,e⟩
 | set S n=>refine OY x fun ob _ _ _ e _=>?_;exact ⟨ob,e⟩
 | ins C dx fs=>refine xA4 x fun _ _ _ e _=>?_;exact ⟨_,e⟩
 | own y=>exact x
 | xd fs=>refine xEA x fun _ n90 _=>FW n90 fun ob _ _ e _=>?_;exact ⟨ob,e⟩
 | rng lo hi=>refine xE3 x fun _ _ _ e=>?_;exact ⟨_,e⟩
 | frz ob u=>refine xA x fun e _=>?_;exact ⟨_,e⟩
 | tbl ps=>exact ⟨_,x⟩
 | met f y=>exact ⟨_,x⟩
 | ext φ=>refine xA2 x fun _ e _=>?_;exact e
end L2
namespace L2
open PySem PySem.Spec PyProof.Rows
section
variable {κ:Type} [DecidableEq κ]
noncomputable def GX (kvs:List (κ × V)) (k:κ):Option V:=(kvs.find? fun kv=>decide (kv.1=k)).map (·.2)
noncomputable def IP (kvs:List (κ × V)) (k:κ) (v:V):List (κ × V):=
 if (kvs.any fun kv=>decide (kv.1=k))=true then kvs.map (fun kv=>if kv.1=k then (kv.1,v) else kv) else kvs++[(k,v)]
theorem Ln {k:κ}:GX ([]:List (κ × V)) k=none:=rfl
theorem DO {p:κ × V} {r:List (κ × V)} {k:κ} (e:p.1=k):GX (p::r) k=some p.2:=by simp [GX,List.find?_cons,e]
theorem DJ {p:κ × V} {r:List (κ × V)} {k:κ} (e : ¬ p.1=k):GX (p::r) k=GX r k:=by simp [GX,List.find?_cons,e]
theorem Fl (k:κ) : ∀ kvs:List (κ × V),(kvs.any fun kv=>decide (kv.1=k))=(GX kvs k).isSome
 | []=>rfl
 | p::r=>by
  rw[List.any_cons]
  by_cases e:p.1=k
  ·simp only [DO e,decide_eq_true e,Bool.true_or,Option.isSome_some]
  ·rw[DJ e,decide_eq_false e,Bool.false_or];exact Fl k r
theorem EA (kvs:List (κ × V)) (k:κ) (v:V):(IP kvs k v).length<=kvs.length+1:= by
 unfold IP
 split
 ·rw[List.length_map];lia
 ·rw[List.length_append,List.length_cons,List.length_nil];lia
theorem LY {kvs:List (κ × V)} {k:κ} (v:V) (h:GX kvs k=none):IP kvs k v=kvs++[(k,v)]:= by
 unfold IP
 rw[Fl,h]
 exact if_neg (by decide)
theorem Kz.isSome_eq {o:Option V} {u:Option Value} (r:Kz o u):o.isSome=u.isSome:= by
 cases o with
 | none=>cases u with
  | none=>rfl
  | some _=>exact (show False from r).elim
 | some _=>cases u with
  | none=>exact (show False from r).elim
  | some _=>rfl
theorem KV.val {kvs:List (κ × V)} {vs:List (κ × Value)} (r:KV kvs vs) (k:κ):Kz (GX kvs k) (valueAt vs k):= by
 unfold KV at r
 induction r with
 | nil=>exact True.intro
 | @cons p q ps qs h t ih=>
  obtain ⟨h1,h2⟩:=h
  by_cases e:p.1=k
  ·have e':q.1=k:=h1.symm.trans e
   have b:valueAt (q::qs) k=some q.2:=by simp [valueAt,List.find?_cons,e']
   rw[DO e,b];exact h2
  ·have e' : ¬ q.1=k:=fun z=>e (h1.trans z)
   have b:valueAt (q::qs) k=valueAt qs k:=by simp [valueAt,List.find?_cons,e']
   rw[DJ e,b];exact ih
theorem KV.any {kvs:List (κ × V)} {vs:List (κ × Value)} (r:KV kvs vs) (k:κ):(kvs.any fun kv=>decide (kv.1=k))=vs.any fun kv=>decide (kv.1=k):= by
 unfold KV at r
 induction r with
 | nil=>rfl
 | cons h t ih=>rw[List.any_cons,List.any_cons,ih,h.1]
theorem KV.repl {kvs:List (κ × V)} {vs:List (κ × Value)} (r:KV kvs vs) (k:κ) {y:V} {u:Value} (ry:AR y u) :
  KV (kvs.map fun kv=>if kv.1=k then (kv.1,y) else kv) (vs.map fun kv=>if kv.1=k then (kv.1,u) else kv):= by
 unfold KV at r ⊢
 induction r with
 | nil=>exact .nil
 | @cons p q ps qs h t ih=>
  rw[List.map_cons,List.map_cons]
  refine .cons ?_ ih
  obtain ⟨h1,h2⟩:=h
  by_cases e:p.1=k
  ·rw[if_pos e,if_pos (h1.symm.trans e)];exact ⟨h1,ry⟩
  ·rw[if_neg e,if_neg (fun z=>e (h1.trans z))];exact ⟨h1,h2⟩
theorem KV.put {kvs:List (κ × V)} {vs:List (κ × Value)} (r:KV kvs vs) (k:κ) {y:V} {u:Value} (ry:AR y u):KV (IP kvs k y) (stored vs k u):= by
 unfold IP stored
 rw[r.any k]
 by_cases e:(vs.any fun kv=>decide (kv.1=k))=true
 ·rw[if_pos e,if_pos e];exact r.repl k ry
 ·rw[if_neg e,if_neg e];exact Paired.snoc r ⟨rfl,ry⟩
theorem KV.length {kvs:List (κ × V)} {vs:List (κ × Value)} (r:KV kvs vs):kvs.length=vs.length:=Paired.length r
end
theorem LC {P:Program} {w:World} {k:Key} {u:Value} (r:AR (kV k) u):(A0 P w).is k u=true:= by
 cases k with
 | inl i=>obtain ⟨t,e⟩:=(show ∃ t,u=Value.int i t from r);subst e;exact G3 P w i t
 | inr x=>obtain ⟨t,e⟩:=(show ∃ t,u=Value.str x t from r);subst e;exact HF P w x t
theorem GF {P:Program} {w:World} : ∀ {ks:List Key} {us:List Value},AH (ks.map kV) us->ItemsAre (A0 P w) ks us
 | [],_,r=>by rw[List.map_nil] at r;cases r;exact .nil
 | k::ks,_,r=>by
  rw[List.map_cons] at r
  cases r with
  | cons h t=>exact .cons (LC h) (GF t)
abbrev KT (H:Hp):List (List Key × V)->List (List Key × Addr × Value)->Prop:=Paired fun p q=>p.1=q.1/\H q.2.1=some (.tup (p.1.map kV))/\AR p.2 q.2.2
theorem KT.val {H:Hp} {kvs:List (List Key × V)} {xs:List (List Key × Addr × Value)} (r:KT H kvs xs) (k:List Key):Kz (GX kvs k) ((atKey xs k).map (·.2)):= by
 induction r with
 | nil=>exact True.intro
 | @cons p q ps qs h t ih=>
  refine xA2 h fun h1 _ h2=>?_
  by_cases e:p.1=k
  ·have e':q.1=k:=h1.symm.trans e
   have b:atKey (q::qs) k=some q.2:=by simp [atKey,List.find?_cons,e']
   rw[DO e,b];exact h2
  ·have e' : ¬ q.1=k:=fun z=>e (h1.trans z)
   have b:atKey (q::qs) k=atKey qs k:=by simp [atKey,List.find?_cons,e']
   rw[DJ e,b];exact ih
theorem KT.repl {H:Hp} {kvs:List (List Key × V)} {xs:List (List Key × Addr × Value)} (r:KT H kvs xs) (k:List Key) {y:V} {u:Value} (ry:AR y u) :
  KT H (kvs.map fun kv=>if kv.1=k then (kv.1,y) else kv) (xs.map (putAt k u)):= by
 induction r with
 | nil=>exact .nil
 | @cons p q ps qs h t ih=>
  rw[List.map_cons,List.map_cons]
  refine .cons ?_ ih
  refine xA2 h fun h1 h2 h3=>?_
  unfold putAt
  by_cases e:p.1=k
  ·rw[if_pos e,if_pos (h1.symm.trans e)];exact ⟨h1,h2,ry⟩
  ·rw[if_neg e,if_neg (fun z=>e (h1.trans z))];exact ⟨h1,h2,h3⟩
theorem KT.put {H:Hp} {kvs:List (List Key × V)} {xs:List (List Key × Addr × Value)} (r:KT H kvs xs) (k:List Key) {b:Addr} {y:V} {u:Value} (hb:H b=some (.tup (k.map kV))) (ry:AR y u) :
  KT H (IP kvs k y) (storedH xs k b u):= by
 have e:(kvs.any fun kv=>decide (kv.1=k))=(atKey xs k).isSome:= by
  rw[Fl,(r.val k).isSome_eq,Option.isSome_map]
 unfold IP storedH
 rw[e]
 by_cases q:(atKey xs k).isSome=true
 ·rw[if_pos q,if_pos q];exact r.repl k ry
 ·rw[if_neg q,if_neg q];exact Paired.snoc r ⟨rfl,hb,ry⟩
theorem KT.keeps {H H':Hp} {kvs:List (List Key × V)} {xs:List (List Key × Addr × Value)} (r:KT H kvs xs) (ht : ∀ b ys,H b=some (.tup ys)->H' b=some (.tup ys)):KT H' kvs xs:=
 Paired.mapP r fun _ _ z=>⟨z.1,ht _ _ z.2.1,z.2.2⟩
section
variable {P:Program} {w:World} {H:Hp} {h:Heap} {a:Addr}
theorem N3 {u:HO} (ok:HOk P w H h) (e:Rd H a u):AV P w H h a u:=e.ok ok
theorem Jn {kvs:List (Key × V)} (ok:HOk P w H h) (e:Rd H a (.dK kvs)):kvs.length<=sizeLine/\(a==sysModules)=false /\ ∃ vs,KV kvs vs/\h.DictOf (A0 P w) a vs:=
 show AV P w H h a (.dK kvs) from N3 ok e
theorem Pz {kvs:List (Key × V)} (ok:HOk P w H h) (e:H a=some (.dK kvs)):kvs.length<=sizeLine/\(a==sysModules)=false /\ ∃ vs,KV kvs vs/\h.DictOf (A0 P w) a vs:=Jn ok (.inl e)
theorem Ih {ks:List Key} (ok:HOk P w H h) (e:H a=some (.tup (ks.map kV))):(tupleKind (A0 P w)).is h ks a:= by
 refine xA ((show AV P w H h a (.tup (ks.map kV)) from ok a _ e)) fun _ m91=>xEA m91 fun its r m92=>AM m92 fun o h1 h2 m93=>xE m93 fun n h3=>?_
 exact ⟨o,its.toArray,n,h1,h2,h3,by simpa using GF r⟩
theorem Lz {kvs:List (List Key × V)} (ok:HOk P w H h) (e:Rd H a (.dT kvs)):kvs.length<=sizeLine/\(a==sysModules)=false /\
  ∃ xs,KT H kvs xs/\h.DictOfH (tupleKind (A0 P w)) a xs:= by
 refine xA2 ((show AV P w H h a (.dT kvs) from N3 ok e)) fun z y m94=>xEA m94 fun xs r m95=>Ks m95 fun o es ep h1 h2 h3 h4 h5=>?_
 refine ⟨z,y,xs,r,o,es,ep,h1,h2,h3,h4,fun x hx=>?_,h5⟩
 have all : ∀ {l:List (List Key × V)} {m:List (List Key × Addr × Value)},KT H l m -> ∀ x ∈ m,(tupleKind (A0 P w)).is h x.1 x.2.1:= by
  intro l m q
  induction q with
  | nil=>intro x hx;exact nomatch hx
  | @cons p q ps qs hq t ih=>
   intro x hx
   refine Or.elim (List.mem_cons.mp hx) (fun e=>?_) fun hx=>?_
   ·subst e
    exact Ih ok (by rw[<- hq.1];exact hq.2.1)
   ·exact ih x hx
 exact all r x hx
theorem Ph {kvs:List (List Key × V)} (ok:HOk P w H h) (e:H a=some (.dT kvs)):kvs.length<=sizeLine/\(a==sysModules)=false /\
  ∃ xs,KT H kvs xs/\h.DictOfH (tupleKind (A0 P w)) a xs:=Lz ok (.inl e)
end
def Lk (H:Hp) (a:Addr) (y:V) (r:Option V):Prop:=
 (∃ kvs k,Rd H a (.dK kvs)/\y=kV k/\r=GX kvs k) \/ ∃ kvs k b,Rd H a (.dT kvs)/\y = .ref b/\H b=some (.tup (k.map kV))/\r=GX kvs k
def N8 (H:Hp) (a:Addr) (y v:V) (H':Hp):Prop:=
 (∃ kvs k,H a=some (.dK kvs)/\y=kV k/\kvs.length<sizeLine/\H'=upd H a (.dK (IP kvs k v))) \/
 ∃ kvs k b,H a=some (.dT kvs)/\y = .ref b/\H b=some (.tup (k.map kV))/\kvs.length<sizeLine/\H'=upd H a (.dT (IP kvs k v))
theorem Lk.k {H:Hp} {a:Addr} {kvs:List (Key × V)} {k:Key} (e:H a=some (.dK kvs)):Lk H a (kV k) (GX kvs k):=.inl ⟨kvs,k,.inl e,rfl,rfl⟩
theorem N8.k {H:Hp} {a:Addr} {kvs:List (Key × V)} {k:Key} {v:V} (e:H a=some (.dK kvs)) (hl:kvs.length<sizeLine):N8 H a (kV k) v (upd H a (.dK (IP kvs k v))):=.inl ⟨kvs,k,e,rfl,hl,rfl⟩
section
variable {X:Cx} {pins:List (Addr × Obj)} {σ:St} {H:Hp} {s:Shared} {a:Addr} {y v:V} {u r:Value} {o:Option V} {A:Around} {E:Value->Shared->Prop}
theorem Inv.big (I:Inv X pins σ H s):sysModules<s.heap.objs.size:= by
 have h:mainGlobals<s.heap.objs.size:=(I.mod.glob.keeps I.bk).lt
 exact Nat.lt_trans (by decide) h
theorem Ky {Q:Value->Shared->Prop} (hu:A.units+1<cLine) (I:Inv X pins σ H s) (g:Lk H a y (some v)) (ry:AR y u) (h : ∀ w' s',Inv X pins σ H s'->AR v w'->Q w' s') :
  wpAny (model X.prog X.w) A (getItem (.ref a) u) Q E s:= by
 refine Or.elim g (fun n90=>Ar n90 fun kvs k e ey l=>?_) fun n91=>Hv n91 fun kvs k b e ey eb l=>?_
 ·subst ey
  refine xA2 (Jn I.hok e) fun z hd m96=>xEA m96 fun vs rel dd=>?_
  refine xEA (Kz.some_of (v:=v) (o:=valueAt vs k) (by rw[l];exact rel.val k)) fun w' hw rw'=>?_
  exact wpAny_getItem_of (LC ry) dd.mapOf hw (h w' _ (I.tok _) rw')
 ·subst ey
  cases (show u=Value.ref b from ry)
  refine xA2 (Lz I.hok e) fun z hd m97=>xEA m97 fun xs rel dd=>?_
  refine xEA (Kz.some_of (v:=v) (o:=(atKey xs k).map (·.2)) (by rw[l];exact rel.val k)) fun w' hw rw'=>?_
  refine xEA (Option.map_eq_some_iff.mp hw) fun p hp hp2=>?_
  refine wpAny_getItem_heap (tupleKind_room_in1 hu) (Ih I.hok eb) dd hp ?_
  rw[hp2]
  exact h w' _ (I.tok _) rw'
theorem No {Q:Value->Shared->Prop} (hu:A.units+1<cLine) (I:Inv X pins σ H s) (g:Lk H a y o) (ry:AR y u) (h : ∀ s',Inv X pins σ H s'->Q (.bool (!o.isSome)) s') :
  wpAny (model X.prog X.w) A (compareOp .NotIn u (.ref a)) Q E s:= by
 refine Or.elim g (fun n90=>Ar n90 fun kvs k e ey l=>?_) fun n91=>Hv n91 fun kvs k b e ey eb l=>?_
 ·subst ey
  refine xA2 (Jn I.hok e) fun z hd m910=>xEA m910 fun vs rel dd=>?_
  refine wpAny_notIn_of (LC ry) hd dd.mapOf ?_
  rw[<- (rel.val k).isSome_eq,<- l]
  exact h _ (I.tok _)
 ·subst ey
  cases (show u=Value.ref b from ry)
  refine xA2 (Lz I.hok e) fun z hd m911=>xEA m911 fun xs rel dd=>?_
  refine wpAny_notIn_heap (tupleKind_room_in1 hu) (Ih I.hok eb) hd dd ?_
  have q:=(rel.val k).isSome_eq
  rw[Option.isSome_map] at q
  rw[<- q,<- l]
  exact h _ (I.tok _)
theorem JI {h':Heap} {t':Nat} {ob:HO} (I:Inv X pins σ H s) (mu:Mut (H a)) (hs:Heap.SameBut a s.heap h') (he : ∃ q,h'.get? a=some q) (new:AV X.prog X.w (upd H a ob) h' a ob) :
  Inv X pins σ (upd H a ob) { s with heap:=h',toks:=t' }:=
 I.write (x:=a) (e:=a) mu (.inl rfl) (fun b q hb z=>(hs.2 b hb).trans z) he new
theorem Nt {P:Program} {w:World} {H':Hp} {h':Heap} {kvs:List (Key × V)} {vs:List (Key × Value)} (z:kvs.length<=sizeLine) (hd:(a==sysModules)=false) (rel:KV kvs vs) (dd:h'.DictOf (A0 P w) a vs) :
  AV P w H' h' a (.dK kvs):=⟨z,hd,vs,rel,dd⟩
theorem Ku {H':Hp} {Q:Unit->Shared->Prop} (hu:A.units+1<cLine) (I:Inv X pins σ H s) (g:N8 H a y v H') (ry:AR y u) (rv:AR v r) (h : ∀ s',Inv X pins σ H' s'->Q () s') :
  wpAny (model X.prog X.w) A (setItem (.ref a) u r) Q E s:= by
 refine Or.elim g (fun n90=>CI n90 fun kvs k e ey l eH=>?_) fun n91=>Ks n91 fun kvs k b e ey eb l eH=>?_
 ·subst ey eH
  refine xA2 (Pz I.hok e) fun z hd m912=>xEA m912 fun vs rel dd=>?_
  have hz:vs.length<=sizeLine:=by rw[<- rel.length];exact z
  have hl:(IP kvs k v).length<=sizeLine:=by have:=EA kvs k v;lia
  refine wpAny_setItem_pairs (hsz:=hz) (LC ry) dd fun h' dd' hs=>h _ ?_
  have he : ∃ q,h'.get? a=some q:=let ⟨q,_,_,hq,_⟩:=dd';⟨q,hq⟩
  exact JI I (by rw[e];exact True.intro) hs he (Nt hl hd (rel.put k rv) dd')
 ·subst ey eH
  cases (show u=Value.ref b from ry)
  refine xA2 (Ph I.hok e) fun z hd m913=>xEA m913 fun xs rel dd=>?_
  have hz:xs.length<=sizeLine:=by rw[<- Paired.length rel];exact z
  have hl:(IP kvs k v).length<=sizeLine:=by have:=EA kvs k v;lia
  refine wpAny_setItem_heap (hsz:=hz) (tupleKind_room_in1 hu) (Ih I.hok eb) dd fun h' dd' hs=>h _ ?_
  refine IU dd' fun q es ep hq h2 h3 h4 _ h5=>?_
  refine JI I (by rw[e];exact True.intro) hs ⟨q,hq⟩ ⟨hl,hd,_,(rel.put k eb rv).keeps fun c ys ec=>?_,q,es,ep,hq,h2,h3,h4,h5⟩
  rw[Ah (Po ec e (fun z=>nomatch z))]
  exact ec
end
section
variable {X:Cx} {pins:List (Addr × Obj)} {σ:St} {H:Hp} {s:Shared} {a:Addr} {kvs:List (Key × V)} {k:Key} {u:Value} {A:Around} {E:Value->Shared->Prop}
theorem O3 {Q : Value -> Shared -> Prop} (I : Inv X pins σ H s) (e : Rd H a (.dK kvs)) (h : ∀ t s',Inv X pins σ H s' -> Q (.int kvs.length t) s') : wpAny (model X.prog X.w) A (call (.builtin "len") [.ref a]) Q E s:= by
 refine xA2 (Jn I.hok e) fun z hd m918=>xEA m918 fun vs rel dd=>?_
 refine call_len_dict hd dd (by rw[<- rel.length];rw[sizeLine_eq] at z;lia) ?_
 rw[<- rel.length]
 exact h _ _ (I.tok _)
end
def Qf (i:Expr):Prop:=∀ ov iv,subscripted i false ov iv=operate [ov,iv] (getItem ov iv)
theorem ML {prog:Program} {w:World} {A:Around} {E:Value->Shared->Prop} {s:Shared} {env:Env} {value slice:Expr} {pos:Pos} {T id:String} {Q:Value->Shared->Prop}
  (hl : typeLookup (.type T) "__getitem__" = pure (some (.builtin id))) (hs : Qf slice)
  (h:wpAny (model prog w) A (eval value env) (fun o s₁=>wpAny (model prog w) A (eval slice env) (fun i s₂=>s₂.TypeIs o T/\wpAny (model prog w) A (getItem o i) Q E s₂) E s₁) E s) :
  wpAny (model prog w) A (eval (.Subscript value slice pos) env) Q E s:= by
 refine Subscript_ (wpAny_mono h (fun o s₁ h₁=>wpAny_mono h₁ (fun i s₂ h₂=>?_) fun _ _ x=>x) fun _ _ x=>x)
 obtain ⟨hT,h₂⟩:=h₂
 unfold subscriptTail
 refine wpAny_bind ?_
 rw[getitemInPython_of_ne hT.not_modules]
 refine wpAny_bind (wpAny_specialOf hT hl ?_)
 have fin:wpAny (model prog w) A (subscripted slice false o i) (fun r s₃=>wpAny (model prog w) A (letTemporaryGo value o r >>= fun _=>pure r) Q E s₃) E s₂:= by
  rw[hs o i]
  exact wpAny_operating (wpAny_mono h₂ (fun r s₃ h₃=>wpAny_bind (wpAny_letTemporaryGo (wpAny_pure h₃))) fun _ _ x=>x)
 first
  | exact wpAny_pure (wpAny_bind fin)
  | exact wpAny_bind (wpAny_pure (wpAny_bind fin))
  | exact wpAny_bind fin
theorem HB {X : Cx} {pins : List (Addr × Obj)} {σ : St} {H : Hp} {s : Shared} {a : Addr} {y : V} {o : Option V} (I : Inv X pins σ H s) (g : Lk H a y o) : s.TypeIs (.ref a) "dict":= by
 refine Or.elim g (fun n90=>Ar n90 fun kvs k e _ _=>?_) fun n91=>Hv n91 fun kvs k b e _ _ _=>?_
 ·refine xA2 (Jn I.hok e) fun _ _ m920=>xEA m920 fun vs _ dd=>?_
  exact dd.typeIs
 ·refine xA2 (Lz I.hok e) fun _ _ m921=>xEA m921 fun xs _ dd=>?_
  exact dd.typeIs
inductive XDg (x y:V) (H:Hp) (Q:VK):Prop
 | mk (a:Addr) (v:V) (hx:x = .ref a) (hg:Lk H a y (some v)) (q:Q v H):XDg x y H Q
inductive XDi (x y:V) (H:Hp) (Q:Option V->Prop):Prop
 | mk (a:Addr) (o:Option V) (hx:x = .ref a) (hg:Lk H a y o) (q:Q o):XDi x y H Q
def O5 (td ty:TE):TE:=fun σ H Q=>td σ H fun x H1=>ty σ H1 fun y H2=>XDg x y H2 Q
def MW (ty td:TE):TE:=fun σ H Q=>ty σ H fun y H1=>td σ H1 fun x H2=>XDi x y H2 fun o=>Q (.bl (!o.isSome)) H2
def Pj (td ty tv:TE):TS:=fun D σ H=>tv σ H fun v H1=>td σ H1 fun x H2=>ty σ H2 fun y H3=>∃ a H4,x = .ref a/\N8 H3 a y v H4/\D.nx σ H4
section
variable {X:Cx} {o i e value:Expr} {pos pos' tpos:Pos} {td ty tv:TE}
theorem M0 (hu:X.A.units+1<cLine) (ho:PE X o td) (hi:PE X i ty) (hs:Qf i):PE X (.Subscript o i pos) (O5 td ty):= by
 intro pins s σ H Q I h
 refine ML PySem.F.slot_dict_getitem.lookup hs (thn (ho pins s σ H _ I h) fun u s1 h91=>?_)
 refine Ar h91 fun x H1 I1 rx q1=>?_
 refine thn (hi pins s1 σ H1 _ I1 q1) fun iv s2 h92=>?_
 refine Ar h92 fun y H2 I2 ry r90=>?_;obtain ⟨a,v,ex,g,q2⟩:=r90
 subst ex
 obtain rfl:u=Value.ref a:=rx
 exact ⟨HB I2 g,Ky hu I2 g ry fun w' s3 I3 rw'=>⟨v,H2,I3,rw',q2⟩⟩
theorem KJ (hu:X.A.units+1<cLine) (hi:PE X i ty) (ho:PE X o td):PC X .NotIn i o (MW ty td):= by
 intro pins s σ H Q I h
 refine thn (hi pins s σ H _ I h) fun iv s1 h95=>?_
 refine Ar h95 fun y H1 I1 ry q1=>?_
 refine thn (ho pins s1 σ H1 _ I1 q1) fun u s2 h96=>?_
 refine Ar h96 fun x H2 I2 rx r90=>?_;obtain ⟨a,ov,ex,g,q2⟩:=r90
 subst ex
 obtain rfl:u=Value.ref a:=rx
 exact No hu I2 g ry fun s3 I3=>⟨.bl (!ov.isSome),H2,I3,rfl,q2⟩
theorem M3 (hu:X.A.units+1<cLine) (ho:PE X o td) (hi:PE X i ty) (hv:PE X value tv) (hs:swapsWith value (some (.Subscript o i pos')) pos.line X.env=pure false) :
  PS X (.Assign [.Subscript o i pos'] value pos) (Pj td ty tv):= by
 intro pins s σ H D I h
 refine wpAny_Assign_Subscript (thn (hv pins s σ H _ I h) fun r s1 h97=>?_) hs
 refine Ar h97 fun v H1 I1 rv q1=>?_
 refine thn (ho pins s1 σ H1 _ I1 q1) fun u s2 h98=>?_
 refine Ar h98 fun x H2 I2 rx q2=>?_
 refine thn (hi pins s2 σ H2 _ I2 q2) fun iv s3 h99=>?_
 refine Ar h99 fun y H3 I3 ry m926=>Ar m926 fun a H4 ex g q3=>?_
 subst ex
 obtain rfl:u=Value.ref a:=rx
 exact Ku hu I3 g ry rv fun s4 I4=>⟨σ,H4,I4,q3⟩
end
theorem Lr {P : Program} {w : World} {H : Hp} (h : Heap) (hb : sysModules < h.objs.size) : AV P w H (h.push { cls:=.type "dict",data:=.dict #[] }) h.objs.size (.dK []):=
 ⟨Nat.zero_le _,beq_eq_false_iff_ne.mpr (Ne.symm (Nat.ne_of_lt hb)),[],.nil,Heap.DictOf.new h⟩
def Oz:TE:=fun _ H Q=>∀ p,H p=none->Q (.ref p) (upd H p (.dK []))
section
variable {X:Cx} {pos:Pos}
theorem Lh:PE X (.Dict [] [] pos) Oz:=fun pins s σ H Q I h=>
 wpAny_Dict_empty ⟨.ref s.heap.objs.size,_,I.laid (a:=s.heap.objs.size) (o:=.dK []) (t':=s.toks) (fun _ _ q=>Heap.get?_push_of_some _ q) (Nat.le_refl _) (Lr s.heap I.big),rfl,h _ (I.hok.fresh (Nat.le_refl _))⟩
end
end L2
namespace L2
open PySem PySem.Spec PyProof.Rows
section
variable {X:Cx}
theorem JS : AO X (.builtin "len") (fun xs H Q=>∃ a kvs,xs = [V.ref a] /\ H a = some (.dK kvs) /\ Q (.int kvs.length) H):= by
 intro pins s σ H xs us Q I r h
 refine Ar h fun a kvs e90 ha q=>?_;subst e90
 refine xEA (FL r) fun u e90 ru=>?_;subst e90
 cases ru
 exact O3 I (.inl ha) fun t s' I'=>⟨.int kvs.length,H,I',⟨t,rfl⟩,q⟩
end
end L2
namespace L2
open PySem PySem.Spec PyProof.Rows
end L2
namespace L2
open PySem
noncomputable def BI (s:List Int) (z:Int):List Int:=if z ∈ s then s else s++[z]
noncomputable def Bi (ns:List Int):List Int:=ns.foldl BI []
noncomputable def Ax (ns:List Int):List Int:=ns.map fun z=>((Bi ns).idxOf z:Int)
theorem Ba (xs:List Int) (z:Int):Bi (xs++[z])=BI (Bi xs) z:=by unfold Bi;rw[List.foldl_append];rfl
theorem Kj {s:List Int} {z y:Int}:y ∈ BI s z ↔ y ∈ s\/y=z:= by
 unfold BI;split
 ·constructor
  ·exact .inl
  ·rintro (h | rfl)
   ·exact h
   ·assumption
 ·simp
theorem A8 (xs:List Int) : ∀ z,z ∈ Bi xs ↔ z ∈ xs:= by
 refine AD (P:=fun xs=>∀ z,z ∈ Bi xs ↔ z ∈ xs) (fun z=>by simp [Bi]) (fun xs y ih z=>?_) xs
 rw[Ba,Kj,ih z];simp
theorem B0 {s:List Int} {z y:Int} (h:y ∈ s):(BI s z).idxOf y=s.idxOf y:= by
 unfold BI;split
 ·rfl
 ·rw[List.idxOf_append,if_pos h]
theorem CS {s:List Int} {z:Int} (h:z ∉ s):(BI s z).idxOf z=s.length:= by
 unfold BI;rw[if_neg h,List.idxOf_append,if_neg h];simp
theorem BH (xs:List Int) (z:Int):Ax (xs++[z])=Ax xs++[((BI (Bi xs) z).idxOf z:Int)]:= by
 unfold Ax
 rw[Ba,List.map_append]
 congr 1
 refine List.map_congr_left fun y hy=>?_
 rw[B0 ((A8 xs y).mpr hy)]
theorem Bg (xs:List Int):(Ax xs).length=xs.length:=by unfold Ax;rw[List.length_map]
theorem HA (xs:List Int):(Bi xs).length<=xs.length:= by
 refine AD (P:=fun xs=>(Bi xs).length<=xs.length) (by simp [Bi]) (fun xs z ih=>?_) xs
 rw[Ba];unfold BI;split
 ·simp;lia
 ·simp;lia
theorem B8 (xs:List Int):AF 0 (Ax xs)=true/\fresh 0 (Ax xs)=(Bi xs).length:= by
 refine AD (P:=fun xs=>AF 0 (Ax xs)=true/\fresh 0 (Ax xs)=(Bi xs).length) ⟨rfl,rfl⟩ (fun xs z ih=>?_) xs
 obtain ⟨h1,h2⟩:=ih
 rw[BH,AX,BG,h1,h2,Ba]
 by_cases h:z ∈ Bi xs
 ·have e:(BI (Bi xs) z).idxOf z=(Bi xs).idxOf z:=B0 h
  have hl:(Bi xs).idxOf z<(Bi xs).length:=List.idxOf_lt_length_of_mem h
  rw[e]
  refine ⟨?_,?_⟩
  ·rw[decide_eq_true (by lia),decide_eq_true (by lia)];rfl
  ·rw[if_neg (by lia)];unfold BI;rw[if_pos h]
 ·rw[CS h]
  refine ⟨?_,?_⟩
  ·rw[decide_eq_true (by lia),decide_eq_true (by lia)];rfl
  ·rw[if_pos rfl];unfold BI;rw[if_neg h,List.length_append];simp
theorem BU {xs:List Int} (h1:1<=xs.length) (h9:xs.length<=9):As (Ax xs)=true:= by
 unfold As
 rw[Bg,(B8 xs).1,decide_eq_true h1,decide_eq_true h9];rfl
noncomputable def FU:List Int->Nat->List (Key × V)
 | [],_=>[]
 | z::r,n=>(Sum.inl z,V.int n)::FU r (n+1)
theorem Cn : ∀ (s:List Int) (n:Nat),(FU s n).length=s.length
 | [],_=>rfl
 | _::r,n=>by show (FU r (n+1)).length+1=_;rw[Cn r];rfl
theorem GS : ∀ (s:List Int) (n:Nat) (z:Int),FU (s++[z]) n=FU s n++[(Sum.inl z,V.int ((n+s.length:Nat):Int))]
 | [],n,z=>by show [(Sum.inl z,V.int n)]=_;simp [FU]
 | y::r,n,z=>by
  show (Sum.inl y,V.int n)::FU (r++[z]) (n+1)=(Sum.inl y,V.int n)::(FU r (n+1)++_)
  rw[GS r,List.length_cons]
  rw[show n+1+r.length=n+(r.length+1) by lia]
theorem Df : ∀ (s:List Int) (n:Nat) (z:Int),GX (FU s n) (Sum.inl z:Key)=if z ∈ s then some (V.int ((n+s.idxOf z:Nat):Int)) else none
 | [],n,z=>by simp [FU,Ln]
 | y::r,n,z=>by
  by_cases e:y=z
  ·subst e
   rw[if_pos List.mem_cons_self]
   show GX ((Sum.inl y,V.int n)::FU r (n+1)) (Sum.inl y)=_
   rw[DO rfl]
   simp
  ·show GX ((Sum.inl y,V.int n)::FU r (n+1)) (Sum.inl z)=_
   rw[DJ (fun q=>e (Sum.inl.inj q)),Df r]
   have e2:(y::r).idxOf z=r.idxOf z+1:=by rw[List.idxOf_cons,beq_eq_false_iff_ne.mpr e];rfl
   rw[e2]
   by_cases h:z ∈ r
   ·rw[if_pos h,if_pos (List.mem_cons_of_mem _ h),show n+1+r.idxOf z=n+(r.idxOf z+1) by lia]
   ·rw[if_neg h,if_neg (fun q=>(List.mem_cons.mp q).elim (fun w=>e w.symm) h)]
end L2
namespace L2
open PySem
noncomputable def Mo (u:Int) (cs:List Int):List Int:=(List.range (cs.length-1)).map fun (k:Nat)=>(u+(k:Int))*cs.getD k 0+cs.getD (k+1) 0
noncomputable def PV (l:Nat) (u:Int):Nat->List Int
 | 0=>List.replicate (l+1) 1
 | n+1=>Mo u (PV l u n)
noncomputable def P9 (l:Nat) (u:Int):Int:=(PV l u l).getD 0 0
noncomputable def N4 (n:Nat) (cs:List Int):List Int:=0::(List.range n).map fun (j:Nat)=>cs.getD j 0+((j:Int)+1)*cs.getD (j+1) 0
noncomputable def moC (n:Nat):Nat->List Int
 | 0=>1::List.replicate n 0
 | s+1=>N4 n (moC n s)
noncomputable def K5 (n c:Int):Int:=if 1<=c/\c<=n then (moC n.toNat n.toNat).getD c.toNat 0 else 0
noncomputable def Jm (r:List Int):List (List Int):=(List.range (FX r+2).toNat).map fun (j:Nat)=>r++[(j:Int)]
noncomputable def Bk:Nat->List (List Int)
 | 0=>[[0]]
 | n+1=>(Bk n).flatMap Jm
noncomputable def Ez (n:Nat) (r:List Int):Bool:=!r.isEmpty&&decide (r.length<=6)&&decide (0<=FX r)&&decide (FX r+1<=(n:Int)+1)
theorem QC:((List.range 6).all fun m=>decide ((Bk m).length<=203)&&(Bk m).all (Ez m)&&decide (P9 (m+1) 0=((Bk m).length:Int))&&((List.range (m+2)).all fun c=>decide (K5 ((m:Int)+1) (c:Int)=(((Bk m).countP fun r=>decide (FX r+1=(c:Int)):Nat):Int))))=true:=by decide +kernel
theorem m6 {n:Int} (h1:1<=n) (h6:n<=6):(Bk (n.toNat-1)).length<=203/\(∀ r ∈ Bk (n.toNat-1),Ez (n.toNat-1) r=true)/\P9 n.toNat 0=((Bk (n.toNat-1)).length:Int) /\
  ∀ c:Int,K5 n c=(((Bk (n.toNat-1)).countP fun r=>decide (FX r+1=c):Nat):Int):= by
 have q:=List.all_eq_true.mp QC (n.toNat-1) (List.mem_range.mpr (by lia))
 rw[Bool.and_eq_true,Bool.and_eq_true,Bool.and_eq_true,List.all_eq_true,List.all_eq_true] at q
 obtain ⟨⟨⟨q1,q2⟩,q3⟩,q4⟩:=q
 rw[show n.toNat-1+1=n.toNat by lia] at q3
 refine ⟨of_decide_eq_true q1,q2,of_decide_eq_true q3,fun c=>?_⟩
 by_cases hc:0<=c/\c<=n
 ·have q5:=of_decide_eq_true (q4 c.toNat (List.mem_range.mpr (by lia)))
  rw[show ((n.toNat-1:Nat):Int)+1=n by lia,Int.toNat_of_nonneg hc.1] at q5
  exact q5
 ·unfold K5
  rw[if_neg (fun z=>hc ⟨by lia,z.2⟩)]
  have:(Bk (n.toNat-1)).countP (fun r=>decide (FX r+1=c))=0:= by
   rw[List.countP_eq_zero]
   intro r hr
   have q6:=q2 r hr
   unfold Ez at q6
   simp only [Bool.and_eq_true,decide_eq_true_eq] at q6
   intro e
   have e:=of_decide_eq_true e
   lia
  rw[this];rfl
theorem NF {m:Nat} {r:List Int} (h:Ez m r=true) (hm:m<=5):r≠[]/\r.length<=6/\0<=FX r/\FX r<=5:= by
 unfold Ez at h
 simp only [Bool.and_eq_true,decide_eq_true_eq] at h
 refine ⟨fun e=>by rw[e] at h;exact absurd h.1.1.1 (by decide),h.1.1.2,h.1.2,by lia⟩
theorem Iu {m:Nat} (hm:m<=5):(Bk m).length<=203 /\ ∀ r ∈ Bk m,r≠[]/\r.length<=6/\0<=FX r/\FX r<=5:= by
 have q:=m6 (n:=(m:Int)+1) (by lia) (by lia)
 rw[show ((m:Int)+1).toNat-1=m by lia] at q
 exact ⟨q.1,fun r hr=>NF (q.2.1 r hr) hm⟩
theorem SqT.put {K:PySem.W.Frag} {H:Hp} {a l:Addr} {xs ys:List V} {o:HO} (h:SqT K H a xs) (hl:H l=some (.lst ys)):SqT K (upd H l o) a xs:= by
 rcases h with (h | ⟨u,h⟩) | h
 ·exact .inl (.inl (by rw[Ah (fun e=>by rw[e,hl] at h;cases h)];exact h))
 ·exact .inl (.inr ⟨u,by rw[Ah (fun e=>by rw[e,hl] at h;cases h)];exact h⟩)
 ·exact .inr h
theorem KF {α β:Type} (f:α->List β) (l:List α) (i:Nat):((l.take i).flatMap f).length<=(l.flatMap f).length:= by
 conv=>rhs;rw[<- List.take_append_drop i l,List.flatMap_append,List.length_append]
 lia
end L2
namespace L2
open PySem PySem.Spec PyProof.Rows
section
variable {X:Cx} {K:PySem.W.Frag}
theorem Ik : ∀ {xs:List V} {us:List Value} (k:Nat) {y:V} {u:Value},AH xs us->AR y u->AH (xs.take k++y::xs.drop k) (us.take k++u::us.drop k)
 | _,_,0,_,_,h,r=>.cons r h
 | _,_,k+1,_,_,.nil,r=>.cons r .nil
 | _,_,k+1,_,_,.cons q t,r=>.cons q (Ik k t r)
theorem DA {T : String} {name : Str} {id : String} {r : V -> List V -> Hp -> VK -> Prop} {o e : Expr} {es : List Expr} {to : TE} {t : TA} {apos cpos : Pos} (pa : PlainAttrs T) (slot : Slot T name id) (hty : typeOf (.builtin id) = pure (.type "method_descriptor")) (hm : MtR X id r) (ho : PE X o to) (ha : PA X (e :: es) t)
  (hbase:attributeBase o name X.env (eval o X.env)=eval o X.env:=by rfl)
  (hfew:((backTo cpos (starEach (e::es) X.env)).all (fun x=>!x.1)&&(backToKw cpos (keywordEach [] X.env)).all (fun x=>x.1.isSome)
   && decide ((e::es).length+([]:List Keyword).length+(if ([]:List Keyword).isEmpty then 0 else 1)<30))=true:=by rfl)
  (hline:(apos.endLine==cpos.line)=true:=by rfl) (hs:starEach (e::es) X.env=(false,eval e X.env)::starEach es X.env:=by rfl) (hK:X.K=K:=by rfl) (hplain:(backTo cpos (starEach es X.env)).any (·.1)=false:=by rfl) :
  PE X (.Call (.Attribute o name apos) (e::es) [] cpos) (tBM K T r to t):= by
 subst hK
 exact Px pa slot hty hm ho ha hbase hfew hline hs hplain
end
end L2
namespace L2
open PySem PySem.Spec PyProof.Rows
noncomputable def rg (n:Nat):List Int:=(List.range n).map fun (k:Nat)=>(k:Int)
theorem FY (n:Nat):(rg n).length=n:=by unfold rg;simp
theorem Mp (n:Nat):rg (n+1)=rg n++[(n:Int)]:=by unfold rg;rw[List.range_succ,List.map_append];rfl
theorem Mj {n:Nat} {z:Int}:z ∈ rg n ↔ 0<=z/\z<n:= by
 unfold rg
 rw[List.mem_map]
 constructor
 ·rintro ⟨k,hk,rfl⟩
  have:=List.mem_range.mp hk
  lia
 ·rintro ⟨h0,h1⟩
  exact ⟨z.toNat,List.mem_range.mpr (by lia),by lia⟩
theorem NS {n i:Nat} (h:i<n):(rg n)[i]?=some (i:Int):= by
 unfold rg;rw[List.getElem?_map,List.getElem?_range h];rfl
theorem LK (n:Nat):(rg n).Nodup:= by
 unfold rg
 rw[List.nodup_iff_pairwise_ne,List.pairwise_map]
 exact List.Pairwise.imp (fun h=>by lia) List.pairwise_lt_range
theorem IC {l:List Int} (hn:l.Nodup) {i:Nat} {z:Int} (h:l[i]?=some z):l.idxOf z=i:= by
 obtain ⟨hi,rfl⟩:=List.getElem?_eq_some_iff.mp h
 exact hn.idxOf_getElem i hi
theorem Os {n:Nat} {z:Int} (h0:0<=z) (h1:z<n):(((rg n).idxOf z:Nat):Int)=z:= by
 have:=IC (LK n) (NS (n:=n) (i:=z.toNat) (by lia))
 rw[show ((z.toNat:Nat):Int)=z by lia] at this
 lia
theorem Cm (ws:List Int):AF 0 ws=true->Ax ws=ws/\Bi ws=rg (fresh 0 ws).toNat/\0<=fresh 0 ws:= by
 refine AD (P:=fun ws=>AF 0 ws=true->Ax ws=ws/\Bi ws=rg (fresh 0 ws).toNat/\0<=fresh 0 ws) (fun _=>⟨rfl,rfl,by decide⟩) (fun xs z ih h=>?_) ws
 rw[AX,Bool.and_eq_true,Bool.and_eq_true] at h
 obtain ⟨h1,h2,h3⟩:=h
 have h2:=of_decide_eq_true h2
 have h3:=of_decide_eq_true h3
 obtain ⟨e1,e2,e3⟩:=ih h1
 rw[BH,e1,Ba,BG,e2]
 by_cases hz:z=fresh 0 xs
 ·rw[if_pos hz]
  have hn:z ∉ rg (fresh 0 xs).toNat:=by rw[Mj];lia
  refine ⟨?_,?_,by lia⟩
  ·rw[CS hn,FY,hz]
   congr 2;lia
  ·unfold BI
   rw[if_neg hn,show (fresh 0 xs+1).toNat=(fresh 0 xs).toNat+1 by lia,Mp]
   congr 2;lia
 ·rw[if_neg hz]
  have hn:z ∈ rg (fresh 0 xs).toNat:=by rw[Mj];lia
  refine ⟨?_,?_,by lia⟩
  ·rw[B0 hn,Os h2 (by lia)]
  ·unfold BI
   rw[if_pos hn]
end L2
namespace PySem
open Sem (wp)
open AutoSeq1 (wpAny_loadPart')
section
variable {prog:Program} {w:World} {A:Around} {E:Value->Shared->Prop} {s:Shared}
theorem BL {it l:Addr} {i:Nat} {items} {x:Value} {Q:Value->Shared->Prop} (hit:s.heap.IsTupleIter it l i)
  (hl:s.heap.IsTuple l items) (hx:items[i]?=some x)
  (hQ : ∀ h',h'.IsTupleIter it l (i+1)->Heap.SameBut it s.heap h'->Q x { s with heap:=h' }) :
  wpAny (model prog w) A (Builtin.SmallTypes.nextOf (.ref it)) Q E s:= by
 refine AM (id hit) fun o ho hc hd=>?_
 refine AM hl fun ol hol _ m91=>xE m91 fun nl hdl=>?_
 unfold Builtin.SmallTypes.nextOf
 refine wpAny_bind (wpAny_callSpecial?_slot (name:=Str.ofString "__next__") hit.typeIs F.slot_tuple_iterator_next
  (wpAny_call_entry F.slot_tuple_iterator_next hit.typeIs F.entry_tuple_iterator_next ?_ (F.args_tuple_iterator_next_1 _)))
 show wpAny _ _ (field (.ref it) 0 >>= _) _ _ s
 refine wpAny_bind (wpAny_field ho hd (x:=.ref l) rfl ?_)
 show wpAny _ _ (if (Value.ref l==Value.none)=true then _ else _) _ _ s
 rw[if_neg (show ¬ ((Value.ref l==Value.none)=true) from Bool.false_ne_true)]
 show wpAny _ _ (field (.ref it) 1 >>= _) _ _ s
 refine wpAny_bind (wpAny_field ho hd (x:=.int i 0) rfl ?_)
 show wpAny _ _ (seqItems? (.ref l) >>= _) _ _ s
 refine wpAny_bind (wpAny_seqItems hol hdl ?_)
 simp only [Int.toNat_natCast,hx]
 refine wpAny_bind (wpAny_setField ho hd (by simp) (wpAny_pure ⟨x,rfl,wpAny_pure (hQ _ ?_ (Heap.SameBut.update ..))⟩))
 exact ⟨_,Heap.get?_update_self _ ho (Obj.isFreed_of_fields (Obj.data_mapFields hd _)),(Obj.cls_mapFields ..).trans hc,by
  rw[Obj.data_mapFields hd];simp [rawInt]⟩
theorem A3 {it l:Addr} {i:Nat} {items} {Q:Value->Shared->Prop} (hh:A.handled=none)
  (hit:s.heap.IsTupleIter it l i) (hl:s.heap.IsTuple l items) (hx:items[i]?=none)
  (hE : ∀ h' e,Heap.ExtBut it s.heap h' -> (∃ o,h'.get? e = some o /\ o.cls = .type "StopIteration") -> E (.ref e) { s with heap:=h' }) :
  wpAny (model prog w) A (Builtin.SmallTypes.nextOf (.ref it)) Q E s:= by
 refine AM (id hit) fun o ho hc hd=>?_
 refine AM hl fun ol hol _ m92=>xE m92 fun nl hdl=>?_
 unfold Builtin.SmallTypes.nextOf
 refine wpAny_bind (wpAny_callSpecial?_slot (name:=Str.ofString "__next__") hit.typeIs F.slot_tuple_iterator_next
  (wpAny_call_entry F.slot_tuple_iterator_next hit.typeIs F.entry_tuple_iterator_next ?_ (F.args_tuple_iterator_next_1 _)))
 show wpAny _ _ (field (.ref it) 0 >>= _) _ _ s
 refine wpAny_bind (wpAny_field ho hd (x:=.ref l) rfl ?_)
 show wpAny _ _ (if (Value.ref l==Value.none)=true then _ else _) _ _ s
 rw[if_neg (show ¬ ((Value.ref l==Value.none)=true) from Bool.false_ne_true)]
 show wpAny _ _ (field (.ref it) 1 >>= _) _ _ s
 refine wpAny_bind (wpAny_field ho hd (x:=.int i 0) rfl ?_)
 show wpAny _ _ (seqItems? (.ref l) >>= _) _ _ s
 refine wpAny_bind (wpAny_seqItems hol hdl ?_)
 simp only [Int.toNat_natCast,hx]
 refine wpAny_bind (wpAny_rule (wpAny_bind (wpAny_setField ho hd (by simp) ?_)))
 show wpAny _ _ (newExc (.type "StopIteration") [] >>= _) _ _ _
 refine wpAny_bind ?_
 simp only [newExc,newTuple]
 refine wpAny_bind (wpAny_newObj_type ?_ (by size_fits))
 refine wpAny_bind (m:=firstArgMember _ _) (wpAny_of_eq (a:=Value.none) (by first | rfl | (simp only [firstArgMember];rfl)) ?_)
 refine wpAny_newObj_type ?_ (by size_fits)
 simp only [raiseNew]
 refine wpAny_bind (wpAny_handled ?_)
 first | rw[show A.in1.handled=none from hh] | rw[hh]
 refine wpAny_bind (wpAny_pure (wpAny_throw ?_))
 exact hE _ _ (((Heap.SameBut.update ..).extBut.push _).push _) ⟨_,Heap.get?_push_size _ rfl,rfl⟩
end
theorem Draws.tuple {prog:Program} {w:World} {A:Around} (hh:A.handled=none) (it l:Addr) (hne:l≠it) (items:Array Value) :
  Draws prog w A it [it,l] items.size (fun i v=>items[i]?=some v) (fun i h=>h.IsTupleIter it l i/\h.IsTuple l items) where
 live:=fun _ _ st=>let ⟨o,ho,_⟩:=st.1;⟨o,ho⟩
 frame:=fun _ _ _ st hk=>⟨st.1.at fun o e=>hk it (by simp) o e,st.2.at fun o e=>hk l (by simp) o e⟩
 item:=fun i s Q E hi st hQ=>by
  refine BL st.1 st.2 (x:=items[i]) (by simp [hi]) fun h' hit' hs'=>?_
  exact hQ _ h' s.toks (by simp [hi]) ⟨hit',st.2.extBut hs'.extBut hne⟩ hs'
 done:=fun s Q E st hE=>A3 hh st.1 st.2 (by simp) hE
theorem Cg (l:Addr) (items:Array Value) (n:Nat) (dct:Option Addr) (sl:Array (Option Value)) :
  Meets (Builtin.«enumerate.__new__» ⟨[.type "enumerate",.ref l],[]⟩) (fun _ R s=>s.heap.get? l = some { cls:=.type "tuple",dict:=dct,data:=.seq items n,slots:=sl } /\
   R (.ok (.ret (.ref (s.heap.push { cls:=.type "tuple_iterator",data:=.fields #[.ref l,.int 0 0] }).objs.size)))
    { s with heap:=(s.heap.push { cls:=.type "tuple_iterator",data:=.fields #[.ref l,.int 0 0] }).push { cls:=.type "enumerate",data:=.fields #[.none,.bool false,.ref s.heap.objs.size,rawInt 0,.none,.none] } }):=
 .of_wp fun prog w A R s h=>by
  obtain ⟨hp,g,d,tk,os⟩:=s;obtain ⟨hl,h⟩:=h
  have hsub:=sub_enumerate
  have hL:Heap.IsTuple (Shared.heap ⟨hp,g,d,tk,os⟩) l items:=⟨_,hl,rfl,n,rfl⟩
  wp_walk using wpAny_loadPart' hl
  refine wpAny_stack_any fun st=>wpAny_pure ?_
  split
  ·rename_i c _ _ _ _ _
   cases (c == Value.type "enumerate")
   ·wp_walk using wpAny_loadPart' hl,wpAny_pyIter_tuple hL
    exact ⟨_,rfl,h⟩
   ·wp_walk using wpAny_loadPart' hl,wpAny_pyIter_tuple hL
    exact ⟨_,rfl,h⟩
  ·wp_walk using wpAny_loadPart' hl,wpAny_pyIter_tuple hL
   exact ⟨_,rfl,h⟩
section
variable {prog:Program} {w:World} {A:Around} {E:Value->Shared->Prop} {s:Shared}
theorem Ce {l:Addr} {items:Array Value} {Q:Value->Shared->Prop} (hL:s.heap.IsTuple l items)
  (h : ∀ h',IsEnum h' (s.heap.objs.size+1) s.heap.objs.size 0 .none->h'.IsTupleIter s.heap.objs.size l 0->h'.objs.size=s.heap.objs.size+2 ->
   (∀ b o,s.heap.get? b=some o->h'.get? b=some o)->Q (.ref (s.heap.objs.size+1)) { s with heap:=h' }) :
  wpAny (model prog w) A (call (.type "enumerate") [.ref l]) Q E s:= by
 refine AM hL fun n90 hl hc m93=>xE m93 fun n hd=>?_;obtain ⟨c,dct,dt,sl⟩:=n90
 replace hc : c = .type "tuple":=hc
 replace hd:dt = .seq items n:=hd
 subst hc hd
 refine callType_new F.called_enumerate (by decide) (F.typeCall_enumerate_1 _) (F.newCall_enumerate_1 _) (fun obj=>F.args_object_init_2 obj _) F.entry_enumerate_new
  (Cg l items n dct sl) ⟨hl,?_⟩
 have hz : (s.heap.push { cls:=.type "tuple_iterator",data:=.fields #[.ref l,.int 0 0] }).objs.size = s.heap.objs.size + 1:=Heap.size_push ..
 show _/\_
 rw[hz]
 have he : IsEnum ((s.heap.push { cls:=.type "tuple_iterator",data:=.fields #[.ref l,.int 0 0] }).push
   { cls:=.type "enumerate",data:=.fields #[.none,.bool false,.ref s.heap.objs.size,rawInt 0,.none,.none] }) (s.heap.objs.size + 1) s.heap.objs.size 0 .none:= by
  have:=Heap.get?_push_size (s.heap.push { cls:=.type "tuple_iterator",data:=.fields #[.ref l,.int 0 0] })
   (o:={ cls:=.type "enumerate",data:=.fields #[.none,.bool false,.ref s.heap.objs.size,rawInt 0,.none,.none] }) rfl
  rw[hz] at this;exact this
 refine ⟨⟨_,he,rfl⟩,h _ he ⟨_,Heap.get?_push_of_some _ (Heap.get?_push_size _ rfl),rfl,rfl⟩ (by rw[Heap.size_push,hz]) fun b o x=>Heap.get?_push_of_some _ (Heap.get?_push_of_some _ x)⟩
end
end PySem
namespace L2
open PySem PySem.Spec PyProof.Rows
theorem Inv.turnL {X:Cx} {pins:List (Addr × Obj)} {σ:St} {H:Hp} {s:Shared} {h':Heap} {t':Nat} {wr:List Addr} (I:Inv X pins σ H s) (k : ∀ b o,b ∉ wr->s.heap.get? b=some o->h'.get? b=some o) (f : ∀ b ∈ wr,DL X pins H b):Inv X pins σ H { s with heap:=h',toks:=t' }:= by
 have nit : ∀ b u,H b=some u->b ∉ wr:=fun b u e z=>by rw[(f b z).1] at e;cases e
 refine I.step (g':=s.gens) (d':=s.drawn) (ch:=wr) (fun b hb=>?_) (fun b o _ _ hc e _=>k b o hc e) (fun b o _ _ hc e _=>⟨o.slots,k b o hc e⟩) (fun _ _ _ _ n=>n)
  (fun b o hc e=>⟨o,k b o hc e⟩) (fun _ _ e=>e) (fun _ _ _ e=>e) (fun b ps e=>⟨#[],by rw[e];simp⟩) (fun m hm=>?_) (fun b u e=>?_) I.bare
 ·refine xA5 (f b hb) fun _ a2 _ a4 a5 a6=>?_
  exact ⟨a4,a2,a5,a6⟩
 ·refine FW hm fun o es ep ho r=>?_
  exact ⟨o,es,ep,k _ o (fun z=>(f _ z).2.1 rfl) ho,r⟩
 ·refine (I.hok b u e).stay (fun c v hc q=>k c v ?_ q) (fun _ q=>q) fun _ _ q=>q
  rcases hc with z | z
  ·rw[z];exact nit b u e
  ·exact nit c _ z
theorem Inv.turnNew {X:Cx} {pins:List (Addr × Obj)} {σ:St} {H:Hp} {s:Shared} {h':Heap} {t':Nat} {wr:List Addr} {T:Addr} {xs:List V} {its:List Value} (I:Inv X pins σ H s) (k : ∀ b o,b ∉ wr->s.heap.get? b=some o->h'.get? b=some o) (f : ∀ b ∈ wr,DL X pins H b)
  (hT:s.heap.objs.size<=T) (hz:xs.length<=sizeLine) (r:AH xs its) (ht:h'.IsTuple T its.toArray):Inv X pins σ (upd H T (.tup xs)) { s with heap:=h',toks:=t' }:= by
 have hn:H T=none:=I.hok.fresh hT
 have nT : ∀ b o,s.heap.get? b=some o->b≠T:=fun b o e z=>absurd (Heap.lt_size e) (by rw[z];exact Nat.not_lt.mpr hT)
 have nit : ∀ b u,H b=some u->b ∉ wr:=fun b u e z=>by rw[(f b z).1] at e;cases e
 refine I.step (g':=s.gens) (d':=s.drawn) (ch:=wr) (fun b hb=>?_) (fun b o _ _ hc e _=>k b o hc e) (fun b o _ _ hc e _=>⟨o.slots,k b o hc e⟩) (fun b o _ e n=>by rw[Ah (nT b o e)];exact n)
  (fun b o hc e=>⟨o,k b o hc e⟩) (fun b xs e=>by rw[Ah (Ad e hn)];exact e) (fun b o u e=>by rw[Ah (Ad e hn)];exact e) (fun b ps e=>⟨#[],by rw[Ah (Ad e hn),e];simp⟩) (fun m hm=>?_) (fun b u e=>?_) I.bare
 ·refine xA5 (f b hb) fun _ a2 _ a4 a5 a6=>?_
  exact ⟨a4,a2,a5,a6⟩
 ·refine FW hm fun o es ep ho r=>?_
  exact ⟨o,es,ep,k _ o (fun z=>(f _ z).2.1 rfl) ho,r⟩
 ·by_cases hb:b=T
  ·subst hb
   rw[Ab] at e
   cases e
   exact ⟨hz,its,r,ht⟩
  ·rw[Ah hb] at e
   refine (I.hok b u e).stay (fun c v hc q=>k c v ?_ q) (fun c q=>by rw[Ah (Ad q hn)];exact q) fun c ys q=>by rw[Ah (Ad q hn)];exact q
   rcases hc with z | z
   ·rw[z];exact nit b u e
   ·exact nit c _ z
theorem OC {J:It} {n:Nat} {g:TG} {tb:TS} {D:IG} {σ:St} {H:Hp} (Pv:Nat->St->Hp->Prop) (h0:Pv 0 σ H) (hgo : ∀ i σ H,i<n->Pv i σ H->J.go i H) (hst : ∀ σ H,Pv n σ H->J.stop n H)
  (hs : ∀ i x σ H H',i<n->Pv i σ H->J.yld i H x H'->g x σ H' fun σ2 H2=>tb { D with nx:=Pv (i+1),ct:=Pv (i+1),bk:=D.nx } σ2 H2) (hd : ∀ σ H,Pv n σ H->D.nx σ H) :
  ∃ W:Nat->Nat->St->Hp->Prop,(∃ m,W 0 m σ H) /\ ∀ i m σ H,W i m σ H ->
   (J.stop i H/\D.nx σ H)\/(J.go i H /\ ∃ N:St->Hp->Prop,(∀ σ' H',N σ' H' -> ∃ m',m'<m/\W (i+1) m' σ' H') /\ ∀ x H',J.yld i H x H'->g x σ H' fun σ2 H2=>tb { D with nx:=N,ct:=N,bk:=D.nx } σ2 H2):= by
 refine ⟨fun i m σ H=>m=n-i/\i<=n/\Pv i σ H,⟨n,by simp,Nat.zero_le _,h0⟩,?_⟩
 rintro i m σ H ⟨rfl,hi,p⟩
 by_cases hlt:i<n
 ·exact .inr ⟨hgo i σ H hlt p,Pv (i+1),fun σ' H' p'=>⟨n-(i+1),by lia,rfl,hlt,p'⟩,fun x H' y=>hs i x σ H H' hlt p y⟩
 ·have e:i=n:=by lia
  subst e
  exact .inl ⟨hst σ H p,hd σ H p⟩
theorem OP {J:It} {n:Nat} {M:List (Option Nat)} {σ:St} {g:TG} {tc:TT} {te:TE} {F:List V->Hp->Prop} {H:Hp} (Pv:Nat->List V->Hp->Prop) (hz:n<=sizeLine) (h0:Pv 0 [] H) (hgo : ∀ i ys H,i<n->Pv i ys H->J.go i H) (hst : ∀ ys H,Pv n ys H->J.stop n H) (hl : ∀ i ys H,i<=n->Pv i ys H->ys.length<=i)
  (hs : ∀ i x ys H H',i<n->Pv i ys H->J.yld i H x H'->g x (CY M σ) H' fun σ2 H2=>tc σ2 H2 fun b H3=>if b=true then te σ2 H3 fun v H4=>Pv (i+1) (ys++[v]) H4 else Pv (i+1) ys H3)
  (hd : ∀ ys H,Pv n ys H->F ys H):HW J M σ g tc te F H:= by
 refine ⟨fun i m ys H=>m=n-i/\i<=n/\Pv i ys H,⟨n,by simp,Nat.zero_le _,h0⟩,?_⟩
 rintro i m ys H ⟨rfl,hi,p⟩
 have hy:=hl i ys H hi p
 refine ⟨by lia,?_⟩
 by_cases hlt:i<n
 ·exact .inr ⟨hgo i ys H hlt p,by lia,Pv (i+1),fun ys' H' p'=>⟨n-(i+1),by lia,rfl,hlt,p'⟩,fun x H' y=>hs i x ys H H' hlt p y⟩
 ·have e:i=n:=by lia
  subst e
  exact .inl ⟨hst ys H p,hd ys H p⟩
noncomputable def PP (K:PySem.W.Frag) (a:Addr):It:=
 ⟨fun i H=>∃ xs x,SqT K H a xs/\xs[i]?=some x,fun i H x H'=>∃ T y,H T=none/\x = .ref T/\H'=upd H T (.tup [.int (i:Int),y]) /\ ∀ xs,SqT K H a xs->xs[i]?=some y,fun i H=>∃ xs,SqT K H a xs/\xs.length<=i⟩
theorem IA {P:Program} {w:World} {K:PySem.W.Frag} {elts:List Expr} {kk:Nat} {ps:Pos} (a e it:Addr) (hei:e≠it):Le P w K (.Tuple elts kk ps) (PP K a) [e,it] e (fun i h=>(∃ old,IsEnum h e it i old)/\h.IsTupleIter it a i) where
 mem:=by simp
 obj:=fun i h st b hb=>by
  refine xA st fun n90 m94=>AM m94 fun o e2 c d=>?_;obtain ⟨old,h1⟩:=n90
  rcases List.mem_cons.mp hb with rfl | hb
  ·exact ⟨_,h1,fun v z=>by cases z⟩
  ·have:b=it:=by simpa using hb
   subst this
   exact ⟨o,e2,fun v z=>by rw[d] at z;cases z⟩
 keep:=fun i h h' st k=>⟨let ⟨old,h1⟩:=st.1;⟨old,k e (by simp) _ h1⟩,let ⟨o,h1,r⟩:=st.2;⟨o,k it (by simp) _ h1,r⟩⟩
 item:= by
  intro X hP hw hK hc i pins s σ H E I hf st hg
  subst hP hw hK
  refine Ct hg fun xs x hq hx=>?_
  refine AM (I.tuple hq) fun its rv p hz=>?_
  refine xEA (rv.get hx) fun u hu ru=>?_
  have hp:s.heap.IsTuple a its.toArray:=show s.heap.IsTuple a its.toArray from p
  have hai:a≠it:=fun z=>by
   refine AM hp fun o1 e1 c1 _=>?_
   refine AM st.2 fun o2 e2 c2 _=>?_
   rw[z,e2] at e1;cases e1;rw[c1] at c2;injection c2 with c3;exact absurd c3 (by decide)
  have hea:e≠a:=fun z=>by
   refine AM hp fun o1 e1 c1 _=>?_
   refine xE st.1 fun old e2=>?_
   rw[<- z,e2] at e1;cases e1;injection c1 with c3;exact absurd c3 (by decide)
  have hh:X.A.in1.handled=none:=I.ok.hd hc
  have W:=WalksT.enumerateD (Draws.tuple (prog:=X.prog) (w:=X.w) hh it a hai its.toArray) e hei (by simp [hei,hea]) (by simp)
  have il:i<its.toArray.size:= by
   have:=(List.getElem?_eq_some_iff.mp hu).1
   simpa using this
  refine W.item i s _ _ il ⟨st.1,st.2,hp⟩ fun T vals h' tk hP hT ht mid k=>?_
  refine Ct hP fun t y hy e93=>?_;subst e93
  have ey:y=u:= by
   have:its.toArray[i]?=some u:=by simpa using hu
   rw[this] at hy;exact (Option.some.inj hy).symm
  subst ey
  have hf' : ∀ b ∈ [e,it],DL X pins H b:=hf
  have I1:Inv X pins σ (upd H T (.tup [.int (i:Int),x])) { s with heap:=h',toks:=tk }:=I.turnNew (its:=[.int i t,y]) k hf' hT (by simp [Ak]) (.cons ⟨t,rfl⟩ (.cons ru .nil)) ht
  have hTn:H T=none:=I.hok.fresh hT
  have hne : ∀ b ∈ [e,it],upd H T (.tup [.int (i:Int),x]) b=none:=fun b hb=>by
   have hbT:b≠T:=fun z=>absurd hb (by rw[z];exact W.apart _ _ _ mid)
   rw[Ah hbT];exact (hf b hb).1
  refine ⟨_,rfl,W.go elts kk ps i T { s with heap:=h',toks:=tk } _ E mid fun h'' st2 k2=>?_⟩
  refine ⟨.ref T,upd H T (.tup [.int (i:Int),x]),I1.turnL (t':=tk) (wr:=[e,it]) k2 (fun b hb=>⟨hne b hb,(hf b hb).2⟩),rfl,⟨T,x,hTn,rfl,rfl,fun ys hy=>by rw[I.tuple_inj hy hq];exact hx⟩,⟨st2.1,st2.2.1⟩,hne⟩
 done:= by
  intro X hP hw hK hc i pins s σ H E I hf st hg
  subst hP hw hK
  refine xEA hg fun xs hq hx=>?_
  refine AM (I.tuple hq) fun its rv p hz=>?_
  have hp:s.heap.IsTuple a its.toArray:=show s.heap.IsTuple a its.toArray from p
  have hai:a≠it:=fun z=>by
   refine AM hp fun o1 e1 c1 _=>?_
   refine AM st.2 fun o2 e2 c2 _=>?_
   rw[z,e2] at e1;cases e1;rw[c1] at c2;injection c2 with c3;exact absurd c3 (by decide)
  have hh:X.A.in1.handled=none:=I.ok.hd hc
  have hl:=rv.length
  have st2:=st.2
  refine xE st.1 fun old st1=>?_
  unfold pyNext
  have hT : s.TypeIs (.ref e) "enumerate":=⟨_,st1,rfl⟩
  refine wpAny_bind (wpAny_attempt (wpAny_callSpecial?_slot (name:=Str.ofString "__next__") hT F.slot_enumerate_next (wpAny_call_entry F.slot_enumerate_next hT F.entry_enumerate_next ?_ (F.args_enumerate_next_1 _))))
  show wpAny _ _ (field (.ref e) 2 >>= _) _ _ _
  refine wpAny_bind (wpAny_field st1 rfl (x:=.ref it) rfl ?_)
  refine wpAny_bind (A3 hh st2 hp (by simp;lia) fun h' x he' hx'=>?_)
  refine xEA hx' fun o ho hc'=>?_
  refine wpAny_bind (wpAny_isInstance (T:="StopIteration") (b:=true) ⟨o,ho,hc'⟩ isSubtype_stop ?_)
  exact wpAny_pure ⟨rfl,I.turnL (t':=s.toks) (wr:=[it]) (fun b o hb q=>he' b o (by simpa using hb) q) fun b hb=>hf b (List.mem_cons_of_mem _ hb)⟩
 self:=fun _ _ _ _ _ st h=>let ⟨_,h1⟩:=st.1;wpAny_pyIter_enum h1 h
def N7 (K:PySem.W.Frag) (ta:TA):TI:=fun σ H R=>ta σ H fun vs H1=>∃ a,vs=[.ref a]/\(∃ xs,SqT K H1 a xs)/\R (PP K a) H1
theorem Ib {X : Cx} {K : PySem.W.Frag} {elts : List Expr} {kk : Nat} {ps p pos : Pos} {l : Expr} {ta : TA} (hg : Gl X "enumerate") (hm : X.mg "enumerate" = none) (ha : PA X [l] ta) (hs : starEach [l] X.env = [(false,eval l X.env)]:=by rfl) (h : X.K = K:=by rfl) :
  PI X (.Tuple elts kk ps) (.Call (.Name "enumerate" p) [l] [] pos) (N7 K ta):= by
 subst h
 intro pins s σ H R I h
 refine Call_ (E3 I hg hm (PyProof.Rows.boot_enumerate) (PyProof.Rows.callWith_type1 (thn (ha pos pins s σ H _ I h) fun us s1 h91=>?_) hs rfl))
 refine Ar h91 fun vs H1 I1 r1 q1=>?_
 refine AM q1 fun a e n92 q=>?_;obtain ⟨xs,hq⟩:=n92
 subst e
 refine xEA r1.one fun u e91 ru=>?_;subst e91
 cases ru
 refine AM (I1.tuple hq) fun its rv p hz=>?_
 have hp:s1.heap.IsTuple a its.toArray:=show s1.heap.IsTuple a its.toArray from p
 refine Ce hp fun h' he hit hsz hk=>?_
 have I2:Inv X pins σ H1 { s1 with heap:=h',toks:=s1.toks }:=I1.kept hk
 refine wpAny_pyIter_enum he ⟨_,[s1.heap.objs.size+1,s1.heap.objs.size],_,_,H1,rfl,I2,IA a (s1.heap.objs.size+1) s1.heap.objs.size (Nat.succ_ne_self _),⟨⟨_,he⟩,hit⟩,fun b hb=>?_,q⟩
 have hge:s1.heap.objs.size<=b:= by
  rcases List.mem_cons.mp hb with rfl | hb
  ·exact Nat.le_succ _
  ·rw[List.mem_singleton.mp hb];exact Nat.le_refl _
 exact I1.fpOk hge (I1.hok.fresh hge)
end L2
namespace PySem
open Sem (wp)
open AutoSeq1 (wpAny_loadPart')
end PySem
namespace L2
open PySem PySem.Spec PyProof.Rows
end L2
namespace PySem
open Sem (wp)
open AutoSeq1 (wpAny_loadPart')
namespace RV
end RV
end PySem
namespace HT
open PySem PySem.Spec PyProof.Rows
end HT
namespace L2
open PySem PySem.Spec PyProof.Rows
end L2
namespace PySem
open Sem (wp)
open AutoSeq1 (wpAny_loadPart')
end PySem
namespace L2
open PySem PySem.Spec PyProof.Rows
end L2
namespace L2
open PySem PySem.Spec PyProof.Rows
end L2
namespace L2
open PySem
noncomputable def En:Nat->Int->Int
 | 0,_=>1
 | n+1,u=>u*En n u+En n (u+1)
theorem FZ : ∀ (n:Nat) (u:Int),0<=u->0<En n u
 | 0,_,_=>(by decide:(0:Int)<1)
 | n+1,u,h=>by
  have h1:=FZ n u h
  have h2:=FZ n (u+1) (by lia)
  have h3:0<=u*En n u:=Int.mul_nonneg h (Int.le_of_lt h1)
  show 0<u*En n u+En n (u+1)
  lia
noncomputable def nf (f w:Int):Int:=if w=f then f+1 else f
theorem Ic {f w:Int} (h:0<=f):0<=nf f w:=by unfold nf;split <;> lia
noncomputable def EG:Int->List Int->Int
 | _,[]=>0
 | f,w::r=>w*En r.length f+EG (nf f w) r
theorem B6 {f w:Int} {r:List Int} (h:AF f (w::r)=true):0<=w/\w<=f/\AF (nf f w) r=true:= by
 have h':(decide (0<=w)&&decide (w<=f)&&AF (nf f w) r)=true:=h
 simp only [Bool.and_eq_true,decide_eq_true_eq] at h'
 exact ⟨h'.1.1,h'.1.2,h'.2⟩
theorem Du : ∀ (r:List Int) (f:Int),0<=f->AF f r=true->0<=EG f r/\EG f r<En r.length f
 | [],f,_,_=>⟨Int.le_refl 0,by show (0:Int)<1;decide⟩
 | w::r,f,hf,h=>by
  obtain ⟨h0,h1,h2⟩:=B6 h
  obtain ⟨i0,i1⟩:=Du r (nf f w) (Ic hf) h2
  have p:=FZ r.length f hf
  have p1:=FZ r.length (f+1) (by lia)
  have q0:0<=w*En r.length f:=Int.mul_nonneg h0 (Int.le_of_lt p)
  refine ⟨show 0<=w*En r.length f+EG (nf f w) r by lia,?_⟩
  show w*En r.length f+EG (nf f w) r<f*En r.length f+En r.length (f+1)
  by_cases e:w=f
  ·have:nf f w=f+1:=by unfold nf;rw[if_pos e]
   rw[this] at i1 ⊢
   rw[e];lia
  ·have:nf f w=f:=by unfold nf;rw[if_neg e]
   rw[this] at i1 ⊢
   have q:(w+1)*En r.length f<=f*En r.length f:=Int.mul_le_mul_of_nonneg_right (by lia) (Int.le_of_lt p)
   rw[Int.add_mul,Int.one_mul] at q
   lia
theorem Go {f a b:Int} {r t:List Int} (hf:0<=f) (hl:r.length=t.length) (ha:AF f (a::r)=true) (hb:AF f (b::t)=true) (hab:a<b):EG f (a::r)<EG f (b::t):= by
 obtain ⟨a0,a1,a2⟩:=B6 ha
 obtain ⟨b0,b1,b2⟩:=B6 hb
 have e:nf f a=f:=by unfold nf;rw[if_neg (by lia)]
 obtain ⟨i0,i1⟩:=Du r (nf f a) (Ic hf) a2
 obtain ⟨j0,j1⟩:=Du t (nf f b) (Ic hf) b2
 have p:=FZ r.length f hf
 have q:(a+1)*En r.length f<=b*En r.length f:=Int.mul_le_mul_of_nonneg_right (by lia) (Int.le_of_lt p)
 rw[Int.add_mul,Int.one_mul] at q
 rw[e] at i1
 show a*En r.length f+EG (nf f a) r<b*En t.length f+EG (nf f b) t
 rw[<- hl,e]
 rw[e] at i0
 lia
theorem Im : ∀ (xs ys:List Int) (f:Int),0<=f->xs.length=ys.length->AF f xs=true->AF f ys=true->(decide (EG f xs<EG f ys)=HT.lexLt xs ys/\(EG f xs=EG f ys->xs=ys))
 | [],[],f,_,_,_,_=>⟨by show decide ((0:Int)<0)=false;decide,fun _=>rfl⟩
 | [],_::_,_,_,h,_,_=>by simp at h
 | _::_,[],_,_,h,_,_=>by simp at h
 | a::r,b::t,f,hf,hl,ha,hb=>by
  have hl':r.length=t.length:=by simpa using hl
  rw[HT.lexLt_cons]
  by_cases e:a=b
  ·subst e
   rw[if_pos rfl]
   obtain ⟨i1,i2⟩:=Im r t (nf f a) (Ic hf) hl' (B6 ha).2.2 (B6 hb).2.2
   have e1:EG f (a::r)=a*En r.length f+EG (nf f a) r:=rfl
   have e2:EG f (a::t)=a*En r.length f+EG (nf f a) t:=by rw[hl'];rfl
   rw[e1,e2]
   refine ⟨?_,fun h=>by rw[i2 (by lia)]⟩
   rw[<- i1]
   exact decide_eq_decide.mpr (by lia)
  ·rw[if_neg e]
   by_cases e2:a<b
   ·have:=Go hf hl' ha hb e2
    exact ⟨by rw[decide_eq_true this,decide_eq_true e2],fun h=>by lia⟩
   ·have:=Go hf hl'.symm hb ha (by lia)
    exact ⟨by rw[decide_eq_false (by lia),decide_eq_false e2],fun h=>by lia⟩
theorem Am {ws:List Int}:As ws=true ↔ 1<=ws.length/\ws.length<=9/\AF 0 ws=true:= by
 unfold As
 simp only [Bool.and_eq_true,decide_eq_true_eq]
 exact ⟨fun h91=>by obtain ⟨⟨a,b⟩,c⟩:=h91;exact ⟨a,b,c⟩,fun h92=>by obtain ⟨a,b,c⟩:=h92;exact ⟨⟨a,b⟩,c⟩⟩
theorem Hh : ∀ (m:Nat) (ws:List Int),ws.length=m+1->AF 0 ws=true->ws ∈ Bk m
 | 0,ws,hl,h=>by
  match ws,hl with
  | [w],_=>
   obtain ⟨a,b,_⟩:=B6 h
   have:w=0:=by lia
   subst this
   show [0] ∈ [[0]]
   simp
 | m+1,ws,hl,h=>by
  have hne:ws≠[]:=by intro e;rw[e] at hl;simp at hl
  have hs:ws.dropLast++[ws.getLast hne]=ws:=List.dropLast_concat_getLast hne
  have hl':ws.dropLast.length=m+1:=by rw[List.length_dropLast,hl];rfl
  rw[<- hs,AX,Bool.and_eq_true,Bool.and_eq_true] at h
  obtain ⟨h1,h2,h3⟩:=h
  have h2:0<=ws.getLast hne:=of_decide_eq_true h2
  have h3:ws.getLast hne<=fresh 0 ws.dropLast:=of_decide_eq_true h3
  have hd:ws.dropLast≠[]:=by intro e;rw[e] at hl';simp at hl'
  obtain ⟨fp,fm⟩:=AL h1 hd
  have em:FX ws.dropLast=fresh 0 ws.dropLast-1:=(fm.uniq (K0 hd)).symm
  show ws ∈ (Bk m).flatMap Jm
  rw[List.mem_flatMap]
  refine ⟨ws.dropLast,Hh m _ hl' h1,?_⟩
  unfold Jm
  rw[List.mem_map]
  refine ⟨(ws.getLast hne).toNat,List.mem_range.mpr (by lia),?_⟩
  rw[Int.toNat_of_nonneg h2];exact hs
noncomputable def NJ:Bool:=(List.range 5).all fun m=>decide ((Bk m).length<=52)&&decide (((Bk m).length:Int)=En (m+1) 0)&&(Bk m).all (fun r=>decide (r.length=m+1)&&AF 0 r)&&((List.range (Bk m).length).all fun i=>decide (EG 0 ((Bk m).getD i [])=(i:Int))) &&
 ((Bk m).all fun r=>decide (EG 0 r=(((Bk m).countP fun q=>HT.lexLt q r):Int)))
theorem KN:NJ=true:=by decide +kernel
theorem Py {m:Nat} (hm:m<=4):(Bk m).length<=52/\((Bk m).length:Int)=En (m+1) 0/\(∀ r ∈ Bk m,r.length=m+1/\AF 0 r=true)/\(∀ i,i<(Bk m).length->EG 0 ((Bk m).getD i [])=(i:Int)) /\
  (∀ ws:List Int,ws.length=m+1->AF 0 ws=true->EG 0 ws=(((Bk m).countP fun q=>HT.lexLt q ws):Int)):= by
 have q:=List.all_eq_true.mp KN m (List.mem_range.mpr (by lia))
 simp only [Bool.and_eq_true,decide_eq_true_eq,List.all_eq_true,List.mem_range] at q
 obtain ⟨⟨⟨⟨q1,q2⟩,q3⟩,q4⟩,q5⟩:=q
 exact ⟨q1,q2,q3,q4,fun ws hl h=>q5 ws (Hh m ws hl h)⟩
end L2
namespace L2
open PySem PySem.Spec PyProof.Rows
section
variable {X:Cx} {K:PySem.W.Frag}
theorem MH (hu:X.A.units<cLine) (h:X.K=K:=by rfl):OpR X (compareOp .Lt) (Qc K):=by subst h;exact Oe hu
end
end L2
namespace L2
open PySem
end L2
namespace L2
open PySem PySem.Spec PyProof.Rows
theorem EC : ∀ (names:List (Str × NameKind)) (n:Nat) (acc:List (Str × Addr)) (y:Str) (c:Addr),(cellsFrom n names acc).lookup y=some c->((y,NameKind.cell) ∈ names/\n<=c)\/acc.lookup y=some c
 | [],n,acc,y,c,h=>.inr h
 | (x,k)::r,n,acc,y,c,h=>by
  unfold cellsFrom at h
  split at h
  ·rename_i hk
   rcases EC r _ _ y c h with ⟨h1,h2⟩ | h1
   ·exact .inl ⟨List.mem_cons_of_mem _ h1,Nat.le_trans (Nat.le_succ _) h2⟩
   ·rw[List.lookup_cons] at h1
    cases hb:y==x with
    | true=>
     rw[hb] at h1
     have e:n=c:=Option.some.inj h1
     have ek:k=NameKind.cell:=LS hk
     have ey:y=x:=by simpa using hb
     subst e ek ey
     exact .inl ⟨List.mem_cons_self,Nat.le_refl _⟩
    | false=>rw[hb] at h1;exact .inr h1
  ·rcases EC r _ _ y c h with ⟨h1,h2⟩ | h1
   ·exact .inl ⟨List.mem_cons_of_mem _ h1,h2⟩
   ·exact .inr h1
theorem Ki : ∀ (names:List (Str × NameKind)) (n:Nat) (acc:List (Str × Addr)) (y:Str),(∃ c,acc.lookup y=some c) -> ∃ c,(cellsFrom n names acc).lookup y=some c
 | [],n,acc,y,h=>h
 | (x,k)::r,n,acc,y,h=>by
  unfold cellsFrom
  split
  ·refine Ki r _ _ y ?_
   obtain ⟨c,hc⟩:=h
   rw[List.lookup_cons]
   cases y==x with
   | true=>exact ⟨n,rfl⟩
   | false=>exact ⟨c,hc⟩
  ·exact Ki r _ _ y h
theorem JQ : ∀ (names:List (Str × NameKind)) (n:Nat) (acc:List (Str × Addr)) (y:Str),(y,NameKind.cell) ∈ names -> ∃ c,(cellsFrom n names acc).lookup y=some c
 | [],n,acc,y,h=>by simp at h
 | (x,k)::r,n,acc,y,h=>by
  unfold cellsFrom
  rcases List.mem_cons.mp h with e | h
  ·cases e
   rw[if_pos (by decide)]
   exact Ki r _ _ x ⟨n,by rw[List.lookup_cons];simp⟩
  ·split
   ·exact JQ r _ _ y h
   ·exact JQ r _ _ y h
theorem Fb : ∀ (names:List (Str × NameKind)) (n:Nat) (acc:List (Str × Addr)) (y:Str),(y,NameKind.cell) ∉ names->(cellsFrom n names acc).lookup y=acc.lookup y
 | [],n,acc,y,h=>rfl
 | (x,k)::r,n,acc,y,h=>by
  unfold cellsFrom
  split
  ·rename_i hk
   rw[Fb r _ _ y (fun z=>h (List.mem_cons_of_mem _ z)),List.lookup_cons]
   cases hb:y==x with
   | true=>
    have ek:k=NameKind.cell:=LS hk
    have ey:y=x:=by simpa using hb
    subst ek ey
    exact absurd List.mem_cons_self h
   | false=>rfl
  ·exact Fb r _ _ y (fun z=>h (List.mem_cons_of_mem _ z))
theorem KH : ∀ (names:List (Str × NameKind)) (n:Nat) (acc:List (Str × Addr)) (y:Str) (c:Addr),(y,NameKind.cell) ∈ names->(cellsFrom n names acc).lookup y=some c->n<=c
 | [],n,acc,y,c,h,_=>by simp at h
 | (x,k)::r,n,acc,y,c,h,e=>by
  unfold cellsFrom at e
  by_cases hr:(y,NameKind.cell) ∈ r
  ·split at e
   ·exact Nat.le_trans (Nat.le_succ _) (KH r _ _ y c hr e)
   ·exact KH r _ _ y c hr e
  ·rcases List.mem_cons.mp h with q | q
   ·cases q
    rw[if_pos (by decide),Fb r _ _ x hr,List.lookup_cons] at e
    simp at e
    exact Nat.le_of_eq e
   ·exact absurd q hr
theorem Oy : ∀ (names:List (Str × NameKind)) (n:Nat) (acc:List (Str × Addr)),(∀ z d,(z,d) ∈ acc->d<n) -> ∀ (x y:Str) (c:Addr),(x,c) ∈ cellsFrom n names acc->(y,c) ∈ cellsFrom n names acc->n<=c->x=y:= by
 have gen : ∀ (names:List (Str × NameKind)) (m n:Nat) (acc:List (Str × Addr)),m<=n->(∀ z d,(z,d) ∈ acc->d<n)->(∀ x y c,(x,c) ∈ acc->(y,c) ∈ acc->m<=c->x=y) -> ∀ (x y:Str) (c:Addr),(x,c) ∈ cellsFrom n names acc->(y,c) ∈ cellsFrom n names acc->m<=c->x=y:= by
  intro names
  induction names with
  | nil=>intro m n acc _ _ h x y c h1 h2 h3;exact h x y c h1 h2 h3
  | cons p r ih=>
   obtain ⟨z,k⟩:=p
   intro m n acc hm hlt hin x y c h1 h2 h3
   unfold cellsFrom at h1 h2
   split at h1
   ·rename_i hk
    rw[if_pos hk] at h2
    refine ih m (n+1) ((z,n)::acc) (Nat.le_trans hm (Nat.le_succ _)) (fun a d hd=>?_) (fun a b d ha hb hd=>?_) x y c h1 h2 h3
    ·rcases List.mem_cons.mp hd with q | q
     ·cases q;exact Nat.lt_succ_self _
     ·exact Nat.lt_succ_of_lt (hlt a d q)
    ·rcases List.mem_cons.mp ha with q | q <;> rcases List.mem_cons.mp hb with q' | q'
     ·cases q;cases q';rfl
     ·cases q;exact absurd (hlt b n q') (Nat.lt_irrefl _)
     ·cases q';exact absurd (hlt a n q) (Nat.lt_irrefl _)
     ·exact hin a b d q q' hd
   ·rename_i hk
    rw[if_neg hk] at h2
    exact ih m n acc hm hlt hin x y c h1 h2 h3
 intro names n acc hlt x y c h1 h2 h3
 exact gen names n n acc (Nat.le_refl _) hlt (fun x y c hx _ hc=>absurd (hlt x c hx) (Nat.not_lt.mpr hc)) x y c h1 h2 h3
theorem Nm : ∀ (names:List (Str × NameKind)) (h:Heap) (acc:List (Str × Addr)) (lo:h.objs.size=h.objs.size),(∀ z d,(z,d) ∈ acc->h.objs.size<=d->h.IsCell d none) -> ∀ (y:Str) (c:Addr),(y,c) ∈ cellsFrom h.objs.size names acc->h.objs.size<=c->(pushCells h names).IsCell c none:= by
 have gen : ∀ (names:List (Str × NameKind)) (m:Nat) (h:Heap) (acc:List (Str × Addr)),m<=h.objs.size->(∀ z d,(z,d) ∈ acc->m<=d->h.IsCell d none) -> ∀ (y:Str) (c:Addr),(y,c) ∈ cellsFrom h.objs.size names acc->m<=c->(pushCells h names).IsCell c none:= by
  intro names
  induction names with
  | nil=>intro m h acc _ ha y c hy hc;exact ha y c hy hc
  | cons p r ih=>
   obtain ⟨z,k⟩:=p
   intro m h acc hm ha y c hy hc
   unfold cellsFrom at hy
   unfold pushCells
   split at hy
   ·rename_i hk
    rw[if_pos hk]
    have hz : (h.push { cls:=.type "cell",data:=.cell none }).objs.size = h.objs.size + 1:=Heap.size_push ..
    refine ih m (h.push { cls:=.type "cell",data:=.cell none }) ((z,h.objs.size) :: acc) (by rw[hz]; exact Nat.le_trans hm (Nat.le_succ _)) (fun a d hd hmd=>?_) y c (by rw[hz]; exact hy) hc
    rcases List.mem_cons.mp hd with q | q
    ·cases q;exact ⟨_,Heap.get?_push_size _ rfl,rfl⟩
    ·exact (ha a d q hmd).keeps fun b o e=>Heap.get?_push_of_some _ e
   ·rename_i hk
    rw[if_neg hk]
    exact ih m h acc hm ha y c hy hc
 intro names h acc _ ha y c hy hc
 exact gen names h.objs.size h acc (Nat.le_refl _) ha y c hy hc
theorem Gn {M:Model} {A:Around} {E:Value->Shared->Prop} {s:Shared} {scope:Scope} {globals:Addr} {closure:List (Str × Addr)} {qual:Str} {func:Option Addr} {code:Value} {outer:Env} {builtins:Addr} {Q:Env->Shared->Prop}
  (hQ : Q (newEnv scope s.heap.objs.size globals (cellsFrom (s.heap.objs.size + 1) scope.names closure) qual func code (some outer) builtins) { s with heap:=pushCells (s.heap.push { cls:=.type "dict",data:=.dict #[] }) scope.names }) :
  wpAny M A (newFunctionEnv scope globals closure [] qual func code (some outer) builtins) Q E s:= by
 simp only [newFunctionEnv,Option.isSome_some,if_true]
 refine wpAny_bind (wpAny_alloc ?_)
 refine wpAny_bind (wpAny_layCells _ (fun name kind cells=>by cases hkc:kind==NameKind.cell <;> simp [hkc]) _ _ _ _ ?_)
 rw[show ({ s with heap:=s.heap.push { cls:=.type "dict",data:=.dict #[] } } : Shared).heap.objs.size = s.heap.objs.size + 1 from Heap.size_push ..]
 rw[List.forIn_nil]
 refine wpAny_bind (wpAny_pure ?_)
 exact wpAny_pure hQ
noncomputable def HN (X:Cx) (N':List Str) (scope:Scope) (cl:List (Str × Addr)) (C:Addr) (s:Shared) (H:Hp) (fp:List Addr):Cx:=
 { X with N:=N',s₀:=s,H₀:=H,env:=compEnvC scope cl C X.env,outer:=X.stack,stack:=X.stack,ex:=fp,fn:=fun x=>scope.names.lookup x==some NameKind.cell,pn:=[],xe:=fun _ _=>False }
structure LR (N N':List Str) (M:List (Option Nat)) (sc osc:Scope):Prop where
 kind:sc.kind = .function
 len:N'.length=M.length
 uni : ∀ y ∈ sc.names,y.2=NameKind.cell->sc.names.lookup y.1=some NameKind.cell
 own : ∀ y ∈ sc.names,y.2=NameKind.local->sc.names.lookup y.1=some NameKind.local
 fre : ∀ y ∈ sc.names,y.2=NameKind.free->osc.names.lookup y.1=some NameKind.cell\/osc.names.lookup y.1=some NameKind.free
 at_ : ∀ (i j:Nat),M[i]?=some (some j) -> ∃ y,N'[i]?=some y/\N[j]?=some y/\sc.names.lookup y=some NameKind.free
theorem M2 {a:Option NameKind} {b:NameKind} (h:(a==some b)=true):a=some b:=CM h
theorem Js {X:Cx} {N':List Str} {M:List (Option Nat)} {scope:Scope} {cl:List (Str × Addr)} {tg elt iter:Expr} {ifs:List Expr} {pos:Pos} {g:TG} {tc:TT} {te:TE} {pins:List (Addr × Obj)} {σ:St} {H2:Hp} {s2:Shared}
  {it:Addr} {fp:List Addr} {tn:Nat->Heap->Prop} {J:It} {F:List V->Hp->Prop} {RR:Value->Addr->Result->Shared->Prop} {E:Value->Shared->Prop}
  (S:LR X.N N' M scope X.env.scope) (hc:X.calm=true) (q0 : ∀ y c,(y,c) ∈ cl->X.env.cells.lookup y=some c) (q1 : ∀ y c,cl.lookup y=some c->X.env.cells.lookup y=some c) (q2 : ∀ y,(y,NameKind.free) ∈ scope.names -> ∃ c,cl.lookup y=some c)
  (hg : ∀ cl C s H fp,PG (HN X N' scope cl C s H fp) tg g) (hf:Frm M g) (ht : ∀ cl C s H fp,PTs (HN X N' scope cl C s H fp) ifs tc) (he : ∀ cl C s H fp,PE (HN X N' scope cl C s H fp) elt te)
  (I2:Inv X pins σ H2 s2) (T:Le X.prog X.w X.K tg J fp it tn) (st2:tn 0 s2.heap) (f2 : ∀ b ∈ fp,DL X pins H2 b)
  (hw : ∃ W:Nat->Nat->List V->Hp->Prop,(∃ m,W 0 m [] H2) /\ ∀ i m ys H,W i m ys H->ys.length<=sizeLine /\
   ((J.stop i H/\F ys H)\/(J.go i H/\ys.length<sizeLine /\ ∃ N:List V->Hp->Prop,(∀ ys' H',N ys' H' -> ∃ m',m'<m/\W (i+1) m' ys' H') /\ ∀ x H',J.yld i H x H'->g x (CY M σ) H' fun σ2 H2=>tc σ2 H2 fun b H3=>
    if b=true then te σ2 H3 fun v H4=>N (ys++[v]) H4 else N ys H3)))
  (hend : ∀ (D C:Addr) (s':Shared) (H':Hp) (ys:List V),Inv X pins σ (upd H' D (.lst ys)) s'->H' D=none->s2.heap.objs.size<=D->s2.heap.objs.size<C->(∃ m,s'.heap.Ns C m)->(upd H' D (.lst ys)) C=none->F ys H'->RR (.ref D) C (.ok .next) s') :
  wpAny (model X.prog X.w) X.A (newList []) (fun acc s₃=>wpAny (model X.prog X.w) X.A (newFunctionEnv scope X.env.globals cl [] X.env.qual none .none (some X.env)) (fun cenv s₄=>
   codeAny (model X.prog X.w) X.A (.compStart (.ListComp elt [⟨tg,iter,ifs,0⟩] scope pos) 0 (.ref it) acc { cenv with scope:=relabel scope X.env }) (RR acc cenv.locals) s₄) E s₃) E s2:= by
 refine xEA hw fun W n90 turn=>xE n90 fun m0 w0=>?_
 refine wpAny_newObj_type (Gn ?_)
 dsimp only
 generalize hG : s2.heap.push { cls:=.type "list",dict:=none,data:=.seq ([] : List Value).toArray } = G
 generalize hD:s2.heap.objs.size=D at *
 have cel0 : ∀ y c,(y,c) ∈ cl->c<D:=fun y c hm=>by
  refine xE (I2.cell y c (q0 y c hm)) fun v z=>?_
  exact hD ▸ z.lt
 have hC:G.objs.size=D+1:=by rw[<- hG,Heap.size_push,hD]
 generalize hCC:G.objs.size=C at *
 have DC:D<C:=by rw[hC];exact Nat.lt_succ_self _
 have hpush : (G.push { cls:=.type "dict",data:=.dict #[] }).objs.size = C + 1:=by rw[Heap.size_push,hCC]
 generalize hh₁ : pushCells (G.push { cls:=.type "dict",data:=.dict #[] }) scope.names = h₁
 have hns₁:h₁.Ns C (fun _=>none):= by
  rw[<- hh₁,<- hCC]
  exact (Heap.Ns.new G (.type "dict")).keeps (pushCells_keeps _ _)
 have keepG : ∀ b o,G.get? b=some o->h₁.get? b=some o:=fun b o e=>by rw[<- hh₁];exact pushCells_keeps _ _ b o (Heap.get?_push_of_some _ e)
 have newCell : ∀ y c,(y,c) ∈ cellsFrom (C+1) scope.names cl->C+1<=c->h₁.IsCell c none:=fun y c hm hc=>by
  rw[<- hh₁]
  exact Nm scope.names _ cl (by rw[hpush]) (fun z d hz hd=>by
   rw[hpush] at hd
   exact absurd (Nat.lt_trans (cel0 z d hz) DC) (Nat.not_lt.mpr (Nat.le_trans (Nat.le_succ _) hd))) y c (by rw[hpush];exact hm) (by rw[hpush];exact hc)
 have lo : ∀ b o,s2.heap.get? b=some o->b<D:=fun b o e=>hD ▸ Heap.lt_size e
 have old : ∀ b o,s2.heap.get? b=some o->h₁.get? b=some o:=fun b o e=>by
  exact keepG b o (hG ▸ Heap.get?_push_of_some _ e)
 have hacc : h₁.get? D = some { cls:=.type "list",data:=.seq ([] : List Value).toArray }:=
  keepG _ _ (by rw[<- hG,<- hD];exact Heap.get?_push_size _ rfl)
 have fpl : ∀ b ∈ fp,b<D:=fun b hb=>by
  refine xEA (T.obj _ _ st2 b hb) fun o e _=>?_
  exact lo b o e
 have cel : ∀ y c,cl.lookup y=some c->c<D:=fun y c e=>by
  refine xE (I2.cell y c (q1 y c e)) fun v z=>?_
  exact hD ▸ z.lt
 generalize hcl':cellsFrom (C+1) scope.names cl=cl' at newCell ⊢
 have cl1 : ∀ y c,cl'.lookup y=some c->((y,NameKind.cell) ∈ scope.names/\C+1<=c)\/cl.lookup y=some c:=fun y c e=>by rw[<- hcl'] at e;exact EC _ _ _ _ _ e
 have cl2 : ∀ y,(y,NameKind.cell) ∈ scope.names -> ∃ c,cl'.lookup y=some c:=fun y hy=>by rw[<- hcl'];exact JQ _ _ _ _ hy
 have cl3 : ∀ y,(y,NameKind.cell) ∉ scope.names->cl'.lookup y=cl.lookup y:=fun y hy=>by rw[<- hcl'];exact Fb _ _ _ _ hy
 have cl4 : ∀ x y c,cl'.lookup x=some c->cl'.lookup y=some c->C+1<=c->x=y:=fun x y c e1 e2 hc=>by
  rw[<- hcl'] at e1 e2
  exact Oy _ _ _ (fun z d hz=>Nat.lt_succ_of_lt (Nat.lt_trans (cel0 z d hz) DC)) _ _ _ (PySem.mem_of_lookup e1) (PySem.mem_of_lookup e2) hc
 have cl5 : ∀ y c,cl'.lookup y=some c->c≠D/\c≠C/\(C+1<=c\/c<D):=fun y c e=>by
  refine Or.elim (cl1 y c e) (fun n90=>xA n90 fun _ h=>?_) fun h=>?_
  ·exact ⟨by intro z;subst z;exact absurd DC (Nat.not_lt.mpr (Nat.le_trans (Nat.le_succ _) h)),by intro z;subst z;exact absurd h (Nat.not_succ_le_self _),.inl h⟩
  ·have:=cel y c h
   exact ⟨Nat.ne_of_lt this,Nat.ne_of_lt (Nat.lt_trans this DC),.inr this⟩
 generalize hX':HN X N' scope cl' C s2 H2 fp=X'
 have envE:X'.env=compEnvC scope cl' C X.env:=by rw[<- hX'];rfl
 have locE:X'.env.locals=C:=by rw[envE];rfl
 have fsE:X'.fs=frs X.stack:=by rw[<- hX'];rfl
 have fsl : ∀ b ∈ frs X.stack,b<D:=fun b hb=>by
  refine Or.elim (List.mem_cons.mp (I2.stkSub b hb)) (fun z=>?_) fun z=>?_
  ·rw[z];exact hD ▸ I2.lt
  ·exact Nat.lt_of_not_le fun q=>I2.nofs (hD ▸ q) z
 have relS : ∀ x k,scope.names.lookup x=some k -> ∃ k',X'.env.kindOf x=some k'/\(k'=k\/(k = .free/\k' = .cell)):=fun x k e=>by
  refine xEA (Bm (env:=X.env) e) fun k' e' q=>?_
  exact ⟨k',by rw[envE];exact e',q⟩
 have relN : ∀ x,scope.names.lookup x=none->X'.env.kindOf x=none:=fun x e=>by
  rw[envE];exact Bt (env:=X.env) e
 have cellsE:X'.env.cells=cl':=by rw[envE];rfl
 have s0E0:X'.s₀=s2:=by rw[<- hX'];rfl
 have ok':X'.Ok:= by
  refine ⟨?mod,?kind,?glob,?blt,?above,?inj,?has,?cab,?hd,?frames,?stk,?exf,?bs,?bsz,?noex,?exfs,?funs,?frf⟩
  case mod=>rw[<- hX'];exact I2.ok.mod
  case kind=>rw[envE];exact S.kind
  case glob=>rw[envE];exact I2.ok.glob
  case blt=>rw[envE];exact I2.ok.blt
  case above=>rw[locE,<- hX'];show s2.heap.objs.size<=C;rw[hD];exact Nat.le_of_lt DC
  case inj=>
   intro x y c e1 e2
   rw[cellsE] at e1 e2
   refine Or.elim ((cl5 x c e1).2.2) (fun h=>?_) fun h=>?_
   ·exact cl4 x y c e1 e2 h
   ·have f : ∀ z,cl'.lookup z=some c->cl.lookup z=some c:=fun z ez=>by
     refine Or.elim (cl1 z c ez) (fun n90=>xA n90 fun _ h'=>?_) fun h'=>?_
     ·exact absurd (Nat.lt_of_lt_of_le (Nat.lt_trans h DC) (Nat.le_trans (Nat.le_succ _) h')) (Nat.lt_irrefl _)
     ·exact h'
    exact I2.ok.inj x y c (q1 x c (f x e1)) (q1 y c (f y e2))
  case has=>
   intro x hx
   rw[cellsE]
   cases e:scope.names.lookup x with
   | none=>rw[relN x e] at hx;rcases hx with z | z <;> cases z
   | some k=>
    refine xEA (relS x k e) fun k' e' q=>?_
    rw[e'] at hx
    by_cases hcx:(x,NameKind.cell) ∈ scope.names
    ·exact cl2 x hcx
    rw[cl3 x hcx]
    have kf:k = .free:= by
     refine Or.elim q (fun q=>?_) fun q=>?_
     ·refine Or.elim hx (fun z=>?_) fun z=>?_
      ·cases z;exact absurd (PySem.mem_of_lookup (q ▸ e)) hcx
      ·cases z;exact q.symm
     ·exact q.1
    subst kf
    exact q2 x (PySem.mem_of_lookup e)
  case cab=>
   intro x c h e
   rw[<- hX'] at h
   rw[cellsE] at e
   have hx:scope.names.lookup x=some NameKind.cell:=M2 h
   rw[s0E0,hD]
   refine Or.elim (cl1 x c e) (fun n90=>xA n90 fun _ h'=>?_) fun h'=>?_
   ·exact Nat.le_trans (Nat.le_of_lt DC) (Nat.le_trans (Nat.le_succ _) h')
   ·refine xE (cl2 x (PySem.mem_of_lookup hx)) fun c2 e2=>?_
    rw[e] at e2;cases e2
    rw[<- hcl'] at e
    exact absurd (KH _ _ _ _ _ (PySem.mem_of_lookup hx) e) (Nat.not_le.mpr (Nat.lt_succ_of_lt (Nat.lt_trans (cel x c h') DC)))
  case hd=>rw[<- hX'];exact I2.ok.hd
  case frames=>rw[<- hX'];exact I2.ok.frames
  case stk=>rw[<- hX'];exact .inl rfl
  case exf=>
   intro b hb
   have hb':b ∈ fp:=by rw[<- hX'] at hb;exact hb
   refine ⟨by rw[locE];exact Nat.ne_of_lt (Nat.lt_trans (fpl b hb') DC),fun x c e=>?_⟩
   rw[cellsE] at e
   refine Or.elim (cl1 x c e) (fun n90=>xA n90 fun _ h'=>?_) fun h'=>?_
   ·intro z;subst z;exact absurd (fpl _ hb') (Nat.not_lt.mpr (Nat.le_trans (Nat.le_of_lt DC) (Nat.le_trans (Nat.le_succ _) h')))
   ·exact (f2 b hb').2.2.2.2.1 x c (q1 x c h')
  case bs=>rw[<- hX'];exact I2.bs
  case bsz=>rw[<- hX'];exact Nat.le_trans I2.ok.bsz I2.sz
  case noex=>
   intro b o e hb
   have hb':b ∈ fp:=by rw[<- hX'] at hb;exact hb
   have e':X.base.get? b=some o:=by rw[<- hX'] at e;exact e
   refine Or.elim ((f2 b hb').2.2.2.1) (fun z=>?_) fun z=>?_
   ·exact I2.ok.noex b o e' z
   ·exact absurd (Nat.lt_of_lt_of_le (Heap.lt_size e') (Nat.le_trans I2.ok.bsz z)) (Nat.lt_irrefl _)
  case exfs=>
   intro b hb
   have hb':b ∈ fp:=by rw[<- hX'] at hb;exact hb
   rw[fsE]
   intro z
   refine Or.elim (List.mem_cons.mp (I2.stkSub b z)) (fun q=>?_) fun q=>?_
   ·exact (f2 b hb').2.1 q
   ·exact (f2 b hb').2.2.1 q
  case funs=>rw[<- hX'];exact I2.stack
  case frf=>rw[fsE,<- hX'];exact I2.stkFree
 have c0:H2 C=none:=I2.hok.fresh (by rw[hD];exact Nat.le_of_lt DC)
 have d0:H2 D=none:=I2.hok.fresh (by rw[hD];exact Nat.le_refl _)
 have I3:Inv X' [] (CY M σ) H2 { s2 with heap:=h₁,toks:=s2.toks }:= by
  refine ⟨ok',?os,?bare,?base,?loc,?cell,?free,?freeC,?pin,?hok,?len⟩
  case os=>rw[<- hX'];rfl
  case bare=>exact I2.bare
  case base=>rw[fsE,<- hX'];exact Un.kept old
  case loc=>
   refine ⟨_,by rw[locE];exact hns₁,fun i x v e1 e2 _=>?_⟩
   refine xEA (CZ e2) fun j eM eσ=>?_
   refine AM (S.at_ i j eM) fun y n1 n2 n3=>?_
   have e1':N'[i]?=some x:=by rw[<- hX'] at e1;exact e1
   rw[n1] at e1';cases e1'
   have hyf:(x,NameKind.free) ∈ scope.names:=PySem.mem_of_lookup n3
   have kd:=S.fre _ hyf rfl
   refine xEA (id I2.loc) fun m hn hl=>?_
   refine xEA (hl j x v n2 eσ (kd.elim (fun z=>.inr (.inl z)) fun z=>.inr (.inr z))) fun u ru lk=>?_
   refine ⟨u,ru,?_⟩
   refine Or.elim lk (fun n90=>xA n90 fun k _=>?_) fun n91=>xA n91 fun k m91=>xEA m91 fun c ec z=>?_
   ·have k':X.env.scope.names.lookup x=some NameKind.local:=k
    rcases kd with q | q <;> (rw[k'] at q;cases q)
   ·refine xE (q2 x hyf) fun c' ec'=>?_
    have hcc:=q1 x c' ec'
    rw[ec] at hcc;cases hcc
    refine xEA (relS x _ n3) fun k' e' q=>?_
    refine .inr ⟨?_,c,by rw[cellsE,cl3 x (fun z=>by have:=S.uni _ z rfl;rw[n3] at this;cases this)];exact ec',?_⟩
    ·rw[e'];refine Or.elim q (fun q=>?_) fun q=>?_
     ·right;rw[q]
     ·left;rw[q.2]
    ·refine xEA z fun o ho hd'=>?_
     exact ⟨o,old _ _ ho,hd'⟩
  case cell=>
   intro x c e
   rw[cellsE] at e
   refine Or.elim (cl1 x c e) (fun n90=>xA n90 fun _ h'=>?_) fun h'=>?_
   ·exact ⟨none,newCell x c (PySem.mem_of_lookup e) h'⟩
   ·refine Ct (I2.cell x c (q1 x c h')) fun v o ho hd'=>?_
    exact ⟨v,o,old _ _ ho,hd'⟩
  case free=>rw[locE];exact c0
  case freeC=>
   intro x c e
   rw[cellsE] at e
   refine Or.elim (cl1 x c e) (fun n90=>xA n90 fun _ h'=>?_) fun h'=>?_
   ·exact I2.hok.fresh (by rw[hD];exact Nat.le_trans (Nat.le_of_lt DC) (Nat.le_trans (Nat.le_succ _) h'))
   ·exact I2.freeC x c (q1 x c h')
  case pin=>intro p hp;rw[<- hX'] at hp;exact absurd (show p ∈ ([]:List (Addr × Obj)) from hp) (by simp)
  case hok=>rw[<- hX'];exact I2.hok.kept old
  case len=>rw[CA,<- hX'];exact S.len.symm
 have xE : ∀ (e:Value) (s':Shared),¬ X'.xe e s':=fun e s' z=>by rw[<- hX'] at z;exact z
 have progE:X'.prog=X.prog:=by rw[<- hX'];rfl
 have wE:X'.w=X.w:=by rw[<- hX'];rfl
 have KE':X'.K=X.K:=by rw[<- hX'];rfl
 have AE:X'.A=X.A:=by rw[<- hX'];rfl
 have cE:X'.calm=true:=by rw[<- hX'];exact hc
 have exE:X'.ex=fp:=by rw[<- hX'];rfl
 have s0E:X'.s₀=s2:=by rw[<- hX'];rfl
 have pnE:X'.pn=[]:=by rw[<- hX'];rfl
 have hgX:PG X' tg g:=by rw[<- hX'];exact hg cl' C s2 H2 fp
 have htX:PTs X' ifs tc:=by rw[<- hX'];exact ht cl' C s2 H2 fp
 have heX:PE X' elt te:=by rw[<- hX'];exact he cl' C s2 H2 fp
 have Dfp:D ∉ fp:=fun z=>Nat.lt_irrefl _ (fpl D z)
 have Dcl : ∀ x c,X'.env.cells.lookup x=some c->c≠D:=fun x c e=>by rw[cellsE] at e;exact (cl5 x c e).1
 have Dloc:D≠X'.env.locals:=by rw[locE];exact Nat.ne_of_lt DC
 have Dfs:D ∉ X'.fs:=by rw[fsE];exact fun z=>Nat.lt_irrefl _ (fsl D z)
 have D0:D ∈ X'.ex\/X'.s₀.heap.objs.size<=D:=.inr (by rw[s0E,hD];exact Nat.le_refl _)
 have stat : ∀ {pl:List (Addr × Obj)} {H':Hp},(∀ p ∈ pl,p.1=D)->(∀ b ∈ fp,H' b=none) -> ∀ b ∈ fp,DL X' pl H' b:=fun {pl H'} hpl hn b hb=>by
  refine ⟨hn b hb,by rw[locE];exact Nat.ne_of_lt (Nat.lt_trans (fpl b hb) DC),?_,.inl (by rw[exE];exact hb),fun x c e=>?_,fun p hp=>?_⟩
  ·exact ok'.exfs b (by rw[exE];exact hb)
  ·rw[cellsE] at e
   refine Or.elim (cl1 x c e) (fun n90=>xA n90 fun _ h'=>?_) fun h'=>?_
   ·intro z;subst z;exact absurd (fpl _ hb) (Nat.not_lt.mpr (Nat.le_trans (Nat.le_of_lt DC) (Nat.le_trans (Nat.le_succ _) h')))
   ·exact (f2 b hb).2.2.2.2.1 x c (q1 x c h')
  ·rw[pnE,List.nil_append] at hp
   rw[hpl p hp];exact (Nat.ne_of_lt (fpl b hb)).symm
 have loop:codeAny (model X.prog X.w) X.A (.compLoop (.ListComp elt [⟨tg,iter,ifs,0⟩] scope pos) 0 (.ref it) (.ref D) X'.env) (RR (.ref D) C) { s2 with heap:=h₁,toks:=s2.toks }:= by
  refine Dz (fun n s'=>∃ i ys H',Inv X' [] (CY M σ) H' s' /\ tn i s'.heap /\ (∀ b ∈ fp,H' b = none) /\ (∃ (its : List Value) (k : Nat),AH ys its /\ s'.heap.get? D = some { cls:=.type "list",data:=.seq its.toArray k }) /\ H' D = none /\ W i n ys H') ?_ m0
   ⟨0,[],H2,I3,T.keep _ _ _ st2 fun b hb o e=>old b o e,fun b hb=>(f2 b hb).1,⟨[],0,.nil,hacc⟩,d0,w0⟩
  intro n s3 n90;refine IU n90 fun i ys H3 J3 st3 fr3 n91 dn w3=>Ct n91 fun its k rv hDs=>?_
  refine xA (turn i n ys H3 w3) fun hsz hcase=>?_
  have J3' : Inv X' [(D,{ cls:=.type "list",data:=.seq its.toArray k })] (CY M σ) H3 s3:=J3.pins_of fun p hp=>by
   have e : p = (D,{ cls:=.type "list",data:=.seq its.toArray k }):=by simpa using hp
   subst e
   exact ⟨hDs,dn,Dloc,Dfs,fun v z=>by cases z⟩
  have hpl : ∀ p ∈ [((D,{ cls:=.type "list",data:=.seq its.toArray k }) : Addr × Obj)],p.1 = D:=fun p hp=>by
   have e : p = (D,{ cls:=.type "list",data:=.seq its.toArray k }):=by simpa using hp
   rw[e]
  refine Or.elim hcase (fun n90=>xA n90 fun stop qF=>?_) fun n91=>xA2 n91 fun go hlt m92=>xEA m92 fun N hN step=>?_
  ·have q:=T.done X' progE wE KE' cE i _ s3 _ H3 (fun _ _=>False) J3' (stat hpl fr3) st3 stop
   rw[AE] at q
   refine thn q fun r s4 h91=>?_
   refine xA h91 fun hr J4=>?_
   subst hr
   have hD4 : s4.heap.get? D = some { cls:=.type "list",data:=.seq its.toArray k }:=(J4.pin _ (List.mem_append_right _ (List.mem_singleton.mpr rfl))).1
   refine xEA (id J4.loc) fun mC hnC _=>?_
   rw[locE] at hnC
   have b4:=J4.base
   rw[fsE,exE,s0E,show X'.H₀=H2 by rw[<- hX'];rfl] at b4
   refine hend D C s4 H3 ys ?_ dn (Nat.le_refl _) DC ⟨mC,hnC⟩ (by rw[Ah (Nat.ne_of_gt DC)];have:=J4.free;rw[locE] at this;exact this) qF
   have hok4:=J4.hok
   rw[progE,wE] at hok4
   refine I2.call' (ch:=fp) (H':=upd H3 D (.lst ys)) (by rw[J4.os,s0E]) ⟨b4.keep,b4.slot,fun b o e nn hb=>?_,b4.there,fun b xs e=>?_,fun b o u e=>?_,fun b ps e=>?_⟩ ?_ J4.bare fun b hb=>?_
   ·rw[Ah (Nat.ne_of_lt (lo b o e))];exact b4.free b o e nn hb
   ·rw[Ah (Ad (b4.tups b xs e) dn)];exact b4.tups b xs e
   ·rw[Ah (Ad (b4.frzs b o u e) dn)];exact b4.frzs b o u e
   ·obtain ⟨more,e'⟩:=b4.tbls b ps e
    exact ⟨more,by rw[Ah (Ad e' dn)];exact e'⟩
   ·intro b u e
    by_cases hb:b=D
    ·subst hb
     rw[Ab] at e;cases e
     exact ⟨hsz,its,k,rv,hD4⟩
    ·rw[Ah hb] at e
     exact (hok4 b u e).stay (fun c v _ q=>q) (fun c q=>by rw[Ah (Ad q dn)];exact q) fun c xs q=>by rw[Ah (Ad q dn)];exact q
   ·refine xA5 (f2 b hb) fun f0 f1 f3 f4 f5 f6=>?_
    exact ⟨f4,f1,f5,f6⟩
  ·have q:=T.item X' progE wE KE' cE i _ s3 _ H3 (fun _ _=>False) J3' (stat hpl fr3) st3 go
   rw[AE] at q
   refine thn q fun r s4 h92=>?_
   refine xEA h92 fun u hr h4=>?_
   subst hr
   dsimp only
   refine thn h4 fun _ s5 h93=>?_
   refine Kg h93 fun x H5 J5 r5 y5 st5 fr5=>?_
   have J5':=J5.pinned (stat hpl fr5) (T.obj _ _ st5)
   have qg:=hgX _ s5 (CY M σ) H5 x u _ J5' r5 (hf _ _ _ _ (step x H5 y5))
   rw[progE,wE,AE] at qg
   refine wpAny_mono qg (fun _ s6 h6=>?_) fun e s' z=>xE e s' z
   refine CI h6 fun σ6 H6 J6 q6 l6 k6=>?_
   have qt:=htX _ s6 σ6 H6 _ J6 q6
   rw[progE,wE,AE] at qt
   refine wpAny_mono qt (fun b s7 h7=>?_) fun e s' z=>xE e s' z
   refine xEA h7 fun H7 J7 q7=>?_
   have fin : ∀ {ys' : List V} {σ8 : St} {H8 : Hp} {s8 : Shared},σ8 = σ6 -> Inv X' ([(D,{ cls:=.type "list",data:=.seq its.toArray k })] ++ CU fp s5.heap) σ8 H8 s8 ->
     s8.heap.get? D = some { cls:=.type "list",data:=.seq its.toArray k } /\ H8 D = none /\ tn (i + 1) s8.heap /\ (∀ b ∈ fp,H8 b = none) /\ Inv X' [] (CY M σ) H8 s8:=fun {ys' σ8 H8 s8} e8 J8=>by
    subst e8
    refine xA2 (J8.pin _ (List.mem_append_right _ (List.mem_append_left _ (List.mem_singleton.mpr rfl)))) fun p1 p2 _=>?_
    refine ⟨p1,p2,T.keep _ _ _ st5 fun b hb o e=>(J8.pin (b,o) (List.mem_append_right _ (List.mem_append_right _ (AW hb e)))).1,fun b hb=>?_,?_⟩
    ·refine xEA (T.obj _ _ st5 b hb) fun o e d=>?_
     exact (J8.pin (b,o) (List.mem_append_right _ (List.mem_append_right _ (AW hb e)))).2.1
    ·have J9:Inv X' [] σ8 H8 s8:=J8.pins_of fun p hp=>absurd hp (by simp)
     refine J9.weak (l6.symm) fun a v e=>?_
     refine xEA (CZ e) fun j eM _=>?_
     rw[k6 a j eM];exact e
   cases b with
   | false=>
    rw[if_neg (by decide)] at q7
    rw[if_neg (by decide)]
    refine xEA (hN _ _ q7) fun m' hm w7=>?_
    refine xA4 (fin (ys':=ys) rfl J7) fun a1 a2 a3 a4 a5=>?_
    exact ⟨m',hm,i+1,ys,H7,a5,a3,a4,⟨its,k,rv,a1⟩,a2,w7⟩
   | true=>
    rw[if_pos rfl] at q7
    rw[if_pos rfl]
    have qe:=heX _ s7 σ6 H7 _ J7 q7
    rw[progE,wE,AE] at qe
    refine wpAny_mono qe (fun v8 s8 h8=>?_) fun e s' z=>xE e s' z
    refine Ar h8 fun y8 H8 J8 r8 n8=>?_
    refine xEA (hN _ _ n8) fun m' hm w8=>?_
    refine xA4 (fin (ys':=ys) rfl J8) fun a1 a2 a3 a4 a5=>?_
    refine wpAny_list_append_plain (items:=its.toArray) ⟨k,a1⟩ (fun h9 hl9 hs9=>?_) (by have:=rv.length;rw[List.size_toArray,<- this];exact hsz)
    have J9:Inv X' [] (CY M σ) H8 { s8 with heap:=h9 }:=a5.turned (t':=s8.toks) (fun b o hb e=>(hs9.2 b hb).trans e) a2 Dloc D0 Dcl fun p hp=>by rw[pnE] at hp;exact absurd hp (by simp)
    obtain ⟨k9,e9⟩:=hl9
    refine ⟨m',hm,i+1,ys++[y8],H8,J9,T.keep _ _ _ a3 fun b hb o e=>(hs9.2 b (fun z=>Dfp (z ▸ hb))).trans e,a4,⟨its++[v8],k9,rv.append (.cons r8 .nil),?_⟩,a2,w8⟩
    rw[show (its++[v8]).toArray=its.toArray.push v8 by simp]
    exact e9
 have loop':codeAny (model X.prog X.w) X.A (.compLoop (.ListComp elt [⟨tg,iter,ifs,0⟩] scope pos) 0 (.ref it) (.ref D) (compEnvC scope cl' C X.env)) (RR (.ref D) C) { s2 with heap:=h₁,toks:=s2.toks }:=envE ▸ loop
 exact codeAny_compStart_list loop' (T.self _ 0 _ _ _ (T.keep _ _ _ st2 fun b hb o e=>old b o e) loop')
end L2
namespace L2
open PySem PySem.Spec PyProof.Rows
theorem Co {env:Env} : ∀ (names:List (Str × NameKind)) (cs:List (Str × Addr)),(∀ y ∈ names,y.2=NameKind.free -> ∃ c,env.cells.lookup y.1=some c)->(∀ y c,(y,c) ∈ cs->env.cells.lookup y=some c) ->
  ∀ cl,(forIn names cs fun x r=>(match x with
   | (name,kind)=>if (kind==NameKind.free)=true then (do let a <- cellOf env name;pure (ForInStep.yield ((name,a)::r))) else pure (ForInStep.yield r)):Sem (List (Str × Addr)))=pure cl -> ∃ cl2,(forIn names cs fun x r=>(match x with
   | (name,kind)=>if (kind==NameKind.free)=true then (do let a <- cellOf env name;pure (ForInStep.yield ((name,a)::r))) else pure (ForInStep.yield r)):Sem (List (Str × Addr)))=pure cl2 /\ ∀ y c,(y,c) ∈ cl2->env.cells.lookup y=some c
 | [],cs,_,h,cl,_=>⟨cs,by rw[List.forIn_nil],h⟩
 | (n,k)::r,cs,hf,h,cl,e=>by
  rw[List.forIn_cons] at e ⊢
  by_cases hk:(k==NameKind.free)=true
  ·obtain ⟨c,hc⟩:=hf (n,k) List.mem_cons_self (LS hk)
   have ec:cellOf env n=pure c:=by unfold cellOf;rw[hc]
   simp only [hk,if_true,ec,pure_bind] at e ⊢
   refine Co r ((n,c)::cs) (fun y hy=>hf y (List.mem_cons_of_mem _ hy)) (fun y c' hm=>?_) cl e
   rcases List.mem_cons.mp hm with q | q
   ·cases q;exact hc
   ·exact h y c' q
  ·simp only [hk,if_false,pure_bind] at e ⊢
   exact Co r cs (fun y hy=>hf y (List.mem_cons_of_mem _ hy)) h cl e
theorem Gy {α:Type} {a b:α} (h:(pure a:Sem α)=pure b):a=b:= by
 injection h
section
variable {X:Cx} {N':List Str} {M:List (Option Nat)} {scope:Scope} {tg elt iter:Expr} {ifs:List Expr} {pos:Pos} {g:TG} {tc:TT} {te:TE} {wi:TI}
theorem LG {pins:List (Addr × Obj)} {σ:St} {H:Hp} {s:Shared} (S:LR X.N N' M scope X.env.scope) (I:Inv X pins σ H s) :
  ∃ cl,closureFor scope X.env=pure cl/\(∀ y c,(y,c) ∈ cl->X.env.cells.lookup y=some c)/\(∀ y c,cl.lookup y=some c->X.env.cells.lookup y=some c)/\(∀ y,(y,NameKind.free) ∈ scope.names -> ∃ c,cl.lookup y=some c):= by
 have hh : ∀ y ∈ scope.names,y.2=NameKind.free -> ∃ c,X.env.cells.lookup y.1=some c:=fun y hy hk=>I.ok.has y.1 (S.fre y hy hk)
 refine AM (Cc (env:=X.env) scope.names [] hh (fun y c e=>by simp at e)) fun cl e q1 q2=>?_
 refine xEA (Co (env:=X.env) scope.names [] hh (fun y c h=>by simp at h) cl e) fun cl2 e2 q0=>?_
 have ecl:cl=cl2:=Gy (e.symm.trans e2)
 subst ecl
 refine ⟨cl,?_,q0,q1,fun y hy=>q2 y (.inr hy)⟩
 unfold closureFor
 dsimp only
 rw[show (forIn scope.names ([]:List (Str × Addr)) fun x r=>(match x with
   | (name,kind)=>if (kind==NameKind.free)=true then (do let a <- cellOf X.env name;pure (ForInStep.yield ((name,a)::r))) else pure (ForInStep.yield r)):Sem (List (Str × Addr)))=pure cl from e]
 rfl
theorem NQ (S:LR X.N N' M scope X.env.scope) (hc:X.calm=true) (hi:PI X tg iter wi) (hg : ∀ cl C s H fp,PG (HN X N' scope cl C s H fp) tg g) (hf:Frm M g)
  (ht : ∀ cl C s H fp,PTs (HN X N' scope cl C s H fp) ifs tc) (he : ∀ cl C s H fp,PE (HN X N' scope cl C s H fp) elt te)
  (hs : ∀ x,foldedSetIterable iter X.env x=pure x:=by intro _;rfl) :
  PE X (.ListComp elt [⟨tg,iter,ifs,0⟩] scope pos) (fun σ H Q=>tLc wi M g tc te σ H fun ys H'=>∀ p,H' p=none->Q (.ref p) (upd H' p (.lst ys))):= by
 intro pins s σ H Q I h
 refine Qz (LG S I) fun cl hclos q0 q1 q2=>?_
 rw[eval_ListComp]
 refine wpAny_comprehension_free (use:=none) rfl hs hclos S.kind S.own (thn (hi pins s σ H _ I h) fun v s1 h1=>thn h1 fun itv s2 h2=>?_)
 refine IX h2 fun it fp tn J H2 e I2 T st2 f2 hw=>?_
 subst e
 refine Js (RR:=fun acc C=>compPost (model X.prog X.w) X.A X.xe none (EP X pins σ Q) acc C) S hc q0 q1 q2 hg hf ht he I2 T st2 f2 hw ?_
 intro D C s' H' ys I' dn hD hC ⟨m,hn⟩ hCn q
 refine xA3 (I2.young (Nat.le_of_lt hC)) fun y1 y2 y3 y4=>?_
 exact ⟨m,hn,fun h' hs'=>⟨.ref D,_,I'.gone (s':=s') hs' hCn y1 y2 y3 y4,rfl,q D dn⟩⟩
end
noncomputable def Mm (N N':List Str) (M:List (Option Nat)) (sc osc:Scope):Bool:=
 (sc.kind == .function)&&(N'.length==M.length)&&(sc.names.all fun y=>y.2 != NameKind.cell||sc.names.lookup y.1==some NameKind.cell)&&(sc.names.all fun y=>y.2 != NameKind.local||sc.names.lookup y.1==some NameKind.local) &&
 (sc.names.all fun y=>y.2 != NameKind.free||(osc.names.lookup y.1==some NameKind.cell||osc.names.lookup y.1==some NameKind.free)) &&
 ((N'.zip M).all fun p=>match p.2 with | none=>true | some j=>N[j]?==some p.1&&sc.names.lookup p.1==some NameKind.free)
theorem L7 {N N':List Str} {M:List (Option Nat)} {sc osc:Scope} (h:Mm N N' M sc osc=true):LR N N' M sc osc:= by
 unfold Mm at h
 simp only [Bool.and_eq_true] at h
 obtain ⟨⟨⟨⟨⟨h1,h2⟩,h3⟩,h4⟩,h5⟩,h6⟩:=h
 have hl:N'.length=M.length:=by simpa using h2
 have one : ∀ {k:NameKind} (hh:(sc.names.all fun y=>y.2 != k||sc.names.lookup y.1==some k)=true),∀ y ∈ sc.names,y.2=k->sc.names.lookup y.1=some k:=fun {k} hh y hy hk=>by
  have q:=List.all_eq_true.mp hh y hy
  rw[Bool.or_eq_true] at q
  rcases q with q | q
  ·exact absurd hk (Jp q)
  ·exact CM q
 refine ⟨?_,hl,one h3,one h4,fun y hy hk=>?_,fun i j e=>?_⟩
 ·revert h1;cases sc.kind <;> intro h1 <;> first | rfl | exact absurd h1 (by decide)
 ·have q:=List.all_eq_true.mp h5 y hy
  rw[Bool.or_eq_true,Bool.or_eq_true] at q
  rcases q with q | q | q
  ·exact absurd hk (Jp q)
  ·exact .inl (CM q)
  ·exact .inr (CM q)
 ·have hi:i<M.length:=(List.getElem?_eq_some_iff.mp e).1
  have hi':i<N'.length:=by rw[hl];exact hi
  have em:(N'[i],some j) ∈ N'.zip M:= by
   refine List.mem_iff_getElem?.mpr ⟨i,?_⟩
   rw[List.getElem?_zip_eq_some]
   exact ⟨List.getElem?_eq_getElem hi',e⟩
  have q:=List.all_eq_true.mp h6 _ em
  simp only [Bool.and_eq_true] at q
  exact ⟨N'[i],List.getElem?_eq_getElem hi',by simpa using q.1,CM q.2⟩
def Qv (wi:TI) (M:List (Option Nat)) (g:TG) (tc:TT) (te:TE):TE:=fun σ H Q=>tLc wi M g tc te σ H fun ys H'=>∀ p,H' p=none->Q (.ref p) (upd H' p (.lst ys))
theorem Oc {X:Cx} {N':List Str} {M:List (Option Nat)} {scope:Scope} {tg elt iter:Expr} {ifs:List Expr} {pos:Pos} {g:TG} {tc:TT} {te:TE} {wi:TI} (S:L9 X.N N' M scope X.env.scope) (hc:X.calm=true) (hi:PI X tg iter wi) (hg : ∀ cl C s H fp,PG (DB X N' scope cl C s H fp) tg g) (hf:Frm M g)
  (ht : ∀ cl C s H fp,PTs (DB X N' scope cl C s H fp) ifs tc) (he : ∀ cl C s H fp,PE (DB X N' scope cl C s H fp) elt te)
  (hs : ∀ x,foldedSetIterable iter X.env x=pure x:=by intro _;rfl):PE X (.ListComp elt [⟨tg,iter,ifs,0⟩] scope pos) (Qv wi M g tc te):=BS S hc hi hg hf ht he hs
end L2
namespace L2
open PySem
theorem AZ {α:Type} {l:List α} {i:Nat} (h:i<l.length) (d:α):l.getD i d=l[i]:=by rw[List.getD_eq_getElem?_getD,List.getElem?_eq_getElem h];rfl
theorem BF {α:Type} {l m:List α} {i:Nat} (h:i<l.length) (d:α):(l++m).getD i d=l.getD i d:= by
 rw[List.getD_eq_getElem?_getD,List.getElem?_append_left h,List.getD_eq_getElem?_getD]
theorem Gf {α:Type} (l:List α) (x:α) (d:α):(l++[x]).getD l.length d=x:= by
 rw[List.getD_eq_getElem?_getD,List.getElem?_append_right (Nat.le_refl _),Nat.sub_self];rfl
theorem A9 {l:List Int} {z:Int}:z ∈ l ↔ ∃ i,i<l.length/\l.getD i 0=z:= by
 constructor
 ·intro h
  obtain ⟨i,hi,e⟩:=List.getElem_of_mem h
  exact ⟨i,hi,by rw[AZ hi];exact e⟩
 ·rintro ⟨i,hi,e⟩
  rw[AZ hi] at e
  exact e ▸ List.getElem_mem hi
theorem CH {xs:List Int} {i:Nat} (h:i<xs.length):(Ax xs).getD i 0=((Bi xs).idxOf (xs.getD i 0):Int):= by
 unfold Ax
 rw[List.getD_eq_getElem?_getD,List.getElem?_map,AZ h,List.getElem?_eq_getElem h];rfl
theorem BB {xs:List Int} {i j:Nat} (hi:i<xs.length) (hj:j<xs.length):(Ax xs).getD i 0=(Ax xs).getD j 0 ↔ xs.getD i 0=xs.getD j 0:= by
 rw[CH hi,CH hj]
 have mi:xs.getD i 0 ∈ Bi xs:=(A8 xs _).mpr (A9.mpr ⟨i,hi,rfl⟩)
 have mj:xs.getD j 0 ∈ Bi xs:=(A8 xs _).mpr (A9.mpr ⟨j,hj,rfl⟩)
 refine ⟨fun e=>?_,fun e=>by rw[e]⟩
 have e:(Bi xs).idxOf (xs.getD i 0)=(Bi xs).idxOf (xs.getD j 0):=Int.ofNat.inj e
 have a:=List.getElem_idxOf (List.idxOf_lt_length_of_mem mi)
 have b:=List.getElem_idxOf (List.idxOf_lt_length_of_mem mj)
 rw[<- a,<- b]
 congr 1
theorem EZ : ∀ (n:Nat) (xs ys:List Int),xs.length=n->ys.length=n->(∀ i j,i<n->j<n->(xs.getD i 0=xs.getD j 0 ↔ ys.getD i 0=ys.getD j 0))->Ax xs=Ax ys
 | 0,xs,ys,hx,hy,_=>by rw[List.length_eq_zero_iff.mp hx,List.length_eq_zero_iff.mp hy]
 | n+1,xs,ys,hx,hy,h=>by
  have nx:xs≠[]:=by intro e;rw[e] at hx;simp at hx
  have ny:ys≠[]:=by intro e;rw[e] at hy;simp at hy
  have ex:=(List.dropLast_concat_getLast nx).symm
  have ey:=(List.dropLast_concat_getLast ny).symm
  generalize xs.dropLast=x' at ex
  generalize ys.dropLast=y' at ey
  generalize xs.getLast nx=x at ex
  generalize ys.getLast ny=y at ey
  subst ex ey
  have lx:x'.length=n:=by simpa using hx
  have ly:y'.length=n:=by simpa using hy
  have ih:=EZ n x' y' lx ly (fun i j hi hj=>by
   have:=h i j (by lia) (by lia)
   rw[BF (by lia),BF (by lia),BF (by lia),BF (by lia)] at this
   exact this)
  have last : ∀ i,i<n->(x'.getD i 0=x ↔ y'.getD i 0=y):=fun i hi=>by
   have:=h i n (by lia) (by lia)
   rw[BF (l:=x') (i:=i) (by lia),BF (l:=y') (i:=i) (by lia)] at this
   have e1:(x'++[x]).getD n 0=x:=by rw[<- lx];exact Gf x' x 0
   have e2:(y'++[y]).getD n 0=y:=by rw[<- ly];exact Gf y' y 0
   rw[e1,e2] at this
   exact this
  rw[BH,BH,ih]
  congr 3
  by_cases hm:x ∈ x'
  ·obtain ⟨i,hi,e⟩:=A9.mp hm
   have e2:=(last i (by lia)).mp e
   have hm2:y ∈ y':=A9.mpr ⟨i,by lia,e2⟩
   rw[B0 ((A8 x' x).mpr hm),B0 ((A8 y' y).mpr hm2)]
   have a:=CH (xs:=x') (i:=i) hi
   have b:=CH (xs:=y') (i:=i) (by lia)
   rw[ih,b,e,e2] at a
   exact (Int.ofNat.inj a).symm
  ·have hm2:y ∉ y':=fun z=>by
    obtain ⟨i,hi,e⟩:=A9.mp z
    exact hm (A9.mpr ⟨i,by lia,(last i (by lia)).mpr e⟩)
   rw[CS (fun z=>hm ((A8 x' x).mp z)),CS (fun z=>hm2 ((A8 y' y).mp z))]
   have a:=(B8 x').2
   have b:=(B8 y').2
   rw[ih,b] at a
   exact (Int.ofNat.inj a).symm
theorem MK {ws xs:List Int} {n:Nat} (hw:AF 0 ws=true) (hl:ws.length=n) (hx:xs.length=n) (h : ∀ i j,i<n->j<n->(xs.getD i 0=xs.getD j 0 ↔ ws.getD i 0=ws.getD j 0)):Ax xs=ws:= by
 rw[EZ n xs ws hx hl h]
 exact (Cm ws hw).1
def Within (n:Nat) (xs ys:List Int):Prop:=∀ i j,i<n->j<n->xs.getD i 0=xs.getD j 0->ys.getD i 0=ys.getD j 0
theorem HV (ws:List Int):AF 0 ws=true -> ∀ z,z ∈ ws ↔ 0<=z/\z<fresh 0 ws:= by
 refine AD (P:=fun ws=>AF 0 ws=true -> ∀ z,z ∈ ws ↔ 0<=z/\z<fresh 0 ws) (fun _ z=>by simp [fresh] <;> omega) (fun ws y ih h z=>?_) ws
 rw[AX,Bool.and_eq_true,Bool.and_eq_true] at h
 refine xA2 h fun h1 h2 h3=>?_
 have h2:=of_decide_eq_true h2
 have h3:=of_decide_eq_true h3
 have ih:=ih h1 z
 have f0:0<=fresh 0 ws:=by have:=(C0 ws h1).2 (-1) List.mem_cons_self;omega
 rw[List.mem_append,List.mem_singleton,ih,BG]
 split <;> omega
theorem Bf (ws:List Int):fresh 0 ws<=ws.length:= by
 refine AD (P:=fun ws=>fresh 0 ws<=(ws.length:Int)) (by show (0:Int)<=_;simp) (fun xs z ih=>?_) ws
 rw[BG,List.length_append]
 show _<=((xs.length+1:Nat):Int)
 split <;> lia
theorem BA {ws:List Int} (hw:As ws=true) {i:Nat} (h:i<ws.length):0<=ws.getD i 0/\ws.getD i 0<9/\ws.getD i 0<fresh 0 ws:= by
 refine xA2 (Am.mp hw) fun w1 w9 w0=>?_
 have hf:=(HV ws w0 (ws.getD i 0)).mp (A9.mpr ⟨i,h,rfl⟩)
 have:=Bf ws
 exact ⟨hf.1,by lia,hf.2⟩
theorem Ej {ws vs:List Int} {n:Nat} (hw:As ws=true) (hv:As vs=true) (e1:ws.length=n) (e2:vs.length=n) (h1:Within n ws vs) (h2:Within n vs ws):ws=vs:= by
 have:=MK (Am.mp hv).2.2 e2 e1 fun i j hi hj=>⟨fun e=>h1 i j hi hj e,fun e=>h2 i j hi hj e⟩
 rw[<- this]
 exact ((Cm ws (Am.mp hw).2.2).1).symm
noncomputable def EB (L:List Int) (old new:Int):List Int:=L.map fun l=>if l=old then new else l
theorem AK (L:List Int) (o n:Int):(EB L o n).length=L.length:=by unfold EB;simp
theorem CP {L:List Int} {o n:Int} {i:Nat} (h:i<L.length):(EB L o n).getD i 0=if L.getD i 0=o then n else L.getD i 0:= by
 unfold EB
 rw[List.getD_eq_getElem?_getD,List.getElem?_map,AZ h,List.getElem?_eq_getElem h];rfl
noncomputable def mg (L:List Int) (p:Nat × Nat):List Int:=EB L (L.getD p.2 0) (L.getD p.1 0)
theorem Bx (L:List Int) (p:Nat × Nat):(mg L p).length=L.length:=AK ..
theorem Ir {L:List Int} {p:Nat × Nat} {g:Nat->Int} (h1:p.1<L.length) (h2:p.2<L.length) (hg : ∀ i j,i<L.length->j<L.length->L.getD i 0=L.getD j 0->g i=g j) (hp:g p.1=g p.2) :
  ∀ i j,i<L.length->j<L.length->(mg L p).getD i 0=(mg L p).getD j 0->g i=g j:=fun i j hi hj h=>by
 unfold mg at h
 rw[CP hi,CP hj] at h
 by_cases ei:L.getD i 0=L.getD p.2 0
 ·rw[if_pos ei] at h
  have gi:=hg i p.2 hi h2 ei
  by_cases ej:L.getD j 0=L.getD p.2 0
  ·rw[gi,hg j p.2 hj h2 ej]
  ·rw[if_neg ej] at h
   rw[gi,<- hp,hg p.1 j h1 hj h]
 ·rw[if_neg ei] at h
  by_cases ej:L.getD j 0=L.getD p.2 0
  ·rw[if_pos ej] at h
   rw[hg j p.2 hj h2 ej,<- hp,hg i p.1 hi h1 h]
  ·rw[if_neg ej] at h
   exact hg i j hi hj h
noncomputable def FD (ws:List Int) (k:Int) (i:Nat):List Nat:=(List.range i).filter fun j=>decide (ws.getD j 0=k)
noncomputable def BR (ws:List Int) (k:Int) (i:Nat):List Int:=(FD ws k i).map fun (j:Nat)=>(j:Int)
theorem JF (ws:List Int) (k:Int) (i:Nat):FD ws k (i+1)=if ws.getD i 0=k then FD ws k i++[i] else FD ws k i:= by
 unfold FD
 rw[List.range_succ,List.filter_append]
 by_cases h:ws.getD i 0=k
 ·rw[if_pos h];rw[List.getD_eq_getElem?_getD] at h;simp [h]
 ·rw[if_neg h];rw[List.getD_eq_getElem?_getD] at h;simp [h]
theorem GP (ws:List Int) (k:Int) (i:Nat):BR ws k (i+1)=if ws.getD i 0=k then BR ws k i++[(i:Int)] else BR ws k i:= by
 unfold BR
 rw[JF]
 split <;> simp
theorem BP {ws:List Int} {k:Int} {i j:Nat}:j ∈ FD ws k i ↔ j<i/\ws.getD j 0=k:= by
 unfold FD;simp
theorem Bw (ws:List Int) (k:Int) (i:Nat):(FD ws k i).length<=i:= by
 unfold FD
 have:=List.length_filter_le (fun j=>decide (ws.getD j 0=k)) (List.range i)
 simpa using this
theorem Cp (ws:List Int) (k:Int) (i:Nat):(BR ws k i).length=(FD ws k i).length:=by unfold BR;simp
theorem MR {ws:List Int} (hw:As ws=true) {k:Nat} (hk:k<(fresh 0 ws).toNat):FD ws (k:Int) ws.length≠[]:=fun e=>by
 obtain ⟨w1,w9,w0⟩:=Am.mp hw
 have:(k:Int) ∈ ws:=(HV ws w0 k).mpr ⟨by lia,by lia⟩
 obtain ⟨i,hi,ei⟩:=A9.mp this
 have hm:i ∈ FD ws (k:Int) ws.length:=BP.mpr ⟨hi,ei⟩
 rw[e] at hm
 simp at hm
end L2
namespace L2
open PySem
theorem BY {qs:List Addr} {j:Nat} {y:V} (h:(qs.map V.ref)[j]?=some y) : ∃ q,y=V.ref q/\qs[j]?=some q/\j<qs.length:= by
 rw[List.getElem?_map] at h
 cases e:qs[j]? with
 | none=>rw[e] at h;cases h
 | some q=>rw[e] at h;exact ⟨q,(Option.some.inj h).symm,rfl,(List.getElem?_eq_some_iff.mp e).1⟩
theorem HM {qs:List Addr} {j:Nat} {q:Addr} (h:qs[j]?=some q):atI (qs.map V.ref) (j:Int)=some (V.ref q):=FG (by rw[List.getElem?_map,h];rfl)
theorem GH : ∀ {qs:List Addr},qs.Nodup -> ∀ {i j:Nat} {q:Addr},qs[i]?=some q->qs[j]?=some q->i=j
 | [],_,i,j,q,a,b=>by simp at a
 | x::qs,h,0,0,q,a,b=>rfl
 | x::qs,h,0,j+1,q,a,b=>by
  have a:x=q:=by simpa using a
  have b:qs[j]?=some q:=by simpa using b
  exact absurd (List.mem_of_getElem? b) (a ▸ (List.nodup_cons.mp h).1)
 | x::qs,h,i+1,0,q,a,b=>by
  have b:x=q:=by simpa using b
  have a:qs[i]?=some q:=by simpa using a
  exact absurd (List.mem_of_getElem? a) (b ▸ (List.nodup_cons.mp h).1)
 | x::qs,h,i+1,j+1,q,a,b=>by
  rw[GH (List.nodup_cons.mp h).2 (i:=i) (j:=j) (by simpa using a) (by simpa using b)]
end L2
namespace L2
open PySem
end L2
namespace L2
open PySem PySem.Spec PyProof.Rows
section
variable {X:Cx} {K:PySem.W.Frag} {pos:Pos}
theorem Eb {es:List Expr} {k:Nat} {t:TGs} {n:Nat} (hc:X.calm=true) (h:PGs X es t)
  (hn:(assignEach es X.env).length=n:=by rfl) (hst:(assignEach es X.env).findIdx? (·.1)=none:=by rfl) (hK:X.K=K:=by rfl):PG X (.Tuple es k pos) (Pa K n t):= by
 subst hK;exact OH hc h hn hst
theorem Mu {es:List Expr} {k:Nat} {t:TGs} {n:Nat} (hc:X.calm=true) (h:PGs X es t)
  (hn:(assignEach es X.env).length=n:=by rfl) (hst:(assignEach es X.env).findIdx? (·.1)=none:=by rfl) (hK:X.K=K:=by rfl):PG X (.Tuple es k pos) (Qa K n t):= by
 subst hK;exact ND hc h hn hst
theorem Fx {M:List (Option Nat)} {n:Nat} (h0:M[0]?=some none:=by rfl) (h1:M[1]?=some none:=by rfl):Frm M (Pa K n (Nf (Fe 0) (Nf (Fe 1) PM))):=fun v σ H Q q=>by
 obtain ⟨a,xs,e,hq,hl,v1,r,e1,v2,r2,e2,e3,q⟩:=q
 refine ⟨a,xs,e,hq,hl,v1,r,e1,v2,r2,e2,e3,q,by rw[List.length_set,List.length_set],fun k j ek=>?_⟩
 have n0:0≠k:=by rintro rfl;rw[h0] at ek;cases ek
 have n1:1≠k:=by rintro rfl;rw[h1] at ek;cases ek
 rw[List.getElem?_set_ne n1,List.getElem?_set_ne n0]
end
end L2
namespace L2
open PySem
theorem lcY {te:TE} {σ:St} {H:Hp} {N:V->Hp->Prop} {N':Hp->Prop} (h:te σ H N):NO σ H (fun b H3=>if b=true then te σ H3 N else N' H3):= by
 unfold NO
 exact Jj h
end L2
namespace L2
open PySem PySem.Spec PyProof.Rows
noncomputable def IK (e:Expr) (dep:Nat) (tg iter:Expr) (ifs:List Expr) (it acc:Value) (env:Env) (EM:Sem Unit):Sem Fin:=do
   standAt iter.pos
   match <- pyNext it with
   | none=>pure (.done .next)
   | some v=>
    letOwnedTupleGo tg it v
    assign tg env v
    let mut ok:=true
    for c in ifs do
     if ok then ok <- isTrue c env (eval c env)
    if ok then EM
    again (.compLoop e dep it acc env)
noncomputable def Mx (elt : Expr) (acc : Value) (env : Env) : Sem Unit:=(do let _ <- call (.builtin "list.append") [acc,<- eval elt env])
noncomputable def OI (e iter2:Expr) (acc:Value) (env:Env):Sem Unit:=(do
    let x <- eval iter2 env
    standAt iter2.pos
    let x <- foldedSetIterable iter2 env x
    let _ <- runOwn (.compStart e 1 (<- holding [x] (pyIter x)) acc env) env)
theorem Kb (elt:Expr) (g0:Comprehension) (tg iter:Expr) (ifs:List Expr) (scope:Scope) (pos:Pos) (it acc:Value) (env:Env) :
  compTurn (.ListComp elt [g0,⟨tg,iter,ifs,0⟩] scope pos) 1 it acc env=IK (.ListComp elt [g0,⟨tg,iter,ifs,0⟩] scope pos) 1 tg iter ifs it acc env (Mx elt acc env):=by rfl
noncomputable def M8 (e:Expr) (tg iter iter2:Expr) (ifs:List Expr) (it acc:Value) (env:Env):Sem Fin:=do
   standAt iter.pos
   match <- pyNext it with
   | none=>pure (.done .next)
   | some v=>
    letOwnedTupleGo tg it v
    assign tg env v
    let mut ok:=true
    for c in ifs do
     if ok then ok <- isTrue c env (eval c env)
    if ok then
     let x <- eval iter2 env
     standAt iter2.pos
     let x <- foldedSetIterable iter2 env x
     let _ <- runOwn (.compStart e 1 (<- holding [x] (pyIter x)) acc env) env
    again (.compLoop e 0 it acc env)
theorem HJ (elt:Expr) (tg iter tg2 iter2:Expr) (ifs ifs2:List Expr) (scope:Scope) (pos:Pos) (it acc:Value) (env:Env) :
  compTurn (.ListComp elt [⟨tg,iter,ifs,0⟩,⟨tg2,iter2,ifs2,0⟩] scope pos) 0 it acc env=M8 (.ListComp elt [⟨tg,iter,ifs,0⟩,⟨tg2,iter2,ifs2,0⟩] scope pos) tg iter iter2 ifs it acc env:=by rfl
theorem Lq (e:Expr) (tg iter iter2:Expr) (ifs:List Expr) (it acc:Value) (env:Env):M8 e tg iter iter2 ifs it acc env=IK e 0 tg iter ifs it acc env (OI e iter2 acc env):= by
 unfold M8 IK OI
 simp only [bind_assoc,pure_bind]
section
variable {prog:Program} {w:World} {A:Around} {R:Result->Shared->Prop} {s:Shared}
theorem G7 {e tg iter:Expr} {ifs:List Expr} {dep:Nat} {it acc:Value} {env:Env} {EM:Sem Unit} (hq:(Code.compLoop e dep it acc env).quiet=true) (hfr:(Code.compLoop e dep it acc env).isFrame=false)
  (heq:compTurn e dep it acc env=IK e dep tg iter ifs it acc env EM) (hu:A.under (.compLoop e dep it acc env)=A) (Iv:Nat->Shared->Prop)
  (turn : ∀ n s,Iv n s->wpAny (model prog w) A (pyNext it) (fun r s₁=>match r with
   | none=>R (.ok .next) s₁
   | some v=>wpAny (model prog w) A (letOwnedTupleGo tg it v) (fun _ s₁'=>wpAny (model prog w) A (assign tg env v) (fun _ s₂=>
     wpAny (model prog w) A (forIn ifs true fun c r=>if r=true then do let ok <- isTrue c env (eval c env);pure (ForInStep.yield ok) else pure (ForInStep.yield r)) (fun ok s₃=>
      if ok=true then wpAny (model prog w) A EM (fun _ s₅=>∃ m,m<n/\Iv m s₅) (fun _ _=>False) s₃
      else ∃ m,m<n/\Iv m s₃) (fun _ _=>False) s₂) (fun _ _=>False) s₁') (fun _ _=>False) s₁) (fun _ _=>False) s)
  (n:Nat) (h:Iv n s) :
  codeAny (model prog w) A (.compLoop e dep it acc env) R s:= by
 refine codeAny_loop hq Iv (fun n s hI=>?_) n h
 rw[hu]
 have hden:(model prog w).den (.compLoop e dep it acc env)=(compTurn e dep it acc env).onRaise (fun x=>do noteFrame x env;theTreesLotGoes x):= by
  show (if (Code.compLoop e dep it acc env).isFrame then _ else _)=_
  rw[hfr];rfl
 rw[hden]
 refine wpAny_noted ?_
 rw[heq]
 unfold IK
 refine wpAny_bind (wpAny_standAt (wpAny_bind (wpAny_mono (turn n s hI) (fun r s₁ h₁=>?_) fun _ _ z=>z.elim)))
 cases r with
 | none=>exact wpAny_pure h₁
 | some v=>
  refine wpAny_bind (wpAny_mono h₁ (fun _ s₁' h₁'=>?_) fun _ _ z=>z.elim)
  refine wpAny_bind (wpAny_mono h₁' (fun _ s₂ h₂=>wpAny_bind (wpAny_mono h₂ (fun ok s₃ h₃=>?_) fun _ _ z=>z.elim)) fun _ _ z=>z.elim)
  cases ok with
  | false=>exact wpAny_pure ⟨rfl,h₃⟩
  | true=>
   exact wpAny_bind (wpAny_mono h₃ (fun _ s₅ h₅=>wpAny_pure ⟨rfl,h₅⟩) fun _ _ z=>z.elim)
theorem B4 {elt target iter ifs g0 scope pos it acc env}
  (h0:codeAny (model prog w) A (.compLoop (.ListComp elt [g0,⟨target,iter,ifs,0⟩] scope pos) 1 it acc env) R s)
  (h:wpAny (model prog w) A (pyIter it) (fun it' s'=>codeAny (model prog w) A (.compLoop (.ListComp elt [g0,⟨target,iter,ifs,0⟩] scope pos) 1 it' acc env) R s')
   (notedBy (model prog w) A env fun x s'=>R (.error x) s') s) :
  codeAny (model prog w) A (.compStart (.ListComp elt [g0,⟨target,iter,ifs,0⟩] scope pos) 1 it acc env) R s:= by
 refine codeAny_of_tree ?_
 show wpAny _ _ ((compStart (.ListComp elt [g0,⟨target,iter,ifs,0⟩] scope pos) 1 it acc env).onRaise (fun x=>do noteFrame x env;standAt theWindowsPlace)) _ _ s
 refine wpAny_notedAt ?_
 unfold compStart
 show wpAny _ _ (ask >>= _) _ _ s
 refine wpAny_bind (wpAny_askSetting (wpAny_ite ?_))
 split
 ·first
   | exact wpAny_bind (wpAny_pure (wpAny_pure (And.intro rfl h0)))
   | exact wpAny_pure (And.intro rfl h0)
 ·first
   | exact wpAny_bind (wpAny_rule (wpAny_bind (wpAny_standAt (wpAny_bind (wpAny_mono h (fun it' s' h'=>wpAny_pure (And.intro rfl h')) fun _ _ x=>x)))))
   | (refine wpAny_bind (wpAny_rule ?_);show wpAny _ _ (standAt iter.pos >>= _) _ _ s;exact wpAny_bind (wpAny_standAt (wpAny_bind (wpAny_mono h (fun it' s' h'=>wpAny_pure (And.intro rfl h')) fun _ _ x=>x))))
end
def Own (ks:List Nat) (g:TG):Prop:=∀ v σ H Q,g v σ H Q->g v σ H fun σ' H'=>Q σ' H'/\σ'.length=σ.length /\ ∀ i,i ∉ ks->σ'[i]?=σ[i]?
theorem Il {i:Nat}:Own [i] (Fe i):=fun v σ H Q q=>by
 refine ⟨q,List.length_set ..,fun k hk=>?_⟩
 exact List.getElem?_set_ne fun e=>hk (by rw[e];exact List.mem_singleton.mpr rfl)
def Acc (h : Heap) (D : Addr) (ys : List V) : Prop:=∃ (its : List Value) (k : Nat),AH ys its /\ h.get? D = some { cls:=.type "list",data:=.seq its.toArray k }
noncomputable abbrev TM:=St->Hp->List V->(List V->Hp->Prop)->Prop
def PEm (X:Cx) (D:Addr) (EM:Sem Unit) (Z:St->Prop) (tm:TM):Prop:=
 ∀ (pins:List (Addr × Obj)) (s:Shared) (σ:St) (H:Hp) (ys:List V) (Q:List V->Hp->Prop),Inv X pins σ H s->DL X pins H D->Acc s.heap D ys->ys.length<=sizeLine->Z σ->tm σ H ys Q ->
  wpAny (model X.prog X.w) X.A EM (fun _ s'=>∃ H' ys',Inv X pins σ H' s'/\H' D=none/\Acc s'.heap D ys'/\Q ys' H') X.xe s
def Oj (te:TE):TM:=fun σ H ys Q=>ys.length<sizeLine/\te σ H fun v H'=>Q (ys++[v]) H'
section
variable {X:Cx}
theorem Acc.pin {pins : List (Addr × Obj)} {σ : St} {H : Hp} {s : Shared} {D : Addr} {its : List Value} {k : Nat} (I : Inv X pins σ H s) (f : DL X pins H D) (e : s.heap.get? D = some { cls:=.type "list",data:=.seq its.toArray k }) : Inv X (pins ++ [(D,{ cls:=.type "list",data:=.seq its.toArray k })]) σ H s:=
 I.pins_of fun p hp=>(List.mem_append.mp hp).elim (fun z=>I.pin p (List.mem_append_right _ z)) fun z=>by
  have e' : p = (D,{ cls:=.type "list",data:=.seq its.toArray k }):=by simpa using z
  subst e'
  exact ⟨e,f.1,f.2.1,f.2.2.1,fun v z=>by cases z⟩
theorem Mv {D:Addr} {elt:Expr} {te:TE} {Z:St->Prop} (he:PE X elt te):PEm X D (Mx elt (.ref D) X.env) Z (Oj te):= by
 intro pins s σ H ys Q I f ⟨its,k,rv,hD⟩ hsz _ ⟨hlt,q⟩
 have I':=Acc.pin I f hD
 unfold Mx
 refine wpAny_bind (thn (he _ s σ H _ I' q) fun v8 s8 h91=>?_)
 refine Ar h91 fun y8 H8 J8 r8 n8=>?_
 refine xA2 (J8.pin _ (List.mem_append_right _ (List.mem_append_right _ (List.mem_singleton.mpr rfl)))) fun p1 p2 _=>?_
 have J9:Inv X pins σ H8 s8:=J8.unpinned
 refine wpAny_bind (wpAny_list_append_plain (items:=its.toArray) ⟨k,p1⟩ (fun h9 hl9 hs9=>wpAny_pure ?_) (by have:=rv.length;rw[List.size_toArray,<- this];exact hsz))
 have Jt:Inv X pins σ H8 { s8 with heap:=h9 }:=J9.turned (t':=s8.toks) (fun b o hb e=>(hs9.2 b hb).trans e) p2 f.2.1 f.2.2.2.1 f.2.2.2.2.1 f.2.2.2.2.2
 refine xE hl9 fun k9 e9=>?_
 refine ⟨H8,ys++[y8],Jt,p2,⟨its++[v8],k9,rv.append (.cons r8 .nil),?_⟩,n8⟩
 rw[show (its++[v8]).toArray=its.toArray.push v8 by simp]
 exact e9
def LcW (J:It) (g:TG) (tc:TT) (tm:TM) (σ0:St) (ys0:List V) (H0:Hp) (F:List V->Hp->Prop):Prop:=
 ∃ W:Nat->Nat->List V->Hp->Prop,(∃ m,W 0 m ys0 H0) /\ ∀ i m ys H,W i m ys H->ys.length<=sizeLine /\
  ((J.stop i H/\F ys H)\/(J.go i H /\ ∃ N:List V->Hp->Prop,(∀ ys' H',N ys' H' -> ∃ m',m'<m/\W (i+1) m' ys' H') /\ ∀ x H',J.yld i H x H'->g x σ0 H' fun σ2 H2=>tc σ2 H2 fun b H3=>
   if b=true then tm σ2 H3 ys N else N ys H3))
theorem JL {e tg iter:Expr} {ifs:List Expr} {dep:Nat} {EM:Sem Unit} {ks:List Nat} {Z:St->Prop} {g:TG} {tc:TT} {tm:TM} {pins:List (Addr × Obj)} {σ0:St} {H2:Hp} {s2:Shared} {it D:Addr} {fp:List Addr} {tn:Nat->Heap->Prop} {J:It} {F:List V->Hp->Prop} {R:Result->Shared->Prop} {ys0:List V}
  (hq:(Code.compLoop e dep (.ref it) (.ref D) X.env).quiet=true) (hfr:(Code.compLoop e dep (.ref it) (.ref D) X.env).isFrame=false) (heq:compTurn e dep (.ref it) (.ref D) X.env=IK e dep tg iter ifs (.ref it) (.ref D) X.env EM) (hu:X.A.under (.compLoop e dep (.ref it) (.ref D) X.env)=X.A)
  (hc:X.calm=true) (xE : ∀ v s',¬ X.xe v s') (hg:PG X tg g) (ho:Own ks g) (hks : ∀ i v,σ0[i]?=some (some v)->i ∉ ks) (hZ : ∀ σ':St,(∀ i,i ∉ ks->σ'[i]?=σ0[i]?)->Z σ') (ht:PTs X ifs tc) (hem:PEm X D EM Z tm)
  (I2:Inv X pins σ0 H2 s2) (T:Le X.prog X.w X.K tg J fp it tn) (st2:tn 0 s2.heap) (f2 : ∀ b ∈ fp,DL X pins H2 b) (fD:DL X pins H2 D) (aD:Acc s2.heap D ys0) (Dfp:D ∉ fp)
  (hw:LcW J g tc tm σ0 ys0 H2 F) (hend : ∀ (s':Shared) (H':Hp) (ys:List V),Inv X pins σ0 H' s'->H' D=none->Acc s'.heap D ys->ys.length<=sizeLine->(∀ b ∈ fp,H' b=none)->F ys H'->R (.ok .next) s') :
  codeAny (model X.prog X.w) X.A (.compLoop e dep (.ref it) (.ref D) X.env) R s2:= by
 obtain ⟨W,⟨m0,w0⟩,turn⟩:=hw
 have stat : ∀ {pl:List (Addr × Obj)} {H':Hp},(∀ p ∈ pl,p.1=D)->(∀ b ∈ fp,H' b=none) -> ∀ b ∈ fp,DL X (pins++pl) H' b:=fun {pl H'} hpl hn b hb=>by
  refine xA5 (f2 b hb) fun _ a1 a2 a3 a4 a5=>?_
  refine ⟨hn b hb,a1,a2,a3,a4,fun p hp=>?_⟩
  rw[<- List.append_assoc] at hp
  refine Or.elim (List.mem_append.mp hp) (fun z=>?_) fun z=>?_
  ·exact a5 p z
  ·rw[hpl p z];exact fun z=>Dfp (z ▸ hb)
 refine G7 hq hfr heq hu (fun n s'=>∃ i ys H',Inv X pins σ0 H' s'/\tn i s'.heap/\(∀ b ∈ fp,H' b=none)/\Acc s'.heap D ys/\H' D=none/\W i n ys H') ?_ m0
  ⟨0,ys0,H2,I2,st2,fun b hb=>(f2 b hb).1,aD,fD.1,w0⟩
 intro n s3 n90;refine IU n90 fun i ys H3 J3 st3 fr3 n91 dn w3=>Ct n91 fun its k rv hDs=>?_
 refine xA (turn i n ys H3 w3) fun hsz hcase=>?_
 have fD3:DL X pins H3 D:=⟨dn,fD.2⟩
 have J3':=Acc.pin J3 fD3 hDs
 have hpl : ∀ p ∈ [((D,{ cls:=.type "list",data:=.seq its.toArray k }) : Addr × Obj)],p.1 = D:=fun p hp=>by
  have e : p = (D,{ cls:=.type "list",data:=.seq its.toArray k }):=by simpa using hp
  rw[e]
 refine Or.elim hcase (fun n90=>xA n90 fun stop qF=>?_) fun n91=>xA n91 fun go m91=>xEA m91 fun N hN step=>?_
 ·have q:=T.done X rfl rfl rfl hc i _ s3 _ H3 (fun _ _=>False) J3' (stat hpl fr3) st3 stop
  refine thn q fun r s4 h92=>?_
  refine xA h92 fun hr J4=>?_
  subst hr
  have hD4 : s4.heap.get? D = some { cls:=.type "list",data:=.seq its.toArray k }:=(J4.pin _ (List.mem_append_right _ (List.mem_append_right _ (List.mem_singleton.mpr rfl)))).1
  exact hend s4 H3 ys J4.unpinned dn ⟨its,k,rv,hD4⟩ hsz fr3 qF
 ·have q:=T.item X rfl rfl rfl hc i _ s3 _ H3 (fun _ _=>False) J3' (stat hpl fr3) st3 go
  refine thn q fun r s4 h93=>?_
  refine xEA h93 fun u hr h4=>?_
  subst hr
  dsimp only
  refine thn h4 fun _ s5 h94=>?_
  refine Kg h94 fun x H5 J5 r5 y5 st5 fr5=>?_
  have J5':=J5.pinned (stat hpl fr5) (T.obj _ _ st5)
  refine wpAny_mono (hg _ s5 σ0 H5 x u _ J5' r5 (ho _ _ _ _ (step x H5 y5))) (fun _ s6 h6=>?_) fun e s' z=>xE e s' z
  refine CI h6 fun σ6 H6 J6 q6 l6 k6=>?_
  refine wpAny_mono (ht _ s6 σ6 H6 _ J6 q6) (fun b s7 h7=>?_) fun e s' z=>xE e s' z
  refine xEA h7 fun H7 J7 q7=>?_
  have fin : ∀ {pl:List (Addr × Obj)} {H8:Hp} {s8:Shared},Inv X (pl++CU fp s5.heap) σ6 H8 s8->(∀ p ∈ pins,p ∈ pl)->tn (i+1) s8.heap/\(∀ b ∈ fp,H8 b=none)/\Inv X pins σ0 H8 s8:=fun {pl H8 s8} J8 hp=>by
   refine ⟨T.keep _ _ _ st5 fun b hb o e=>(J8.pin (b,o) (List.mem_append_right _ (List.mem_append_right _ (AW hb e)))).1,fun b hb=>?_,?_⟩
   ·refine xEA (T.obj _ _ st5 b hb) fun o e d=>?_
    exact (J8.pin (b,o) (List.mem_append_right _ (List.mem_append_right _ (AW hb e)))).2.1
   ·have J9:Inv X pins σ6 H8 s8:=J8.pins_of fun p hp'=>J8.pin p (List.mem_append_right _ (List.mem_append_left _ (hp p hp')))
    refine J9.weak (l6.symm) fun a v e=>?_
    rw[k6 a (hks a v e)];exact e
  refine xA2 (J7.pin _ (List.mem_append_right _ (List.mem_append_left _ (List.mem_append_right _ (List.mem_singleton.mpr rfl))))) fun p1 p2 _=>?_
  cases b with
  | false=>
   rw[if_neg (by decide)] at q7
   rw[if_neg (by decide)]
   refine xEA (hN _ _ q7) fun m' hm w7=>?_
   refine xA2 (fin J7 (fun p hp=>List.mem_append_left _ hp)) fun a3 a4 a5=>?_
   exact ⟨m',hm,i+1,ys,H7,a5,a3,a4,⟨its,k,rv,p1⟩,p2,w7⟩
  | true=>
   rw[if_pos rfl] at q7
   rw[if_pos rfl]
   have J7':Inv X (pins++CU fp s5.heap) σ6 H7 s7:=J7.pins_of fun p hp=>by
    refine J7.pin p (List.mem_append_right _ ?_)
    refine Or.elim (List.mem_append.mp hp) (fun z=>?_) fun z=>?_
    ·exact List.mem_append_left _ (List.mem_append_left _ z)
    ·exact List.mem_append_right _ z
   have fD7:DL X (pins++CU fp s5.heap) H7 D:= by
    refine xA5 fD fun _ a1 a2 a3 a4 a5=>?_
    refine ⟨p2,a1,a2,a3,a4,fun p hp=>?_⟩
    rw[<- List.append_assoc] at hp
    refine Or.elim (List.mem_append.mp hp) (fun z=>?_) fun z=>?_
    ·exact a5 p z
    ·exact fun e=>Dfp (e ▸ (F0 z).1)
   refine wpAny_mono (hem _ s7 σ6 H7 ys _ J7' fD7 ⟨its,k,rv,p1⟩ hsz (hZ σ6 k6) q7) (fun _ s8 h8=>?_) fun e s' z=>xE e s' z
   refine CI h8 fun H8 ys' J8 d8 a8 n8=>?_
   refine xEA (hN _ _ n8) fun m' hm w8=>?_
   refine xA2 (fin J8 (fun p hp=>hp)) fun a3 a4 a5=>?_
   exact ⟨m',hm,i+1,ys',H8,a5,a3,a4,a8,d8,w8⟩
def OX (wi:TI) (g:TG) (tc:TT) (te:TE):TM:=fun σ H ys Q=>wi σ H fun J H1=>LcW J g tc (Oj te) σ ys H1 Q
theorem Nx {D:Addr} {elt tg iter:Expr} {g0:Comprehension} {ifs:List Expr} {scope:Scope} {pos:Pos} {ks:List Nat} {wi:TI} {g:TG} {tc:TT} {te:TE} (hc:X.calm=true) (xE : ∀ v s',¬ X.xe v s') (hi:PI X tg iter wi) (hg:PG X tg g) (ho:Own ks g) (ht:PTs X ifs tc) (he:PE X elt te)
  (hu : ∀ (it:Value),X.A.under (.compLoop (.ListComp elt [g0,⟨tg,iter,ifs,0⟩] scope pos) 1 it (.ref D) X.env)=X.A) (hs : ∀ x,foldedSetIterable iter X.env x=pure x:=by intro _;rfl) :
  PEm X D (OI (.ListComp elt [g0,⟨tg,iter,ifs,0⟩] scope pos) iter (.ref D) X.env) (fun σ=>∀ i v,σ[i]?=some (some v)->i ∉ ks) (OX wi g tc te):= by
 intro pins s σ H ys Q I f ⟨its,k,rv,hD⟩ hsz hz q
 have I':=Acc.pin I f hD
 unfold OI
 refine wpAny_bind (thn (hi _ s σ H _ I' q) fun v s1 h1=>wpAny_bind (wpAny_standAt (wpAny_bind (wpAny_of_eq (hs v) (wpAny_bind (wpAny_holding (thn h1 fun itv s2 h2=>wpAny_bind (wpAny_runOwn ?_))))))))
 refine IX h2 fun it fp tn J H2 e I2 T st2 f2 hw=>?_
 subst e
 refine xA2 (I2.pin _ (List.mem_append_right _ (List.mem_append_right _ (List.mem_singleton.mpr rfl)))) fun p1 p2 _=>?_
 have fD:DL X pins H2 D:=⟨p2,f.2⟩
 have f2' : ∀ b ∈ fp,DL X pins H2 b:=fun b hb=>by
  refine xA5 (f2 b hb) fun a0 a1 a2 a3 a4 a5=>?_
  exact ⟨a0,a1,a2,a3,a4,fun p hp=>a5 p (by rw[<- List.append_assoc];exact List.mem_append_left _ hp)⟩
 have Dfp : D ∉ fp:=fun z=>(f2 D z).2.2.2.2.2 (D,{ cls:=.type "list",data:=.seq its.toArray k }) (List.mem_append_right _ (List.mem_append_right _ (List.mem_singleton.mpr rfl))) rfl
 have loop:codeAny (model X.prog X.w) X.A (.compLoop (.ListComp elt [g0,⟨tg,iter,ifs,0⟩] scope pos) 1 (.ref it) (.ref D) X.env) (fun r s'=>match r with | .ok f=>wpAny (model X.prog X.w) X.A (pure PUnit.unit:Sem PUnit) (fun _ s'=>∃ H' ys',Inv X pins σ H' s'/\H' D=none/\Acc s'.heap D ys'/\Q ys' H') X.xe s' | .error e=>cameBackBy (model X.prog X.w) X.A X.env X.xe e s') s2:=
  JL (F:=Q) (ks:=ks) (Z:=fun _=>True) rfl rfl (Kb ..) (hu _) hc xE hg ho hz (fun _ _=>trivial) ht (Mv he) I2.unpinned T st2 f2' fD ⟨its,k,rv,p1⟩ Dfp hw fun s' H' ys' J' d' a' _ _ q'=>wpAny_pure ⟨H',ys',J',d',a',q'⟩
 exact B4 loop (T.self _ 0 _ _ _ st2 loop)
end
end L2
namespace L2
open PySem PySem.Spec PyProof.Rows
theorem KR {X:Cx} {N':List Str} {M:List (Option Nat)} {scope:Scope} {cl:List (Str × Addr)} {tg elt iter tg2 iter2:Expr} {ifs ifs2:List Expr} {ks ks2:List Nat} {wi2:TI} {g2:TG} {tc2:TT} {pos:Pos} {g:TG} {tc:TT} {te:TE} {pins:List (Addr × Obj)} {σ:St} {H2:Hp} {s2:Shared}
  {it:Addr} {fp:List Addr} {tn:Nat->Heap->Prop} {J:It} {F:List V->Hp->Prop} {RR:Value->Addr->Result->Shared->Prop} {E:Value->Shared->Prop}
  (S:L9 X.N N' M scope X.env.scope) (hc:X.calm=true) (q1 : ∀ y c,cl.lookup y=some c->X.env.cells.lookup y=some c) (q2 : ∀ y,(y,NameKind.free) ∈ scope.names -> ∃ c,cl.lookup y=some c)
  (hg : ∀ C s H fp,PG (DB X N' scope cl C s H fp) tg g) (ho:Own ks g) (ht : ∀ C s H fp,PTs (DB X N' scope cl C s H fp) ifs tc) (hks : ∀ i ∈ ks,M[i]?=some none) (hks2 : ∀ i ∈ ks2,M[i]?=some none/\i ∉ ks)
  (hi2 : ∀ C s H fp,PI (DB X N' scope cl C s H fp) tg2 iter2 wi2) (hg2 : ∀ C s H fp,PG (DB X N' scope cl C s H fp) tg2 g2) (ho2:Own ks2 g2) (ht2 : ∀ C s H fp,PTs (DB X N' scope cl C s H fp) ifs2 tc2) (he : ∀ C s H fp,PE (DB X N' scope cl C s H fp) elt te) (hs2 : ∀ env x,foldedSetIterable iter2 env x=pure x)
  (I2:Inv X pins σ H2 s2) (T:Le X.prog X.w X.K tg J fp it tn) (st2:tn 0 s2.heap) (f2 : ∀ b ∈ fp,DL X pins H2 b)
  (hw:LcW J g tc (OX wi2 g2 tc2 te) (CY M σ) [] H2 F)
  (hend : ∀ (D C:Addr) (s':Shared) (H':Hp) (ys:List V),Inv X pins σ (upd H' D (.lst ys)) s'->H' D=none->s2.heap.objs.size<=D->s2.heap.objs.size<C->(∃ m,s'.heap.Ns C m)->(upd H' D (.lst ys)) C=none->F ys H'->RR (.ref D) C (.ok .next) s') :
  wpAny (model X.prog X.w) X.A (newList []) (fun acc s₃=>wpAny (model X.prog X.w) X.A (newFunctionEnv scope X.env.globals cl [] X.env.qual none .none (some X.env)) (fun cenv s₄=>
   codeAny (model X.prog X.w) X.A (.compStart (.ListComp elt [⟨tg,iter,ifs,0⟩,⟨tg2,iter2,ifs2,0⟩] scope pos) 0 (.ref it) acc { cenv with scope:=relabel scope X.env }) (RR acc cenv.locals) s₄) E s₃) E s2:= by
 refine wpAny_newObj_type (wpAny_newFunctionEnv S.cell (by intro y hy;simp at hy) (fun h₁ hns₁ hsb₁=>?_) S.kind)
 dsimp only at hns₁ hsb₁ ⊢
 generalize hG : s2.heap.push { cls:=.type "list",dict:=none,data:=.seq ([] : List Value).toArray } = G at hns₁ hsb₁ ⊢
 generalize hD:s2.heap.objs.size=D at *
 have hC:G.objs.size=D+1:=by rw[<- hG,Heap.size_push,hD]
 generalize hCC:G.objs.size=C at *
 have DC:D<C:=by rw[hC];exact Nat.lt_succ_self _
 have lo : ∀ b o,s2.heap.get? b=some o->b<D:=fun b o e=>hD ▸ Heap.lt_size e
 have old : ∀ b o,s2.heap.get? b=some o->h₁.get? b=some o:=fun b o e=>by
  have hb:=lo b o e
  exact hsb₁.extBut b o (Nat.ne_of_lt (Nat.lt_trans hb DC)) (Heap.get?_push_of_some _ (hG ▸ Heap.get?_push_of_some _ e))
 have hacc : h₁.get? D = some { cls:=.type "list",data:=.seq ([] : List Value).toArray }:=
  hsb₁.extBut _ _ (Nat.ne_of_lt DC) (Heap.get?_push_of_some _ (by rw[<- hG,<- hD];exact Heap.get?_push_size _ rfl))
 have fpl : ∀ b ∈ fp,b<D:=fun b hb=>by
  refine xEA (T.obj _ _ st2 b hb) fun o e _=>?_
  exact lo b o e
 have cel : ∀ y c,cl.lookup y=some c->c<D:=fun y c e=>by
  refine xE (I2.cell y c (q1 y c e)) fun v z=>?_
  exact hD ▸ z.lt
 generalize hX':DB X N' scope cl C s2 H2 fp=X'
 have envE:X'.env=compEnvC scope cl C X.env:=by rw[<- hX'];rfl
 have locE:X'.env.locals=C:=by rw[envE];rfl
 have fsE:X'.fs=frs X.stack:=by rw[<- hX'];rfl
 have fsl : ∀ b ∈ frs X.stack,b<D:=fun b hb=>by
  refine Or.elim (List.mem_cons.mp (I2.stkSub b hb)) (fun z=>?_) fun z=>?_
  ·rw[z];exact hD ▸ I2.lt
  ·exact Nat.lt_of_not_le fun q=>I2.nofs (hD ▸ q) z
 have relS : ∀ x k,scope.names.lookup x=some k -> ∃ k',X'.env.kindOf x=some k'/\(k'=k\/(k = .free/\k' = .cell)):=fun x k e=>by
  refine xEA (Bm (env:=X.env) e) fun k' e' q=>?_
  exact ⟨k',by rw[envE];exact e',q⟩
 have relN : ∀ x,scope.names.lookup x=none->X'.env.kindOf x=none:=fun x e=>by
  rw[envE];exact Bt (env:=X.env) e
 have cellsE:X'.env.cells=cl:=by rw[envE];rfl
 have ok':X'.Ok:= by
  refine ⟨?mod,?kind,?glob,?blt,?above,?inj,?has,?cab,?hd,?frames,?stk,?exf,?bs,?bsz,?noex,?exfs,?funs,?frf⟩
  case mod=>rw[<- hX'];exact I2.ok.mod
  case kind=>rw[envE];exact S.kind
  case glob=>rw[envE];exact I2.ok.glob
  case blt=>rw[envE];exact I2.ok.blt
  case above=>rw[locE,<- hX'];show s2.heap.objs.size<=C;rw[hD];exact Nat.le_of_lt DC
  case inj=>intro x y c e1 e2;rw[cellsE] at e1 e2;exact I2.ok.inj x y c (q1 x c e1) (q1 y c e2)
  case has=>
   intro x hx
   rw[cellsE]
   cases e:scope.names.lookup x with
   | none=>rw[relN x e] at hx;rcases hx with z | z <;> cases z
   | some k=>
    refine xEA (relS x k e) fun k' e' q=>?_
    rw[e'] at hx
    have kf:k = .free:= by
     refine Or.elim q (fun q=>?_) fun q=>?_
     ·refine Or.elim hx (fun z=>?_) fun z=>?_
      ·cases z;exact absurd q.symm (S.cell _ (PySem.mem_of_lookup e))
      ·cases z;exact q.symm
     ·exact q.1
    subst kf
    exact q2 x (PySem.mem_of_lookup e)
  case cab=>intro x c h;rw[<- hX'] at h;exact absurd h (by show ¬ (false=true);decide)
  case hd=>rw[<- hX'];exact I2.ok.hd
  case frames=>rw[<- hX'];exact I2.ok.frames
  case stk=>rw[<- hX'];exact .inl rfl
  case exf=>
   intro b hb
   have hb':b ∈ fp:=by rw[<- hX'] at hb;exact hb
   refine ⟨by rw[locE];exact Nat.ne_of_lt (Nat.lt_trans (fpl b hb') DC),fun x c e=>?_⟩
   rw[cellsE] at e
   exact (f2 b hb').2.2.2.2.1 x c (q1 x c e)
  case bs=>rw[<- hX'];exact I2.bs
  case bsz=>rw[<- hX'];exact Nat.le_trans I2.ok.bsz I2.sz
  case noex=>
   intro b o e hb
   have hb':b ∈ fp:=by rw[<- hX'] at hb;exact hb
   have e':X.base.get? b=some o:=by rw[<- hX'] at e;exact e
   refine Or.elim ((f2 b hb').2.2.2.1) (fun z=>?_) fun z=>?_
   ·exact I2.ok.noex b o e' z
   ·exact absurd (Nat.lt_of_lt_of_le (Heap.lt_size e') (Nat.le_trans I2.ok.bsz z)) (Nat.lt_irrefl _)
  case exfs=>
   intro b hb
   have hb':b ∈ fp:=by rw[<- hX'] at hb;exact hb
   rw[fsE]
   intro z
   refine Or.elim (List.mem_cons.mp (I2.stkSub b z)) (fun q=>?_) fun q=>?_
   ·exact (f2 b hb').2.1 q
   ·exact (f2 b hb').2.2.1 q
  case funs=>rw[<- hX'];exact I2.stack
  case frf=>rw[fsE,<- hX'];exact I2.stkFree
 have c0:H2 C=none:=I2.hok.fresh (by rw[hD];exact Nat.le_of_lt DC)
 have d0:H2 D=none:=I2.hok.fresh (by rw[hD];exact Nat.le_refl _)
 have I3:Inv X' [] (CY M σ) H2 { s2 with heap:=h₁,toks:=s2.toks+([]:List (Str × Value)).length }:= by
  refine ⟨ok',?os,?bare,?base,?loc,?cell,?free,?freeC,?pin,?hok,?len⟩
  case os=>rw[<- hX'];rfl
  case bare=>exact I2.bare
  case base=>rw[fsE,<- hX'];exact Un.kept old
  case loc=>
   refine ⟨_,by rw[locE];exact hns₁,fun i x v e1 e2 _=>?_⟩
   refine xEA (CZ e2) fun j eM eσ=>?_
   refine AM (S.at_ i j eM) fun y n1 n2 n3=>?_
   have e1':N'[i]?=some x:=by rw[<- hX'] at e1;exact e1
   rw[n1] at e1';cases e1'
   have hyf:(x,NameKind.free) ∈ scope.names:=PySem.mem_of_lookup n3
   have kd:=S.fre _ hyf rfl
   refine xEA (id I2.loc) fun m hn hl=>?_
   refine xEA (hl j x v n2 eσ (kd.elim (fun z=>.inr (.inl z)) fun z=>.inr (.inr z))) fun u ru lk=>?_
   refine ⟨u,ru,?_⟩
   refine Or.elim lk (fun n90=>xA n90 fun k _=>?_) fun n91=>xA n91 fun k m91=>xEA m91 fun c ec z=>?_
   ·have k':X.env.scope.names.lookup x=some NameKind.local:=k
    rcases kd with q | q <;> (rw[k'] at q;cases q)
   ·refine xE (q2 x hyf) fun c' ec'=>?_
    have hcc:=q1 x c' ec'
    rw[ec] at hcc;cases hcc
    refine xEA (relS x _ n3) fun k' e' q=>?_
    refine .inr ⟨?_,c,by rw[cellsE];exact ec',?_⟩
    ·rw[e'];refine Or.elim q (fun q=>?_) fun q=>?_
     ·right;rw[q]
     ·left;rw[q.2]
    ·refine xEA z fun o ho hd'=>?_
     exact ⟨o,old _ _ ho,hd'⟩
  case cell=>
   intro x c e
   rw[cellsE] at e
   refine Ct (I2.cell x c (q1 x c e)) fun v o ho hd'=>?_
   exact ⟨v,o,old _ _ ho,hd'⟩
  case free=>rw[locE];exact c0
  case freeC=>intro x c e;rw[cellsE] at e;exact I2.freeC x c (q1 x c e)
  case pin=>intro p hp;rw[<- hX'] at hp;exact absurd (show p ∈ ([]:List (Addr × Obj)) from hp) (by simp)
  case hok=>rw[<- hX'];exact I2.hok.kept old
  case len=>rw[CA,<- hX'];exact S.len.symm
 have xE : ∀ (e:Value) (s':Shared),¬ X'.xe e s':=fun e s' z=>by rw[<- hX'] at z;exact z
 have progE:X'.prog=X.prog:=by rw[<- hX'];rfl
 have wE:X'.w=X.w:=by rw[<- hX'];rfl
 have KE':X'.K=X.K:=by rw[<- hX'];rfl
 have AE:X'.A=X.A:=by rw[<- hX'];rfl
 have cE:X'.calm=true:=by rw[<- hX'];exact hc
 have exE:X'.ex=fp:=by rw[<- hX'];rfl
 have s0E:X'.s₀=s2:=by rw[<- hX'];rfl
 have pnE:X'.pn=[]:=by rw[<- hX'];rfl
 have hgX:PG X' tg g:=by rw[<- hX'];exact hg C s2 H2 fp
 have htX:PTs X' ifs tc:=by rw[<- hX'];exact ht C s2 H2 fp
 have heX:PE X' elt te:=by rw[<- hX'];exact he C s2 H2 fp
 have Dfp:D ∉ fp:=fun z=>Nat.lt_irrefl _ (fpl D z)
 have Dcl : ∀ x c,X'.env.cells.lookup x=some c->c≠D:=fun x c e=>by rw[cellsE] at e;exact Nat.ne_of_lt (cel x c e)
 have Dloc:D≠X'.env.locals:=by rw[locE];exact Nat.ne_of_lt DC
 have Dfs:D ∉ X'.fs:=by rw[fsE];exact fun z=>Nat.lt_irrefl _ (fsl D z)
 have D0:D ∈ X'.ex\/X'.s₀.heap.objs.size<=D:=.inr (by rw[s0E,hD];exact Nat.le_refl _)
 have stat : ∀ {pl:List (Addr × Obj)} {H':Hp},(∀ p ∈ pl,p.1=D)->(∀ b ∈ fp,H' b=none) -> ∀ b ∈ fp,DL X' pl H' b:=fun {pl H'} hpl hn b hb=>by
  refine ⟨hn b hb,by rw[locE];exact Nat.ne_of_lt (Nat.lt_trans (fpl b hb) DC),?_,.inl (by rw[exE];exact hb),fun x c e=>?_,fun p hp=>?_⟩
  ·exact ok'.exfs b (by rw[exE];exact hb)
  ·rw[cellsE] at e;exact (f2 b hb).2.2.2.2.1 x c (q1 x c e)
  ·rw[pnE,List.nil_append] at hp
   rw[hpl p hp];exact (Nat.ne_of_lt (fpl b hb)).symm
 have hiX2:PI X' tg2 iter2 wi2:=by rw[<- hX'];exact hi2 C s2 H2 fp
 have hgX2:PG X' tg2 g2:=by rw[<- hX'];exact hg2 C s2 H2 fp
 have htX2:PTs X' ifs2 tc2:=by rw[<- hX'];exact ht2 C s2 H2 fp
 have loop:codeAny (model X.prog X.w) X.A (.compLoop (.ListComp elt [⟨tg,iter,ifs,0⟩,⟨tg2,iter2,ifs2,0⟩] scope pos) 0 (.ref it) (.ref D) X'.env) (RR (.ref D) C) { s2 with heap:=h₁,toks:=s2.toks+([]:List (Str × Value)).length }:= by
  have T':Le X'.prog X'.w X'.K tg J fp it tn:=by rw[progE,wE,KE'];exact T
  have em:=Nx (X:=X') (D:=D) (elt:=elt) (g0:=⟨tg,iter,ifs,0⟩) (scope:=scope) (pos:=pos) (ks:=ks2) cE xE hiX2 hgX2 ho2 htX2 heX (fun _=>rfl) (hs2 _)
  have inN : ∀ i,M[i]?=some none->(CY M σ)[i]?=some none:=fun i e=>by unfold CY;rw[List.getElem?_map,e];rfl
  have base:codeAny (model X'.prog X'.w) X'.A (.compLoop (.ListComp elt [⟨tg,iter,ifs,0⟩,⟨tg2,iter2,ifs2,0⟩] scope pos) 0 (.ref it) (.ref D) X'.env) (RR (.ref D) C) _:=JL (F:=F) (ks:=ks) rfl rfl ((HJ ..).trans (Lq ..)) rfl cE xE hgX ho
   (fun i v e hk=>by rw[inN i (hks i hk)] at e;cases e) (fun σ' hσ i v e hk=>by rw[hσ i (hks2 i hk).2,inN i (hks2 i hk).1] at e;cases e) htX em I3 T' (T.keep _ _ _ st2 fun b hb o e=>old b o e) (stat (pl:=[]) (fun p hp=>absurd hp (by simp)) fun b hb=>(f2 b hb).1)
   ⟨d0,Dloc,Dfs,D0,Dcl,fun p hp=>by rw[pnE] at hp;exact absurd hp (by simp)⟩ ⟨[],0,.nil,hacc⟩ Dfp hw (fun s4 H3 ys J4 dn ⟨its,k,rv,hD4⟩ hsz fr4 qF=>by
   refine xEA (id J4.loc) fun mC hnC _=>?_
   rw[locE] at hnC
   have b4:=J4.base
   rw[fsE,exE,s0E,show X'.H₀=H2 by rw[<- hX'];rfl] at b4
   refine hend D C s4 H3 ys ?_ dn (Nat.le_refl _) DC ⟨mC,hnC⟩ (by rw[Ah (Nat.ne_of_gt DC)];have:=J4.free;rw[locE] at this;exact this) qF
   have hok4:=J4.hok
   rw[progE,wE] at hok4
   refine I2.call' (ch:=fp) (H':=upd H3 D (.lst ys)) (by rw[J4.os,s0E]) ⟨b4.keep,b4.slot,fun b o e nn hb=>?_,b4.there,fun b xs e=>?_,fun b o u e=>?_,fun b ps e=>?_⟩ ?_ J4.bare fun b hb=>?_
   ·rw[Ah (Nat.ne_of_lt (lo b o e))];exact b4.free b o e nn hb
   ·rw[Ah (Ad (b4.tups b xs e) dn)];exact b4.tups b xs e
   ·rw[Ah (Ad (b4.frzs b o u e) dn)];exact b4.frzs b o u e
   ·obtain ⟨more,e'⟩:=b4.tbls b ps e
    exact ⟨more,by rw[Ah (Ad e' dn)];exact e'⟩
   ·intro b u e
    by_cases hb:b=D
    ·subst hb
     rw[Ab] at e;cases e
     exact ⟨hsz,its,k,rv,hD4⟩
    ·rw[Ah hb] at e
     exact (hok4 b u e).stay (fun c v _ q=>q) (fun c q=>by rw[Ah (Ad q dn)];exact q) fun c xs q=>by rw[Ah (Ad q dn)];exact q
   ·refine xA5 (f2 b hb) fun f0 f1 f3 f4 f5 f6=>?_
    exact ⟨f4,f1,f5,f6⟩)
  rw[progE,wE,AE] at base
  exact base
 have loop':codeAny (model X.prog X.w) X.A (.compLoop (.ListComp elt [⟨tg,iter,ifs,0⟩,⟨tg2,iter2,ifs2,0⟩] scope pos) 0 (.ref it) (.ref D) (compEnvC scope cl C X.env)) (RR (.ref D) C) { s2 with heap:=h₁,toks:=s2.toks+([]:List (Str × Value)).length }:=envE ▸ loop
 exact codeAny_compStart_list loop' (T.self _ 0 _ _ _ (T.keep _ _ _ st2 fun b hb o e=>old b o e) loop')
def QB (wi:TI) (M:List (Option Nat)) (g:TG) (tc:TT) (wi2:TI) (g2:TG) (tc2:TT) (te:TE) (σ:St) (H:Hp) (F:List V->Hp->Prop):Prop:=wi σ H fun J H1=>LcW J g tc (OX wi2 g2 tc2 te) (CY M σ) [] H1 F
section
variable {X:Cx} {N':List Str} {M:List (Option Nat)} {scope:Scope} {tg elt iter tg2 iter2:Expr} {ifs ifs2:List Expr} {ks ks2:List Nat} {pos:Pos} {g g2:TG} {tc tc2:TT} {te:TE} {wi wi2:TI}
theorem On {i:Nat} {x:Str} {pos' spos:Pos} (hN:X.N.Nodup) (hi:X.N[i]?=some x) (hx:X.env.scope.names.lookup x=some NameKind.local)
  (S:L9 X.N N' M scope X.env.scope) (hc:X.calm=true) (hit:PI X tg iter wi) (hg : ∀ cl C s H fp,PG (DB X N' scope cl C s H fp) tg g) (ho:Own ks g)
  (ht : ∀ cl C s H fp,PTs (DB X N' scope cl C s H fp) ifs tc) (hks : ∀ i ∈ ks,M[i]?=some none) (hks2 : ∀ i ∈ ks2,M[i]?=some none/\i ∉ ks) (hi2 : ∀ cl C s H fp,PI (DB X N' scope cl C s H fp) tg2 iter2 wi2) (hg2 : ∀ cl C s H fp,PG (DB X N' scope cl C s H fp) tg2 g2) (ho2:Own ks2 g2) (ht2 : ∀ cl C s H fp,PTs (DB X N' scope cl C s H fp) ifs2 tc2) (he : ∀ cl C s H fp,PE (DB X N' scope cl C s H fp) elt te)
  (hsw:swapsWith (.ListComp elt [⟨tg,iter,ifs,0⟩,⟨tg2,iter2,ifs2,0⟩] scope pos) (some (.Name x pos')) spos.line X.env=pure true:=by rfl)
  (hs : ∀ x,foldedSetIterable iter X.env x=pure x:=by intro _;rfl) (hs2 : ∀ env x,foldedSetIterable iter2 env x=pure x:=by intro _ _;rfl) :
  PS X (.Assign [.Name x pos'] (.ListComp elt [⟨tg,iter,ifs,0⟩,⟨tg2,iter2,ifs2,0⟩] scope pos) spos) (fun D σ H=>QB wi M g tc wi2 g2 tc2 te σ H fun ys H'=>∀ p,H' p=none->D.nx (σ.set i (some (.ref p))) (upd H' p (.lst ys))):= by
 intro pins s σ H Dn I h
 refine AM (Ht S I) fun cl hclos q1 q2=>?_
 rw[exec_Assign_Name_used _ _ _ _ hsw]
 refine wpAny_bind (wpAny_standAt (wpAny_bind ?_))
 show wpAny _ X.A (do let _ <- comprehension (.ListComp elt [⟨tg,iter,ifs,0⟩,⟨tg2,iter2,ifs2,0⟩] scope pos) scope X.env _ (newList []) false (eval iter X.env) (some (assign (.Name x pos') X.env))) _ _ s
 refine wpAny_bind (wpAny_mono (wpAny_comprehension_free (use:=some (assign (.Name x pos') X.env)) (Q:=fun _ s'=>SP X pins Dn .next s') rfl hs hclos S.kind S.own
  (thn (hit pins s σ H _ I h) fun v s1 h1=>thn h1 fun itv s2 h2=>?_)) (fun _ s' hq=>wpAny_pure (wpAny_pure hq)) fun _ _ e=>e)
 refine IX h2 fun it fp tn J H2 e I2 T st2 f2 hw=>?_
 subst e
 refine KR (RR:=fun acc C=>compPost (model X.prog X.w) X.A X.xe (some (assign (.Name x pos') X.env)) (fun _ s'=>SP X pins Dn .next s') acc C) S hc q1 q2 (hg cl) ho (ht cl) hks hks2 (hi2 cl) (hg2 cl) ho2 (ht2 cl) (he cl) hs2 I2 T st2 f2 hw ?_
 intro D C s' H' ys I' dn hD hC ⟨m,hn⟩ hCn q
 refine xA3 (I2.young (Nat.le_of_lt hC)) fun y1 y2 y3 y4=>?_
 show wpAny _ X.A (assign (.Name x pos') X.env (.ref D)) _ _ s'
 refine wpAny_assign_Name (Eu I' hN hi (.inl hx) (v:=.ref D) rfl (fun s'' I'' h91=>?_) (.inr hx))
 refine xEA h91 fun a hsb ha=>?_
 have hCa:C≠a:= by
  refine Or.elim ha (fun z=>?_) fun z=>?_
  ·rw[z];exact y1
  ·exact (y3 x a z).symm
 exact ⟨m,hn.sameBut hsb hCa,fun h' hs'=>⟨_,_,I''.gone (s':=s'') hs' hCn y1 y2 y3 y4,q D dn⟩⟩
end
end L2
namespace L2
open PySem PySem.W PyProof.Rows
noncomputable def Bc {α:Type} (lt:Nat->Nat->Bool):KasT α->α
 | .ret a=>a
 | .ask i j k=>Bc lt (k (lt i j))
theorem BD {α β:Type} (lt:Nat->Nat->Bool) (f:α->KasT β) : ∀ t:KasT α,Bc lt (t.bind f)=Bc lt (f (Bc lt t))
 | .ret a=>rfl
 | .ask i j k=>BD lt f (k (lt i j))
section
variable {r:Nat->Int}
noncomputable def ltR (r:Nat->Int) (i j:Nat):Bool:=decide (r i<r j)
noncomputable def ky (r:Nat->Int) (p:Array Nat) (k:Nat):Int:=r (p.getD k 0)
def IF (r:Nat->Int) (p:Array Nat) (k:Nat):Prop:=∀ i j,i<=j->j<k->ky r p i<=ky r p j
def Lg (r:Nat->Int) (p:Array Nat) (k:Nat):Prop:=∀ i j,i<=j->j<k->ky r p j<=ky r p i
theorem gd {p:Array Nat} {k:Nat}:p.getD k 0=(p[k]?).getD 0:=by rw[Array.getD_eq_getD_getElem?]
theorem Kw {p q:Array Nat} {k j:Nat} (h:q[k]?=p[j]?):ky r q k=ky r p j:=by unfold ky;rw[gd,gd,h]
theorem Ep {p:Array Nat} {i j:Nat} (hj:j<=p.size) (k:Nat):ky r (kas_rev p i j) k=if i<=k/\k<j then ky r p (i+j-1-k) else ky r p k:= by
 have e:(kas_rev p i j)[k]?=_:=getElem?_mirror_all (i:=i) hj k
 by_cases h1:i<=k/\k<j
 ·rw[if_pos h1] at e ⊢;exact Kw e
 ·rw[if_neg h1] at e ⊢;exact Kw e
theorem JY {p:Array Nat} {src d:Nat} (hs:src<p.size) (hd:d<=src) (k:Nat):ky r (bubble p src d) k=if k=src-d then ky r p src else if src-d<k/\k<=src then ky r p (k-1) else ky r p k:= by
 have e:=getElem?_bubble hs d hd k
 by_cases h1:k=src-d
 ·rw[if_pos h1] at e ⊢;exact Kw e
 ·rw[if_neg h1] at e ⊢
  by_cases h2:src-d<k/\k<=src
  ·rw[if_pos h2] at e ⊢;exact Kw e
  ·rw[if_neg h2] at e ⊢;exact Kw e
theorem FR {p:Array Nat} {i j:Nat}:(kas_rev p i j).size=p.size:=mirror_size _ _ _ _
theorem FO {p:Array Nat} : ∀ (f n:Nat),1<=n->IF r p n->n<=Bc (ltR r) (kas_asc p f n)/\Bc (ltR r) (kas_asc p f n)<=n+f/\IF r p (Bc (ltR r) (kas_asc p f n))/\(Bc (ltR r) (kas_asc p f n)=n+f\/ky r p (Bc (ltR r) (kas_asc p f n))<ky r p (Bc (ltR r) (kas_asc p f n)-1))
 | 0,n,h1,hu=>⟨Nat.le_refl _,Nat.le_refl _,hu,.inl rfl⟩
 | f+1,n,h1,hu=>by
  have e:Bc (ltR r) (kas_asc p (f+1) n)=Bc (ltR r) (if ltR r (p.getD n 0) (p.getD (n-1) 0)=true then .ret n else kas_asc p f (n+1)):=rfl
  rw[e]
  by_cases c:ltR r (p.getD n 0) (p.getD (n-1) 0)=true
  ·rw[if_pos c]
   exact ⟨Nat.le_refl _,by show n<=n+(f+1);lia,hu,.inr (of_decide_eq_true c)⟩
  ·rw[if_neg c]
   have c':ky r p (n-1)<=ky r p n:=Int.not_lt.mp fun z=>c (decide_eq_true z)
   have hu':IF r p (n+1):=fun i j hij hj=>by
    by_cases e:j=n
    ·subst e
     by_cases e2:i=j
     ·subst e2;exact Int.le_refl _
     ·exact Int.le_trans (hu i (j-1) (by lia) (by lia)) c'
    ·exact hu i j hij (by lia)
   obtain ⟨a,b,c1,d⟩:=FO f (n+1) (by lia) hu'
   refine ⟨by lia,by lia,c1,?_⟩
   rcases d with d | d
   ·exact .inl (by lia)
   ·exact .inr d
theorem Ei {p:Array Nat} {i j:Nat} (hj:j<=p.size) (he : ∀ k,i<=k->k<j->ky r p k=ky r p (j-1)) (k:Nat):ky r (kas_rev p i j) k=ky r p k:= by
 rw[Ep hj]
 split
 ·rw[he _ (by omega) (by omega),he k (by omega) (by omega)]
 ·rfl
theorem Lg.congr {p q:Array Nat} {n:Nat} (h:Lg r p n) (e : ∀ k,ky r q k=ky r p k):Lg r q n:=fun i j a b=>by rw[e,e];exact h i j a b
theorem CT : ∀ (f:Nat) (p:Array Nat) (n q:Nat),1<=n->n+f<=p.size->q+1<=n->Lg r p n->(∀ k,n-(q+1)<=k->k<n->ky r p k=ky r p (n-1)) ->
  let o:=Bc (ltR r) (kas_desc f p n q)
  o.1.Perm p/\n<=o.2.1/\o.2.1<=n+f/\Lg r o.1 o.2.1/\o.2.2+1<=o.2.1/\(∀ k,o.2.1-(o.2.2+1)<=k->k<o.2.1->ky r o.1 k=ky r o.1 (o.2.1-1))
 | 0,p,n,q,h1,hn,hq,hd,he=>⟨Array.Perm.refl _,Nat.le_refl _,Nat.le_refl _,hd,hq,he⟩
 | f+1,p,n,q,h1,hn,hq,hd,he=>by
  have e:Bc (ltR r) (kas_desc (f+1) p n q)=Bc (ltR r) (if ltR r (p.getD n 0) (p.getD (n-1) 0)=true then (if q > 0 then kas_desc f (kas_rev p (n-(q+1)) n) (n+1) 0 else kas_desc f p (n+1) 0)
   else .ask (p.getD (n-1) 0) (p.getD n 0) fun d=>if d=true then .ret (p,n,q) else kas_desc f p (n+1) (q+1)):=rfl
  intro o
  have eo:o=Bc (ltR r) (kas_desc (f+1) p n q):=rfl
  rw[e] at eo
  by_cases c:ltR r (p.getD n 0) (p.getD (n-1) 0)=true
  ·rw[if_pos c] at eo
   have c':ky r p n<ky r p (n-1):=of_decide_eq_true c
   have dn:Lg r p (n+1):=fun i j hij hj=>by
    by_cases e:j=n
    ·subst e
     by_cases e2:i=j
     ·subst e2;exact Int.le_refl _
     ·exact Int.le_trans (Int.le_of_lt c') (hd i (j-1) (by lia) (by lia))
    ·exact hd i j hij (by lia)
   by_cases hq0:q > 0
   ·rw[if_pos hq0] at eo
    have ek:=Ei (r:=r) (p:=p) (i:=n-(q+1)) (j:=n) (by lia) he
    have:=CT f (kas_rev p (n-(q+1)) n) (n+1) 0 (by lia) (by rw[FR];lia) (by lia) (dn.congr ek) (fun k a b=>by rw[show k=n+1-1 by lia])
    rw[eo]
    obtain ⟨a1,a2,a3,a4,a5,a6⟩:=this
    exact ⟨a1.trans (mirror_perm _ _ _ _),by lia,by lia,a4,a5,a6⟩
   ·rw[if_neg hq0] at eo
    have:=CT f p (n+1) 0 (by lia) (by lia) (by lia) dn (fun k a b=>by rw[show k=n+1-1 by lia])
    rw[eo]
    obtain ⟨a1,a2,a3,a4,a5,a6⟩:=this
    exact ⟨a1,by lia,by lia,a4,a5,a6⟩
  ·rw[if_neg c] at eo
   have c':ky r p (n-1)<=ky r p n:=Int.not_lt.mp fun z=>c (decide_eq_true z)
   have e2:Bc (ltR r) (.ask (p.getD (n-1) 0) (p.getD n 0) fun d=>if d=true then .ret (p,n,q) else kas_desc f p (n+1) (q+1))=Bc (ltR r) (if ltR r (p.getD (n-1) 0) (p.getD n 0)=true then .ret (p,n,q) else kas_desc f p (n+1) (q+1)):=rfl
   rw[e2] at eo
   by_cases d:ltR r (p.getD (n-1) 0) (p.getD n 0)=true
   ·rw[if_pos d] at eo
    rw[eo]
    exact ⟨Array.Perm.refl _,Nat.le_refl _,by show n<=n+(f+1);lia,hd,hq,he⟩
   ·rw[if_neg d] at eo
    have d':ky r p n<=ky r p (n-1):=Int.not_lt.mp fun z=>d (decide_eq_true z)
    have ee:ky r p n=ky r p (n-1):=Int.le_antisymm d' c'
    have dn:Lg r p (n+1):=fun i j hij hj=>by
     by_cases e:j=n
     ·subst e
      by_cases e2:i=j
      ·subst e2;exact Int.le_refl _
      ·rw[ee];exact hd i (j-1) (by lia) (by lia)
     ·exact hd i j hij (by lia)
    have:=CT f p (n+1) (q+1) (by lia) (by lia) (by lia) dn (fun k a b=>by
     show ky r p k=ky r p n
     by_cases e:k=n
     ·rw[e]
     ·rw[he k (by lia) (by lia),ee])
    rw[eo]
    obtain ⟨a1,a2,a3,a4,a5,a6⟩:=this
    exact ⟨a1,by lia,by lia,a4,a5,a6⟩
theorem E5 {p:Array Nat} {n nrem:Nat} (h1:1<=n) (hn:n<=nrem) (hz:nrem<=p.size) (hd:Lg r p n) :
  let o:=Bc (ltR r) (kas_tail3 n nrem p)
  o.2.Perm p/\1<=o.1/\o.1<=nrem/\IF r o.2 o.1:= by
 intro o
 have eo:o=(Bc (ltR r) (kas_asc (kas_rev p 0 n) (nrem-n) n),kas_rev p 0 n):= by
  show Bc (ltR r) (kas_tail3 n nrem p)=_
  unfold kas_tail3
  rw[BD];rfl
 have up:IF r (kas_rev p 0 n) n:=fun i j hij hj=>by
  rw[Ep (by lia),Ep (by lia),if_pos ⟨Nat.zero_le _,by lia⟩,if_pos ⟨Nat.zero_le _,hj⟩]
  exact hd _ _ (by lia) (by lia)
 refine xA3 (FO (nrem-n) n h1 up) fun a b c _=>?_
 rw[eo]
 exact ⟨mirror_perm _ _ _ _,by show 1<=Bc _ _;lia,by show Bc _ _<=nrem;lia,c⟩
theorem Db {p:Array Nat} {n nrem:Nat} (hn:n+1<=nrem) (hz:nrem<=p.size) (hd:Lg r p (n+1)) :
  let o:=Bc (ltR r) (kas_descPart n nrem p)
  o.2.Perm p/\1<=o.1/\o.1<=nrem/\IF r o.2 o.1:= by
 intro o
 refine xA5 (CT (r:=r) (nrem-(n+1)) p (n+1) 0 (by lia) (by lia) (by lia) hd (fun k a b=>by rw[show k=n+1-1 by lia])) fun a1 a2 a3 a4 a5 a6=>?_
 have eo:o=Bc (ltR r) (let rr:=Bc (ltR r) (kas_desc (nrem-(n+1)) p (n+1) 0);if rr.2.2 > 0 then kas_tail3 rr.2.1 nrem (kas_rev rr.1 (rr.2.1-(rr.2.2+1)) rr.2.1) else kas_tail3 rr.2.1 nrem rr.1):= by
  show Bc (ltR r) (kas_descPart n nrem p)=_
  unfold kas_descPart
  rw[BD]
 dsimp only at eo
 generalize Bc (ltR r) (kas_desc (nrem-(n+1)) p (n+1) 0)=rr at eo a1 a2 a3 a4 a5 a6
 have hsz:rr.1.size=p.size:=a1.size_eq
 by_cases hq:rr.2.2 > 0
 ·rw[if_pos hq] at eo
  have ek:=Ei (r:=r) (p:=rr.1) (i:=rr.2.1-(rr.2.2+1)) (j:=rr.2.1) (by lia) a6
  have:=E5 (r:=r) (p:=kas_rev rr.1 (rr.2.1-(rr.2.2+1)) rr.2.1) (n:=rr.2.1) (nrem:=nrem) (by lia) (by lia) (by rw[FR];lia) (a4.congr ek)
  rw[eo]
  exact ⟨(this.1.trans (mirror_perm _ _ _ _)).trans a1,this.2⟩
 ·rw[if_neg hq] at eo
  have:=E5 (r:=r) (p:=rr.1) (n:=rr.2.1) (nrem:=nrem) (by lia) (by lia) (by lia) a4
  rw[eo]
  exact ⟨this.1.trans a1,this.2⟩
theorem IT {p:Array Nat} {nrem:Nat} (h1:1<=nrem) (hz:nrem<=p.size) :
  let o:=Bc (ltR r) (kas_count nrem p)
  o.2.Perm p/\1<=o.1/\o.1<=nrem/\IF r o.2 o.1:= by
 intro o
 have u1:IF r p 1:=fun i j hij hj=>by
  have:i=j:=by lia
  rw[this];exact Int.le_refl _
 refine xA3 (FO (r:=r) (p:=p) (nrem-1) 1 (Nat.le_refl _) u1) fun b1 b2 b3 b4=>?_
 have eo:o=Bc (ltR r) (let n:=Bc (ltR r) (kas_asc p (nrem-1) 1);if (n==nrem)=true then .ret (n,p) else if n > 1 then .ask (p.getD 0 0) (p.getD (n-1) 0) fun c=>if c=true then .ret (n,p) else kas_descPart n nrem (kas_rev p 0 n)
  else kas_descPart n nrem p):= by
  show Bc (ltR r) (kas_count nrem p)=_
  unfold kas_count
  rw[BD]
 dsimp only at eo
 generalize Bc (ltR r) (kas_asc p (nrem-1) 1)=n at eo b1 b2 b3 b4
 by_cases e:(n==nrem)=true
 ·rw[if_pos e] at eo
  rw[eo]
  exact ⟨Array.Perm.refl _,b1,by show n<=nrem;lia,b3⟩
 ·rw[if_neg e] at eo
  have hne:n≠nrem:=by simpa using e
  have hlt:ky r p n<ky r p (n-1):=b4.resolve_left (by lia)
  have step : ∀ q:Array Nat,(∀ k,ky r q k=ky r p k)->(∀ k,k<n->ky r p k=ky r p (n-1))->Lg r q (n+1):=fun q hq he i j hij hj=>by
   rw[hq,hq]
   by_cases e:j=n
   ·subst e
    by_cases e2:i=j
    ·subst e2;exact Int.le_refl _
    ·rw[he i (by lia)];exact Int.le_of_lt hlt
   ·rw[he i (by lia),he j (by lia)];exact Int.le_refl _
  by_cases h2:n > 1
  ·rw[if_pos h2] at eo
   have e2:Bc (ltR r) (.ask (p.getD 0 0) (p.getD (n-1) 0) fun c=>if c=true then .ret (n,p) else kas_descPart n nrem (kas_rev p 0 n))=Bc (ltR r) (if ltR r (p.getD 0 0) (p.getD (n-1) 0)=true then .ret (n,p) else kas_descPart n nrem (kas_rev p 0 n)):=rfl
   rw[e2] at eo
   by_cases c:ltR r (p.getD 0 0) (p.getD (n-1) 0)=true
   ·rw[if_pos c] at eo
    rw[eo]
    exact ⟨Array.Perm.refl _,b1,by show n<=nrem;lia,b3⟩
   ·rw[if_neg c] at eo
    have c':ky r p (n-1)<=ky r p 0:=Int.not_lt.mp fun z=>c (decide_eq_true z)
    have he : ∀ k,k<n->ky r p k=ky r p (n-1):=fun k hk=>Int.le_antisymm (b3 k (n-1) (by lia) (by lia)) (Int.le_trans c' (b3 0 k (Nat.zero_le _) hk))
    have ek:=Ei (r:=r) (p:=p) (i:=0) (j:=n) (by lia) (fun k _ hk=>he k hk)
    have:=Db (r:=r) (p:=kas_rev p 0 n) (n:=n) (nrem:=nrem) (by lia) (by rw[FR];exact hz) (step _ ek he)
    rw[eo]
    exact ⟨this.1.trans (mirror_perm _ _ _ _),this.2⟩
  ·rw[if_neg h2] at eo
   have:=Db (r:=r) (p:=p) (n:=n) (nrem:=nrem) (by lia) hz (step p (fun _=>rfl) fun k hk=>by rw[show k=n-1 by lia])
   rw[eo]
   exact this
theorem Dj {p:Array Nat} {k:Nat} (hu:IF r p k) : ∀ (f l rr:Nat),l<=rr->rr<=k->rr-l<=f->(∀ i,i<l->ky r p i<=ky r p k)->(∀ i,rr<=i->i<k->ky r p k<ky r p i) ->
  let o:=Bc (ltR r) (kas_place p k f l rr)
  o<=k/\(∀ i,i<o->ky r p i<=ky r p k)/\(∀ i,o<=i->i<k->ky r p k<ky r p i)
 | 0,l,rr,hl,hr,hf,h1,h2=>⟨by show l<=k;lia,h1,fun i a b=>h2 i (by have:l<=i:=a;lia) b⟩
 | f+1,l,rr,hl,hr,hf,h1,h2=>by
  intro o
  have eo:o=Bc (ltR r) (if l >= rr then .ret l else .ask (p.getD k 0) (p.getD ((l+rr) / 2) 0) fun c=>if c=true then kas_place p k f l ((l+rr) / 2) else kas_place p k f ((l+rr) / 2+1) rr):=rfl
  by_cases e:l >= rr
  ·rw[if_pos e] at eo
   have eo:o=l:=eo
   rw[eo]
   exact ⟨by lia,h1,fun i a b=>h2 i (by lia) b⟩
  ·rw[if_neg e] at eo
   have e2:o=Bc (ltR r) (if ltR r (p.getD k 0) (p.getD ((l+rr) / 2) 0)=true then kas_place p k f l ((l+rr) / 2) else kas_place p k f ((l+rr) / 2+1) rr):=eo
   by_cases c:ltR r (p.getD k 0) (p.getD ((l+rr) / 2) 0)=true
   ·rw[if_pos c] at e2
    have c':ky r p k<ky r p ((l+rr) / 2):=of_decide_eq_true c
    rw[e2]
    refine Dj hu f l ((l+rr) / 2) (by lia) (by lia) (by lia) h1 fun i a b=>?_
    exact Int.lt_of_lt_of_le c' (hu _ _ a b)
   ·rw[if_neg c] at e2
    have c':ky r p ((l+rr) / 2)<=ky r p k:=Int.not_lt.mp fun z=>c (decide_eq_true z)
    rw[e2]
    refine Dj hu f ((l+rr) / 2+1) rr (by lia) (by lia) (by lia) (fun i a=>?_) h2
    exact Int.le_trans (hu _ _ (by lia) (by lia)) c'
theorem HU : ∀ (f:Nat) (p:Array Nat) (k:Nat),k+f<=p.size->IF r p k ->
  let o:=Bc (ltR r) (kas_bin f p k)
  o.Perm p/\IF r o (k+f)
 | 0,p,k,hz,hu=>⟨Array.Perm.refl _,hu⟩
 | f+1,p,k,hz,hu=>by
  intro o
  have eo:o=Bc (ltR r) (kas_bin f (bubble p k (k-Bc (ltR r) (kas_place p k k 0 k))) (k+1)):= by
   show Bc (ltR r) ((kas_place p k k 0 k).bind fun l=>kas_bin f (bubble p k (k-l)) (k+1))=_
   rw[BD]
  obtain ⟨l0,l1,l2⟩:=Dj (r:=r) (p:=p) (k:=k) hu k 0 k (Nat.zero_le _) (Nat.le_refl _) (by lia) (fun i a=>absurd a (by lia)) (fun i a b=>absurd a (by lia))
  generalize Bc (ltR r) (kas_place p k k 0 k)=l at eo l0 l1 l2
  have kb:=JY (r:=r) (p:=p) (src:=k) (d:=k-l) (by lia) (by lia)
  rw[show k-(k-l)=l by lia] at kb
  have up:IF r (bubble p k (k-l)) (k+1):=fun i j hij hj=>by
   rw[kb,kb]
   by_cases ei:i=l
   ·rw[if_pos ei]
    by_cases ej:j=l
    ·rw[if_pos ej];exact Int.le_refl _
    ·rw[if_neg ej,if_pos ⟨by lia,by lia⟩]
     exact Int.le_of_lt (l2 _ (by lia) (by lia))
   ·rw[if_neg ei]
    by_cases hi:l<i/\i<=k
    ·rw[if_pos hi,if_neg (by lia),if_pos ⟨by lia,by lia⟩]
     exact hu _ _ (by lia) (by lia)
    ·rw[if_neg hi]
     have hil:i<l:=by lia
     by_cases ej:j=l
     ·rw[if_pos ej];exact l1 i hil
     ·rw[if_neg ej]
      by_cases hj2:l<j/\j<=k
      ·rw[if_pos hj2];exact hu _ _ (by lia) (by lia)
      ·rw[if_neg hj2];exact hu _ _ hij (by lia)
  obtain ⟨q1,q2⟩:=HU f (bubble p k (k-l)) (k+1) (by rw[bubble_size];lia) up
  rw[eo]
  exact ⟨q1.trans (bubble_perm _ _ _),by rw[show k+(f+1)=k+1+f by lia];exact q2⟩
theorem KY {n:Nat} (h1:1<=n) :
  let o:=Bc (ltR r) (kas_sort n)
  o.Perm (List.toArray (List.range n))/\IF r o n:= by
 intro o
 refine xA3 (IT (r:=r) (p:=List.toArray (List.range n)) (nrem:=n) h1 (by simp)) fun a1 a2 a3 a4=>?_
 have eo:o=Bc (ltR r) (let rr:=Bc (ltR r) (kas_count n (List.toArray (List.range n)));if rr.1<n then kas_bin (n-max rr.1 1) rr.2 (max rr.1 1) else .ret rr.2):= by
  show Bc (ltR r) (kas_sort n)=_
  unfold kas_sort
  rw[BD]
 dsimp only at eo
 generalize Bc (ltR r) (kas_count n (List.toArray (List.range n)))=rr at eo a1 a2 a3 a4
 have hsz:rr.2.size=n:=by rw[a1.size_eq];simp
 by_cases h:rr.1<n
 ·rw[if_pos h] at eo
  have em:max rr.1 1=rr.1:=by lia
  rw[em] at eo
  have:=HU (r:=r) (n-rr.1) rr.2 rr.1 (by lia) a4
  rw[eo]
  exact ⟨this.1.trans a1,by have:=this.2;rw[show rr.1+(n-rr.1)=n by lia] at this;exact this⟩
 ·rw[if_neg h] at eo
  rw[eo]
  exact ⟨a1,by rw[show rr.1=n by lia] at a4;exact a4⟩
end
end L2
namespace L2
open PySem PySem.Spec PyProof.Rows
end L2
namespace L2
open PySem
noncomputable def BE (n:Nat):List (Nat × Nat):=(List.range n).flatMap fun k=>(List.range k).map fun j=>(j,k)
theorem ED (n:Nat):BE (n+1)=BE n++(List.range n).map fun j=>(j,n):= by
 unfold BE;rw[List.range_succ,List.flatMap_append];simp
theorem EU {n:Nat} {q:Nat × Nat}:q ∈ BE n ↔ q.1<q.2/\q.2<n:= by
 unfold BE
 simp only [List.mem_flatMap,List.mem_range,List.mem_map]
 constructor
 ·rintro ⟨k,hk,j,hj,rfl⟩;exact ⟨hj,hk⟩
 ·rintro ⟨h1,h2⟩;exact ⟨q.2,h2,q.1,h1,rfl⟩
theorem KG {n:Nat} (q:Nat × Nat) (h:q ∈ BE n):q.1<n/\q.2<n:= by
 have:=EU.mp h;omega
theorem CW : ∀ n:Nat,(BE n).length<=n*n
 | 0=>by simp [BE]
 | n+1=>by
  have:=CW n
  rw[ED,List.length_append,List.length_map,List.length_range]
  have e:(n+1)*(n+1)=n*n+2*n+1:=by rw[Nat.add_mul,Nat.mul_add];lia
  lia
noncomputable def D4 (ws:List Int):List (Nat × Nat):=(BE ws.length).filter fun q=>decide (ws.getD q.1 0=ws.getD q.2 0)
theorem Ca {ws:List Int} {q:Nat × Nat}:q ∈ D4 ws ↔ (q.1<q.2/\q.2<ws.length)/\ws.getD q.1 0=ws.getD q.2 0:= by
 unfold D4;rw[List.mem_filter,EU,decide_eq_true_iff]
theorem K9 {ws:List Int} (q:Nat × Nat) (h:q ∈ D4 ws):q.1<ws.length/\q.2<ws.length:= by
 have:=Ca.mp h;omega
theorem JH (ws:List Int):(D4 ws).length<=ws.length*ws.length:=Nat.le_trans (List.length_filter_le _ _) (CW _)
theorem IM {ws:List Int} {L:Nat->Int} (h : ∀ q ∈ D4 ws,L q.1=L q.2) {i j:Nat} (hi:i<ws.length) (hj:j<ws.length) (e:ws.getD i 0=ws.getD j 0):L i=L j:= by
 rcases Nat.lt_trichotomy i j with hlt | rfl | hlt
 ·exact h (i,j) (Ca.mpr ⟨⟨hlt,hj⟩,e⟩)
 ·rfl
 ·exact (h (j,i) (Ca.mpr ⟨⟨hlt,hi⟩,e.symm⟩)).symm
end L2
namespace L2
open PySem
noncomputable def cnt (L:List Int):Nat:=(Bi L).length
theorem B9 (xs:List Int):(Bi xs).Nodup:= by
 refine AD (P:=fun xs=>(Bi xs).Nodup) (by show ([]:List Int).Nodup;exact List.nodup_nil) (fun xs z ih=>?_) xs
 rw[Ba]
 unfold BI
 split
 ·exact ih
 ·rename_i h
  exact List.nodup_append.mpr ⟨ih,by simp,fun a ha b hb e=>h (by rw[List.mem_singleton.mp hb] at e;exact e ▸ ha)⟩
theorem FI : ∀ (l m:List Int),l.Nodup->(∀ x ∈ l,x ∈ m)->l.length<=m.length
 | [],m,_,_=>Nat.zero_le _
 | x::l,m,hn,h=>by
  have hx:=h x List.mem_cons_self
  have ⟨n1,n2⟩:=List.nodup_cons.mp hn
  have:=FI l (m.erase x) n2 (fun y hy=>(List.mem_erase_of_ne (show y≠x from fun e=>n1 (by rw[<- e];exact hy))).mpr (h y (List.mem_cons_of_mem _ hy)))
  rw[List.length_erase_of_mem hx] at this
  have hp:0<m.length:=List.length_pos_of_mem hx
  rw[List.length_cons];lia
theorem Cs {L:List Int} {z:Int}:z ∈ Bi L ↔ ∃ i,i<L.length/\L.getD i 0=z:=(A8 L z).trans A9
theorem E8 {P Q:List Int} {n:Nat} (hp:P.length=n) (hq:Q.length=n) (h:Within n P Q):cnt Q<=cnt P:= by
 have e:cnt P=((Bi P).map fun v=>Q.getD (P.idxOf v) 0).length:=by rw[List.length_map];rfl
 rw[e]
 refine FI _ _ (B9 Q) fun y hy=>?_
 obtain ⟨i,hi,ei⟩:=Cs.mp hy
 have hpi:P.getD i 0 ∈ P:=A9.mpr ⟨i,by lia,rfl⟩
 refine List.mem_map.mpr ⟨P.getD i 0,(A8 P _).mpr hpi,?_⟩
 have hlt:=List.idxOf_lt_length_of_mem hpi
 have e1:P.getD (P.idxOf (P.getD i 0)) 0=P.getD i 0:= by
  rw[AZ hlt];exact List.getElem_idxOf hlt
 rw[<- ei]
 exact h _ _ (by lia) (by lia) e1
theorem JZ {L:List Int} {p:Nat × Nat} (h1:p.1<L.length) (h2:p.2<L.length):cnt (mg L p)+(if L.getD p.1 0=L.getD p.2 0 then 0 else 1)=cnt L:= by
 by_cases e:L.getD p.1 0=L.getD p.2 0
 ·rw[if_pos e]
  have:mg L p=L:= by
   unfold mg EB
   conv=>rhs;rw[<- List.map_id L]
   exact List.map_congr_left fun l _=>by rw[e];split <;> simp_all
  rw[this];rfl
 ·rw[if_neg e]
  have m2:L.getD p.2 0 ∈ Bi L:=Cs.mpr ⟨p.2,h2,rfl⟩
  have key:cnt (mg L p)=((Bi L).erase (L.getD p.2 0)).length:= by
   refine Nat.le_antisymm (FI _ _ (B9 _) fun y hy=>?_) (FI _ _ ((B9 L).erase _) fun y hy=>?_)
   ·obtain ⟨i,hi,ei⟩:=Cs.mp hy
    rw[Bx] at hi
    unfold mg at ei
    rw[CP hi] at ei
    by_cases c:L.getD i 0=L.getD p.2 0
    ·rw[if_pos c] at ei
     rw[<- ei]
     exact (List.mem_erase_of_ne e).mpr (Cs.mpr ⟨p.1,h1,rfl⟩)
    ·rw[if_neg c] at ei
     rw[<- ei]
     exact (List.mem_erase_of_ne c).mpr (Cs.mpr ⟨i,hi,rfl⟩)
   ·have hne:y≠L.getD p.2 0:=fun z=>by rw[z] at hy;exact absurd hy ((B9 L).not_mem_erase)
    obtain ⟨i,hi,ei⟩:=Cs.mp ((List.mem_erase_of_ne hne).mp hy)
    refine Cs.mpr ⟨i,by rw[Bx];exact hi,?_⟩
    unfold mg
    rw[CP hi,if_neg (by rw[ei];exact hne)];exact ei
  rw[key,List.length_erase_of_mem m2]
  have:0<(Bi L).length:=List.length_pos_of_mem m2
  show _=(Bi L).length
  lia
theorem HR {P Q:List Int} {n:Nat} (hp:P.length=n) (hq:Q.length=n) (h:Within n P Q) (e:cnt P=cnt Q):Within n Q P:=fun i j hi hj eq=>by
 by_cases c:P.getD i 0=P.getD j 0
 ·exact c
 ·have h1:=JZ (L:=P) (p:=(i,j)) (by show i<_;lia) (by show j<_;lia)
  rw[if_neg c] at h1
  have h2:cnt Q<=cnt (mg P (i,j)):=E8 (n:=n) (by rw[Bx];exact hp) hq fun a b ha hb=>Ir (p:=(i,j)) (g:=fun i=>Q.getD i 0) (by show i<_;lia) (by show j<_;lia) (fun a b ha hb=>h a b (by lia) (by lia)) eq a b (by lia) (by lia)
  lia
theorem Eg {ws:List Int} (hw:As ws=true):fresh 0 ws=(cnt ws:Int):= by
 have h:=Cm ws (Am.mp hw).2.2
 unfold cnt
 rw[h.2.1,FY]
 have:=h.2.2
 lia
def Bv (a b:List Int):Prop:=cnt a=cnt b+1/\Within a.length a b
end L2
namespace L2
open PySem
end L2
namespace L2
open PySem
end L2
namespace L2
open PySem PySem.Spec PyProof.Rows
end L2
namespace L2
open PySem
theorem Kq (s:List Int):(s.map V.int).all Fi=true:=by rw[List.all_map];exact List.all_eq_true.mpr fun _ _=>rfl
end L2
namespace L2
end L2
namespace L2
open PySem PySem.Spec PyProof.Rows
section
variable {X:Cx} {K:PySem.W.Frag}
abbrev OT (K:PySem.W.Frag) (H:Hp) (ps:List Addr) (xss:List (List Int)):Prop:=Paired (fun a (xs:List Int)=>SqT K H a (xs.map V.int)) ps xss
theorem OE {H:Hp} : ∀ {l1:List Addr} {l2:List (List Int)} {j:Nat} {a:Addr},OT K H l1 l2->l1[j]?=some a -> ∃ b,SqT K H a (b.map V.int)/\l2[j]?=some b:= by
 intro l1 l2 j a h e
 induction h generalizing j with
 | nil=>simp at e
 | cons r t ih=>
  cases j with
  | zero=>simp at e;subst e;exact ⟨_,r,rfl⟩
  | succ j=>obtain ⟨b,q,e2⟩:=ih (by simpa using e);exact ⟨b,q,by simpa using e2⟩
end
end L2
namespace L2
open PySem
theorem ES {P Q:List Int} {n:Nat} (h : ¬ Within n P Q) : ∃ i j,i<n/\j<n/\P.getD i 0=P.getD j 0/\Q.getD i 0≠Q.getD j 0:= by
 refine Classical.byContradiction fun c=>h fun i j hi hj e=>Classical.byContradiction fun g=>c ⟨i,j,hi,hj,e,g⟩
end L2
namespace L2
open PySem PySem.Spec PyProof.Rows
end L2
namespace L2
open PySem
theorem ET {L:List Int} (h1:1<=L.length) (h9:L.length<=9):As (Ax L)=true/\cnt (Ax L)=cnt L:= by
 have hz:As (Ax L)=true:=BU h1 h9
 have c2:=Eg hz
 have c3:fresh 0 (Ax L)=(cnt L:Int):=(B8 _).2
 exact ⟨hz,by lia⟩
end L2
namespace L2
open PySem PySem.Spec PyProof.Rows
abbrev DM (H:Hp) (ps:List Addr) (xss:List (List Int)):Prop:=Paired (fun a (xs:List Int)=>H a=some (.tup (xs.map V.int))) ps xss
theorem Mf {H:Hp} : ∀ {l1:List Addr} {l2:List (List Int)} {j:Nat} {a:Addr},DM H l1 l2->l1[j]?=some a -> ∃ b,H a=some (.tup (b.map V.int))/\l2[j]?=some b:= by
 intro l1 l2 j a h e
 induction h generalizing j with
 | nil=>simp at e
 | cons r t ih=>
  cases j with
  | zero=>simp at e;subst e;exact ⟨_,r,rfl⟩
  | succ j=>obtain ⟨b,q,e2⟩:=ih (by simpa using e);exact ⟨b,q,by simpa using e2⟩
end L2
namespace L2
open PySem
variable {ar cr:Nat->Nat->Bool} {n g:Nat}
end L2
namespace L2
open PySem PySem.Spec PyProof.Rows
end L2
namespace L2
open PySem
variable {ar cr:Nat->Nat->Bool} {n g:Nat}
theorem Kx {p q:Nat->Bool} : ∀ (l:List Nat),(∀ x ∈ l,q x=true->p x=true) -> ∀ k ∈ l,p k=true->q k=false->(l.filter q).length+1<=(l.filter p).length
 | [],_,k,hk,_,_=>by simp at hk
 | a::l,h,k,hk,hp,hq=>by
  have le : ∀ (l:List Nat),(∀ x ∈ l,q x=true->p x=true)->(l.filter q).length<=(l.filter p).length:= by
   intro l
   induction l with
   | nil=>intro _;simp
   | cons b l ih=>
    intro h
    have:=ih fun x hx=>h x (List.mem_cons_of_mem _ hx)
    rw[List.filter_cons,List.filter_cons]
    by_cases hb:q b=true
    ·rw[if_pos hb,if_pos (h b List.mem_cons_self hb)];simpa using this
    ·rw[if_neg hb];split
     ·rw[List.length_cons];lia
     ·exact this
  rw[List.filter_cons,List.filter_cons]
  rcases List.mem_cons.mp hk with e | hk
  ·subst e
   rw[if_pos hp,hq,if_neg (by simp),List.length_cons]
   have:=le l fun x hx=>h x (List.mem_cons_of_mem _ hx)
   lia
  ·have:=Kx l (fun x hx=>h x (List.mem_cons_of_mem _ hx)) k hk hp hq
   by_cases hb:q a=true
   ·rw[if_pos hb,if_pos (h a List.mem_cons_self hb),List.length_cons,List.length_cons];lia
   ·rw[if_neg hb];split
    ·rw[List.length_cons];lia
    ·exact this
end L2
namespace L2
open PySem PySem.W PyProof.Rows
def KIn {α:Type} (n:Nat) (P:α->Prop):KasT α->Prop
 | .ret a=>P a
 | .ask i j k=>i<n/\j<n /\ ∀ b,KIn n P (k b)
theorem KIn.bind {α β:Type} {n:Nat} {P:α->Prop} {Q:β->Prop} {f:α->KasT β} : ∀ {t:KasT α},KIn n P t->(∀ a,P a->KIn n Q (f a))->KIn n Q (t.bind f)
 | .ret a,h,hf=>hf a h
 | .ask i j k,h,hf=>⟨h.1,h.2.1,fun b=>KIn.bind (h.2.2 b) hf⟩
def Cf (n:Nat) (p:Array Nat):Prop:=∀ k,p.getD k 0<n
theorem Cf.perm {n:Nat} {p q:Array Nat} (h:Cf n p) (e:q.Perm p) (hn:0<n):Cf n q:=fun k=>by
 rw[gd]
 cases hk:q[k]? with
 | none=>exact hn
 | some x=>
  have hx:x ∈ q:=Array.mem_of_getElem? hk
  have hx':x ∈ p:=e.mem_iff.mp hx
  obtain ⟨j,hj⟩:=Array.mem_iff_getElem?.mp hx'
  have:=h j
  rw[gd,hj] at this
  exact this
variable {n:Nat}
theorem HH {p:Array Nat} (h:Cf n p) : ∀ (f m:Nat),KIn n (fun _=>True) (kas_asc p f m)
 | 0,m=>trivial
 | f+1,m=>⟨h _,h _,fun b=>by
   show KIn n _ (if b=true then _ else _)
   split
   ·trivial
   ·exact HH h f (m+1)⟩
theorem DS (hn:0<n) : ∀ (f:Nat) (p:Array Nat) (m q:Nat),Cf n p->KIn n (fun o=>Cf n o.1) (kas_desc f p m q)
 | 0,p,m,q,h=>h
 | f+1,p,m,q,h=>⟨h _,h _,fun b=>by
   show KIn n _ (if b=true then _ else _)
   split
   ·split
    ·exact DS hn f _ _ _ (h.perm (mirror_perm _ _ _ _) hn)
    ·exact DS hn f _ _ _ h
   ·refine ⟨h _,h _,fun d=>?_⟩
    show KIn n _ (if d=true then _ else _)
    split
    ·exact h
    ·exact DS hn f _ _ _ h⟩
theorem GO (hn:0<n) {p:Array Nat} {m nrem:Nat} (h:Cf n p):KIn n (fun o=>Cf n o.2) (kas_tail3 m nrem p):= by
 have h':Cf n (kas_rev p 0 m):=h.perm (mirror_perm _ _ _ _) hn
 exact (HH h' _ _).bind fun a _=>h'
theorem Dy (hn:0<n) {p:Array Nat} {m nrem:Nat} (h:Cf n p):KIn n (fun o=>Cf n o.2) (kas_descPart m nrem p):=
 (DS hn _ p _ _ h).bind fun a ha=>by
  split
  ·exact GO hn (ha.perm (mirror_perm _ _ _ _) hn)
  ·exact GO hn ha
theorem KP (hn:0<n) {p:Array Nat} {nrem:Nat} (h:Cf n p):KIn n (fun o=>Cf n o.2) (kas_count nrem p):=
 (HH h _ _).bind fun a _=>by
  split
  ·exact h
  ·split
   ·refine ⟨h _,h _,fun b=>?_⟩
    show KIn n _ (if b=true then _ else _)
    split
    ·exact h
    ·exact Dy hn (h.perm (mirror_perm _ _ _ _) hn)
   ·exact Dy hn h
theorem Ef {p:Array Nat} {k:Nat} (h:Cf n p) : ∀ (f l r:Nat),KIn n (fun _=>True) (kas_place p k f l r)
 | 0,l,r=>trivial
 | f+1,l,r=>by
  show KIn n _ (if l >= r then _ else _)
  split
  ·trivial
  ·refine ⟨h _,h _,fun b=>?_⟩
   show KIn n _ (if b=true then _ else _)
   split
   ·exact Ef h f _ _
   ·exact Ef h f _ _
theorem K7 (hn:0<n) : ∀ (f:Nat) (p:Array Nat) (k:Nat),Cf n p->KIn n (fun _=>True) (kas_bin f p k)
 | 0,p,k,h=>trivial
 | f+1,p,k,h=>(Ef h _ _ _).bind fun l _=>K7 hn f _ _ (h.perm (bubble_perm _ _ _) hn)
theorem LU (hn:0<n):KIn n (fun _=>True) (kas_sort n):= by
 have h:Cf n (List.toArray (List.range n)):=fun k=>by
  rw[gd]
  by_cases hk:k<n
  ·rw[List.getElem?_toArray,List.getElem?_range hk];exact hk
  ·rw[List.getElem?_toArray,List.getElem?_eq_none (by simpa using hk)];exact hn
 exact (KP hn h).bind fun a ha=>by
  split
  ·exact K7 hn _ _ _ ha
  ·trivial
theorem GU {α:Type} {P:α->Prop} {cmp:Nat->Nat->(Bool->Shared->Prop)->Shared->Prop} {lt:Nat->Nat->Bool} {s:Shared} {Q:α->Shared->Prop} (hc : ∀ i j (C:Bool->Shared->Prop),i<n->j<n->C (lt i j) s->cmp i j C s) : ∀ t:KasT α,KIn n P t->Q (Bc lt t) s->t.kasWp cmp Q s
 | .ret a,_,h=>h
 | .ask i j k,hi,h=>hc i j _ hi.1 hi.2.1 (GU hc (k (lt i j)) (hi.2.2 _) h)
theorem Br : ∀ xs:List Int,HT.lexLt xs xs=false
 | []=>rfl
 | x::xs=>by rw[HT.lexLt_cons,if_pos rfl];exact Br xs
theorem BO : ∀ xs ys zs:List Int,HT.lexLt xs ys=true->HT.lexLt ys zs=true->HT.lexLt xs zs=true
 | [],[],zs,h,_=>by rw[HT.lexLt_nil_nil] at h;cases h
 | [],y::ys,[],_,h=>by rw[HT.lexLt_cons_nil] at h;cases h
 | [],y::ys,z::zs,_,_=>HT.lexLt_nil_cons _ _
 | x::xs,[],zs,h,_=>by rw[HT.lexLt_cons_nil] at h;cases h
 | x::xs,y::ys,[],_,h=>by rw[HT.lexLt_cons_nil] at h;cases h
 | x::xs,y::ys,z::zs,h1,h2=>by
  rw[HT.lexLt_cons] at h1 h2 ⊢
  by_cases e1:x=y
  ·subst e1
   rw[if_pos rfl] at h1
   by_cases e2:x=z
   ·rw[if_pos e2] at h2 ⊢;exact BO _ _ _ h1 h2
   ·rw[if_neg e2] at h2 ⊢;exact h2
  ·rw[if_neg e1] at h1
   have h1:=of_decide_eq_true h1
   by_cases e2:y=z
   ·subst e2
    rw[if_neg e1];exact decide_eq_true h1
   ·rw[if_neg e2] at h2
    have h2:=of_decide_eq_true h2
    rw[if_neg (by omega)];exact decide_eq_true (by omega)
theorem Bj : ∀ xs ys:List Int,HT.lexLt xs ys=false->HT.lexLt ys xs=false->xs=ys
 | [],[],_,_=>rfl
 | [],y::ys,h,_=>by rw[HT.lexLt_nil_cons] at h;cases h
 | x::xs,[],_,h=>by rw[HT.lexLt_nil_cons] at h;cases h
 | x::xs,y::ys,h1,h2=>by
  rw[HT.lexLt_cons] at h1 h2
  by_cases e:x=y
  ·subst e
   rw[if_pos rfl] at h1 h2
   rw[Bj _ _ h1 h2]
  ·rw[if_neg e] at h1
   rw[if_neg (fun z=>e z.symm)] at h2
   have h1:=of_decide_eq_false h1
   have h2:=of_decide_eq_false h2
   lia
noncomputable def Cv (xss:List (List Int)) (i:Nat):Int:=(((List.range xss.length).filter fun k=>HT.lexLt (xss.getD k []) (xss.getD i [])).length:Int)
theorem Cd {xss:List (List Int)} {i j:Nat} (hi:i<xss.length):decide (Cv xss i<Cv xss j)=HT.lexLt (xss.getD i []) (xss.getD j []):= by
 cases h:HT.lexLt (xss.getD i []) (xss.getD j []) with
 | true=>
  refine decide_eq_true ?_
  have:=Kx (p:=fun k=>HT.lexLt (xss.getD k []) (xss.getD j [])) (q:=fun k=>HT.lexLt (xss.getD k []) (xss.getD i [])) (List.range xss.length) (fun x _ hx=>BO _ _ _ hx h) i (List.mem_range.mpr hi) h (Br _)
  unfold Cv
  lia
 | false=>
  refine decide_eq_false (Int.not_lt.mpr ?_)
  unfold Cv
  refine Int.ofNat_le.mpr ?_
  have le : ∀ (l:List Nat) (p q:Nat->Bool),(∀ x ∈ l,q x=true->p x=true)->(l.filter q).length<=(l.filter p).length:= by
   intro l p q
   induction l with
   | nil=>intro _;simp
   | cons b l ih=>
    intro h
    have:=ih fun x hx=>h x (List.mem_cons_of_mem _ hx)
    rw[List.filter_cons,List.filter_cons]
    by_cases hb:q b=true
    ·rw[if_pos hb,if_pos (h b List.mem_cons_self hb)];simpa using this
    ·rw[if_neg hb];split
     ·rw[List.length_cons];lia
     ·exact this
  refine le _ _ _ fun x _ hx=>?_
  cases h2:HT.lexLt (xss.getD x []) (xss.getD i []) with
  | true=>rfl
  | false=>
   cases h3:HT.lexLt (xss.getD i []) (xss.getD x []) with
   | true=>rw[BO _ _ _ h3 hx] at h;cases h
   | false=>
    have e:=Bj _ _ h2 h3
    rw[e] at hx
    rw[hx] at h;cases h
def BC (yss:List (List Int)):Prop:=yss.Pairwise fun a b=>HT.lexLt b a=false
theorem Hf {xss:List (List Int)} (h1:1<=xss.length):let o:=(Bc (ltR (Cv xss)) (kas_sort xss.length)).toList
  o.Perm (List.range xss.length)/\BC (o.map fun i=>xss.getD i []):= by
 intro o
 obtain ⟨hp,hu⟩:=KY (r:=Cv xss) h1
 have hp':o.Perm (List.range xss.length):= by
  have:=hp.toList
  simpa using this
 refine ⟨hp',?_⟩
 unfold BC
 rw[List.pairwise_map,List.pairwise_iff_getElem]
 intro i j hi hj hij
 have hlen:o.length=xss.length:=by rw[hp'.length_eq,List.length_range]
 have mem : ∀ k (hk:k<o.length),o[k]<xss.length:=fun k hk=>List.mem_range.mp (hp'.mem_iff.mp (List.getElem_mem hk))
 have ek : ∀ k (hk:k<o.length),ky (Cv xss) (Bc (ltR (Cv xss)) (kas_sort xss.length)) k=Cv xss o[k]:=fun k hk=>by
  unfold ky
  rw[gd,<- Array.getElem?_toList,List.getElem?_eq_getElem hk];rfl
 have:=hu i j (by lia) (by lia)
 rw[ek i hi,ek j hj] at this
 rw[<- Cd (mem j hj)]
 exact decide_eq_false (Int.not_lt.mpr this)
end L2
namespace L2
open PySem PySem.Spec PyProof.Rows
section
variable {X:Cx} {K:PySem.W.Frag}
theorem Inv.layK {pins:List (Addr × Obj)} {σ:St} {H:Hp} {s:Shared} {h':Heap} {m:Str->Option Value} {D:Addr} {ys:List V} {out:List Value} {c t':Nat} (I:Inv X pins σ H s) (hm:s.heap.Ns X.env.locals m) (F':Fr X.base X.env.locals h' m)
  (N' : News X.base X.env.locals h' ((D,{ cls:=.type "list",data:=.seq out.toArray c }) :: Ek X.base s.heap X.env.locals)) (hD : ∀ q ∈ Ek X.base s.heap X.env.locals,q.1 < D) (hv : AH ys out) (hz : ys.length <= sizeLine) :
  H D=none/\Inv X pins σ (upd H D (.lst ys)) { s with heap:=h',toks:=t' }:= by
 refine xA2 (N' _ List.mem_cons_self) fun eD nD bD=>?_
 have keep : ∀ b o,b≠X.env.locals->s.heap.get? b=some o->h'.get? b=some o:=fun b o hb e=>by
  cases q:X.base.get? b with
  | some u=>
   have:=I.bk b u q
   rw[e] at this;cases this
   exact F'.keep b _ q
  | none=>exact (N' (b,o) (List.mem_cons_of_mem _ (Cy hb q e))).1
 have newD : ∀ o,s.heap.get? D≠some o:=fun o e=>absurd (hD (D,o) (Cy nD bD e)) (Nat.lt_irrefl _)
 have hDn:H D=none:= by
  cases q:H D with
  | none=>rfl
  | some u=>refine xE ((I.hok D u q).get) fun ob e=>?_;exact absurd e (newD ob)
 have hL : ∀ b u,H b=some u->b≠X.env.locals:=fun b u e z=>by rw[z,I.free] at e;cases e
 refine ⟨hDn,I.step (g':=s.gens) (d':=s.drawn) (ch:=[]) (fun _ z=>nomatch z) (fun b o hb _ _ e _=>keep b o hb e) (fun b o hb _ _ e _=>⟨o.slots,keep b o hb e⟩) (fun b o _ e n=>?_) (fun b o _ e=>?_) (fun b xs e=>?_) (fun b o u e=>?_) (fun b ps e=>?_) (fun m' hm'=>?_) (fun b u e=>?_) I.bare⟩
 ·rw[Ah (fun z=>newD o (by rw[<- z];exact e))];exact n
 ·by_cases hb:b=X.env.locals
  ·refine FW F'.ns fun o' _ _ e' _=>?_
   exact ⟨o',hb ▸ e'⟩
  ·exact ⟨o,keep b o hb e⟩
 ·rw[Ah (Ad e hDn)];exact e
 ·rw[Ah (Ad e hDn)];exact e
 ·exact ⟨#[],by rw[Ah (Ad e hDn),Array.append_empty];exact e⟩
 ·have e1:=Heap.Ns.eq_nsMap hm
  have e2:=Heap.Ns.eq_nsMap hm'
  rw[e2,<- e1];exact F'.ns
 ·by_cases hb:b=D
  ·subst hb
   rw[Ab] at e;cases e
   exact ⟨hz,out,c,hv,eD⟩
  ·rw[Ah hb] at e
   refine (I.hok b u e).stay (fun d v hd q=>?_) (fun d q=>by rw[Ah (Ad q hDn)];exact q) fun d xs q=>by rw[Ah (Ad q hDn)];exact q
   refine Or.elim hd (fun z=>?_) fun z=>?_
   ·exact keep d v (z ▸ hL b u e) q
   ·exact keep d v (hL d _ z) q
theorem Hr {prog:Program} {w:World} {A:Around} {b fin:Bool} {Q:Bool->Shared->Prop} {s:Shared} : ∀ {xs ys:List Int} {us vs:List Value} (i:Nat),AH (xs.map V.int) us->AH (ys.map V.int) vs ->
  (fin=decide (us.length<vs.length))->Q (HT.lexLt xs ys) s->PySem.W.KatLex prog w A b fin Q (us.zip vs) i s
 | [],[],_,_,i,.nil,.nil,hf,h=>by
  rw[HT.lexLt_nil_nil] at h
  show Q fin s
  rw[hf];exact h
 | [],y::ys,_,_,i,.nil,.cons r1 r2,hf,h=>by
  rw[HT.lexLt_nil_cons] at h
  show Q fin s
  rw[hf];simpa using h
 | x::xs,[],_,_,i,.cons r1 r2,.nil,hf,h=>by
  rw[HT.lexLt_cons_nil] at h
  show Q fin s
  rw[hf];simpa using h
 | x::xs,y::ys,_,_,i,.cons (l₂:=us) ⟨t,e1⟩ r1,.cons (l₂:=vs) ⟨t2,e2⟩ r2,hf,h=>by
  subst e1 e2
  rw[HT.lexLt_cons] at h
  refine PySem.W.kat_cons (Mb (y:=.int x) (x:=.int y) ⟨t,rfl⟩ ⟨t2,rfl⟩ rfl rfl prog w _ _ ?_)
  show PySem.W.KatGo prog w A b fin Q _ _ _ i (x==y) s
  by_cases e:x=y
  ·rw[if_pos e] at h
   rw[show (x==y)=true by simpa using e]
   refine PySem.W.kat_yes (Hr (i+1) r1 r2 ?_ h)
   rw[hf];simp
  ·rw[if_neg e] at h
   rw[show (x==y)=false by simpa using e]
   refine PySem.W.kat_no ?_
   cases hb:(b&&i==0) with
   | true=>exact oneLt_int h
   | false=>exact PySem.W.kat_one _ _ (lt_int h)
theorem GE {ps:List Addr} : ∀ {its:List Value},AH (ps.map V.ref) its->its=ps.map Value.ref:= by
 induction ps with
 | nil=>intro its r;cases r;rfl
 | cons a ps ih=>
  intro its r
  cases r with
  | cons r1 r2=>rw[ih r2];cases r1;rfl
theorem DV (ps:List Addr):AH (ps.map V.ref) (ps.map Value.ref):= by
 induction ps with
 | nil=>exact .nil
 | cons a ps ih=>exact .cons rfl ih
theorem Jf {prog:Program} {w:World} {A:Around} {E:Value->Shared->Prop} {s:Shared} {l:Addr} {vs:List Value} {Q:Value->Shared->Prop} (hl:s.heap.IsList l vs.toArray) (h2:vs.length<2)
  (h:Q (.ref (s.heap.objs.size+1)) { s with heap:=sortedAll s.heap vs vs.toArray }) :
  wpAny (model prog w) A (call (.builtin "sorted") [.ref l]) Q E s:= by
 refine Calls.call_function_entry kind_sorted plain_sorted entry_sorted (args_sorted1 _) ?_
 unfold Builtin.«sorted»
 refine wpAny_bind (m:=checkCount "sorted" 1 1 _) (wpAny_pure ?_)
 refine wpAny_bind (collect_list hl ?_ (by rw[sizeLine_eq];lia))
 refine wpAny_bind (wpAny_newList ?_ (by rw[sizeLine_eq];lia))
 have hsz : ((s.heap.push (seqObj "list" #[] 0)).update s.heap.objs.size (Obj.mapSeq (· ++ vs.toArray))).objs.size = s.heap.objs.size + 1:= by
  rw[Heap.size_update,size_push']
 have hoL : (((s.heap.push (seqObj "list" #[] 0)).update s.heap.objs.size (Obj.mapSeq (· ++ vs.toArray))).push (seqObj "list" vs.toArray 0)).get? (s.heap.objs.size + 1) = some (seqObj "list" vs.toArray 0):= by
  rw[<- hsz];exact Heap.get?_push_size _ rfl
 show wpAny _ _ _ _ _ { s with heap:=((s.heap.push (seqObj "list" #[] 0)).update s.heap.objs.size (Obj.mapSeq (· ++ vs.toArray))).push (seqObj "list" vs.toArray 0) }
 rw[hsz]
 have small : ∀ {P : Fin -> Shared -> Prop} {A : Around} {E : Value -> Shared -> Prop} {s : Shared} {a : Addr} {n : Nat},s.heap.get? a = some (seqObj "list" vs.toArray n) -> P (.done (.ret .none)) { s with heap:=sortedHeap s.heap a vs vs.toArray } -> wpAny (model prog w) A (Builtin.«list.sort» ⟨[.ref a],[]⟩) P E s:=fun {P A E s a n} ho hP=>by
  rw[list_sort_plain]
  have ha:a<s.heap.objs.size:=Heap.lt_size ho
  refine wpAny_bind (listItems_at ho rfl ?_)
  refine wpAny_bind (listUpdate_at ho rfl ?_ (by rw[List.size_toArray,sizeLine_eq];lia) (Nat.zero_le _))
  obtain ⟨e1,ho1⟩ : ∃ e1,(s.heap.update a (Obj.mapSeq fun _=>#[])).get? a = some (seqObj "list" #[] e1):=⟨_,get?_update_seq ho (fun _=>#[])⟩
  refine wpAny_bind (seqEpoch_at ho1 rfl ?_)
  refine wpAny_bind (wpAny_newTuple ?_ (by show vs.length<=_;rw[sizeLine_eq];lia))
  refine wpAny_bind (wpAny_newList ?_ (Nat.zero_le _))
  refine wpAny_holding ?_
  have ho6 : (((s.heap.update a (Obj.mapSeq fun _=>#[])).push (seqObj "tuple" vs.toArray 0)).push (seqObj "list" #[] 0)).get? a = some (seqObj "list" #[] e1):= by
   rw[Heap.get?_push_ne _ _ _ (by rw[size_push',Heap.size_update];exact Nat.ne_of_lt (Nat.lt_succ_of_lt ha)),Heap.get?_push_ne _ _ _ (by rw[Heap.size_update];exact Nat.ne_of_lt ha)]
   exact ho1
  show wpAny (model prog w) A _ P E { s with heap:=((s.heap.update a (Obj.mapSeq fun _=>#[])).push (seqObj "tuple" vs.toArray 0)).push (seqObj "list" #[] 0) }
  dsimp only
  have h2':vs.toArray.size<2:=by simpa using h2
  rw[if_pos h2',if_pos h2']
  refine wpAny_bind (wpAny_pure ?_)
  rw[StateT.run_pure]
  refine wpAny_bind (wpAny_pure ?_)
  dsimp only
  have em:(arrOf (SortSt.mk' general' (vs.toArray.zip vs.toArray) #[] 7 none)).map (·.2)=vs.toArray:= by
   show (vs.toArray.zip vs.toArray).map (·.2)=vs.toArray
   apply Array.ext <;> simp
  refine wpAny_bind (seqEpoch_at ho6 rfl ?_)
  refine wpAny_bind (listUpdate_at ho6 rfl ?_ (Nat.zero_le _) (hsz2:=by rw[Array.size_map];show (pairsOf vs).size<=_;rw[pairsOf_size,sizeLine_eq];lia))
  simp only [bne_self_eq_false,Bool.false_eq_true,if_false]
  refine wpAny_pure ?_
  show P (.done (.ret .none)) { s with heap:=(((s.heap.update a (Obj.mapSeq fun _=>#[])).push (seqObj "tuple" vs.toArray 0)).push (seqObj "list" #[] 0)).update a (Obj.mapSeq fun _=>(arrOf (SortSt.mk' general' (vs.toArray.zip vs.toArray) #[] 7 none)).map (·.2)) }
  rw[em]
  exact hP
 refine wpAny_bind (wpAny_holding (wpAny_call_entry slot_list_sort ⟨_,hoL,rfl⟩ entry_list_sort (small hoL ⟨_,rfl,?_⟩) (args_list_sort _)))
 exact wpAny_pure ⟨_,rfl,h⟩
theorem Nh {H:Hp} : ∀ {ps:List Addr} {xss:List (List Int)} {i:Nat},OT K H ps xss->i<ps.length->SqT K H (ps.getD i 0) ((xss.getD i []).map V.int):= by
 intro ps xss i h hi
 refine xEA (OE h (List.getElem?_eq_getElem hi)) fun xs h1 h2=>?_
 rw[List.getD_eq_getElem?_getD,List.getElem?_eq_getElem hi,List.getD_eq_getElem?_getD,h2]
 exact h1
theorem Eo {H:Hp} : ∀ {ps:List Addr} {xss:List (List Int)} {i:Nat},DM H ps xss->i<ps.length->H (ps.getD i 0)=some (.tup ((xss.getD i []).map V.int)):= by
 intro ps xss i h hi
 refine xEA (Mf h (List.getElem?_eq_getElem hi)) fun xs h1 h2=>?_
 rw[List.getD_eq_getElem?_getD,List.getElem?_eq_getElem hi,List.getD_eq_getElem?_getD,h2]
 exact h1
theorem JR {H:Hp} {ps:List Addr} {xss:List (List Int)} (h:DM H ps xss) : ∀ {o:List Nat},(∀ i ∈ o,i<ps.length)->DM H (o.map fun i=>ps.getD i 0) (o.map fun i=>xss.getD i [])
 | [],_=>.nil
 | i::o,hi=>.cons (Eo h (hi i List.mem_cons_self)) (JR h fun j hj=>hi j (List.mem_cons_of_mem _ hj))
theorem ID {α:Type} (l:List α) (d:α):(List.range l.length).map (fun i=>l.getD i d)=l:= by
 refine List.ext_getElem (by simp) fun i h1 h2=>?_
 rw[List.getElem_map,List.getElem_range,AZ h2]
theorem Dx (h : X.K = K:=by rfl) : AO X (.builtin "sorted") (fun xs H Q=>∃ (p : Addr) (ps : List Addr) (xss : List (List Int)),xs = [.ref p] /\ SqL K H p (ps.map V.ref) /\ DM H ps xss /\ ps.length < 64 /\ (∀ x ∈ xss,x ≠ []) /\
  ∀ (l:Addr) (qs:List Addr) (yss:List (List Int)),DM H qs yss->yss.Perm xss->BC yss->H l=none->Q (.ref l) (upd H l (.lst (qs.map V.ref)))):= by
 subst h
 intro pins s σ H xs us Q I r h
 refine IU h fun p ps xss e90 hq hU h64 hne q=>?_;subst e90
 have hP:OT X.K H ps xss:=L2.Paired.mapP hU fun a xs z=>SqT.of z
 refine xEA (FL r) fun u e90 ru=>?_;subst e90
 cases ru
 refine AM (I.list hq) fun its r' pl hz=>?_
 have eits:=GE r'
 subst eits
 have hlen:(ps.map Value.ref).length=ps.length:=List.length_map ..
 have hxl:=hP.length
 by_cases h2:2<=ps.length
 ·refine xE I.fr fun m F=>?_
  refine PySem.W.kat_sorted F Lp pl.isList (by lia) (by lia) fun D e1 h' F' N' hD=>?_
  have keep : ∀ b o,b≠X.env.locals->s.heap.get? b=some o->h'.get? b=some o:=fun b o hb e=>by
   cases q:X.base.get? b with
   | some u=>
    have:=I.bk b u q
    rw[e] at this;cases this
    exact F'.keep b _ q
   | none=>exact (N' (b,o) (List.mem_cons_of_mem _ (Cy hb q e))).1
  have tup : ∀ i,i < ps.length -> ∃ o its n,h'.get? (ps.getD i 0) = some o /\ o.cls = .type "tuple" /\ o.data = .seq its n /\ AH ((xss.getD i []).map V.int) its.toList:=fun i hi=>by
   refine AM (I.tuple (Nh hP hi)) fun its rv n90 _=>AM n90 fun o ho hc m91=>xE m91 fun n hd=>?_
   have hb:ps.getD i 0≠X.env.locals:=fun z=>by
    refine xEA I.loc fun m' n90 _=>Ed n90 fun o' es ep e' d' _=>?_
    rw[z,e'] at ho;cases ho
    rw[hd] at d';cases d'
   exact ⟨o,its.toArray,n,keep _ o hb ho,hc,hd,rv⟩
  have first : ∀ i,i < ps.length -> ∃ o its n t,h'.get? (ps.getD i 0) = some o /\ o.cls = .type "tuple" /\ o.data = .seq its n /\ its[0]? = some (Value.int ((xss.getD i []).headD 0) t):=fun i hi=>by
   refine Hv (tup i hi) fun o its n ho hc hd rv=>?_
   have hx:xss.getD i []≠[]:=hne _ (by rw[AZ (by lia)];exact List.getElem_mem _)
   cases e:xss.getD i [] with
   | nil=>exact absurd e hx
   | cons z zs=>
    rw[e] at rv
    obtain ⟨v0,vr,ev⟩ : ∃ v0 vr,its.toList=v0::vr:= by
     cases e2:its.toList with
     | nil=>rw[e2] at rv;cases rv
     | cons a b=>exact ⟨a,b,rfl⟩
    rw[ev] at rv
    cases rv with
    | cons r1 r2=>
     refine xE r1 fun t e90=>?_;subst e90
     exact ⟨o,its,n,t,ho,hc,hd,by rw[<- Array.getElem?_toList,ev];rfl⟩
  have tups : ∀ (l:List Addr) (k:Nat),(∀ i,i<l.length->l.getD i 0=ps.getD (k+i) 0)->k+l.length<=ps.length -> ∃ fs:List Value,PySem.W.KatTups h' (l.map Value.ref) fs/\fs.length=l.length /\ ∀ v ∈ fs,∃ i t,v=Value.int i t:= by
   intro l
   induction l with
   | nil=>intro k _ _;exact ⟨[],PySem.W.KatTups.nil,rfl,fun v hv=>by simp at hv⟩
   | cons a l ih=>
    intro k hk hl
    rw[List.length_cons] at hl
    obtain ⟨fs,f1,f2,f3⟩:=ih (k+1) (fun i hi=>by
     have:=hk (i+1) (by rw[List.length_cons];lia)
     rw[show k+1+i=k+(i+1) by lia,<- this];rfl) (by lia)
    refine Ny (first k (by lia)) fun o its n t ho hc hd h0=>?_
    have ea:a=ps.getD k 0:=hk 0 (by rw[List.length_cons];lia)
    rw[<- ea] at ho
    refine ⟨_::fs,PySem.W.KatTups.cons ho hc hd h0 f1,by rw[List.length_cons,f2];rfl,fun v hv=>?_⟩
    refine Or.elim (List.mem_cons.mp hv) (fun e=>?_) fun e=>?_
    ·exact ⟨_,_,e⟩
    ·exact f3 v e
  refine AM (tups ps 0 (fun i _=>by rw[Nat.zero_add]) (by lia)) fun fs f1 f2 f3=>?_
  refine PySem.W.kat_kind (T:=.type "int") f1 (by lia) (fun v hv=>?_) (by decide) ?_
  ·refine xE2 (f3 v hv) fun i t e90=>?_;subst e90
   exact PySem.W.Looks.of_pure rfl
  ·rw[hlen]
   refine xA (Hf (xss:=xss) (by lia)) fun o1 o2=>?_
   have hin : ∀ i ∈ (Bc (ltR (Cv xss)) (PySem.W.kas_sort xss.length)).toList,i<ps.length:=fun i hi=>by
    have:=List.mem_range.mp (o1.mem_iff.mp hi);lia
   rw[hxl]
   refine GU (n:=xss.length) (lt:=ltR (Cv xss)) (fun i j C hi hj hC=>?_) _ (LU (by lia)) ?_
   ·unfold PySem.W.kas_ask
    have gi:(ps.map Value.ref).getD i Value.none = .ref (ps.getD i 0):= by
     rw[List.getD_eq_getElem?_getD,List.getElem?_map,List.getElem?_eq_getElem (by lia),List.getD_eq_getElem?_getD,List.getElem?_eq_getElem (by lia)];rfl
    have gj:(ps.map Value.ref).getD j Value.none = .ref (ps.getD j 0):= by
     rw[List.getD_eq_getElem?_getD,List.getElem?_map,List.getElem?_eq_getElem (by lia),List.getD_eq_getElem?_getD,List.getElem?_eq_getElem (by lia)];rfl
    rw[gi,gj]
    refine Hv (tup i (by lia)) fun oi vi ni ho1 _ hd1 rv1=>?_
    refine Hv (tup j (by lia)) fun oj vj nj ho2 _ hd2 rv2=>?_
    refine PySem.W.kat_lt ho1 hd1 ho2 hd2 (Hr 0 rv1 rv2 rfl ?_)
    rw[<- Cd hi];exact hC
   ·refine PySem.W.KasFin.intro F' N' (.head fun q hq=>Nat.ne_of_lt (hD q hq)) fun h2' c F2 N2=>?_
    generalize Bc (ltR (Cv xss)) (PySem.W.kas_sort xss.length)=oo at o1 o2 hin N2
    have eout:(oo.toList.map fun i=>(ps.map Value.ref).getD i Value.none)=(oo.toList.map fun i=>ps.getD i 0).map Value.ref:= by
     rw[List.map_map]
     refine List.map_congr_left fun i hi=>?_
     have:=hin i hi
     rw[List.getD_eq_getElem?_getD,List.getElem?_map,List.getElem?_eq_getElem this]
     show _=Value.ref (ps.getD i 0)
     rw[List.getD_eq_getElem?_getD,List.getElem?_eq_getElem this];rfl
    rw[eout] at N2
    have hol:oo.toList.length=xss.length:=by rw[o1.length_eq,List.length_range]
    refine xA (I.layK (t':=s.toks) F.ns F2 N2 hD (DV (oo.toList.map fun i=>ps.getD i 0)) (Ak (by rw[List.length_map,List.length_map];lia))) fun hDn J=>?_
    refine ⟨.ref D,_,J,rfl,q D _ _ (JR hU hin) ?_ o2 hDn⟩
    have:=o1.map fun i=>xss.getD i []
    rw[ID] at this
    exact this
 ·refine Jf pl.isList (by lia) ?_
  refine xE (sortedAll_at s.heap (ps.map Value.ref) (ps.map Value.ref).toArray) fun e he=>?_
  have up:BC xss:= by
   unfold BC
   match xss,hxl with
   | [],_=>exact .nil
   | [x],_=>exact List.pairwise_singleton _ _
   | x::y::t,hxl=>simp at hxl;lia
  exact ⟨.ref (s.heap.objs.size+1),_,I.laid (t':=s.toks) (fun _ _=>sortedAll_old) (Nat.le_succ _) (show AV X.prog X.w _ _ _ (.lst (ps.map V.ref)) from ⟨Ak (by rw[List.length_map];lia),ps.map Value.ref,e,DV ps,he⟩),rfl,q _ ps xss hU (.refl _) up (I.hok.fresh (Nat.le_succ _))⟩
end
end L2
namespace PySem
open Sem (wp)
end PySem
namespace PySem.W
open PySem PySem.Calls PyProof.Rows PyProof.V PySem.Spec
end PySem.W
namespace L2
open PySem PySem.Spec PyProof.Rows
end L2
namespace L2
open PySem PySem.Spec PyProof.Rows
inductive Dd where
 | non | bl (b:Bool) | int (i:Int) | str (x:Str) | lst (l:List Dd) | tup (l:List Dd)
mutual
def DAt (K:PySem.W.Frag) (H:Hp):Dd->V->Prop
 | .non,v=>v = .non
 | .bl b,v=>v = .bl b
 | .int i,v=>v = .int i
 | .str x,v=>v = .str x
 | .lst l,v=>∃ (a:Addr) (vs:List V),v = .ref a/\SqL K H a vs/\CC K H l vs
 | .tup l,v=>∃ (a:Addr) (vs:List V),v = .ref a/\SqT K H a vs/\CC K H l vs
def CC (K:PySem.W.Frag) (H:Hp):List Dd->List V->Prop
 | [],vs=>vs=[]
 | d::l,vs=>∃ (v:V) (r:List V),vs=v::r/\DAt K H d v/\CC K H l r
end
mutual
noncomputable def eqD:Dd->Dd->Bool
 | .non,.non=>true
 | .bl a,.bl b=>a==b
 | .int a,.int b=>a==b
 | .str a,.str b=>a==b
 | .bl a,.int b=>(if a then 1 else 0)==b
 | .int a,.bl b=>a==(if b then 1 else 0)
 | .lst l,.lst m=>Jy l m
 | .tup l,.tup m=>Jy l m
 | _,_=>false
noncomputable def Jy:List Dd->List Dd->Bool
 | [],[]=>true
 | d::l,e::m=>eqD d e&&Jy l m
 | _,_=>false
end
mutual
noncomputable def Ga:Dd->Nat
 | .lst l=>CO l+1
 | .tup l=>CO l+1
 | _=>0
noncomputable def CO:List Dd->Nat
 | []=>0
 | d::l=>max (Ga d) (CO l)
end
mutual
theorem Fo : ∀ d:Dd,eqD d d=true
 | .non=>rfl
 | .bl b=>by simp [eqD]
 | .int i=>by simp [eqD]
 | .str x=>by simp [eqD]
 | .lst l=>by rw[eqD];exact Ev l
 | .tup l=>by rw[eqD];exact Ev l
theorem Ev : ∀ l:List Dd,Jy l l=true
 | []=>rfl
 | d::l=>by rw[Jy,Fo d,Ev l];rfl
end
theorem CC.length {K:PySem.W.Frag} {H:Hp} : ∀ {l:List Dd} {vs:List V},CC K H l vs->vs.length=l.length
 | [],vs,h=>by rw[CC] at h;rw[h];rfl
 | d::l,vs,h=>by
  rw[CC] at h
  obtain ⟨v,r,rfl,_,h2⟩:=h
  rw[List.length_cons,List.length_cons,CC.length h2]
theorem CC.get {K:PySem.W.Frag} {H:Hp} : ∀ {l:List Dd} {vs:List V} {j:Nat},CC K H l vs->j<l.length -> ∃ v,vs[j]?=some v/\DAt K H (l.getD j .non) v
 | [],vs,j,h,hj=>by simp at hj
 | d::l,vs,j,h,hj=>by
  rw[CC] at h
  obtain ⟨v,r,rfl,h1,h2⟩:=h
  cases j with
  | zero=>exact ⟨v,rfl,h1⟩
  | succ j=>
   obtain ⟨v',e,h3⟩:=CC.get h2 (by simpa using hj)
   exact ⟨v',by simpa using e,by simpa using h3⟩
theorem B7 : ∀ {l:List Dd} {j:Nat},j<l.length->Ga (l.getD j .non)<=CO l
 | [],j,h=>by simp at h
 | d::l,0,h=>by rw[CO];exact Nat.le_max_left _ _
 | d::l,j+1,h=>by
  rw[CO]
  have:j<l.length:=by simpa using h
  exact Nat.le_trans (by simpa using B7 this) (Nat.le_max_right _ _)
theorem CJ : ∀ {l m:List Dd},l.length≠m.length->Jy l m=false
 | [],[],h=>absurd rfl h
 | [],_::_,_=>rfl
 | _::_,[],_=>rfl
 | d::l,e::m,h=>by rw[Jy,CJ (by simpa using h)];simp
theorem CL : ∀ {l m:List Dd},l.length=m.length->(List.range l.length).all (fun j=>eqD (l.getD j .non) (m.getD j .non))=Jy l m
 | [],[],_=>rfl
 | [],_::_,h=>by simp at h
 | _::_,[],h=>by simp at h
 | d::l,e::m,h=>by
  rw[Jy,List.length_cons,List.range_succ_eq_map,List.all_cons,List.all_map,<- CL (l:=l) (m:=m) (by simpa using h)]
  rfl
section
variable {X:Cx} {K:PySem.W.Frag} {pins:List (Addr × Obj)} {σ:St} {H:Hp} {s:Shared}
mutual
theorem DI (I:Inv X pins σ H s) : ∀ (d e:Dd) (v:V),DAt X.K H d v->DAt X.K H e v->d=e
 | .non,e,v,h1,h2=>by
  rw[DAt] at h1;subst h1
  cases e <;> rw[DAt] at h2 <;> first | rfl | (cases h2;done) | (obtain ⟨_,_,z,_⟩:=h2;cases z)
 | .bl b,e,v,h1,h2=>by
  rw[DAt] at h1;subst h1
  cases e <;> rw[DAt] at h2 <;> first | (cases h2;rfl) | (cases h2;done) | (obtain ⟨_,_,z,_⟩:=h2;cases z)
 | .int i,e,v,h1,h2=>by
  rw[DAt] at h1;subst h1
  cases e <;> rw[DAt] at h2 <;> first | (cases h2;rfl) | (cases h2;done) | (obtain ⟨_,_,z,_⟩:=h2;cases z)
 | .str x,e,v,h1,h2=>by
  rw[DAt] at h1;subst h1
  cases e <;> rw[DAt] at h2 <;> first | (cases h2;rfl) | (cases h2;done) | (obtain ⟨_,_,z,_⟩:=h2;cases z)
 | .lst l,e,v,h1,h2=>by
  rw[DAt] at h1
  obtain ⟨a,vs,rfl,hS,hD⟩:=h1
  cases e with
  | lst m=>
   rw[DAt] at h2
   obtain ⟨b,ws,eb,hS2,hD2⟩:=h2
   cases eb
   have:=I.list_inj hS hS2
   subst this
   rw[EE I l m vs hD hD2]
  | tup m=>
   rw[DAt] at h2
   obtain ⟨b,ws,eb,hS2,hD2⟩:=h2
   cases eb
   obtain ⟨_,_,⟨o,n,e1,c1,_⟩,_⟩:=I.list hS
   obtain ⟨_,_,⟨o2,e2,c2,_⟩,_⟩:=I.tuple hS2
   rw[e1] at e2;cases e2
   rw[c1] at c2;exact absurd c2 (by decide)
  | _=>rw[DAt] at h2;cases h2
 | .tup l,e,v,h1,h2=>by
  rw[DAt] at h1
  obtain ⟨a,vs,rfl,hS,hD⟩:=h1
  cases e with
  | tup m=>
   rw[DAt] at h2
   obtain ⟨b,ws,eb,hS2,hD2⟩:=h2
   cases eb
   have:=I.tuple_inj hS hS2
   subst this
   rw[EE I l m vs hD hD2]
  | lst m=>
   rw[DAt] at h2
   obtain ⟨b,ws,eb,hS2,hD2⟩:=h2
   cases eb
   obtain ⟨_,_,⟨o,n,e1,c1,_⟩,_⟩:=I.list hS2
   obtain ⟨_,_,⟨o2,e2,c2,_⟩,_⟩:=I.tuple hS
   rw[e1] at e2;cases e2
   rw[c1] at c2;exact absurd c2 (by decide)
  | _=>rw[DAt] at h2;cases h2
theorem EE (I:Inv X pins σ H s) : ∀ (l m:List Dd) (vs:List V),CC X.K H l vs->CC X.K H m vs->l=m
 | [],m,vs,h1,h2=>by
  rw[CC] at h1;subst h1
  cases m with
  | nil=>rfl
  | cons _ _=>rw[CC] at h2;obtain ⟨_,_,z,_⟩:=h2;cases z
 | d::l,m,vs,h1,h2=>by
  rw[CC] at h1
  obtain ⟨v,r,rfl,hd,hl⟩:=h1
  cases m with
  | nil=>rw[CC] at h2;cases h2
  | cons e m=>
   rw[CC] at h2
   obtain ⟨v',r',z,he,hm⟩:=h2
   cases z
   rw[DI I d e v hd he,EE I l m r hl hm]
end
theorem Lc (I:Inv X pins σ H s) : ∀ (n:Nat) (d e:Dd) {A:Around} {v x:V} {u w:Value},Ga d<=n->A.units+n<cLine->DAt X.K H d v->DAt X.K H e x->AR v u->AR x w->SeqAt.EqAt A s u w (eqD d e):= by
 intro n
 induction n with
 | zero=>
  intro d e A v x u w hn hu h1 h2 r1 r2
  have hu':A.units<cLine:=by lia
  cases d with
  | lst l=>rw[Ga] at hn;lia
  | tup l=>rw[Ga] at hn;lia
  | non=>
   rw[DAt] at h1;subst h1;cases r1
   cases e with
   | non=>rw[DAt] at h2;subst h2;cases r2;exact SeqAt.EqAt.same _
   | bl b=>rw[DAt] at h2;subst h2;cases r2;exact SeqAt.EqAt.none_bool b
   | int b=>rw[DAt] at h2;subst h2;obtain ⟨t,rfl⟩:=r2;exact SeqAt.EqAt.none_int b t
   | str b=>rw[DAt] at h2;subst h2;obtain ⟨t,rfl⟩:=r2;exact SeqAt.EqAt.none_str b t
   | lst m=>rw[DAt] at h2;obtain ⟨b,ws,rfl,hS,_⟩:=h2;cases r2;obtain ⟨_,_,p,_⟩:=I.list hS;exact SeqAt.EqAt.none_list p.isList hu'
   | tup m=>rw[DAt] at h2;obtain ⟨b,ws,rfl,hS,_⟩:=h2;cases r2;obtain ⟨_,_,p,_⟩:=I.tuple hS;exact SeqAt.EqAt.none_tuple p hu'
  | bl a=>
   rw[DAt] at h1;subst h1;cases r1
   cases e with
   | non=>rw[DAt] at h2;subst h2;cases r2;exact SeqAt.EqAt.bool_none a
   | bl b=>rw[DAt] at h2;subst h2;cases r2;exact SeqAt.EqAt.bool_bool a b
   | int b=>rw[DAt] at h2;subst h2;obtain ⟨t,rfl⟩:=r2;exact SeqAt.EqAt.bool_int a b t
   | str b=>rw[DAt] at h2;subst h2;obtain ⟨t,rfl⟩:=r2;exact SeqAt.EqAt.bool_str a b t
   | lst m=>rw[DAt] at h2;obtain ⟨b,ws,rfl,hS,_⟩:=h2;cases r2;obtain ⟨_,_,p,_⟩:=I.list hS;exact SeqAt.EqAt.bool_list a p.isList hu'
   | tup m=>rw[DAt] at h2;obtain ⟨b,ws,rfl,hS,_⟩:=h2;cases r2;obtain ⟨_,_,p,_⟩:=I.tuple hS;exact SeqAt.EqAt.bool_tuple a p hu'
  | int a=>
   rw[DAt] at h1;subst h1;obtain ⟨t',rfl⟩:=r1
   cases e with
   | non=>rw[DAt] at h2;subst h2;cases r2;exact SeqAt.EqAt.int_none a t'
   | bl b=>rw[DAt] at h2;subst h2;cases r2;exact SeqAt.EqAt.int_bool a t' b
   | int b=>rw[DAt] at h2;subst h2;obtain ⟨t,rfl⟩:=r2;exact SeqAt.EqAt.int_int a t' b t
   | str b=>rw[DAt] at h2;subst h2;obtain ⟨t,rfl⟩:=r2;exact SeqAt.EqAt.int_str a t' b t
   | lst m=>rw[DAt] at h2;obtain ⟨b,ws,rfl,hS,_⟩:=h2;cases r2;obtain ⟨_,_,p,_⟩:=I.list hS;exact SeqAt.EqAt.int_list a t' p.isList hu'
   | tup m=>rw[DAt] at h2;obtain ⟨b,ws,rfl,hS,_⟩:=h2;cases r2;obtain ⟨_,_,p,_⟩:=I.tuple hS;exact SeqAt.EqAt.int_tuple a t' p hu'
  | str a=>
   rw[DAt] at h1;subst h1;obtain ⟨t',rfl⟩:=r1
   cases e with
   | non=>rw[DAt] at h2;subst h2;cases r2;exact SeqAt.EqAt.str_none a t'
   | bl b=>rw[DAt] at h2;subst h2;cases r2;exact SeqAt.EqAt.str_bool a t' b
   | int b=>rw[DAt] at h2;subst h2;obtain ⟨t,rfl⟩:=r2;exact SeqAt.EqAt.str_int a t' b t
   | str b=>rw[DAt] at h2;subst h2;obtain ⟨t,rfl⟩:=r2;exact SeqAt.EqAt.str_str a t' b t
   | lst m=>rw[DAt] at h2;obtain ⟨b,ws,rfl,hS,_⟩:=h2;cases r2;obtain ⟨_,_,p,_⟩:=I.list hS;exact SeqAt.EqAt.str_list a t' p.isList hu'
   | tup m=>rw[DAt] at h2;obtain ⟨b,ws,rfl,hS,_⟩:=h2;cases r2;obtain ⟨_,_,p,_⟩:=I.tuple hS;exact SeqAt.EqAt.str_tuple a t' p hu'
 | succ n ih=>
  intro d e A v x u w hn hu h1 h2 r1 r2
  have hu':A.units<cLine:=by lia
  by_cases hd:Ga d<=n
  ·exact ih d e hd (by lia) h1 h2 r1 r2
  cases d with
  | lst l=>
   have hdl:CO l<=n:=by rw[Ga] at hn;lia
   have h1':=h1
   rw[DAt] at h1
   obtain ⟨a,vs,rfl,hS,hD⟩:=h1
   cases r1
   obtain ⟨its,rv,p1,_⟩:=I.list hS
   cases e with
   | non=>rw[DAt] at h2;subst h2;cases r2;exact SeqAt.EqAt.list_none p1.isList hu'
   | bl b=>rw[DAt] at h2;subst h2;cases r2;exact SeqAt.EqAt.list_bool b p1.isList hu'
   | int b=>rw[DAt] at h2;subst h2;obtain ⟨t,rfl⟩:=r2;exact SeqAt.EqAt.list_int b t p1.isList hu'
   | str b=>rw[DAt] at h2;subst h2;obtain ⟨t,rfl⟩:=r2;exact SeqAt.EqAt.list_str b t p1.isList hu'
   | tup m=>rw[DAt] at h2;obtain ⟨b,ws,rfl,hS2,_⟩:=h2;cases r2;obtain ⟨_,_,p,_⟩:=I.tuple hS2;exact SeqAt.EqAt.list_tuple p1.isList p hu'
   | lst m=>
    have h2':=h2
    rw[DAt] at h2
    obtain ⟨b,ws,rfl,hS2,hD2⟩:=h2
    cases r2
    obtain ⟨its2,rv2,p2,_⟩:=I.list hS2
    by_cases eab:a=b
    ·subst eab
     rw[DI I _ _ _ h1' h2',Fo]
     exact SeqAt.EqAt.same _
    ·refine SeqAt.EqAt.of_refs eab ?_
     have l1:its.toArray.size=l.length:=by rw[List.size_toArray,<- rv.length,hD.length]
     have l2:its2.toArray.size=m.length:=by rw[List.size_toArray,<- rv2.length,hD2.length]
     rw[eqD]
     by_cases hl:l.length=m.length
     ·have:=SeqAt.RcAt.lists (A:=A) (e:=fun j=>eqD (l.getD j .non) (m.getD j .non)) p1.isList p2.isList (by rw[l1,l2,hl]) hu' (fun j q1 q2=>by
       obtain ⟨v1,g1,d1⟩:=hD.get (j:=j) (by lia)
       obtain ⟨v2,g2,d2⟩:=hD2.get (j:=j) (by lia)
       obtain ⟨u1,e1,R1⟩:=rv.get g1
       obtain ⟨u2,e2,R2⟩:=rv2.get g2
       have E1:its.toArray[j]=u1:= by
        have:its.toArray[j]?=some u1:=by rw[List.getElem?_toArray];exact e1
        rw[Array.getElem?_eq_getElem q1] at this;exact Option.some.inj this
       have E2:its2.toArray[j]=u2:= by
        have:its2.toArray[j]?=some u2:=by rw[List.getElem?_toArray];exact e2
        rw[Array.getElem?_eq_getElem q2] at this;exact Option.some.inj this
       rw[E1,E2]
       exact ih _ _ (Nat.le_trans (B7 (by lia)) hdl) (show A.units+1+n<cLine by lia) d1 d2 R1 R2)
      rw[l1,CL hl] at this
      exact this
     ·rw[CJ hl]
      exact SeqAt.RcAt.lists_lengths p1.isList p2.isList (by rw[l1,l2];simpa using hl) hu'
  | tup l=>
   have hdl:CO l<=n:=by rw[Ga] at hn;lia
   have h1':=h1
   rw[DAt] at h1
   obtain ⟨a,vs,rfl,hS,hD⟩:=h1
   cases r1
   obtain ⟨its,rv,p1,_⟩:=I.tuple hS
   cases e with
   | non=>rw[DAt] at h2;subst h2;cases r2;exact SeqAt.EqAt.tuple_none p1 hu'
   | bl b=>rw[DAt] at h2;subst h2;cases r2;exact SeqAt.EqAt.tuple_bool b p1 hu'
   | int b=>rw[DAt] at h2;subst h2;obtain ⟨t,rfl⟩:=r2;exact SeqAt.EqAt.tuple_int b t p1 hu'
   | str b=>rw[DAt] at h2;subst h2;obtain ⟨t,rfl⟩:=r2;exact SeqAt.EqAt.tuple_str b t p1 hu'
   | lst m=>rw[DAt] at h2;obtain ⟨b,ws,rfl,hS2,_⟩:=h2;cases r2;obtain ⟨_,_,p,_⟩:=I.list hS2;exact SeqAt.EqAt.tuple_list p1 p.isList hu'
   | tup m=>
    have h2':=h2
    rw[DAt] at h2
    obtain ⟨b,ws,rfl,hS2,hD2⟩:=h2
    cases r2
    obtain ⟨its2,rv2,p2,_⟩:=I.tuple hS2
    by_cases eab:a=b
    ·subst eab
     rw[DI I _ _ _ h1' h2',Fo]
     exact SeqAt.EqAt.same _
    ·refine SeqAt.EqAt.of_refs eab ?_
     have l1:its.toArray.size=l.length:=by rw[List.size_toArray,<- rv.length,hD.length]
     have l2:its2.toArray.size=m.length:=by rw[List.size_toArray,<- rv2.length,hD2.length]
     rw[eqD]
     have:=SeqAt.RcAt.tuples (A:=A) (e:=fun j=>eqD (l.getD j .non) (m.getD j .non)) p1 p2 hu' (fun j q1 q2=>by
      obtain ⟨v1,g1,d1⟩:=hD.get (j:=j) (by lia)
      obtain ⟨v2,g2,d2⟩:=hD2.get (j:=j) (by lia)
      obtain ⟨u1,e1,R1⟩:=rv.get g1
      obtain ⟨u2,e2,R2⟩:=rv2.get g2
      have E1:its.toArray[j]=u1:= by
       have:its.toArray[j]?=some u1:=by rw[List.getElem?_toArray];exact e1
       rw[Array.getElem?_eq_getElem q1] at this;exact Option.some.inj this
      have E2:its2.toArray[j]=u2:= by
       have:its2.toArray[j]?=some u2:=by rw[List.getElem?_toArray];exact e2
       rw[Array.getElem?_eq_getElem q2] at this;exact Option.some.inj this
      rw[E1,E2]
      exact ih _ _ (Nat.le_trans (B7 (by lia)) hdl) (show A.units+1+n<cLine by lia) d1 d2 R1 R2)
     rw[l1,l2] at this
     by_cases hl:l.length=m.length
     ·rw[<- hl,Nat.min_self,CL hl,beq_self_eq_true,Bool.and_true] at this
      exact this
     ·rw[CJ hl]
      rw[show (l.length==m.length)=false by simpa using hl,Bool.and_false] at this
      exact this
  | _=>exact absurd (show (0:Nat)<=n from Nat.zero_le _) hd
theorem L1 (I:Inv X pins σ H s) {n:Nat} : ∀ (d e:Dd) {A:Around} {v x:V} {u w:Value},Ga d<=n+1->A.units+(n+1)<cLine->DAt X.K H d v->DAt X.K H e x->AR v u->AR x w->SeqAt.RcNeAt A s u w (!eqD d e):= by
 intro d e A v x u w hn hu h1 h2 r1 r2
 have hu':A.units<cLine:=by lia
 cases d with
 | non=>
  rw[DAt] at h1;subst h1;cases r1
  cases e with
  | non=>rw[DAt] at h2;subst h2;cases r2;exact SeqAt.RcNeAt.none_none
  | bl b=>rw[DAt] at h2;subst h2;cases r2;exact SeqAt.RcNeAt.none_bool b
  | int b=>rw[DAt] at h2;subst h2;obtain ⟨t,rfl⟩:=r2;exact SeqAt.RcNeAt.none_int b t
  | str b=>rw[DAt] at h2;subst h2;obtain ⟨t,rfl⟩:=r2;exact SeqAt.RcNeAt.none_str b t
  | lst m=>rw[DAt] at h2;obtain ⟨b,ws,rfl,hS2,_⟩:=h2;cases r2;obtain ⟨_,_,p2,_⟩:=I.list hS2;exact SeqAt.RcNeAt.none_list p2.isList hu'
  | tup m=>rw[DAt] at h2;obtain ⟨b,ws,rfl,hS2,_⟩:=h2;cases r2;obtain ⟨_,_,p2,_⟩:=I.tuple hS2;exact SeqAt.RcNeAt.none_tuple p2 hu'
 | bl a=>
  rw[DAt] at h1;subst h1;cases r1
  cases e with
  | non=>rw[DAt] at h2;subst h2;cases r2;exact SeqAt.RcNeAt.bool_none a
  | bl b=>rw[DAt] at h2;subst h2;cases r2;exact SeqAt.RcNeAt.bool_bool a b
  | int b=>rw[DAt] at h2;subst h2;obtain ⟨t,rfl⟩:=r2;exact SeqAt.RcNeAt.bool_int a b t
  | str b=>rw[DAt] at h2;subst h2;obtain ⟨t,rfl⟩:=r2;exact SeqAt.RcNeAt.bool_str a b t
  | lst m=>rw[DAt] at h2;obtain ⟨b,ws,rfl,hS2,_⟩:=h2;cases r2;obtain ⟨_,_,p2,_⟩:=I.list hS2;exact SeqAt.RcNeAt.bool_list a p2.isList hu'
  | tup m=>rw[DAt] at h2;obtain ⟨b,ws,rfl,hS2,_⟩:=h2;cases r2;obtain ⟨_,_,p2,_⟩:=I.tuple hS2;exact SeqAt.RcNeAt.bool_tuple a p2 hu'
 | int a=>
  rw[DAt] at h1;subst h1;obtain ⟨t',rfl⟩:=r1
  cases e with
  | non=>rw[DAt] at h2;subst h2;cases r2;exact SeqAt.RcNeAt.int_none a t'
  | bl b=>rw[DAt] at h2;subst h2;cases r2;exact SeqAt.RcNeAt.int_bool a t' b
  | int b=>rw[DAt] at h2;subst h2;obtain ⟨t,rfl⟩:=r2;exact SeqAt.RcNeAt.int_int a t' b t
  | str b=>rw[DAt] at h2;subst h2;obtain ⟨t,rfl⟩:=r2;exact SeqAt.RcNeAt.int_str a t' b t
  | lst m=>rw[DAt] at h2;obtain ⟨b,ws,rfl,hS2,_⟩:=h2;cases r2;obtain ⟨_,_,p2,_⟩:=I.list hS2;exact SeqAt.RcNeAt.int_list a t' p2.isList hu'
  | tup m=>rw[DAt] at h2;obtain ⟨b,ws,rfl,hS2,_⟩:=h2;cases r2;obtain ⟨_,_,p2,_⟩:=I.tuple hS2;exact SeqAt.RcNeAt.int_tuple a t' p2 hu'
 | str a=>
  rw[DAt] at h1;subst h1;obtain ⟨t',rfl⟩:=r1
  cases e with
  | non=>rw[DAt] at h2;subst h2;cases r2;exact SeqAt.RcNeAt.str_none a t'
  | bl b=>rw[DAt] at h2;subst h2;cases r2;exact SeqAt.RcNeAt.str_bool a t' b
  | int b=>rw[DAt] at h2;subst h2;obtain ⟨t,rfl⟩:=r2;exact SeqAt.RcNeAt.str_int a t' b t
  | str b=>rw[DAt] at h2;subst h2;obtain ⟨t,rfl⟩:=r2;exact SeqAt.RcNeAt.str_str a t' b t
  | lst m=>rw[DAt] at h2;obtain ⟨b,ws,rfl,hS2,_⟩:=h2;cases r2;obtain ⟨_,_,p2,_⟩:=I.list hS2;exact SeqAt.RcNeAt.str_list a t' p2.isList hu'
  | tup m=>rw[DAt] at h2;obtain ⟨b,ws,rfl,hS2,_⟩:=h2;cases r2;obtain ⟨_,_,p2,_⟩:=I.tuple hS2;exact SeqAt.RcNeAt.str_tuple a t' p2 hu'
 | lst l=>
  have hdl:CO l<=n:=by rw[Ga] at hn;lia
  have h1':=h1
  rw[DAt] at h1
  obtain ⟨a,vs,rfl,hS,hD⟩:=h1
  cases r1
  obtain ⟨its,rv,p1,_⟩:=I.list hS
  cases e with
  | non=>rw[DAt] at h2;subst h2;cases r2;exact SeqAt.RcNeAt.list_none p1.isList hu'
  | bl b=>rw[DAt] at h2;subst h2;cases r2;exact SeqAt.RcNeAt.list_bool b p1.isList hu'
  | int b=>rw[DAt] at h2;subst h2;obtain ⟨t,rfl⟩:=r2;exact SeqAt.RcNeAt.list_int b t p1.isList hu'
  | str b=>rw[DAt] at h2;subst h2;obtain ⟨t,rfl⟩:=r2;exact SeqAt.RcNeAt.list_str b t p1.isList hu'
  | lst m=>
   have h2':=h2
   rw[DAt] at h2
   obtain ⟨b,ws,rfl,hS2,hD2⟩:=h2
   cases r2
   obtain ⟨its2,rv2,p2,_⟩:=I.list hS2
   have l1:its.toArray.size=l.length:=by rw[List.size_toArray,<- rv.length,hD.length]
   have l2:its2.toArray.size=m.length:=by rw[List.size_toArray,<- rv2.length,hD2.length]
   rw[eqD]
   by_cases hl:l.length=m.length
   ·have:=SeqAt.RcNeAt.lists (A:=A) (e:=fun j=>eqD (l.getD j .non) (m.getD j .non)) p1.isList p2.isList (by rw[l1,l2,hl]) hu' (fun j q1 q2=>by
    obtain ⟨v1,g1,d1⟩:=hD.get (j:=j) (by lia)
    obtain ⟨v2,g2,d2⟩:=hD2.get (j:=j) (by lia)
    obtain ⟨u1,e1,R1⟩:=rv.get g1
    obtain ⟨u2,e2,R2⟩:=rv2.get g2
    have E1:its.toArray[j]=u1:= by
     have:its.toArray[j]?=some u1:=by rw[List.getElem?_toArray];exact e1
     rw[Array.getElem?_eq_getElem q1] at this;exact Option.some.inj this
    have E2:its2.toArray[j]=u2:= by
     have:its2.toArray[j]?=some u2:=by rw[List.getElem?_toArray];exact e2
     rw[Array.getElem?_eq_getElem q2] at this;exact Option.some.inj this
    rw[E1,E2]
    exact Lc I n _ _ (Nat.le_trans (B7 (by lia)) hdl) (show A.units+1+n<cLine by lia) d1 d2 R1 R2)
    rw[l1,CL hl] at this
    exact this
   ·rw[CJ hl]
    exact SeqAt.RcNeAt.lists_lengths p1.isList p2.isList (by rw[l1,l2];simpa using hl) hu'
  | tup m=>rw[DAt] at h2;obtain ⟨b,ws,rfl,hS2,_⟩:=h2;cases r2;obtain ⟨_,_,p2,_⟩:=I.tuple hS2;exact SeqAt.RcNeAt.list_tuple p1.isList p2 hu'
 | tup l=>
  have hdl:CO l<=n:=by rw[Ga] at hn;lia
  have h1':=h1
  rw[DAt] at h1
  obtain ⟨a,vs,rfl,hS,hD⟩:=h1
  cases r1
  obtain ⟨its,rv,p1,_⟩:=I.tuple hS
  cases e with
  | non=>rw[DAt] at h2;subst h2;cases r2;exact SeqAt.RcNeAt.tuple_none p1 hu'
  | bl b=>rw[DAt] at h2;subst h2;cases r2;exact SeqAt.RcNeAt.tuple_bool b p1 hu'
  | int b=>rw[DAt] at h2;subst h2;obtain ⟨t,rfl⟩:=r2;exact SeqAt.RcNeAt.tuple_int b t p1 hu'
  | str b=>rw[DAt] at h2;subst h2;obtain ⟨t,rfl⟩:=r2;exact SeqAt.RcNeAt.tuple_str b t p1 hu'
  | lst m=>rw[DAt] at h2;obtain ⟨b,ws,rfl,hS2,_⟩:=h2;cases r2;obtain ⟨_,_,p2,_⟩:=I.list hS2;exact SeqAt.RcNeAt.tuple_list p1 p2.isList hu'
  | tup m=>
   have h2':=h2
   rw[DAt] at h2
   obtain ⟨b,ws,rfl,hS2,hD2⟩:=h2
   cases r2
   obtain ⟨its2,rv2,p2,_⟩:=I.tuple hS2
   have l1:its.toArray.size=l.length:=by rw[List.size_toArray,<- rv.length,hD.length]
   have l2:its2.toArray.size=m.length:=by rw[List.size_toArray,<- rv2.length,hD2.length]
   rw[eqD]
   have:=SeqAt.RcNeAt.tuples (A:=A) (e:=fun j=>eqD (l.getD j .non) (m.getD j .non)) p1 p2 hu' (fun j q1 q2=>by
    obtain ⟨v1,g1,d1⟩:=hD.get (j:=j) (by lia)
    obtain ⟨v2,g2,d2⟩:=hD2.get (j:=j) (by lia)
    obtain ⟨u1,e1,R1⟩:=rv.get g1
    obtain ⟨u2,e2,R2⟩:=rv2.get g2
    have E1:its.toArray[j]=u1:= by
     have:its.toArray[j]?=some u1:=by rw[List.getElem?_toArray];exact e1
     rw[Array.getElem?_eq_getElem q1] at this;exact Option.some.inj this
    have E2:its2.toArray[j]=u2:= by
     have:its2.toArray[j]?=some u2:=by rw[List.getElem?_toArray];exact e2
     rw[Array.getElem?_eq_getElem q2] at this;exact Option.some.inj this
    rw[E1,E2]
    exact Lc I n _ _ (Nat.le_trans (B7 (by lia)) hdl) (show A.units+1+n<cLine by lia) d1 d2 R1 R2)
   rw[l1,l2] at this
   by_cases hl:l.length=m.length
   ·rw[<- hl,Nat.min_self,CL hl,beq_self_eq_true,Bool.and_true] at this
    exact this
   ·rw[CJ hl]
    rw[show (l.length==m.length)=false by simpa using hl,Bool.and_false] at this
    exact this
def Qn (K:PySem.W.Frag) (g:Bool->V):R2:=fun x y H Q=>∃ (d e:Dd),DAt K H d x/\DAt K H e y/\Ga d<=30/\Q (g (eqD d e)) H
theorem Ma (hu:X.A.units+40<cLine) (h:X.K=K:=by rfl):OpR X (compareOp .NotEq) (Qn K fun b=>.bl (!b)):= by
 subst h
 intro pins s σ H x y v u Q I rx ry h
 refine CI h fun d e h1 h2 hd q=>?_
 exact L1 I (n:=30) d e (by lia) (by lia) h1 h2 rx ry _ _ _ _ ⟨.bl _,H,I,rfl,q⟩
theorem Pp {A:Around} {k:Nat} (hr:Ee k A):A.units+40<cLine:=Nat.lt_of_le_of_lt (Nat.add_le_add_left (by decide:40<=64) _) hr.units
end
end L2
namespace L2
open PySem PySem.Spec PyProof.Rows
section
variable {K:PySem.W.Frag} {a:Addr} {xs:List V} {σ0:St} {g:TG} {tc:TT} {tm:TM} {F:List V->Hp->Prop} {H:Hp} {ys0:List V}
theorem Gi {lo:Int} {n:Nat} (Pv:Nat->List V->Hp->Prop) (h0:Pv 0 ys0 H) (hl : ∀ i ys H,i<=n->Pv i ys H->ys.length<=sizeLine)
  (hs : ∀ i ys H,i<n->Pv i ys H->g (.int (lo+i)) σ0 H fun σ2 H2=>tc σ2 H2 fun b H3=>if b=true then tm σ2 H3 ys (Pv (i+1)) else Pv (i+1) ys H3)
  (hd : ∀ ys H,Pv n ys H->F ys H):LcW (Itr lo n) g tc tm σ0 ys0 H F:= by
 refine ⟨fun i m ys H=>m=n-i/\i<=n/\Pv i ys H,⟨n,by simp,Nat.zero_le _,h0⟩,?_⟩
 intro i m ys H n90;refine xA2 n90 fun e91 hi p=>?_;subst e91
 have hy:=hl i ys H hi p
 refine ⟨hy,?_⟩
 by_cases hlt:i<n
 ·refine .inr ⟨hlt,Pv (i+1),fun ys' H' p'=>⟨n-(i+1),by lia,rfl,hlt,p'⟩,fun x H' y=>?_⟩
  obtain ⟨e,y⟩:=y
  subst e y
  exact hs i ys _ hlt p
 ·have e:i=n:=by lia
  subst e
  exact .inl ⟨Nat.le_refl _,hd ys H p⟩
theorem lcM {i:Nat} {x:V} {σ:St} {ys:List V} {N:List V->Hp->Prop} (h:tm (σ.set i (some x)) H ys N):Fe i x σ H fun σ2 H2=>NO σ2 H2 fun b H3=>if b=true then tm σ2 H3 ys N else N ys H3:= by
 show if true=true then tm (σ.set i (some x)) H ys N else N ys H
 rw[if_pos rfl];exact h
end
noncomputable def Fj (r:List Int):Dd:=.tup (r.map .int)
theorem Gv {K:PySem.W.Frag} {H:Hp} : ∀ (r:List Int),CC K H (r.map .int) (r.map V.int)
 | []=>by rw[List.map_nil,CC];rfl
 | z::r=>by rw[List.map_cons,CC];exact ⟨_,_,rfl,by rw[DAt],Gv r⟩
theorem HG {K:PySem.W.Frag} {H:Hp} {a:Addr} {r:List Int} (h:SqT K H a (r.map V.int)):DAt K H (Fj r) (.ref a):= by
 rw[Fj,DAt];exact ⟨a,_,rfl,h,Gv r⟩
theorem Eh {K:PySem.W.Frag} {H:Hp} : ∀ {ps:List Addr} {xss:List (List Int)},DM H ps xss->CC K H (xss.map Fj) (ps.map V.ref)
 | _,_,.nil=>by rw[List.map_nil,List.map_nil,CC]
 | _,_,.cons h t=>by rw[List.map_cons,List.map_cons,CC];exact ⟨_,_,rfl,HG (SqT.of h),Eh t⟩
noncomputable def CG (xss:List (List Int)):Dd:=.lst (xss.map Fj)
theorem Fq {K:PySem.W.Frag} {H:Hp} {p:Addr} {ps:List Addr} {xss:List (List Int)} (hp:SqL K H p (ps.map V.ref)) (h:DM H ps xss):DAt K H (CG xss) (.ref p):= by
 rw[CG,DAt];exact ⟨p,_,rfl,hp,Eh h⟩
theorem FN {α:Type} [DecidableEq α] {f:α->Dd} (hf : ∀ x y,eqD (f x) (f y)=decide (x=y)) : ∀ (l m:List α),Jy (l.map f) (m.map f)=decide (l=m)
 | [],[]=>rfl
 | [],_::_=>rfl
 | _::_,[]=>rfl
 | x::l,y::m=>by
  rw[List.map_cons,List.map_cons,Jy,hf,FN hf l m]
  rw[Bool.eq_iff_iff];simp
theorem GY (r q:List Int):eqD (Fj r) (Fj q)=decide (r=q):= by
 rw[Fj,Fj,eqD]
 exact FN (fun x y=>by rw[eqD];rw[Bool.eq_iff_iff];simp) r q
theorem Ia (l m:List (List Int)):eqD (CG l) (CG m)=decide (l=m):= by
 rw[CG,CG,eqD]
 exact FN GY l m
theorem CD {α:Type} {f:α->Dd} {k:Nat} (h : ∀ x,Ga (f x)<=k) : ∀ l:List α,CO (l.map f)<=k
 | []=>by rw[List.map_nil,CO];exact Nat.zero_le _
 | x::l=>by rw[List.map_cons,CO];exact Nat.max_le.mpr ⟨h x,CD h l⟩
theorem Jw (r:List Int):Ga (Fj r)<=1:= by
 rw[Fj,Ga]
 exact Nat.succ_le_succ (CD (fun x=>Nat.le_refl 0) r)
theorem Iq (l:List (List Int)):Ga (CG l)<=2:= by
 rw[CG,Ga]
 exact Nat.succ_le_succ (CD Jw l)
noncomputable def mrg (ws:List Int) (a b:Int):List Int:=Ax (EB ws b a)
theorem EV (ws:List Int) (a b:Int):(mrg ws a b).length=ws.length:=by unfold mrg;rw[Bg,AK]
noncomputable def EF (n:Nat):List (Nat × Nat):=(List.range n).flatMap fun s=>(List.range s).map fun f=>(f,s)
theorem GD {n:Nat} {p:Nat × Nat}:p ∈ EF n ↔ p.1<p.2/\p.2<n:= by
 unfold EF
 rw[List.mem_flatMap]
 constructor
 ·rintro ⟨s,hs,hp⟩
  obtain ⟨f,hf,rfl⟩:=List.mem_map.mp hp
  exact ⟨List.mem_range.mp hf,List.mem_range.mp hs⟩
 ·rintro ⟨h1,h2⟩
  exact ⟨p.2,List.mem_range.mpr h2,List.mem_map.mpr ⟨p.1,List.mem_range.mpr h1,rfl⟩⟩
theorem Dk (n:Nat):EF (n+1)=EF n++(List.range n).map fun f=>(f,n):= by
 unfold EF
 rw[List.range_succ,List.flatMap_append,List.flatMap_singleton]
theorem Er : ∀ n:Nat,(EF n).length*2=n*(n-1)
 | 0=>rfl
 | 1=>rfl
 | n+2=>by
  rw[Dk,List.length_append,List.length_map,List.length_range,Nat.add_mul,Er (n+1)]
  have:(n+1)*(n+1-1)=(n+1)*n:=rfl
  rw[this]
  have h2:(n+2)*(n+2-1)=(n+2)*(n+1):=rfl
  rw[h2,Nat.add_mul n 2 (n+1),Nat.mul_comm (n+1) n]
  lia
noncomputable def DU (ws:List Int):List (List Int):=(EF (fresh 0 ws).toNat).map fun p=>mrg ws p.1 p.2
theorem Bl {α β:Type} {f:α->β} : ∀ {l:List α},l.Nodup->(∀ a ∈ l,∀ b ∈ l,f a=f b->a=b)->(l.map f).Nodup
 | [],_,_=>List.nodup_nil
 | a::l,h,hi=>by
  rw[List.nodup_cons] at h
  rw[List.map_cons,List.nodup_cons]
  refine ⟨fun hm=>?_,Bl h.2 fun x hx y hy=>hi x (List.mem_cons_of_mem _ hx) y (List.mem_cons_of_mem _ hy)⟩
  obtain ⟨b,hb,e⟩:=List.mem_map.mp hm
  exact h.1 (hi b (List.mem_cons_of_mem _ hb) a List.mem_cons_self e ▸ hb)
theorem D6 {l m:List (List Int)} (h1:BC l) (h2:BC m) (hp:l.Perm m):l=m:=
 List.Perm.eq_of_pairwise (le:=fun a b=>HT.lexLt b a=false) (fun a b _ _ x y=>(Bj b a x y).symm) h1 h2 hp
theorem Kr {ws:List Int} (hw:As ws=true):(DU ws).length<=36:= by
 obtain ⟨w1,w9,w0⟩:=Am.mp hw
 have fl:=Bf ws
 have h:=Er (fresh 0 ws).toNat
 unfold DU
 rw[List.length_map]
 have h9:(fresh 0 ws).toNat<=9:=by lia
 have:(fresh 0 ws).toNat*((fresh 0 ws).toNat-1)<=9*8:=Nat.mul_le_mul h9 (by lia)
 lia
end L2
namespace L2
open PySem
theorem HE {α β:Type} {F:α->β->Prop} : ∀ {l1:List α} {l2:List β} {j:Nat} {a:α},Paired F l1 l2->l1[j]?=some a -> ∃ b,F a b/\l2[j]?=some b:= by
 intro l1 l2 j a h e
 induction h generalizing j with
 | nil=>simp at e
 | cons r t ih=>
  cases j with
  | zero=>simp at e;subst e;exact ⟨_,r,rfl⟩
  | succ j=>refine xEA (ih (by simpa using e)) fun b q e2=>?_;exact ⟨b,q,by simpa using e2⟩
end L2
namespace L2
open PySem PySem.Spec PyProof.Rows
end L2
namespace L2
open PySem
end L2
namespace L2
open PySem PySem.Spec PyProof.Rows
noncomputable def Pm:Bool->Keyed->Array Keyed->Nat->Nat->Nat->StateT SortSt Sem (Option Nat):=sortPriv% PySem.Builtin.gallop
section
variable {M:Model} {A:Around} {E:Value->Shared->Prop} {s:Shared} {st:SortSt}
theorem Ml {left:Bool} {key:Keyed} {arr:Array Keyed} {base n hint:Nat} {B:Nat->Bool} {Q:Option Nat->SortSt->Prop}
  (hb : ∀ i<n,∀ R:Option Bool->SortSt->Prop,R (some (B i)) st->wpS M A E s (elem' arr (base+i) >>= fun x=>if left=true then lt' x key else lt' key x >>= fun v=>pure (v.map fun b=>!b)) R st)
  (mono : ∀ i j,i<=j->j<n->B j=true->B i=true) (hh:hint<n)
  (h : ∀ k,k<=n->(∀ i<k,B i=true)->(∀ i,k<=i->i<n->B i=false)->Q (some k) st):wpS M A E s (Pm left key arr base n hint) Q st:= by
 have anti : ∀ i j,i<=j->j<n->B i=false->B j=false:=fun i j a b e=>by
  cases e2:B j with
  | false=>rfl
  | true=>rw[mono i j a b e2] at e;cases e
 refine wpS_bind (hb hint hh _ ?_)
 dsimp only
 cases e0:B hint with
 | true=>
  rw[if_pos rfl]
  refine wpS_bind (wpS_mono (wpS_forRange (I:=fun x c st'=>st'=st /\ ∃ la k,c=(none,la,k)/\la<k/\x+1<=k/\hint+la<n/\B (hint+la)=true)
   (Q:=fun c st'=>st'=st /\ ∃ la k,c=(none,la,k)/\la<k/\hint+la<n/\B (hint+la)=true/\(n-hint<=k\/hint+k<n/\B (hint+k)=false)) ?_ ?_ ⟨rfl,0,1,rfl,Nat.one_pos,Nat.le_refl _,hh,e0⟩) ?_)
  ·rintro x c st' _ hx ⟨rfl,la,k,rfl,h1,h2,h3,h4⟩
   dsimp only
   by_cases hk:k >= n-hint
   ·rw[if_pos hk]
    exact wpS_pure ⟨rfl,la,k,rfl,h1,h3,h4,.inl hk⟩
   ·rw[if_neg hk]
    refine wpS_bind (hb (hint+k) (by omega) _ ?_)
    dsimp only
    cases e1:B (hint+k) with
    | true=>exact wpS_pure ⟨rfl,k,2*k+1,rfl,by omega,by omega,by omega,e1⟩
    | false=>exact wpS_pure ⟨rfl,la,k,rfl,h1,h3,h4,.inr ⟨by omega,e1⟩⟩
  ·rintro c st' ⟨rfl,la,k,rfl,h1,h2,h3,h4⟩
   exact ⟨rfl,la,k,rfl,h1,h3,h4,.inl (by omega)⟩
  rintro c st' ⟨rfl,la,k,rfl,h1,h3,h4,h5⟩
  dsimp only
  have lo1 : ∀ i<hint+la+1,B i=true:=fun i hi=>mono i (hint+la) (by omega) h3 h4
  have hi1 : ∀ i,hint+min k (n-hint)<=i->i<n->B i=false:=fun i hi hn=>by
   rcases h5 with h5 | h5
   ·omega
   ·exact anti (hint+k) i (by omega) hn h5.2
  have lh:hint+la+1<=hint+min k (n-hint):=by omega
  have hn:hint+min k (n-hint)<=n:=by omega
  generalize hint+la+1=lo at lo1 lh
  generalize hint+min k (n-hint)=hi at hi1 lh hn
  refine wpS_bind (wpS_mono (wpS_forRange (I:=fun x c st''=>st''=st' /\ ∃ l u,c=(none,l,u)/\l<=u/\u<=n/\u-l<=n-x/\(∀ i<l,B i=true)/\(∀ i,u<=i->i<n->B i=false))
   (Q:=fun c st''=>st''=st' /\ ∃ l,c=(none,l,l)/\l<=n/\(∀ i<l,B i=true)/\(∀ i,l<=i->i<n->B i=false)) ?_ ?_ ⟨rfl,lo,hi,rfl,lh,hn,by omega,lo1,hi1⟩) ?_)
  ·rintro x c st'' _ hx ⟨rfl,l,u,rfl,g1,g2,g3,g4,g5⟩
   dsimp only
   by_cases hk:l >= u
   ·rw[if_pos hk]
    obtain rfl:l=u:=by omega
    exact wpS_pure ⟨rfl,l,rfl,g2,g4,g5⟩
   ·rw[if_neg hk]
    refine wpS_bind (hb (l+(u-l) / 2) (by omega) _ ?_)
    dsimp only
    cases e1:B (l+(u-l) / 2) with
    | true=>exact wpS_pure ⟨rfl,_,u,rfl,by omega,g2,by omega,fun i hi=>mono i (l+(u-l) / 2) (by omega) (by omega) e1,g5⟩
    | false=>exact wpS_pure ⟨rfl,l,_,rfl,by omega,by omega,by omega,g4,fun i hi hn=>anti (l+(u-l) / 2) i hi hn e1⟩
  ·rintro c st'' ⟨rfl,l,u,rfl,g1,g2,g3,g4,g5⟩
   obtain rfl:l=u:=by omega
   exact ⟨rfl,l,rfl,g2,g4,g5⟩
  rintro c st'' ⟨rfl,l,rfl,g2,g4,g5⟩
  exact wpS_pure (h l g2 g4 g5)
 | false=>
  rw[if_neg (by decide)]
  refine wpS_bind (wpS_mono (wpS_forRange (I:=fun x c st'=>st'=st /\ ∃ la k,c=(none,la,k)/\la<k/\x+1<=k/\la<=hint/\B (hint-la)=false)
   (Q:=fun c st'=>st'=st /\ ∃ la k,c=(none,la,k)/\la<k/\la<=hint/\B (hint-la)=false/\(hint+1<=k\/k<=hint/\B (hint-k)=true)) ?_ ?_ ⟨rfl,0,1,rfl,Nat.one_pos,Nat.le_refl _,Nat.zero_le _,e0⟩) ?_)
  ·rintro x c st' _ hx ⟨rfl,la,k,rfl,h1,h2,h3,h4⟩
   dsimp only
   by_cases hk:k >= hint+1
   ·rw[if_pos hk]
    exact wpS_pure ⟨rfl,la,k,rfl,h1,h3,h4,.inl hk⟩
   ·rw[if_neg hk]
    refine wpS_bind (hb (hint-k) (by omega) _ ?_)
    dsimp only
    cases e1:B (hint-k) with
    | true=>exact wpS_pure ⟨rfl,la,k,rfl,h1,h3,h4,.inr ⟨by omega,e1⟩⟩
    | false=>exact wpS_pure ⟨rfl,k,2*k+1,rfl,by omega,by omega,by omega,e1⟩
  ·rintro c st' ⟨rfl,la,k,rfl,h1,h2,h3,h4⟩
   exact ⟨rfl,la,k,rfl,h1,h3,h4,.inl (by omega)⟩
  rintro c st' ⟨rfl,la,k,rfl,h1,h3,h4,h5⟩
  dsimp only
  have lo1 : ∀ i<hint+1-min k (hint+1),B i=true:=fun i hi=>by
   rcases h5 with h5 | h5
   ·omega
   ·exact mono i (hint-k) (by omega) (by omega) h5.2
  have hi1 : ∀ i,hint-la<=i->i<n->B i=false:=fun i hi hn=>anti (hint-la) i hi hn h4
  have lh:hint+1-min k (hint+1)<=hint-la:=by omega
  have hn:hint-la<=n:=by omega
  generalize hint+1-min k (hint+1)=lo at lo1 lh
  generalize hint-la=hi at hi1 lh hn
  refine wpS_bind (wpS_mono (wpS_forRange (I:=fun x c st''=>st''=st' /\ ∃ l u,c=(none,l,u)/\l<=u/\u<=n/\u-l<=n-x/\(∀ i<l,B i=true)/\(∀ i,u<=i->i<n->B i=false))
   (Q:=fun c st''=>st''=st' /\ ∃ l,c=(none,l,l)/\l<=n/\(∀ i<l,B i=true)/\(∀ i,l<=i->i<n->B i=false)) ?_ ?_ ⟨rfl,lo,hi,rfl,lh,hn,by omega,lo1,hi1⟩) ?_)
  ·rintro x c st'' _ hx ⟨rfl,l,u,rfl,g1,g2,g3,g4,g5⟩
   dsimp only
   by_cases hk:l >= u
   ·rw[if_pos hk]
    obtain rfl:l=u:=by omega
    exact wpS_pure ⟨rfl,l,rfl,g2,g4,g5⟩
   ·rw[if_neg hk]
    refine wpS_bind (hb (l+(u-l) / 2) (by omega) _ ?_)
    dsimp only
    cases e1:B (l+(u-l) / 2) with
    | true=>exact wpS_pure ⟨rfl,_,u,rfl,by omega,g2,by omega,fun i hi=>mono i (l+(u-l) / 2) (by omega) (by omega) e1,g5⟩
    | false=>exact wpS_pure ⟨rfl,l,_,rfl,by omega,by omega,by omega,g4,fun i hi hn=>anti (l+(u-l) / 2) i hi hn e1⟩
  ·rintro c st'' ⟨rfl,l,u,rfl,g1,g2,g3,g4,g5⟩
   obtain rfl:l=u:=by omega
   exact ⟨rfl,l,rfl,g2,g4,g5⟩
  rintro c st'' ⟨rfl,l,rfl,g2,g4,g5⟩
  exact wpS_pure (h l g2 g4 g5)
end
end L2
namespace L2
open PySem PySem.Spec PyProof.Rows
noncomputable def mlP:Array Keyed->Array Keyed->StateT SortSt Sem (Array Keyed):=sortPriv% PySem.Builtin.mergeLo
noncomputable def mhP:Array Keyed->Array Keyed->StateT SortSt Sem (Array Keyed):=sortPriv% PySem.Builtin.mergeHi
structure Mer (r:Keyed->Int) (T O L R:List Keyed):Prop where
 perm:(O++(L++R)).Perm T
 so:O.Pairwise fun a b=>r a<=r b
 sl:L.Pairwise fun a b=>r a<=r b
 sr:R.Pairwise fun a b=>r a<=r b
 lt : ∀ a ∈ O,∀ b ∈ L++R,r a<=r b
def B3 (r:Keyed->Int) (T:List Keyed) (m:Array Keyed):Prop:=m.toList.Perm T/\m.toList.Pairwise fun a b=>r a<=r b
section
variable {r:Keyed->Int} {T O L R l:List Keyed}
theorem Mer.swap (h:Mer r T O L R):Mer r T O R L:=
 ⟨((List.perm_append_comm (l₁:=R) (l₂:=L)).append_left O).trans h.perm,h.so,h.sr,h.sl,fun a ha b hb=>h.lt a ha b (by rw[List.mem_append] at hb ⊢;exact hb.symm)⟩
theorem Mer.left (h:Mer r T O (l++L) R) (hl : ∀ a ∈ l,∀ b ∈ R,r a<=r b):Mer r T (O++l) L R:= by
 refine ⟨by rw[List.append_assoc,<- List.append_assoc l];exact h.perm,?_,(List.pairwise_append.mp h.sl).2.1,h.sr,?_⟩
 ·exact List.pairwise_append.mpr ⟨h.so,(List.pairwise_append.mp h.sl).1,fun a ha b hb=>h.lt a ha b (List.mem_append_left _ (List.mem_append_left _ hb))⟩
 ·intro a ha b hb
  rcases List.mem_append.mp ha with ha | ha
  ·refine h.lt a ha b ?_
   rcases List.mem_append.mp hb with hb | hb
   ·exact List.mem_append_left _ (List.mem_append_right _ hb)
   ·exact List.mem_append_right _ hb
  ·rcases List.mem_append.mp hb with hb | hb
   ·exact (List.pairwise_append.mp h.sl).2.2 a ha b hb
   ·exact hl a ha b hb
theorem Mer.fin (h:Mer r T O L R) (hl : ∀ a ∈ L,∀ b ∈ R,r a<=r b):(O++L++R).Perm T/\(O++L++R).Pairwise fun a b=>r a<=r b:= by
 rw[List.append_assoc]
 exact ⟨h.perm,List.pairwise_append.mpr ⟨h.so,List.pairwise_append.mpr ⟨h.sl,h.sr,hl⟩,fun a ha b hb=>h.lt a ha b hb⟩⟩
end
section
variable {x y:Array Keyed} {r:Keyed->Int}
theorem O0 {i:Nat} {p:Keyed} (h:x[i]?=some p):x.toList.drop i=[p]++x.toList.drop (i+1):= by
 have hi:i<x.toList.length:= by
  rw[<- Array.getElem?_toList] at h
  exact (List.getElem?_eq_some_iff.mp h).1
 rw[List.drop_eq_getElem_cons hi]
 rw[<- Array.getElem?_toList] at h
 rw[(List.getElem?_eq_some_iff.mp h).2];rfl
theorem N5 {i k:Nat}:(x.extract i (i+k)).toList=(x.toList.drop i).take k:= by
 rw[Array.toList_extract,List.extract_eq_take_drop,Nat.add_sub_cancel_left]
theorem JC {i:Nat}:(x.extract i x.size).toList=x.toList.drop i:= by
 rw[Array.toList_extract,List.extract_eq_take_drop,List.take_of_length_le (by rw[List.length_drop,Array.length_toList];exact Nat.le_refl _)]
theorem Fw {i k:Nat}:x.toList.drop i=(x.toList.drop i).take k++x.toList.drop (i+k):= by
 rw[<- List.drop_drop,List.take_append_drop]
theorem Bz {i:Nat} (h:i<x.size) : ∃ p,x[i]?=some p/\p ∈ x.toList:=⟨x[i],getElem?_pos x i h,Array.getElem_mem_toList h⟩
theorem FP {i:Nat} {p:Keyed} (h:p ∈ x.toList.drop i) : ∃ j,i<=j/\x[j]?=some p/\j<x.size:= by
 obtain ⟨k,hk,e⟩:=List.getElem_of_mem h
 rw[List.getElem_drop] at e
 rw[List.length_drop,Array.length_toList] at hk
 refine ⟨i+k,by omega,?_,by omega⟩
 rw[<- Array.getElem?_toList,List.getElem?_eq_getElem (by rw[Array.length_toList];omega),e]
theorem FM {i k:Nat} {p:Keyed} (h:p ∈ (x.toList.drop i).take k) : ∃ j,i<=j/\j<i+k/\x[j]?=some p:= by
 obtain ⟨n,hn,e⟩:=List.getElem_of_mem h
 rw[List.length_take] at hn
 rw[List.getElem_take,List.getElem_drop] at e
 have h2:n<(x.toList.drop i).length:=by omega
 rw[List.length_drop] at h2
 refine ⟨i+n,by omega,by omega,?_⟩
 rw[<- Array.getElem?_toList,List.getElem?_eq_getElem (by omega),e]
noncomputable def rk (r:Keyed->Int) (x:Array Keyed) (i:Nat):Int:=match x[i]? with
 | some p=>r p
 | none=>0
theorem AJ {i:Nat} {p:Keyed} (h:x[i]?=some p):rk r x i=r p:=by unfold rk;rw[h]
def Up (r:Keyed->Int) (x:Array Keyed) (i j:Nat):Prop:=∀ a b,i<=a->a<=b->b<j->rk r x a<=rk r x b
theorem Up.list (h:Up r x 0 x.size):x.toList.Pairwise fun a b=>r a<=r b:= by
 refine List.pairwise_iff_getElem.mpr fun i j hi hj hij=>?_
 rw[Array.length_toList] at hi hj
 have:=h i j (Nat.zero_le _) (Nat.le_of_lt hij) hj
 rw[AJ (getElem?_pos x i hi),AJ (getElem?_pos x j hj)] at this
 exact this
end
section
variable {M:Model} {A:Around} {E:Value->Shared->Prop} {s:Shared} {κ:SortKind} {S:Keyed->Prop} {r:Keyed->Int}
def Jl (M:Model) (A:Around) (s:Shared) (κ:SortKind) (S:Keyed->Prop) (r:Keyed->Int):Prop:=
 ∀ x y,S x->S y -> ∀ (Q:Bool->Shared->Prop) (E:Value->Shared->Prop),Q (decide (r x<r y)) s->wpAny M A (keyLt' κ x.1 y.1) Q E s
theorem el9 {x:Array Keyed} {i:Nat} {p:Keyed} {st:SortSt} {Q:Keyed->SortSt->Prop} (h:x[i]?=some p) (q:Q p st):wpS M A E s (elem' x i) Q st:= by
 rw[elem'_eq,h];exact wpS_pure q
theorem lt9 {x y:Keyed} {st:SortSt} {Q:Option Bool->SortSt->Prop} (C:Jl M A s κ S r) (hk:kindOf st=κ) (hx:S x) (hy:S y) (q:Q (some (decide (r x<r y))) st):wpS M A E s (lt' x y) Q st:= by
 rw[lt'_eq]
 refine wpS_bind (wpS_get ?_)
 rw[hk]
 exact wpS_bind (wpS_lift (wpAny_attempt (C x y hx hy _ _ ⟨rfl,wpS_pure q⟩)))
theorem Pi {x:Array Keyed} {b n hint:Nat} {p:Keyed} {st:SortSt} {Q:Option Nat->SortSt->Prop} (C:Jl M A s κ S r) (hk:kindOf st=κ) (hx : ∀ q ∈ x.toList,S q) (hp:S p) (hu:Up r x b (b+n)) (hn:b+n<=x.size) (hh:hint<n)
  (h : ∀ k,k<=n->(∀ i<k,rk r x (b+i)<=r p)->(∀ i,k<=i->i<n->r p<rk r x (b+i))->Q (some k) st):wpS M A E s (Pm false p x b n hint) Q st:= by
 refine Ml (B:=fun i=>decide (rk r x (b+i)<=r p)) (fun i hi R q=>?_) (fun i j a c e=>?_) hh fun k a c d=>h k a (fun i hi=>of_decide_eq_true (c i hi)) fun i h1 h2=>Int.not_le.mp (of_decide_eq_false (d i h1 h2))
 ·obtain ⟨z,hz,hm⟩:=Bz (x:=x) (i:=b+i) (by omega)
  refine wpS_bind (el9 hz ?_)
  rw[if_neg (by decide)]
  refine wpS_bind (lt9 C hk hp (hx z hm) (wpS_pure ?_))
  rw[AJ hz] at q
  have:(some (decide (r p<r z))).map (fun b=>!b)=some (decide (r z<=r p)):= by
   show some (!decide (r p<r z))=_
   rw[<- decide_not];congr 1;exact decide_eq_decide.mpr Int.not_lt
  rw[this];exact q
 ·exact decide_eq_true (Int.le_trans (hu (b+i) (b+j) (by omega) (by omega) (by omega)) (of_decide_eq_true e))
theorem Pb {x:Array Keyed} {b n hint:Nat} {p:Keyed} {st:SortSt} {Q:Option Nat->SortSt->Prop} (C:Jl M A s κ S r) (hk:kindOf st=κ) (hx : ∀ q ∈ x.toList,S q) (hp:S p) (hu:Up r x b (b+n)) (hn:b+n<=x.size) (hh:hint<n)
  (h : ∀ k,k<=n->(∀ i<k,rk r x (b+i)<r p)->(∀ i,k<=i->i<n->r p<=rk r x (b+i))->Q (some k) st):wpS M A E s (Pm true p x b n hint) Q st:= by
 refine Ml (B:=fun i=>decide (rk r x (b+i)<r p)) (fun i hi R q=>?_) (fun i j a c e=>?_) hh fun k a c d=>h k a (fun i hi=>of_decide_eq_true (c i hi)) fun i h1 h2=>Int.not_lt.mp (of_decide_eq_false (d i h1 h2))
 ·obtain ⟨z,hz,hm⟩:=Bz (x:=x) (i:=b+i) (by omega)
  refine wpS_bind (el9 hz ?_)
  rw[if_pos rfl]
  rw[AJ hz] at q
  exact lt9 C hk (hx z hm) hp q
 ·exact decide_eq_true (Int.lt_of_le_of_lt (hu (b+i) (b+j) (by omega) (by omega) (by omega)) (of_decide_eq_true e))
end
end L2
namespace L2
open PySem PySem.Spec PyProof.Rows
section
variable {r:Keyed->Int} {T:List Keyed} {x y out:Array Keyed} {ia ib k:Nat} {p q:Keyed}
theorem G0 (u:Up r x 0 x.size) (h:x[ia]?=some p) : ∀ b ∈ x.toList.drop ia,r p<=r b:=fun b hb=>by
 obtain ⟨j,h1,h2,h3⟩:=FP hb
 have:=u ia j (Nat.zero_le _) h1 h3
 rwa [AJ h,AJ h2] at this
theorem Mer.pushL (J:Mer r T out.toList (x.toList.drop ia) (y.toList.drop ib)) (hp:x[ia]?=some p) (hq:y[ib]?=some q) (uy:Up r y 0 y.size) (h:r p<=r q):Mer r T (out.push p).toList (x.toList.drop (ia+1)) (y.toList.drop ib):= by
 rw[O0 hp] at J
 rw[Array.toList_push]
 exact J.left fun a ha b hb=>by rw[List.mem_singleton.mp ha];exact Int.le_trans h (G0 uy hq b hb)
theorem Mer.pushR (J:Mer r T out.toList (x.toList.drop ia) (y.toList.drop ib)) (hp:x[ia]?=some p) (hq:y[ib]?=some q) (ux:Up r x 0 x.size) (h:r q<=r p):Mer r T (out.push q).toList (x.toList.drop ia) (y.toList.drop (ib+1)):=
 (J.swap.pushL hq hp ux h).swap
theorem Mer.manyL (J:Mer r T out.toList (x.toList.drop ia) (y.toList.drop ib)) (h : ∀ j,ia<=j->j<ia+k -> ∀ b ∈ y.toList.drop ib,rk r x j<=r b):Mer r T (out++x.extract ia (ia+k)).toList (x.toList.drop (ia+k)) (y.toList.drop ib):= by
 rw[Fw (i:=ia) (k:=k)] at J
 rw[Array.toList_append,N5]
 exact J.left fun a ha b hb=>by
  obtain ⟨j,h1,h2,h3⟩:=FM ha
  have:=h j h1 h2 b hb
  rwa [AJ h3] at this
theorem Mer.manyR (J:Mer r T out.toList (x.toList.drop ia) (y.toList.drop ib)) (h : ∀ j,ib<=j->j<ib+k -> ∀ b ∈ x.toList.drop ia,rk r y j<=r b):Mer r T (out++y.extract ib (ib+k)).toList (x.toList.drop ia) (y.toList.drop (ib+k)):=(J.swap.manyL h).swap
theorem Mer.done (J:Mer r T out.toList (x.toList.drop ia) (y.toList.drop ib)) (h : ∀ a ∈ x.toList.drop ia,∀ b ∈ y.toList.drop ib,r a<=r b):B3 r T (out++x.extract ia x.size++y.extract ib y.size):= by
 unfold B3
 rw[Array.toList_append,Array.toList_append,JC,JC]
 exact J.fin h
theorem Mer.doneR (J:Mer r T out.toList (x.toList.drop ia) (y.toList.drop ib)) (h:ib=y.size):B3 r T (out++x.extract ia x.size++y.extract ib y.size):=
 J.done fun a _ b hb=>by rw[h,List.drop_of_length_le (by rw[Array.length_toList];exact Nat.le_refl _)] at hb;cases hb
theorem Mer.doneL (J:Mer r T out.toList (x.toList.drop ia) (y.toList.drop ib)) (hl : ∀ i<y.size,rk r y i<=rk r x (x.size-1)) (h:ia+1=x.size):B3 r T (out++y.extract ib y.size++x.extract ia x.size):=
 J.swap.done fun a ha b hb=>by
  obtain ⟨i,h1,h2,h3⟩:=FP ha
  obtain ⟨j,g1,g2,g3⟩:=FP hb
  have:=hl i h3
  rw[AJ h2,show x.size-1=j by omega,AJ g2] at this
  exact this
end
section
variable {M:Model} {A:Around} {E:Value->Shared->Prop} {s:Shared} {κ:SortKind} {S:Keyed->Prop} {r:Keyed->Int} {x y a:Array Keyed} {p:Array (Nat × Nat × Nat)} {g:Nat}
theorem Ot {Q:Array Keyed->SortSt->Prop} (C:Jl M A s κ S r) (hx : ∀ q ∈ x.toList,S q) (hy : ∀ q ∈ y.toList,S q) (ux:Up r x 0 x.size) (uy:Up r y 0 y.size) (x1:0<x.size) (y1:0<y.size)
  (hf:rk r y 0<=rk r x 0) (hl : ∀ i<y.size,rk r y i<=rk r x (x.size-1)) (h : ∀ m g',B3 r (x.toList++y.toList) m->Q m (SortSt.mk' κ a p g' none)):wpS M A E s (mlP x y) Q (SortSt.mk' κ a p g none):= by
 refine wpS_bind (wpS_lift (wpAny_rule ⟨rfl,?_⟩))
 obtain ⟨p0,hp0,sp0⟩:=Bz x1
 obtain ⟨q0,hq0,sq0⟩:=Bz y1
 refine wpS_bind (el9 hq0 ?_)
 rw[AJ hq0,AJ hp0] at hf
 have J0:Mer r (x.toList++y.toList) (#[]:Array Keyed).toList (x.toList.drop 0) (y.toList.drop 0):=⟨.refl _,.nil,ux.list,uy.list,fun _ h=>nomatch h⟩
 have J1:Mer r (x.toList++y.toList) (#[q0]:Array Keyed).toList (x.toList.drop 0) (y.toList.drop 1):=J0.pushR hp0 hq0 ux hf
 clear J0
 generalize x.toList++y.toList=T at h J1
 dsimp only
 by_cases e1:1=y.size
 ·rw[if_pos (beq_iff_eq.mpr e1)]
  exact wpS_pure (h _ _ (J1.doneR e1))
 rw[if_neg fun z=>e1 (beq_iff_eq.mp z)]
 by_cases e2:0+1=x.size
 ·rw[if_pos (beq_iff_eq.mpr e2)]
  exact wpS_pure (h _ _ (J1.doneL hl e2))
 rw[if_neg fun z=>e2 (beq_iff_eq.mp z)]
 refine wpS_bind (wpS_get ?_)
 refine wpS_bind (wpS_mono (wpS_forRange
  (I:=fun i c st'=>∃ out ia ib mg g',c=(none,out,ia,ib,mg)/\st'=SortSt.mk' κ a p g' none/\ia+1<x.size/\ib<y.size/\i+1<=ia+ib/\Mer r T out.toList (x.toList.drop ia) (y.toList.drop ib))
  (Q:=fun c st'=>∃ m z g',c=(some m,z)/\st'=SortSt.mk' κ a p g' none/\B3 r T m) ?_ ?_ ⟨#[q0],0,1,_,g,rfl,rfl,by omega,by omega,by omega,J1⟩) ?_)
 ·rintro i c st' _ hi ⟨out,ia,ib,mg,g',rfl,rfl,hia,hib,hn,J⟩
  dsimp only
  refine wpS_bind (wpS_mono (wpS_forRange
   (I:=fun j c st'=>∃ out ia ib ac bc,c=(none,out,ia,ib,ac,bc)/\st'=SortSt.mk' κ a p g' none/\ia+1<x.size/\ib<y.size/\i+1+j<=ia+ib/\Mer r T out.toList (x.toList.drop ia) (y.toList.drop ib))
   (Q:=fun c st'=>st'=SortSt.mk' κ a p g' none/\((∃ m z,c=(some m,z)/\B3 r T m) \/ ∃ out ia ib ac bc,c=(none,out,ia,ib,ac,bc)/\ia+1<x.size/\ib<y.size/\i+2<=ia+ib/\Mer r T out.toList (x.toList.drop ia) (y.toList.drop ib))) ?_ ?_ ⟨out,ia,ib,0,0,rfl,rfl,hia,hib,hn,J⟩) ?_)
  ·clear hia hib hn J
   rintro j c st' _ hj ⟨out,ia,ib,ac,bc,rfl,rfl,hia,hib,hn,J⟩
   dsimp only
   obtain ⟨q,hq,sq⟩:=Bz hib
   obtain ⟨v,hv,sv⟩:=Bz (x:=x) (i:=ia) (by omega)
   refine wpS_bind (el9 hq (wpS_bind (el9 hv (wpS_bind (lt9 C rfl (hy _ sq) (hx _ sv) ?_)))))
   dsimp only
   by_cases hlt:r q<r v
   ·rw[if_pos (decide_eq_true hlt)]
    refine wpS_bind (el9 hq ?_)
    have J2:=J.pushR hv hq ux (Int.le_of_lt hlt)
    (try dsimp only)
    by_cases e3:ib+1=y.size
    ·rw[if_pos (beq_iff_eq.mpr e3)]
     exact wpS_pure ⟨rfl,.inl ⟨_,_,rfl,J2.doneR e3⟩⟩
    rw[if_neg fun z=>e3 (beq_iff_eq.mp z)]
    split
    ·exact wpS_pure ⟨rfl,.inr ⟨_,_,_,_,_,rfl,hia,by omega,by omega,J2⟩⟩
    ·exact wpS_pure ⟨_,_,_,_,_,rfl,rfl,hia,by omega,by omega,J2⟩
   ·rw[if_neg (by simpa using hlt)]
    refine wpS_bind (el9 hv ?_)
    have J2:=J.pushL hv hq uy (Int.not_lt.mp hlt)
    (try dsimp only)
    by_cases e3:ia+1+1=x.size
    ·rw[if_pos (beq_iff_eq.mpr e3)]
     exact wpS_pure ⟨rfl,.inl ⟨_,_,rfl,J2.doneL hl e3⟩⟩
    rw[if_neg fun z=>e3 (beq_iff_eq.mp z)]
    split
    ·exact wpS_pure ⟨rfl,.inr ⟨_,_,_,_,_,rfl,by omega,hib,by omega,J2⟩⟩
    ·exact wpS_pure ⟨_,_,_,_,_,rfl,rfl,by omega,hib,by omega,J2⟩
  ·rintro c st' ⟨out,ia,ib,ac,bc,rfl,rfl,hia,hib,hn,J⟩
   exact ⟨rfl,.inr ⟨_,_,_,_,_,rfl,hia,hib,by omega,J⟩⟩
  clear hia hib hn J
  rintro c st' ⟨rfl,⟨m,z,rfl,D⟩ | ⟨out,ia,ib,ac,bc,rfl,hia,hib,hn,J⟩⟩
  ·exact wpS_pure ⟨_,_,_,rfl,rfl,D⟩
  refine wpS_bind (wpS_lift (wpAny_rule ⟨rfl,?_⟩))
  refine wpS_bind (wpS_mono (wpS_forRange
   (I:=fun j c st'=>∃ out ia ib mg ac bc g',c=(none,out,ia,ib,mg,ac,bc)/\st'=SortSt.mk' κ a p g' none/\ia+1<x.size/\ib<y.size/\i+2<=ia+ib/\Mer r T out.toList (x.toList.drop ia) (y.toList.drop ib))
   (Q:=fun c st'=>(∃ m z g',c=(some m,z)/\st'=SortSt.mk' κ a p g' none/\B3 r T m) \/ ∃ out ia ib mg ac bc g',c=(none,out,ia,ib,mg,ac,bc)/\st'=SortSt.mk' κ a p g' none/\ia+1<x.size/\ib<y.size/\i+2<=ia+ib/\Mer r T out.toList (x.toList.drop ia) (y.toList.drop ib)) ?_ ?_ ⟨out,ia,ib,_,ac,bc,g',rfl,rfl,hia,hib,hn,J⟩) ?_)
  ·clear hia hib hn J
   rintro j c st' _ hj ⟨out,ia,ib,mg,ac,bc,g',rfl,rfl,hia,hib,hn,J⟩
   obtain ⟨q,hq,sq⟩:=Bz hib
   dsimp only
   rcases Nat.lt_or_ge 1 mg with hm | hm
   all_goals first | rw[if_pos hm] | rw[if_neg (Nat.not_lt.mpr hm)]
   all_goals
    refine wpS_bind (wpS_modify ?_)
    refine wpS_bind (el9 hq (wpS_bind (Pi C rfl hx (hy _ sq) (fun u v h1 h2 h3=>ux u v (Nat.zero_le _) h2 (by omega)) (by omega) (by omega) fun k hk k1 k2=>?_)))
    dsimp only
    have kq : ∀ j,ia+k<=j->j<x.size->r q<=rk r x j:=fun j a1 a2=>Int.le_of_lt (by have:=k2 (j-ia) (by omega) (by omega);rwa [show ia+(j-ia)=j by omega] at this)
    clear k2
    by_cases hk0:k > 0
    all_goals first | rw[if_pos hk0] | rw[if_neg hk0]
    case' pos=>
     have J2:=J.manyL (k:=k) fun j a1 a2 b hb=>Int.le_trans (by have:=k1 (j-ia) (by omega);rwa [show ia+(j-ia)=j by omega] at this) (G0 uy hq b hb)
     by_cases e3:ia+k+1=x.size
     ·rw[if_pos (beq_iff_eq.mpr e3)]
      exact wpS_pure (.inl ⟨_,_,_,rfl,rfl,J2.doneL hl e3⟩)
     rw[if_neg fun z=>e3 (beq_iff_eq.mp z)]
     by_cases e4:ia+k=x.size
     ·rw[if_pos (beq_iff_eq.mpr e4)]
      exact wpS_pure (.inl ⟨_,_,_,rfl,rfl,J2.done fun a ha=>by rw[e4,List.drop_of_length_le (by rw[Array.length_toList];exact Nat.le_refl _)] at ha;cases ha⟩)
     rw[if_neg fun z=>e4 (beq_iff_eq.mp z)]
     have hia2:ia+k+1<x.size:=by omega
     have hn2:i+2<=ia+k+ib:=by omega
     generalize out++x.extract ia (ia+k)=out2 at J2 ⊢
     generalize ia+k=ia2 at *
    case' neg=>
     obtain rfl:k=0:=by omega
     have J2:=J
     have hia2:ia+1<x.size:=hia
     have hn2:=hn
     rw[Nat.add_zero] at kq
     generalize out=out2 at J2 ⊢
     generalize ia=ia2 at J2 hia2 hn2 kq ⊢
    all_goals
     obtain ⟨v,hv,sv⟩:=Bz (x:=x) (i:=ia2) (by omega)
     have hqv:r q<=r v:=by have:=kq ia2 (Nat.le_refl _) (by omega);rwa [AJ hv] at this
     have J3:=J2.pushR hv hq ux hqv
     refine wpS_bind (el9 hq ?_)
     by_cases e5:ib+1=y.size
     all_goals first | rw[if_pos (beq_iff_eq.mpr e5)] | rw[if_neg fun z=>e5 (beq_iff_eq.mp z)]
     case' pos=>exact wpS_pure (.inl ⟨_,_,_,rfl,rfl,J3.doneR e5⟩)
     refine wpS_bind (el9 hv (wpS_bind (Pb C rfl hy (hx _ sv) (fun u v h1 h2 h3=>uy u v (Nat.zero_le _) h2 (by omega)) (by omega) (by omega) fun k2 hk2 l1 l2=>?_)))
     dsimp only
     have lq : ∀ j,ib+1+k2<=j->j<y.size->r v<=rk r y j:=fun j a1 a2=>by have:=l2 (j-(ib+1)) (by omega) (by omega);rwa [show ib+1+(j-(ib+1))=j by omega] at this
     clear l2
     by_cases hk3:k2 > 0
     all_goals first | rw[if_pos hk3] | rw[if_neg hk3]
     case' pos=>
      have J4:=J3.manyR (k:=k2) fun j a1 a2 b hb=>Int.le_trans (Int.le_of_lt (by have:=l1 (j-(ib+1)) (by omega);rwa [show ib+1+(j-(ib+1))=j by omega] at this)) (G0 ux hv b hb)
      by_cases e6:ib+1+k2=y.size
      ·rw[if_pos (beq_iff_eq.mpr e6)]
       exact wpS_pure (.inl ⟨_,_,_,rfl,rfl,J4.doneR e6⟩)
      rw[if_neg fun z=>e6 (beq_iff_eq.mp z)]
      have hib2:ib+1+k2<y.size:=by omega
      have hn3:i+2<=ia2+(ib+1+k2):=by omega
      generalize out2.push q++y.extract (ib+1) (ib+1+k2)=out3 at J4 ⊢
      generalize ib+1+k2=ib2 at *
     case' neg=>
      obtain rfl:k2=0:=by omega
      have J4:=J3
      have hib2:ib+1<y.size:=by omega
      have hn3:i+2<=ia2+(ib+1):=by omega
      rw[Nat.add_zero] at lq
      generalize out2.push q=out3 at J4 ⊢
      generalize ib+1=ib2 at J4 hib2 hn3 lq ⊢
     all_goals
      obtain ⟨q2,hq2,sq2⟩:=Bz hib2
      have hvq:r v<=r q2:=by have:=lq ib2 (Nat.le_refl _) hib2;rwa [AJ hq2] at this
      have J5:=J4.pushL hv hq2 uy hvq
      refine wpS_bind (el9 hv ?_)
      by_cases e7:ia2+1+1=x.size
      ·rw[if_pos (beq_iff_eq.mpr e7)]
       exact wpS_pure (.inl ⟨_,_,_,rfl,rfl,J5.doneL hl e7⟩)
      rw[if_neg fun z=>e7 (beq_iff_eq.mp z)]
      split
      ·exact wpS_pure (.inr ⟨_,_,_,_,_,_,_,rfl,rfl,by omega,hib2,by omega,J5⟩)
      ·exact wpS_pure ⟨_,_,_,_,_,_,_,rfl,rfl,by omega,hib2,by omega,J5⟩
  ·rintro c st' ⟨out,ia,ib,mg,ac,bc,g',rfl,rfl,hia,hib,hn,J⟩
   exact .inr ⟨_,_,_,_,_,_,_,rfl,rfl,hia,hib,hn,J⟩
  clear hia hib hn J
  rintro c st' (⟨m,z,g',rfl,rfl,D⟩ | ⟨out,ia,ib,mg,ac,bc,g',rfl,rfl,hia,hib,hn,J⟩)
  ·exact wpS_pure ⟨_,_,_,rfl,rfl,D⟩
  dsimp only
  exact wpS_bind (wpS_modify (wpS_pure ⟨_,_,_,_,_,rfl,rfl,hia,hib,by omega,J⟩))
 ·rintro c st' ⟨out,ia,ib,mg,g',rfl,rfl,hia,hib,hn,J⟩
  exact absurd hn (by omega)
 rintro c st' ⟨m,z,g',rfl,rfl,D⟩
 exact wpS_pure (h _ _ D)
end
end L2
namespace L2
open PySem PySem.Spec PyProof.Rows
noncomputable def rt (x:Array Keyed) (n:Nat):List Keyed:=(x.toList.take n).reverse
section
variable {r:Keyed->Int} {T:List Keyed} {x y out:Array Keyed} {na nb k:Nat} {p q:Keyed}
theorem Pt {n:Nat} (h:x[n]?=some p):rt x (n+1)=[p]++rt x n:= by
 unfold rt
 rw[<- Array.getElem?_toList] at h
 rw[List.take_add_one,h]
 simp
theorem NN {n m:Nat} (h:m<=n) (hn:n<=x.size):rt x n=(x.extract m n).reverse.toList++rt x m:= by
 unfold rt
 rw[Array.toList_reverse,Array.toList_extract,List.extract_eq_take_drop,<- List.reverse_append]
 congr 1
 rw[show n=m+(n-m) by omega,List.take_add,Nat.add_sub_cancel_left]
theorem KW {n:Nat} (h:p ∈ rt x n) : ∃ j,j<n/\x[j]?=some p:= by
 unfold rt at h
 rw[List.mem_reverse] at h
 obtain ⟨i,hi,e⟩:=List.getElem_of_mem h
 rw[List.length_take] at hi
 rw[List.getElem_take] at e
 exact ⟨i,by omega,by rw[<- Array.getElem?_toList,List.getElem?_eq_getElem (by omega),e]⟩
theorem MF {n:Nat} (u:Up r x 0 x.size) (hn:n<=x.size) (h:x[n-1]?=some p) : ∀ b ∈ rt x n,- r p <= - r b:=fun b hb=>by
 obtain ⟨j,h1,h2⟩:=KW hb
 have:=u j (n-1) (Nat.zero_le _) (by omega) (by omega)
 rw[AJ h,AJ h2] at this
 omega
abbrev EK (r:Keyed->Int) (T:List Keyed) (out x y:Array Keyed) (na nb:Nat):Prop:=Mer (fun p=>- r p) T out.toList (rt x na) (rt y nb)
theorem Mer.hL (J:EK r T out x y na nb) (h0:0<na) (hn:na<=x.size) (hm:nb<=y.size) (hp:x[na-1]?=some p) (hq:y[nb-1]?=some q) (uy:Up r y 0 y.size) (h:r q<=r p):EK r T (out.push p) x y (na-1) nb:= by
 obtain ⟨n,rfl⟩ : ∃ n,na=n+1:=⟨na-1,by omega⟩
 rw[Nat.add_sub_cancel] at hp ⊢
 unfold EK at J ⊢
 rw[Pt hp] at J
 rw[Array.toList_push]
 exact J.left fun a ha b hb=>by rw[List.mem_singleton.mp ha];have:=MF uy hm hq b hb;omega
theorem Mer.hR (J:EK r T out x y na nb) (h0:0<nb) (hn:na<=x.size) (hm:nb<=y.size) (hp:x[na-1]?=some p) (hq:y[nb-1]?=some q) (ux:Up r x 0 x.size) (h:r p<=r q):EK r T (out.push q) x y na (nb-1):=
 Mer.swap (Mer.hL (Mer.swap J) h0 hm hn hq hp ux h)
theorem Mer.hLs {m:Nat} (J:EK r T out x y na nb) (hmn:m<=na) (hn:na<=x.size) (h : ∀ j,m<=j->j<na -> ∀ b ∈ rt y nb,r b<=rk r x j):EK r T (out++(x.extract m na).reverse) x y m nb:= by
 unfold EK at J ⊢
 rw[NN hmn hn] at J
 rw[Array.toList_append]
 refine J.left fun a ha b hb=>?_
 rw[Array.toList_reverse,List.mem_reverse,Array.toList_extract,List.extract_eq_take_drop] at ha
 obtain ⟨j,h1,h2,h3⟩:=FM ha
 have:=h j h1 (by omega) b hb
 rw[AJ h3] at this
 show-r a <= - r b
 omega
theorem Mer.hRs {m:Nat} (J:EK r T out x y na nb) (hmn:m<=nb) (hn:nb<=y.size) (h : ∀ j,m<=j->j<nb -> ∀ b ∈ rt x na,r b<=rk r y j):EK r T (out++(y.extract m nb).reverse) x y na m:=
 Mer.swap (Mer.hLs (Mer.swap J) hmn hn h)
theorem Mer.hdone (J:EK r T out x y na nb) (h : ∀ b ∈ rt y nb,∀ a ∈ rt x na,- r b <= - r a):B3 r T (x.extract 0 na++y.extract 0 nb++out.reverse):= by
 obtain ⟨j1,j2⟩:=J.swap.fin h
 have e:(x.extract 0 na++y.extract 0 nb++out.reverse).toList=(out.toList++rt y nb++rt x na).reverse:= by
  unfold rt
  rw[List.reverse_append,List.reverse_append,List.reverse_reverse,List.reverse_reverse,Array.toList_append,Array.toList_append,Array.toList_reverse,Array.toList_extract,Array.toList_extract,List.extract_eq_take_drop,List.extract_eq_take_drop,List.append_assoc]
  rfl
 unfold B3
 rw[e]
 exact ⟨(List.reverse_perm _).trans j1,List.pairwise_reverse.mpr (j2.imp fun {a b} h=>by omega)⟩
theorem Mer.hdoneL (J:EK r T out x y na nb) (h:na=0):B3 r T (x.extract 0 na++y.extract 0 nb++out.reverse):=J.hdone fun b _ a ha=>by rw[h] at ha;cases ha
theorem Mer.hdoneR (J:EK r T out x y na nb) (h:nb=1) (hn:na<=x.size) (hf : ∀ i<x.size,rk r y 0<=rk r x i):B3 r T (y.extract 0 nb++x.extract 0 na++out.reverse):=
 Mer.hdone (Mer.swap J) fun a ha b hb=>by
  obtain ⟨i,h1,h2⟩:=KW ha
  obtain ⟨j,g1,g2⟩:=KW hb
  have:=hf i (by omega)
  rw[show 0=j by omega,AJ h2,AJ g2] at this
  omega
end
section
variable {M:Model} {A:Around} {E:Value->Shared->Prop} {s:Shared} {κ:SortKind} {S:Keyed->Prop} {r:Keyed->Int} {x y a:Array Keyed} {p:Array (Nat × Nat × Nat)} {g:Nat}
theorem Oi {Q:Array Keyed->SortSt->Prop} (C:Jl M A s κ S r) (hx : ∀ q ∈ x.toList,S q) (hy : ∀ q ∈ y.toList,S q) (ux:Up r x 0 x.size) (uy:Up r y 0 y.size) (x1:0<x.size) (y1:0<y.size)
  (hl:rk r y (y.size-1)<=rk r x (x.size-1)) (hf : ∀ i<x.size,rk r y 0<=rk r x i) (h : ∀ m g',B3 r (x.toList++y.toList) m->Q m (SortSt.mk' κ a p g' none)):wpS M A E s (mhP x y) Q (SortSt.mk' κ a p g none):= by
 refine wpS_bind (wpS_lift (wpAny_rule ⟨rfl,?_⟩))
 obtain ⟨p0,hp0,sp0⟩:=Bz (x:=x) (i:=x.size-1) (by omega)
 obtain ⟨q0,hq0,sq0⟩:=Bz (x:=y) (i:=y.size-1) (by omega)
 refine wpS_bind (el9 hp0 ?_)
 rw[AJ hq0,AJ hp0] at hl
 have J0:EK r (x.toList++y.toList) #[] x y x.size y.size:= by
  unfold EK rt
  rw[List.take_of_length_le (by rw[Array.length_toList];exact Nat.le_refl _),List.take_of_length_le (by rw[Array.length_toList];exact Nat.le_refl _)]
  exact ⟨(List.reverse_perm _).append (List.reverse_perm _),.nil,List.pairwise_reverse.mpr (ux.list.imp fun {a b} h=>by omega),List.pairwise_reverse.mpr (uy.list.imp fun {a b} h=>by omega),fun _ h=>nomatch h⟩
 have J1:EK r (x.toList++y.toList) #[p0] x y (x.size-1) y.size:=Mer.hL J0 x1 (Nat.le_refl _) (Nat.le_refl _) hp0 hq0 uy hl
 clear J0
 generalize x.toList++y.toList=T at h J1
 dsimp only
 by_cases e1:x.size-1=0
 ·rw[if_pos (beq_iff_eq.mpr e1)]
  exact wpS_pure (h _ _ (J1.hdoneL e1))
 rw[if_neg fun z=>e1 (beq_iff_eq.mp z)]
 by_cases e2:y.size=1
 ·rw[if_pos (beq_iff_eq.mpr e2)]
  exact wpS_pure (h _ _ (J1.hdoneR e2 (by omega) hf))
 rw[if_neg fun z=>e2 (beq_iff_eq.mp z)]
 refine wpS_bind (wpS_get ?_)
 refine wpS_bind (wpS_mono (wpS_forRange
  (I:=fun i c st'=>∃ out na nb mg g',c=(none,na,nb,out,mg)/\st'=SortSt.mk' κ a p g' none/\0<na/\na<=x.size/\1<nb/\nb<=y.size/\i+1+na+nb<=x.size+y.size/\EK r T out x y na nb)
  (Q:=fun c st'=>∃ m z g',c=(some m,z)/\st'=SortSt.mk' κ a p g' none/\B3 r T m) ?_ ?_ ⟨#[p0],x.size-1,y.size,_,g,rfl,rfl,by omega,by omega,by omega,by omega,by omega,J1⟩) ?_)
 ·rintro i c st' _ hi ⟨out,na,nb,mg,g',rfl,rfl,hna,hnx,hnb,hny,hn,J⟩
  dsimp only
  refine wpS_bind (wpS_mono (wpS_forRange
   (I:=fun j c st'=>∃ out na nb ac bc,c=(none,na,nb,out,ac,bc)/\st'=SortSt.mk' κ a p g' none/\0<na/\na<=x.size/\1<nb/\nb<=y.size/\i+1+j+na+nb<=x.size+y.size/\EK r T out x y na nb)
   (Q:=fun c st'=>st'=SortSt.mk' κ a p g' none/\((∃ m z,c=(some m,z)/\B3 r T m) \/ ∃ out na nb ac bc,c=(none,na,nb,out,ac,bc)/\0<na/\na<=x.size/\1<nb/\nb<=y.size/\i+2+na+nb<=x.size+y.size/\EK r T out x y na nb)) ?_ ?_ ⟨out,na,nb,0,0,rfl,rfl,hna,hnx,hnb,hny,hn,J⟩) ?_)
  ·clear hna hnx hnb hny hn J
   rintro j c st' _ hj ⟨out,na,nb,ac,bc,rfl,rfl,hna,hnx,hnb,hny,hn,J⟩
   dsimp only
   obtain ⟨q,hq,sq⟩:=Bz (x:=y) (i:=nb-1) (by omega)
   obtain ⟨v,hv,sv⟩:=Bz (x:=x) (i:=na-1) (by omega)
   refine wpS_bind (el9 hq (wpS_bind (el9 hv (wpS_bind (lt9 C rfl (hy _ sq) (hx _ sv) ?_)))))
   dsimp only
   by_cases hlt:r q<r v
   ·rw[if_pos (decide_eq_true hlt)]
    refine wpS_bind (el9 hv ?_)
    have J2:=Mer.hL J hna hnx hny hv hq uy (Int.le_of_lt hlt)
    (try dsimp only)
    by_cases e3:na-1=0
    ·rw[if_pos (beq_iff_eq.mpr e3)]
     exact wpS_pure ⟨rfl,.inl ⟨_,_,rfl,J2.hdoneL e3⟩⟩
    rw[if_neg fun z=>e3 (beq_iff_eq.mp z)]
    split
    ·exact wpS_pure ⟨rfl,.inr ⟨_,_,_,_,_,rfl,by omega,by omega,hnb,hny,by omega,J2⟩⟩
    ·exact wpS_pure ⟨_,_,_,_,_,rfl,rfl,by omega,by omega,hnb,hny,by omega,J2⟩
   ·rw[if_neg (by simpa using hlt)]
    refine wpS_bind (el9 hq ?_)
    have J2:=Mer.hR J (by omega) hnx hny hv hq ux (Int.not_lt.mp hlt)
    (try dsimp only)
    by_cases e3:nb-1=1
    ·rw[if_pos (beq_iff_eq.mpr e3)]
     exact wpS_pure ⟨rfl,.inl ⟨_,_,rfl,J2.hdoneR e3 hnx hf⟩⟩
    rw[if_neg fun z=>e3 (beq_iff_eq.mp z)]
    split
    ·exact wpS_pure ⟨rfl,.inr ⟨_,_,_,_,_,rfl,hna,hnx,by omega,by omega,by omega,J2⟩⟩
    ·exact wpS_pure ⟨_,_,_,_,_,rfl,rfl,hna,hnx,by omega,by omega,by omega,J2⟩
  ·rintro c st' ⟨out,na,nb,ac,bc,rfl,rfl,hna,hnx,hnb,hny,hn,J⟩
   exact ⟨rfl,.inr ⟨_,_,_,_,_,rfl,hna,hnx,hnb,hny,by omega,J⟩⟩
  clear hna hnx hnb hny hn J
  rintro c st' ⟨rfl,⟨m,z,rfl,D⟩ | ⟨out,na,nb,ac,bc,rfl,hna,hnx,hnb,hny,hn,J⟩⟩
  ·exact wpS_pure ⟨_,_,_,rfl,rfl,D⟩
  refine wpS_bind (wpS_lift (wpAny_rule ⟨rfl,?_⟩))
  refine wpS_bind (wpS_mono (wpS_forRange
   (I:=fun j c st'=>∃ out na nb mg ac bc g',c=(none,na,nb,out,mg,ac,bc)/\st'=SortSt.mk' κ a p g' none/\0<na/\na<=x.size/\1<nb/\nb<=y.size/\i+2+na+nb<=x.size+y.size/\EK r T out x y na nb)
   (Q:=fun c st'=>(∃ m z g',c=(some m,z)/\st'=SortSt.mk' κ a p g' none/\B3 r T m) \/ ∃ out na nb mg ac bc g',c=(none,na,nb,out,mg,ac,bc)/\st'=SortSt.mk' κ a p g' none/\0<na/\na<=x.size/\1<nb/\nb<=y.size/\i+2+na+nb<=x.size+y.size/\EK r T out x y na nb) ?_ ?_ ⟨out,na,nb,_,ac,bc,g',rfl,rfl,hna,hnx,hnb,hny,hn,J⟩) ?_)
  ·clear hna hnx hnb hny hn J
   rintro j c st' _ hj ⟨out,na,nb,mg,ac,bc,g',rfl,rfl,hna,hnx,hnb,hny,hn,J⟩
   obtain ⟨q,hq,sq⟩:=Bz (x:=y) (i:=nb-1) (by omega)
   dsimp only
   rcases Nat.lt_or_ge 1 mg with hm | hm
   all_goals first | rw[if_pos hm] | rw[if_neg (Nat.not_lt.mpr hm)]
   all_goals
    refine wpS_bind (wpS_modify ?_)
    refine wpS_bind (el9 hq (wpS_bind (Pi C rfl hx (hy _ sq) (fun u v h1 h2 h3=>ux u v (Nat.zero_le _) h2 (by omega)) (by omega) (by omega) fun k hk k1 k2=>?_)))
    dsimp only
    simp only [Nat.zero_add] at k1 k2
    have kq : ∀ j,j<k->rk r x j<=r q:=k1
    by_cases hk0:na-k > 0
    all_goals first | rw[if_pos hk0] | rw[if_neg hk0]
    case' pos=>
     have J2:=Mer.hLs (m:=k) J hk hnx fun j a1 a2 b hb=>by
      have g1:=k2 j a1 a2
      have g2:=MF uy hny hq b hb
      omega
     by_cases e4:k=0
     ·rw[if_pos (beq_iff_eq.mpr e4)]
      exact wpS_pure (.inl ⟨_,_,_,rfl,rfl,J2.hdoneL e4⟩)
     rw[if_neg fun z=>e4 (beq_iff_eq.mp z)]
     have hna2:0<k:=by omega
     have hnx2:k<=x.size:=by omega
     have hn2:i+2+k+nb<=x.size+y.size:=by omega
     generalize out++(x.extract k na).reverse=out2 at J2 ⊢
     clear k1 k2
    case' neg=>
     obtain rfl:k=na:=by omega
     have J2:=J
     have hna2:=hna
     have hnx2:=hnx
     have hn2:=hn
     generalize out=out2 at J2 ⊢
     clear k1 k2
    all_goals
     obtain ⟨v,hv,sv⟩:=Bz (x:=x) (i:=k-1) (by omega)
     have hvq:r v<=r q:=by have:=kq (k-1) (by omega);rwa [AJ hv] at this
     have J3:=Mer.hR J2 (by omega) hnx2 hny hv hq ux hvq
     refine wpS_bind (el9 hq ?_)
     by_cases e5:nb-1=1
     all_goals first | rw[if_pos (beq_iff_eq.mpr e5)] | rw[if_neg fun z=>e5 (beq_iff_eq.mp z)]
     case' pos=>exact wpS_pure (.inl ⟨_,_,_,rfl,rfl,J3.hdoneR e5 hnx2 hf⟩)
     refine wpS_bind (el9 hv (wpS_bind (Pb C rfl hy (hx _ sv) (fun u v h1 h2 h3=>uy u v (Nat.zero_le _) h2 (by omega)) (by omega) (by omega) fun k2 hk2 l1 l2=>?_)))
     dsimp only
     simp only [Nat.zero_add] at l1 l2
     by_cases hk3:nb-1-k2 > 0
     all_goals first | rw[if_pos hk3] | rw[if_neg hk3]
     case' pos=>
      have J4:=Mer.hRs (m:=k2) J3 hk2 (by omega) fun j a1 a2 b hb=>by
       have g1:=l2 j a1 a2
       have g2:=MF ux hnx2 hv b hb
       omega
      by_cases e6:k2=1
      ·rw[if_pos (beq_iff_eq.mpr e6)]
       exact wpS_pure (.inl ⟨_,_,_,rfl,rfl,J4.hdoneR e6 hnx2 hf⟩)
      rw[if_neg fun z=>e6 (beq_iff_eq.mp z)]
      by_cases e8:k2=0
      ·rw[if_pos (beq_iff_eq.mpr e8)]
       exact wpS_pure (.inl ⟨_,_,_,rfl,rfl,J4.hdone fun b hb=>by rw[e8] at hb;cases hb⟩)
      rw[if_neg fun z=>e8 (beq_iff_eq.mp z)]
      have hnb2:1<k2:=by omega
      have hny2:k2<=y.size:=by omega
      have hn3:i+2+k+k2<=x.size+y.size:=by omega
      generalize out2.push q++(y.extract k2 (nb-1)).reverse=out3 at J4 ⊢
     case' neg=>
      obtain rfl:k2=nb-1:=by omega
      have J4:=J3
      have hnb2:1<nb-1:=by omega
      have hny2:nb-1<=y.size:=by omega
      have hn3:i+2+k+(nb-1)<=x.size+y.size:=by omega
      generalize out2.push q=out3 at J4 ⊢
      generalize nb-1=k2 at J4 hnb2 hny2 hn3 l1 ⊢
     all_goals
      obtain ⟨q2,hq2,sq2⟩:=Bz (x:=y) (i:=k2-1) (by omega)
      have hqv:r q2<=r v:=by have:=l1 (k2-1) (by omega);rw[AJ hq2] at this;exact Int.le_of_lt this
      have J5:=Mer.hL J4 hna2 hnx2 hny2 hv hq2 uy hqv
      refine wpS_bind (el9 hv ?_)
      by_cases e7:k-1=0
      ·rw[if_pos (beq_iff_eq.mpr e7)]
       exact wpS_pure (.inl ⟨_,_,_,rfl,rfl,J5.hdoneL e7⟩)
      rw[if_neg fun z=>e7 (beq_iff_eq.mp z)]
      split
      ·exact wpS_pure (.inr ⟨_,_,_,_,_,_,_,rfl,rfl,by omega,by omega,hnb2,hny2,by omega,J5⟩)
      ·exact wpS_pure ⟨_,_,_,_,_,_,_,rfl,rfl,by omega,by omega,hnb2,hny2,by omega,J5⟩
  ·rintro c st' ⟨out,na,nb,mg,ac,bc,g',rfl,rfl,hna,hnx,hnb,hny,hn,J⟩
   exact .inr ⟨_,_,_,_,_,_,_,rfl,rfl,hna,hnx,hnb,hny,hn,J⟩
  clear hna hnx hnb hny hn J
  rintro c st' (⟨m,z,g',rfl,rfl,D⟩ | ⟨out,na,nb,mg,ac,bc,g',rfl,rfl,hna,hnx,hnb,hny,hn,J⟩)
  ·exact wpS_pure ⟨_,_,_,rfl,rfl,D⟩
  dsimp only
  exact wpS_bind (wpS_modify (wpS_pure ⟨_,_,_,_,_,rfl,rfl,hna,hnx,hnb,hny,by omega,J⟩))
 ·rintro c st' ⟨out,na,nb,mg,g',rfl,rfl,hna,hnx,hnb,hny,hn,J⟩
  exact absurd hn (by omega)
 rintro c st' ⟨m,z,g',rfl,rfl,D⟩
 exact wpS_pure (h _ _ D)
end
end L2
namespace L2
open PySem PySem.Spec PyProof.Rows
noncomputable def maP:Nat->StateT SortSt Sem Bool:=sortPriv% PySem.Builtin.mergeAt
section
variable {α:Type}
noncomputable def Nq (b n:Nat) (l:List α) (a:Array α):Array α:=(l.zipIdx n).foldl (fun a x=>match x with | (p,j)=>a.setIfInBounds (b+j) p) a
theorem Gh {b:Nat} : ∀ {l:List α} {n:Nat} {a:Array α} {pre mid post:List α},a.toList=pre++mid++post->pre.length=b+n->mid.length=l.length->(Nq b n l a).toList=pre++l++post
 | [],n,a,pre,mid,post,h,_,e=>by
  rw[List.length_nil,List.length_eq_zero_iff] at e
  rw[e] at h;exact h
 | p::l,n,a,pre,mid,post,h,hp,e=>by
  cases mid with
  | nil=>cases e
  | cons m mid=>
   have:=Gh (b:=b) (l:=l) (n:=n+1) (a:=a.setIfInBounds (b+n) p) (pre:=pre++[p]) (mid:=mid) (post:=post) (by
    rw[Array.toList_setIfInBounds,h,<- hp];simp) (by rw[List.length_append,hp];rfl) (Nat.succ.inj e)
   show (Nq b (n+1) l (a.setIfInBounds (b+n) p)).toList=_
   rw[this];simp
end
section
variable {M:Model} {A:Around} {E:Value->Shared->Prop} {s:Shared}
theorem L8 {σ:Type} {st st':σ} {Q:PUnit->σ->Prop} (h:Q ⟨⟩ st'):wpS M A E s (set st':StateT σ Sem PUnit) Q st:= by
 unfold wpS;rw[StateT.run_set];exact wpAny_pure ⟨rfl,h⟩
variable {κ:SortKind} {S:Keyed->Prop} {r:Keyed->Int} {a:Array Keyed} {p:Array (Nat × Nat × Nat)} {g:Nat}
structure Seg (a a':Array Keyed) (i j:Nat):Prop where
 perm:a'.Perm a
 pre : ∀ k<i,a'[k]?=a[k]?
 post : ∀ k,j<=k->a'[k]?=a[k]?
theorem Fd {a a':Array Keyed} {k:Nat} (h:a'[k]?=a[k]?):rk r a' k=rk r a k:=by unfold rk;rw[h]
theorem Ci {i j k:Nat} (h:i+k<j) (hj:j<=a.size):rk r (a.extract i j) k=rk r a (i+k):= by
 unfold rk
 rw[Array.getElem?_extract,if_pos (by omega)]
theorem Fp {i j:Nat} (hj:j<=a.size):(a.extract i j).size=j-i:=by rw[Array.size_extract];omega
theorem Fy {i j:Nat} {z:Keyed} (hj:j<=a.size) (h:z ∈ (a.extract i j).toList) : ∃ k,i<=k/\k<j/\a[k]?=some z:= by
 rw[Array.toList_extract,List.extract_eq_take_drop] at h
 by_cases hij:i<=j
 ·obtain ⟨k,h1,h2,h3⟩:=FM h
  exact ⟨k,h1,by omega,h3⟩
 ·rw[show j-i=0 by omega,List.take_zero] at h;cases h
theorem Up.ext {i j:Nat} (u:Up r a i j) (hj:j<=a.size):Up r (a.extract i j) 0 (a.extract i j).size:=fun x y _ h2 h3=>by
 rw[Fp hj] at h3
 rw[Ci (by omega) hj,Ci (by omega) hj]
 exact u _ _ (by omega) (by omega) (by omega)
theorem O9 {i sa na sb nb pw pw2:Nat} {Q:Bool->SortSt->Prop} (C:Jl M A s κ S r) (ha : ∀ q ∈ a.toList,S q) (h1:p[i]?=some (sa,na,pw)) (h2:p[i+1]?=some (sb,nb,pw2)) (e:sb=sa+na) (na1:0<na) (nb1:0<nb) (hz:sb+nb<=a.size)
  (ua:Up r a sa sb) (ub:Up r a sb (sb+nb))
  (h : ∀ a' g',Seg a a' sa (sb+nb)->Up r a' sa (sb+nb)->Q true (SortSt.mk' κ a' ((p.setIfInBounds i (sa,na+nb,pw)).eraseIdxIfInBounds (i+1)) g' none)):wpS M A E s (maP i) Q (SortSt.mk' κ a p g none):= by
 refine wpS_bind (wpS_get ?_)
 show wpS M A E s (match (p[i]?,p[i+1]?) with | (some (sa,na,power),some (sb,nb,snd))=>_ | _=>_) Q _
 rw[h1,h2]
 dsimp only
 refine wpS_bind (L8 ?_)
 generalize (p.setIfInBounds i (sa,na+nb,pw)).eraseIdxIfInBounds (i+1)=p' at h ⊢
 obtain ⟨q,hq,sq⟩:=Bz (x:=a) (i:=sb) (by omega)
 refine wpS_bind (el9 hq (wpS_bind (Pi C rfl ha (ha _ sq) (by rw[<- e];exact ua) (by omega) (by omega) fun k hk k1 k2=>?_)))
 dsimp only
 have lowq : ∀ u,sa<=u->u<sa+k->rk r a u<=r q:=fun u a1 a2=>by
  have:=k1 (u-sa) (by omega)
  rwa [show sa+(u-sa)=u by omega] at this
 have hiq : ∀ u,sa+k<=u->u<sb->r q<rk r a u:=fun u a1 a2=>by
  have:=k2 (u-sa) (by omega) (by omega)
  rwa [show sa+(u-sa)=u by omega] at this
 clear k1 k2
 have qb : ∀ v,sb<=v->v<sb+nb->r q<=rk r a v:=fun v a1 a2=>by
  have:=ub sb v (Nat.le_refl _) a1 a2
  rwa [AJ hq] at this
 by_cases e1:na-k=0
 ·rw[if_pos (beq_iff_eq.mpr e1)]
  refine wpS_pure (h a g ⟨.refl _,fun _ _=>rfl,fun _ _=>rfl⟩ fun u v g1 g2 g3=>?_)
  by_cases hu:sb<=u
  ·exact ub u v hu g2 g3
  ·by_cases hv:v<sb
   ·exact ua u v g1 g2 hv
   ·exact Int.le_trans (lowq u g1 (by omega)) (qb v (by omega) g3)
 rw[if_neg fun z=>e1 (beq_iff_eq.mp z)]
 rw[show sa+k+(na-k)-1=sb-1 by omega]
 obtain ⟨t,ht,st⟩:=Bz (x:=a) (i:=sb-1) (by omega)
 refine wpS_bind (el9 ht (wpS_bind (Pb C rfl ha (ha _ st) ub hz (by omega) fun m hm m1 m2=>?_)))
 dsimp only
 have lot : ∀ v,sb<=v->v<sb+m->rk r a v<=r t:=fun v a1 a2=>by
  have:=m1 (v-sb) (by omega)
  rw[show sb+(v-sb)=v by omega] at this
  exact Int.le_of_lt this
 have hit : ∀ v,sb+m<=v->v<sb+nb->r t<=rk r a v:=fun v a1 a2=>by
  have:=m2 (v-sb) (by omega) (by omega)
  rwa [show sb+(v-sb)=v by omega] at this
 clear m1 m2
 have at' : ∀ u,sa<=u->u<sb->rk r a u<=r t:=fun u a1 a2=>by
  have:=ua u (sb-1) a1 (by omega) (by omega)
  rwa [AJ ht] at this
 by_cases e2:m=0
 ·rw[if_pos (beq_iff_eq.mpr e2)]
  refine wpS_pure (h a g ⟨.refl _,fun _ _=>rfl,fun _ _=>rfl⟩ fun u v g1 g2 g3=>?_)
  by_cases hu:sb<=u
  ·exact ub u v hu g2 g3
  ·by_cases hv:v<sb
   ·exact ua u v g1 g2 hv
   ·exact Int.le_trans (at' u g1 (by omega)) (hit v (by omega) g3)
 rw[if_neg fun z=>e2 (beq_iff_eq.mp z)]
 have hX : ∀ z ∈ (a.extract (sa+k) sb).toList,S z:=fun z hz'=>by
  obtain ⟨j,_,_,e⟩:=Fy (by omega) hz'
  exact ha _ (by rw[<- Array.getElem?_toList] at e;exact List.mem_of_getElem? e)
 have hY : ∀ z ∈ (a.extract sb (sb+m)).toList,S z:=fun z hz'=>by
  obtain ⟨j,_,_,e⟩:=Fy (by omega) hz'
  exact ha _ (by rw[<- Array.getElem?_toList] at e;exact List.mem_of_getElem? e)
 have uX:Up r (a.extract (sa+k) sb) 0 (a.extract (sa+k) sb).size:=Up.ext (fun u v g1 g2 g3=>ua u v (by omega) g2 g3) (by omega)
 have uY:Up r (a.extract sb (sb+m)) 0 (a.extract sb (sb+m)).size:=Up.ext (fun u v g1 g2 g3=>ub u v g1 g2 (by omega)) (by omega)
 have zX:(a.extract (sa+k) sb).size=sb-(sa+k):=Fp (by omega)
 have zY:(a.extract sb (sb+m)).size=m:=by rw[Fp (by omega)];omega
 have fin : ∀ (mm:Array Keyed) (g':Nat),B3 r ((a.extract (sa+k) sb).toList++(a.extract sb (sb+m)).toList) mm ->
   Q true (SortSt.mk' κ (Nq (sa+k) 0 mm.toList a) p' g' none):=fun mm g' D=>by
  have el:mm.toList.length=sb+m-(sa+k):=by rw[D.1.length_eq,List.length_append,Array.length_toList,Array.length_toList,zX,zY];omega
  have ea:a.toList=a.toList.take (sa+k)++((a.extract (sa+k) sb).toList++(a.extract sb (sb+m)).toList)++a.toList.drop (sb+m):= by
   have c1:=Fw (x:=a) (i:=sa+k) (k:=sb-(sa+k))
   rw[show sa+k+(sb-(sa+k))=sb by omega] at c1
   have c2:=Fw (x:=a) (i:=sb) (k:=m)
   rw[Array.toList_extract,Array.toList_extract,List.extract_eq_take_drop,List.extract_eq_take_drop,Nat.add_sub_cancel_left,List.append_assoc,List.append_assoc,<- c2,<- c1,List.take_append_drop]
  have lt9:(a.toList.take (sa+k)).length=sa+k:=by rw[List.length_take,Array.length_toList];omega
  have eb:=Gh (b:=sa+k) (n:=0) ea lt9 D.1.length_eq.symm
  have pm:(Nq (sa+k) 0 mm.toList a).Perm a:= by
   refine Array.perm_iff_toList_perm.mpr ?_
   rw[eb]
   exact (((D.1.append_left _).append_right _).trans (by rw[<- ea]))
  have gt : ∀ j,(Nq (sa+k) 0 mm.toList a)[j]?=if j<sa+k then a[j]? else if j<sb+m then mm.toList[j-(sa+k)]? else a[j]?:=fun j=>by
   rw[<- Array.getElem?_toList,eb,List.append_assoc]
   by_cases g1:j<sa+k
   ·rw[if_pos g1,List.getElem?_append_left (by omega),List.getElem?_take,if_pos g1,Array.getElem?_toList]
   ·rw[if_neg g1,List.getElem?_append_right (by omega),lt9]
    by_cases g2:j<sb+m
    ·rw[if_pos g2,List.getElem?_append_left (by omega)]
    ·rw[if_neg g2,List.getElem?_append_right (by omega),List.getElem?_drop,el,<- Array.getElem?_toList]
     congr 1;omega
  generalize Nq (sa+k) 0 mm.toList a=a' at eb pm gt
  have mem : ∀ z ∈ mm.toList,(∀ u,sa<=u->u<sa+k->rk r a u<=r z) /\ ∀ v,sb+m<=v->v<sb+nb->r z<=rk r a v:=fun z hz'=>by
   rcases List.mem_append.mp (D.1.mem_iff.mp hz') with hz' | hz'
   ·obtain ⟨j,j1,j2,ej⟩:=Fy (by omega) hz'
    refine ⟨fun u g1 g2=>?_,fun v g1 g2=>?_⟩
    ·have:=ua u j g1 (by omega) j2
     rwa [AJ ej] at this
    ·have:=at' j (by omega) j2
     rw[AJ ej] at this
     exact Int.le_trans this (hit v g1 g2)
   ·obtain ⟨j,j1,j2,ej⟩:=Fy (by omega) hz'
    refine ⟨fun u g1 g2=>?_,fun v g1 g2=>?_⟩
    ·have:=qb j j1 (by omega)
     rw[AJ ej] at this
     exact Int.le_trans (lowq u g1 g2) this
    ·have:=lot j j1 j2
     rw[AJ ej] at this
     exact Int.le_trans this (hit v g1 g2)
  refine h a' g' ⟨pm,fun j hj=>by rw[gt,if_pos (by omega)],fun j hj=>by rw[gt,if_neg (by omega),if_neg (by omega)]⟩ fun u v g1 g2 g3=>?_
  have low : ∀ u,u<sa+k->rk r a' u=rk r a u:=fun u g=>Fd (by rw[gt,if_pos g])
  have hig : ∀ u,sb+m<=u->rk r a' u=rk r a u:=fun u g=>Fd (by rw[gt,if_neg (by omega),if_neg (by omega)])
  have midd : ∀ u,sa+k<=u->u<sb+m -> ∃ z ∈ mm.toList,mm.toList[u-(sa+k)]?=some z/\rk r a' u=r z:=fun u g1 g2=>by
   have hu:u-(sa+k)<mm.toList.length:=by omega
   refine ⟨_,List.getElem_mem hu,List.getElem?_eq_getElem hu,AJ ?_⟩
   rw[gt,if_neg (by omega),if_pos g2,List.getElem?_eq_getElem hu]
  by_cases hu:u<sa+k
  ·rw[low u hu]
   by_cases hv:v<sa+k
   ·rw[low v hv];exact ua u v g1 g2 (by omega)
   ·by_cases hv2:v<sb+m
    ·obtain ⟨z,z1,z2,z3⟩:=midd v (by omega) hv2
     rw[z3];exact (mem z z1).1 u g1 hu
    ·rw[hig v (by omega)]
     exact Int.le_trans (lowq u g1 hu) (qb v (by omega) g3)
  ·by_cases hu2:u<sb+m
   ·obtain ⟨z,z1,z2,z3⟩:=midd u (by omega) hu2
    rw[z3]
    by_cases hv2:v<sb+m
    ·obtain ⟨y,y1,y2,y3⟩:=midd v (by omega) hv2
     rw[y3]
     by_cases huv:u=v
     ·subst huv
      rw[z2] at y2;cases y2;exact Int.le_refl _
     ·obtain ⟨b1,c1⟩:=List.getElem?_eq_some_iff.mp z2
      obtain ⟨b2,c2⟩:=List.getElem?_eq_some_iff.mp y2
      have:=List.pairwise_iff_getElem.mp D.2 _ _ b1 b2 (by omega)
      rwa [c1,c2] at this
    ·rw[hig v (by omega)]
     exact (mem z z1).2 v (by omega) g3
   ·rw[hig u (by omega),hig v (by omega)]
    exact ub u v (by omega) g2 g3
 split
 ·refine wpS_bind (Ot C hX hY uX uY (by omega) (by omega) ?_ (fun j hj=>?_) fun mm g' D=>?_)
  ·rw[Ci (by omega) (by omega),Ci (by omega) (by omega),Nat.add_zero,Nat.add_zero,AJ hq]
   exact Int.le_of_lt (hiq _ (Nat.le_refl _) (by omega))
  ·rw[Ci (by omega) (by omega),Ci (by omega) (by omega),zX,show sa+k+(sb-(sa+k)-1)=sb-1 by omega,AJ ht]
   exact lot _ (by omega) (by omega)
  ·exact wpS_bind (wpS_modify (wpS_bind (wpS_get (wpS_pure (fin mm g' D)))))
 ·refine wpS_bind (Oi C hX hY uX uY (by omega) (by omega) ?_ (fun j hj=>?_) fun mm g' D=>?_)
  ·rw[Ci (by omega) (by omega),Ci (by omega) (by omega),zX,zY,show sa+k+(sb-(sa+k)-1)=sb-1 by omega,AJ ht]
   exact lot _ (by omega) (by omega)
  ·rw[Ci (by omega) (by omega),Ci (by omega) (by omega),Nat.add_zero,AJ hq]
   exact Int.le_of_lt (hiq _ (by omega) (by omega))
  ·exact wpS_bind (wpS_modify (wpS_bind (wpS_get (wpS_pure (fin mm g' D)))))
end
end L2
namespace L2
open PySem PySem.Spec PyProof.Rows
section
variable {M:Model} {A:Around} {E:Value->Shared->Prop} {s:Shared} {κ:SortKind} {S:Keyed->Prop} {r:Keyed->Int} {a:Array Keyed} {p:Array (Nat × Nat × Nat)} {g:Nat}
def Dst (r:Keyed->Int) (a:Array Keyed):Prop:=(a.toList.map r).Nodup
theorem Dst.perm {a':Array Keyed} (h:Dst r a) (e:a'.Perm a):Dst r a':=((Array.perm_iff_toList_perm.mp e).map r).nodup_iff.mpr h
theorem Dst.ne (h:Dst r a) {i j:Nat} (hi:i<a.size) (hj:j<a.size) (hij:i≠j):rk r a i≠rk r a j:=fun z=>by
 rw[AJ (getElem?_pos a i hi),AJ (getElem?_pos a j hj)] at z
 have:=(List.pairwise_iff_getElem.mp h)
 rcases Nat.lt_or_gt_of_ne hij with q | q
 ·exact this i j (by rw[List.length_map,Array.length_toList];exact hi) (by rw[List.length_map,Array.length_toList];exact hj) q (by rw[List.getElem_map,List.getElem_map];exact z)
 ·exact this j i (by rw[List.length_map,Array.length_toList];exact hj) (by rw[List.length_map,Array.length_toList];exact hi) q (by rw[List.getElem_map,List.getElem_map];exact z.symm)
theorem ltA {i j:Nat} {Q:Option Bool->SortSt->Prop} (C:Jl M A s κ S r) (ha : ∀ q ∈ a.toList,S q) (hi:i<a.size) (hj:j<a.size) (h:Q (some (decide (rk r a i<rk r a j))) (SortSt.mk' κ a p g none)) :
  wpS M A E s (ltAt' i j) Q (SortSt.mk' κ a p g none):= by
 obtain ⟨x,hx,sx⟩:=Bz hi
 obtain ⟨y,hy,sy⟩:=Bz hj
 rw[ltAt'_eq]
 refine wpS_bind (wpS_get (wpS_bind (el9 hx (wpS_bind (el9 hy (lt9 C rfl (ha _ sx) (ha _ sy) ?_))))))
 rw[AJ hx,AJ hy] at h;exact h
noncomputable def crP:Nat->Nat->StateT SortSt Sem (Option Nat):=sortPriv% PySem.Builtin.countRun
noncomputable def bsP:Nat->Nat->Nat->StateT SortSt Sem Bool:=sortPriv% PySem.Builtin.binarySort
theorem Up.snoc {i j:Nat} (u:Up r a i (j+1)) (h : ¬ rk r a (j+1)<rk r a j):Up r a i (j+2):=fun x y h1 h2 h3=>by
 by_cases e:y=j+1
 ·by_cases e2:x=y
  ·rw[e2];exact Int.le_refl _
  ·rw[e];exact Int.le_trans (u x j h1 (by omega) (by omega)) (Int.not_lt.mp h)
 ·exact u x y h1 h2 (by omega)
theorem NM {i:Nat}:Up r a i (i+1):=fun x y h1 h2 h3=>by
 obtain rfl:x=y:=by omega
 exact Int.le_refl _
theorem Seg.refl {i j:Nat}:Seg a a i j:=⟨.refl _,fun _ _=>rfl,fun _ _=>rfl⟩
theorem Seg.trans {b c:Array Keyed} {i j:Nat} (h:Seg a b i j) (h':Seg b c i j):Seg a c i j:=⟨h'.perm.trans h.perm,fun k hk=>(h'.pre k hk).trans (h.pre k hk),fun k hk=>(h'.post k hk).trans (h.post k hk)⟩
theorem Seg.wide {b:Array Keyed} {i j k:Nat} (h:Seg a b i j) (hk:j<=k):Seg a b i k:=⟨h.perm,h.pre,fun m hm=>h.post m (Nat.le_trans hk hm)⟩
theorem Iz {i j:Nat} (hj:j<=a.size):Seg a (mirror a i j ((j-i) / 2)) i j:=
 ⟨mirror_perm _ _ _ _,fun k hk=>by rw[getElem?_mirror_all hj,if_neg (by omega)],fun k hk=>by rw[getElem?_mirror_all hj,if_neg (by omega)]⟩
theorem Gq {i j k:Nat} (hj:j<=a.size) (h1:i<=k) (h2:k<j):rk r (mirror a i j ((j-i) / 2)) k=rk r a (i+j-1-k):= by
 have e:=getElem?_mirror_all (i:=i) hj k
 rw[if_pos ⟨h1,h2⟩] at e
 unfold rk;rw[e]
theorem Pl {lo nrem:Nat} {Q:Option Nat->SortSt->Prop} (C:Jl M A s κ S r) (ha : ∀ q ∈ a.toList,S q) (hd:Dst r a) (h1:1<=nrem) (hz:lo+nrem<=a.size)
  (h : ∀ n a',1<=n->n<=nrem->Seg a a' lo (lo+nrem)->Up r a' lo (lo+n)->Q (some n) (SortSt.mk' κ a' p g none)):wpS M A E s (crP lo nrem) Q (SortSt.mk' κ a p g none):= by
 refine wpS_bind (wpS_mono (wpS_forRange (I:=fun i c st'=>st'=SortSt.mk' κ a p g none/\c=(none,i)/\Up r a lo (lo+i))
  (Q:=fun c st'=>st'=SortSt.mk' κ a p g none /\ ∃ n,c=(none,n)/\1<=n/\n<=nrem/\Up r a lo (lo+n)/\(n<nrem->rk r a (lo+n)<rk r a (lo+n-1))) ?_ ?_ ⟨rfl,rfl,NM⟩) ?_)
 ·rintro i c st' i1 i2 ⟨rfl,rfl,u⟩
  dsimp only
  refine wpS_bind (ltA C ha (by omega) (by omega) ?_)
  dsimp only
  by_cases hlt:rk r a (lo+i)<rk r a (lo+i-1)
  ·rw[if_pos (decide_eq_true hlt)]
   exact wpS_pure ⟨rfl,i,rfl,i1,by omega,u,fun _=>hlt⟩
  ·rw[if_neg (by simpa using hlt)]
   obtain ⟨k,rfl⟩ : ∃ k,i=k+1:=⟨i-1,by omega⟩
   exact wpS_pure ⟨rfl,rfl,u.snoc hlt⟩
 ·rintro c st' ⟨rfl,rfl,u⟩
  have e:max 1 nrem=nrem:=by omega
  rw[e] at u ⊢
  exact ⟨rfl,nrem,rfl,h1,Nat.le_refl _,u,fun z=>absurd z (Nat.lt_irrefl _)⟩
 rintro c st' ⟨rfl,n,rfl,n1,n2,u,br⟩
 dsimp only
 by_cases e1:n=nrem
 ·rw[if_pos (beq_iff_eq.mpr e1)]
  exact wpS_pure (h n a n1 n2 .refl u)
 rw[if_neg fun z=>e1 (beq_iff_eq.mp z)]
 have br:=br (by omega)
 by_cases e2:n > 1
 ·rw[if_pos e2]
  refine wpS_bind (ltA C ha (by omega) (by omega) ?_)
  dsimp only
  have lt:rk r a lo<rk r a (lo+n-1):= by
   have g1:=u lo (lo+n-1) (Nat.le_refl _) (by omega) (by omega)
   have g2:=hd.ne (i:=lo) (j:=lo+n-1) (by omega) (by omega) (by omega)
   omega
  rw[if_pos (decide_eq_true lt)]
  exact wpS_pure (h n a n1 n2 .refl u)
 rw[if_neg e2]
 obtain rfl:n=1:=by omega
 refine wpS_bind (wpS_lift (wpAny_rule ⟨rfl,?_⟩))
 refine wpS_bind (wpS_mono (wpS_forRange (I:=fun i c st'=>st'=SortSt.mk' κ a p g none/\c=(none,i,0) /\ ∀ x y,lo<=x->x<=y->y<lo+i->rk r a y<=rk r a x)
  (Q:=fun c st'=>st'=SortSt.mk' κ a p g none /\ ∃ n,c=(none,n,0)/\2<=n/\n<=nrem /\ ∀ x y,lo<=x->x<=y->y<lo+n->rk r a y<=rk r a x) ?_ ?_ ⟨rfl,rfl,fun x y g1 g2 g3=>?_⟩) ?_)
 ·rintro i c st' i1 i2 ⟨rfl,rfl,dn⟩
  dsimp only
  refine wpS_bind (ltA C ha (by omega) (by omega) ?_)
  dsimp only
  by_cases hlt:rk r a (lo+i)<rk r a (lo+i-1)
  ·rw[if_pos (decide_eq_true hlt),if_neg (Nat.lt_irrefl 0)]
   refine wpS_pure ⟨rfl,rfl,fun x y g1 g2 g3=>?_⟩
   by_cases ey:y=lo+i
   ·by_cases ex:x=y
    ·rw[ex];exact Int.le_refl _
    ·rw[ey]
     have:=dn x (lo+i-1) g1 (by omega) (by omega)
     omega
   ·exact dn x y g1 g2 (by omega)
  ·rw[if_neg (by simpa using hlt)]
   refine wpS_bind (ltA C ha (by omega) (by omega) ?_)
   dsimp only
   have lt:rk r a (lo+i-1)<rk r a (lo+i):= by
    have g2:=hd.ne (i:=lo+i-1) (j:=lo+i) (by omega) (by omega) (by omega)
    omega
   rw[if_pos (decide_eq_true lt)]
   exact wpS_pure ⟨rfl,i,rfl,i1,by omega,dn⟩
 ·rintro c st' ⟨rfl,rfl,dn⟩
  have e:max (1+1) nrem=nrem:=by omega
  rw[e] at dn ⊢
  exact ⟨rfl,nrem,rfl,by omega,Nat.le_refl _,dn⟩
 ·by_cases exy:x=y
  ·rw[exy];exact Int.le_refl _
  ·rw[show x=lo by omega,show y=lo+1 by omega]
   rw[Nat.add_sub_cancel] at br
   exact Int.le_of_lt br
 rintro c st' ⟨rfl,n,rfl,m1,m2,dn⟩
 dsimp only
 rw[if_neg (Nat.lt_irrefl 0)]
 refine wpS_bind (wpS_modify ?_)
 have sg:=(Iz (a:=a) (i:=lo) (j:=lo+n) (by omega)).wide (k:=lo+nrem) (by omega)
 have hsz:=sg.perm.size_eq
 have u2:Up r (mirror a lo (lo+n) ((lo+n-lo) / 2)) lo (lo+n):=fun x y g1 g2 g3=>by
  rw[Gq (by omega) g1 (by omega),Gq (by omega) (by omega) g3]
  exact dn _ _ (by omega) (by omega) (by omega)
 show wpS M A E s _ Q (SortSt.mk' κ (mirror a lo (lo+n) ((lo+n-lo) / 2)) p g none)
 have ha2 : ∀ q ∈ (mirror a lo (lo+n) ((lo+n-lo) / 2)).toList,S q:=fun q hq=>ha q ((Array.perm_iff_toList_perm.mp sg.perm).mem_iff.mp hq)
 generalize mirror a lo (lo+n) ((lo+n-lo) / 2)=b at sg hsz u2 ha2 ⊢
 refine wpS_bind (wpS_mono (wpS_forRange (I:=fun i c st'=>st'=SortSt.mk' κ b p g none/\c=(none,i)/\Up r b lo (lo+i))
  (Q:=fun c st'=>st'=SortSt.mk' κ b p g none /\ ∃ n,c=(none,n)/\1<=n/\n<=nrem/\Up r b lo (lo+n)) ?_ ?_ ⟨rfl,rfl,u2⟩) ?_)
 ·rintro i c st' i1 i2 ⟨rfl,rfl,u⟩
  dsimp only
  refine wpS_bind (ltA C ha2 (by omega) (by omega) ?_)
  dsimp only
  by_cases hlt:rk r b (lo+i)<rk r b (lo+i-1)
  ·rw[if_pos (decide_eq_true hlt)]
   exact wpS_pure ⟨rfl,i,rfl,by omega,by omega,u⟩
  ·rw[if_neg (by simpa using hlt)]
   obtain ⟨k,rfl⟩ : ∃ k,i=k+1:=⟨i-1,by omega⟩
   exact wpS_pure ⟨rfl,rfl,u.snoc hlt⟩
 ·rintro c st' ⟨rfl,rfl,u⟩
  have e:max n nrem=nrem:=by omega
  rw[e] at u ⊢
  exact ⟨rfl,nrem,rfl,h1,Nat.le_refl _,u⟩
 rintro c st' ⟨rfl,k,rfl,k1,k2,u⟩
 exact wpS_pure (h k b k1 k2 sg u)
theorem Jg {lo k l n:Nat} (hk:lo+k<a.size) (hl:l<=k) (hn:k<n):Seg a (bubble a (lo+k) (lo+k-(lo+l))) lo (lo+n):=
 ⟨bubble_perm _ _ _,fun j hj=>by rw[getElem?_bubble hk _ (by omega),if_neg (by omega),if_neg (by omega)],fun j hj=>by rw[getElem?_bubble hk _ (by omega),if_neg (by omega),if_neg (by omega)]⟩
theorem Gb {src d k:Nat} (hs:src<a.size) (hd:d<=src):rk r (bubble a src d) k=if k=src-d then rk r a src else if src-d<k/\k<=src then rk r a (k-1) else rk r a k:= by
 have e:=getElem?_bubble hs d hd k
 by_cases h1:k=src-d
 ·rw[if_pos h1] at e ⊢;unfold rk;rw[e]
 ·rw[if_neg h1] at e ⊢
  by_cases h2:src-d<k/\k<=src
  ·rw[if_pos h2] at e ⊢;unfold rk;rw[e]
  ·rw[if_neg h2] at e ⊢;unfold rk;rw[e]
theorem O7 {lo n ok:Nat} {Q:Bool->SortSt->Prop} (C:Jl M A s κ S r) (ha : ∀ q ∈ a.toList,S q) (hok:1<=ok) (hon:ok<=n) (hz:lo+n<=a.size) (u0:Up r a lo (lo+ok))
  (h : ∀ a',Seg a a' lo (lo+n)->Up r a' lo (lo+n)->Q true (SortSt.mk' κ a' p g none)):wpS M A E s (bsP lo n ok) Q (SortSt.mk' κ a p g none):= by
 refine wpS_bind (wpS_mono (wpS_forRange (I:=fun k c st'=>∃ b,st'=SortSt.mk' κ b p g none/\c=(none,())/\Seg a b lo (lo+n)/\Up r b lo (lo+k))
  (Q:=fun c st'=>∃ b,st'=SortSt.mk' κ b p g none/\c=(none,())/\Seg a b lo (lo+n)/\Up r b lo (lo+n)) ?_ ?_ ⟨a,rfl,rfl,.refl,by rw[show max ok 1=ok by omega];exact u0⟩) ?_)
 ·rintro k c st' k1 k2 ⟨b,rfl,rfl,sg,u⟩
  dsimp only
  have hsz:=sg.perm.size_eq
  have hb : ∀ q ∈ b.toList,S q:=fun q hq=>ha q ((Array.perm_iff_toList_perm.mp sg.perm).mem_iff.mp hq)
  refine wpS_bind (wpS_mono (wpS_forRange (I:=fun x c st''=>st''=SortSt.mk' κ b p g none /\ ∃ l t,c=(none,l,t)/\l<=t/\t<=k/\t-l<=k-x/\(∀ i<l,rk r b (lo+i)<=rk r b (lo+k))/\(∀ i,t<=i->i<k->rk r b (lo+k)<=rk r b (lo+i)))
   (Q:=fun c st''=>st''=SortSt.mk' κ b p g none /\ ∃ l,c=(none,l,l)/\l<=k/\(∀ i<l,rk r b (lo+i)<=rk r b (lo+k))/\(∀ i,l<=i->i<k->rk r b (lo+k)<=rk r b (lo+i))) ?_ ?_ ⟨rfl,0,k,rfl,Nat.zero_le _,Nat.le_refl _,Nat.le_refl _,fun i hi=>absurd hi (Nat.not_lt_zero _),fun i h1 h2=>absurd h1 (Nat.not_le.mpr h2)⟩) ?_)
  ·rintro x c st'' _ hx ⟨rfl,l,t,rfl,g1,g2,g3,g4,g5⟩
   dsimp only
   by_cases hge:l >= t
   ·rw[if_pos hge]
    obtain rfl:l=t:=by omega
    exact wpS_pure ⟨rfl,l,rfl,g2,g4,g5⟩
   rw[if_neg hge]
   refine wpS_bind (ltA C hb (by omega) (by omega) ?_)
   dsimp only
   by_cases hlt:rk r b (lo+k)<rk r b (lo+(l+t) / 2)
   ·rw[if_pos (decide_eq_true hlt)]
    exact wpS_pure ⟨rfl,l,_,rfl,by omega,by omega,by omega,g4,fun i h1 h2=>Int.le_trans (Int.le_of_lt hlt) (u _ _ (by omega) (by omega) (by omega))⟩
   ·rw[if_neg (by simpa using hlt)]
    exact wpS_pure ⟨rfl,_,t,rfl,by omega,g2,by omega,fun i h1=>Int.le_trans (u _ (lo+(l+t) / 2) (by omega) (by omega) (by omega)) (Int.not_lt.mp hlt),g5⟩
  ·rintro c st'' ⟨rfl,l,t,rfl,g1,g2,g3,g4,g5⟩
   obtain rfl:l=t:=by omega
   exact ⟨rfl,l,rfl,g2,g4,g5⟩
  rintro c st'' ⟨rfl,l,rfl,g2,g4,g5⟩
  refine wpS_bind (wpS_modify (wpS_pure ⟨_,rfl,rfl,sg.trans (Jg (by omega) g2 (by omega)),fun x y h1 h2 h3=>?_⟩))
  show rk r (bubble b (lo+k) (lo+k-(lo+l))) x<=rk r (bubble b (lo+k) (lo+k-(lo+l))) y
  rw[Gb (by omega) (by omega),Gb (by omega) (by omega),show lo+k-(lo+k-(lo+l))=lo+l by omega]
  have low : ∀ x,lo<=x->x<lo+l->rk r b x<=rk r b (lo+k):=fun x a1 a2=>by
   have:=g4 (x-lo) (by omega)
   rwa [show lo+(x-lo)=x by omega] at this
  have hig : ∀ x,lo+l<=x->x<lo+k->rk r b (lo+k)<=rk r b x:=fun x a1 a2=>by
   have:=g5 (x-lo) (by omega) (by omega)
   rwa [show lo+(x-lo)=x by omega] at this
  by_cases x1:x=lo+l
  ·rw[if_pos x1]
   by_cases y1:y=lo+l
   ·rw[if_pos y1];exact Int.le_refl _
   ·rw[if_neg y1]
    by_cases y2:lo+l<y/\y<=lo+k
    ·rw[if_pos y2];exact hig _ (by omega) (by omega)
    ·exact absurd h3 (by omega)
  ·rw[if_neg x1]
   by_cases x2:lo+l<x/\x<=lo+k
   ·rw[if_pos x2,if_neg (by omega)]
    by_cases y2:lo+l<y/\y<=lo+k
    ·rw[if_pos y2];exact u _ _ (by omega) (by omega) (by omega)
    ·exact absurd h3 (by omega)
   ·rw[if_neg x2]
    by_cases y1:y=lo+l
    ·rw[if_pos y1];exact low _ h1 (by omega)
    ·rw[if_neg y1]
     by_cases y2:lo+l<y/\y<=lo+k
     ·rw[if_pos y2]
      exact u _ _ h1 (by omega) (by omega)
     ·rw[if_neg y2];exact u _ _ h1 h2 (by omega)
 ·rintro c st' ⟨b,rfl,rfl,sg,u⟩
  rw[show max (max ok 1) n=n by omega] at u
  exact ⟨b,rfl,rfl,sg,u⟩
 rintro c st' ⟨b,rfl,rfl,sg,u⟩
 exact wpS_pure (h b sg u)
end
end L2
namespace L2
open PySem PySem.Spec PyProof.Rows
section
variable {r:Keyed->Int} {a a':Array Keyed}
def Chn (r:Keyed->Int) (a:Array Keyed):List (Nat × Nat × Nat)->Nat->Nat->Prop
 | [],i,j=>i=j
 | t::l,i,j=>t.1=i/\0<t.2.1/\Up r a i (i+t.2.1)/\Chn r a l (i+t.2.1) j
theorem Chn.len : ∀ {l:List (Nat × Nat × Nat)} {i j:Nat},Chn r a l i j->i+l.length<=j
 | [],i,j,h=>Nat.le_of_eq h
 | t::l,i,j,⟨_,h2,_,h4⟩=>by have:=h4.len;rw[List.length_cons];omega
theorem Chn.split : ∀ {l m:List (Nat × Nat × Nat)} {i j:Nat},Chn r a (l++m) i j -> ∃ k,Chn r a l i k/\Chn r a m k j
 | [],m,i,j,h=>⟨i,rfl,h⟩
 | t::l,m,i,j,⟨h1,h2,h3,h4⟩=>by
  obtain ⟨k,k1,k2⟩:=Chn.split h4
  exact ⟨k,⟨h1,h2,h3,k1⟩,k2⟩
theorem Chn.app : ∀ {l m:List (Nat × Nat × Nat)} {i j k:Nat},Chn r a l i k->Chn r a m k j->Chn r a (l++m) i j
 | [],m,i,j,k,h,h'=>by have:i=k:=h;rw[this];exact h'
 | t::l,m,i,j,k,⟨h1,h2,h3,h4⟩,h'=>⟨h1,h2,h3,h4.app h'⟩
theorem Up.same {i j:Nat} (u:Up r a i j) (e : ∀ k,i<=k->k<j->a'[k]?=a[k]?):Up r a' i j:=fun x y h1 h2 h3=>by
 rw[Fd (e x h1 (by omega)),Fd (e y (by omega) h3)];exact u x y h1 h2 h3
theorem Chn.same : ∀ {l:List (Nat × Nat × Nat)} {i j:Nat},Chn r a l i j->(∀ k,i<=k->k<j->a'[k]?=a[k]?)->Chn r a' l i j
 | [],i,j,h,_=>h
 | t::l,i,j,⟨h1,h2,h3,h4⟩,e=>⟨h1,h2,h3.same fun k g1 g2=>e k g1 (by have:=h4.len;omega),h4.same fun k g1 g2=>e k (by omega) g2⟩
theorem Chn.pw : ∀ {l m:List (Nat × Nat × Nat)} {i j:Nat},Chn r a l i j->m.map (fun t=>(t.1,t.2.1))=l.map (fun t=>(t.1,t.2.1))->Chn r a m i j
 | [],[],i,j,h,_=>h
 | [],_::_,i,j,h,e=>by cases e
 | _::_,[],i,j,h,e=>by cases e
 | t::l,u::m,i,j,⟨h1,h2,h3,h4⟩,e=>by
  rw[List.map_cons,List.map_cons] at e
  obtain ⟨e1,e2⟩:=List.cons.inj e
  obtain ⟨f1,f2⟩:=Prod.mk.inj e1
  exact ⟨f1.trans h1,by rw[f2];exact h2,by rw[f2];exact h3,by rw[f2];exact h4.pw e2⟩
theorem Nv {f:Nat × Nat × Nat->Nat × Nat × Nat} (hf : ∀ t,((f t).1,(f t).2.1)=(t.1,t.2.1)) (p:Array (Nat × Nat × Nat)) (i:Nat):(p.modify i f).toList.map (fun t=>(t.1,t.2.1))=p.toList.map (fun t=>(t.1,t.2.1)):= by
 refine List.ext_getElem? fun k=>?_
 rw[List.getElem?_map,List.getElem?_map,Array.getElem?_toList,Array.getElem?_toList,Array.getElem?_modify]
 by_cases h:i=k
 ·rw[if_pos h]
  cases p[k]? with
  | none=>rfl
  | some t=>exact congrArg some (hf t)
 ·rw[if_neg h]
theorem Pc {p:Array (Nat × Nat × Nat)} {i:Nat} (h:i+1<p.size) : ∃ l u v m,p.toList=l++u::v::m/\l.length=i/\p[i]?=some u/\p[i+1]?=some v:= by
 have h1:i<p.toList.length:=by rw[Array.length_toList];omega
 have h2:i+1<p.toList.length:=by rw[Array.length_toList];omega
 refine ⟨p.toList.take i,p.toList[i],p.toList[i+1],p.toList.drop (i+2),?_,by rw[List.length_take];omega,?_,?_⟩
 ·rw[<- List.drop_eq_getElem_cons h2,<- List.drop_eq_getElem_cons h1,List.take_append_drop]
 ·rw[<- Array.getElem?_toList,List.getElem?_eq_getElem h1]
 ·rw[<- Array.getElem?_toList,List.getElem?_eq_getElem h2]
theorem I9 {p:Array (Nat × Nat × Nat)} {l m:List (Nat × Nat × Nat)} {u v w:Nat × Nat × Nat} (h:p.toList=l++u::v::m):((p.setIfInBounds l.length w).eraseIdxIfInBounds (l.length+1)).toList=l++w::m:= by
 obtain rfl:p=(l++u::v::m).toArray:=by rw[<- h]
 simp [Array.eraseIdxIfInBounds,List.eraseIdx_append_of_length_le]
end
section
variable {M:Model} {A:Around} {E:Value->Shared->Prop} {s:Shared} {κ:SortKind} {S:Keyed->Prop} {r:Keyed->Int} {a a₀:Array Keyed} {p:Array (Nat × Nat × Nat)} {g:Nat}
theorem Md {i hi:Nat} {Q:Bool->SortSt->Prop} (C:Jl M A s κ S r) (ha : ∀ q ∈ a.toList,S q) (ch:Chn r a p.toList 0 hi) (hz:hi<=a.size) (h1:i+1<p.size)
  (h : ∀ a' p' g',a'.Perm a->(∀ k,hi<=k->a'[k]?=a[k]?)->Chn r a' p'.toList 0 hi->p'.size+1=p.size->Q true (SortSt.mk' κ a' p' g' none)):wpS M A E s (maP i) Q (SortSt.mk' κ a p g none):= by
 obtain ⟨l,u,v,m,e,el,hu,hv⟩:=Pc h1
 rw[e] at ch
 obtain ⟨k,k1,⟨u1,u2,u3,v1,v2,v3,k2⟩⟩:=ch.split
 obtain ⟨us,un,uw⟩:=u
 obtain ⟨vs,vn,vp⟩:=v
 dsimp only at u1 u2 u3 v1 v2 v3 k2
 subst u1 v1
 have hlen:=k2.len
 refine O9 C ha hu hv rfl u2 v2 (by omega) u3 v3 fun a' g' sg up=>?_
 have ep:=I9 (w:=(us,un+vn,uw)) e
 rw[el] at ep
 refine h a' _ g' sg.perm (fun k hk=>sg.post k (by omega)) ?_ ?_
 ·rw[ep]
  refine (k1.same fun k _ g2=>sg.pre k g2).app ⟨rfl,Nat.add_pos_left u2 _,by rw[<- Nat.add_assoc];exact up,?_⟩
  rw[<- Nat.add_assoc]
  exact k2.same fun k g1 _=>sg.post k g1
 ·rw[<- Array.length_toList,ep,<- Array.length_toList (xs:=p),e,List.length_append,List.length_append];rfl
theorem OU {Q:Unit->SortSt->Prop} (C:Jl M A s κ S r) (ha : ∀ q ∈ a.toList,S q) (hd:Dst r a) (h1:1<=a.size)
  (h : ∀ a' p g,a'.Perm a->Up r a' 0 a'.size->Q () (SortSt.mk' κ a' p g none)):wpS M A E s sortRuns' Q (SortSt.mk' κ a #[] 7 none):= by
 refine wpS_bind (wpS_get ?_)
 dsimp only
 refine wpS_bind (wpS_mono (wpS_forRange (I:=fun i c st'=>∃ b p g lo,st'=SortSt.mk' κ b p g none/\c=(none,lo)/\b.Perm a/\Chn r b p.toList 0 lo/\(i<=lo\/lo=a.size)/\lo<=a.size)
  (Q:=fun c st'=>∃ b p g,st'=SortSt.mk' κ b p g none/\c=(none,a.size)/\b.Perm a/\Chn r b p.toList 0 a.size) ?_ ?_ ⟨a,#[],7,0,rfl,rfl,.refl _,rfl,.inl (Nat.le_refl _),Nat.zero_le _⟩) ?_)
 ·rintro i c st' _ hi ⟨b,p,g,lo,rfl,rfl,pm,ch,il,hlo⟩
  dsimp only
  have hsz:=pm.size_eq
  by_cases h9:lo >= a.size
  ·rw[if_pos h9]
   obtain rfl:lo=a.size:=by omega
   exact wpS_pure ⟨b,p,g,rfl,rfl,pm,ch⟩
  rw[if_neg h9]
  have hb : ∀ q ∈ b.toList,S q:=fun q hq=>ha q ((Array.perm_iff_toList_perm.mp pm).mem_iff.mp hq)
  refine wpS_bind (Pl C hb (hd.perm pm) (by omega) (by omega) fun n b2 n1 n2 sg up=>?_)
  dsimp only
  have pm2:=sg.perm.trans pm
  have ch2:Chn r b2 p.toList 0 lo:=ch.same fun k _ g2=>sg.pre k g2
  have hsz2:=pm2.size_eq
  have hb2 : ∀ q ∈ b2.toList,S q:=fun q hq=>ha q ((Array.perm_iff_toList_perm.mp pm2).mem_iff.mp hq)
  clear sg ch pm hb hsz b
  generalize (sortPriv% PySem.Builtin.minRun) a.size a.size 0=mr
  by_cases hm:n<mr
  all_goals first | rw[if_pos hm] | rw[if_neg hm]
  case' pos=>
   refine wpS_bind (wpS_lift (wpAny_rule ⟨rfl,?_⟩))
   refine wpS_bind (O7 C hb2 n1 (n:=min (a.size-lo) mr) (by omega) (by omega) up fun b sg upb=>?_)
   rw[if_neg (by decide)]
   have pmb:=sg.perm.trans pm2
   have chb:Chn r b p.toList 0 lo:=ch2.same fun k _ g2=>sg.pre k g2
   have nb1:1<=min (a.size-lo) mr:=by omega
   have nb2:min (a.size-lo) mr<=a.size-lo:=by omega
   clear sg pm2 ch2 hsz2 hb2 up n1 n2 hm b2
   generalize min (a.size-lo) mr=n9 at *
  case' neg=>
   have pmb:=pm2
   have chb:=ch2
   have nb1:=n1
   have nb2:=n2
   have upb:=up
   clear pm2 ch2 hsz2 hb2 up n1 n2 hm
   generalize b2=b at *
   generalize n=n9 at *
  all_goals
   refine wpS_bind (wpS_get ?_)
   dsimp only
   rcases hbk:p.back? with _ | ⟨s1,m1,w1⟩
   ·dsimp only
    refine wpS_bind (wpS_modify (wpS_pure ⟨b,p.push (lo,n9,0),g,lo+n9,rfl,rfl,pmb,?_,by omega,by omega⟩))
    rw[Array.toList_push]
    exact chb.app ⟨rfl,nb1,upb,rfl⟩
   dsimp only
   refine wpS_bind (wpS_mono (wpS_forRange (I:=fun _ c st'=>∃ b p g,st'=SortSt.mk' κ b p g none/\c=(none,())/\b.Perm a/\Chn r b p.toList 0 lo/\Up r b lo (lo+n9))
    (Q:=fun c st'=>∃ b p g,st'=SortSt.mk' κ b p g none/\c=(none,())/\b.Perm a/\Chn r b p.toList 0 lo/\Up r b lo (lo+n9)) ?_ (fun c st' h=>h) ⟨b,p,g,rfl,rfl,pmb,chb,upb⟩) ?_)
   ·clear hbk chb pmb upb
    rintro j c st' _ hj ⟨b,p,g,rfl,rfl,pmb,chb,upb⟩
    refine wpS_bind (wpS_get ?_)
    dsimp only
    have hb : ∀ q ∈ b.toList,S q:=fun q hq=>ha q ((Array.perm_iff_toList_perm.mp pmb).mem_iff.mp hq)
    have hsz:=pmb.size_eq
    by_cases h8:p.size > 1
    ·rw[if_pos h8]
     rcases hq:p[p.size-2]? with _ | ⟨x1,x2,x3⟩
     ·exact wpS_pure ⟨b,p,g,rfl,rfl,pmb,chb,upb⟩
     dsimp only
     split
     ·exact wpS_pure ⟨b,p,g,rfl,rfl,pmb,chb,upb⟩
     refine wpS_bind (Md C hb chb (by omega) (by omega) fun b' p' g' pm' keep ch' _=>?_)
     exact wpS_pure ⟨b',p',g',rfl,rfl,pm'.trans pmb,ch',upb.same fun k g1 _=>keep k g1⟩
    ·rw[if_neg h8]
     exact wpS_pure ⟨b,p,g,rfl,rfl,pmb,chb,upb⟩
   clear hbk chb pmb upb
   rintro c st' ⟨b,p,g,rfl,rfl,pmb,chb,upb⟩
   dsimp only
   refine wpS_bind (wpS_modify (wpS_bind (wpS_modify (wpS_pure ⟨b,_,g,lo+n9,rfl,rfl,pmb,?_,by omega,by omega⟩))))
   rw[Array.toList_push]
   dsimp only
   refine Chn.app (k:=lo) (chb.pw ?_) ⟨rfl,nb1,upb,rfl⟩
   refine Nv ?_ p _
   intro t;rfl
 ·rintro c st' ⟨b,p,g,lo,rfl,rfl,pm,ch,il,hlo⟩
  obtain rfl:lo=a.size:=by omega
  exact ⟨b,p,g,rfl,rfl,pm,ch⟩
 rintro c st' ⟨b,p,g,rfl,rfl,pm,ch⟩
 dsimp only
 have hsz:=pm.size_eq
 have hpl:=ch.len
 rw[Array.length_toList] at hpl
 refine wpS_bind (wpS_mono (wpS_forRange (I:=fun i c st'=>∃ b p g,st'=SortSt.mk' κ b p g none/\c=(none,())/\b.Perm a/\Chn r b p.toList 0 a.size/\p.size+i<=a.size)
  (Q:=fun c st'=>∃ b p g,st'=SortSt.mk' κ b p g none/\c=(none,())/\b.Perm a/\Chn r b p.toList 0 a.size/\p.size<=1) ?_ ?_ ⟨b,p,g,rfl,rfl,pm,ch,by omega⟩) ?_)
 ·clear hpl hsz ch pm
  rintro i c st' _ hi ⟨b,p,g,rfl,rfl,pm,ch,hp⟩
  refine wpS_bind (wpS_get ?_)
  have hsz:=pm.size_eq
  have hb : ∀ q ∈ b.toList,S q:=fun q hq=>ha q ((Array.perm_iff_toList_perm.mp pm).mem_iff.mp hq)
  dsimp only
  by_cases h9:p.size<=1
  ·rw[if_pos h9]
   exact wpS_pure ⟨b,p,g,rfl,rfl,pm,ch,h9⟩
  rw[if_neg h9]
  refine wpS_bind (Md C hb ch (by omega) ?_ fun b' p' g' pm' _ ch' sz=>?_)
  ·split <;> (try split) <;> omega
  ·exact wpS_pure ⟨b',p',g',rfl,rfl,pm'.trans pm,ch',by omega⟩
 ·rintro c st' ⟨b,p,g,rfl,rfl,pm,ch,hp⟩
  exact ⟨b,p,g,rfl,rfl,pm,ch,by omega⟩
 rintro c st' ⟨b,p,g,rfl,rfl,pm,ch,hp⟩
 have hsz:=pm.size_eq
 refine wpS_pure (h b p g pm ?_)
 rw[hsz]
 rcases hl:p.toList with _ | ⟨t,_ | ⟨t',l⟩⟩
 ·rw[hl] at ch
  have:0=a.size:=ch
  omega
 ·rw[hl] at ch
  obtain ⟨_,_,u,e⟩:=ch
  rw[<- e]
  rw[Nat.zero_add] at u
  rw[Nat.zero_add]
  exact u
 ·have:=congrArg List.length hl
  rw[Array.length_toList,List.length_cons,List.length_cons] at this
  omega
end
end L2
namespace L2
open PySem PySem.Spec PyProof.Rows
def Qg (prog:Program) (w:World) (A:Around) (s:Shared) (vs:List Value) (rv:Value->Int):Prop:=
 ∃ κ,(∀ (Q:SortKind->Shared->Prop) (E:Value->Shared->Prop),Q κ s->wpAny (model prog w) A (keyKind' vs.toArray) Q E s)/\Jl (model prog w) A s κ (fun p=>p.1 ∈ vs) fun p=>rv p.1
section
variable {prog:Program} {w:World} {A:Around} {E:Value->Shared->Prop} {s:Shared} {vs:List Value} {rv:Value->Int}
theorem JT {D : Addr} {n : Nat} {P : PySem.Fin -> Shared -> Prop} (hD : s.heap.get? D = some (seqObj "list" vs.toArray n)) (h2 : 2 <= vs.length) (h9 : vs.length <= 4000) (hn : (vs.map rv).Nodup)
  (hc : ∀ s':Shared,(∀ b o,b≠D->s.heap.get? b=some o->s'.heap.get? b=some o)->Qg prog w A s' vs rv)
  (h : ∀ out:List Value,out.Perm vs->out.Pairwise (fun a b=>rv a<=rv b)->P (.done (.ret .none)) { s with heap:=sortedHeap s.heap D vs out.toArray }) :
  wpAny (model prog w) A (Builtin.«list.sort» ⟨[.ref D],[]⟩) P E s:= by
 have lt:=Heap.lt_size hD
 obtain ⟨e1,hE⟩ : ∃ e1,(s.heap.update D (Obj.mapSeq fun _=>#[])).get? D = some (seqObj "list" #[] e1):=⟨_,get?_update_seq hD fun _=>#[]⟩
 have hT : ((s.heap.update D (Obj.mapSeq fun _=>#[])).push (seqObj "tuple" vs.toArray 0)).get? D = some (seqObj "list" #[] e1):=Heap.get?_push_of_some _ hE
 have hG : (((s.heap.update D (Obj.mapSeq fun _=>#[])).push (seqObj "tuple" vs.toArray 0)).push (seqObj "list" #[] 0)).get? D = some (seqObj "list" #[] e1):=Heap.get?_push_of_some _ hT
 have line:vs.length<=sizeLine:=Ak (Nat.le_trans h9 (by decide))
 obtain ⟨κ,hκ,hO⟩:=hc { s with heap:=((s.heap.update D (Obj.mapSeq fun _=>#[])).push (seqObj "tuple" vs.toArray 0)).push (seqObj "list" #[] 0) } fun b o hb e=>
  Heap.get?_push_of_some _ (Heap.get?_push_of_some _ (by rw[Heap.get?_update_ne _ _ _ _ hb];exact e))
 rw[list_sort_plain]
 refine wpAny_bind (listItems_at hD rfl (wpAny_bind (listUpdate_at hD rfl ?_ (by rw[List.size_toArray];exact line) (Nat.zero_le _))))
 refine wpAny_bind (seqEpoch_at hE rfl (wpAny_bind (wpAny_newTuple ?_ line)))
 refine wpAny_bind (wpAny_newList (wpAny_holding ?_) (Nat.zero_le _))
 show wpAny (model prog w) A _ P E { s with heap:=((s.heap.update D (Obj.mapSeq fun _=>#[])).push (seqObj "tuple" vs.toArray 0)).push (seqObj "list" #[] 0) }
 have n2 : ¬ vs.toArray.size<2:=by rw[List.size_toArray];omega
 dsimp only
 rw[if_neg n2,if_neg n2]
 refine wpAny_bind (hκ _ _ ?_)
 have hz:(pairsOf vs).size=vs.length:=pairsOf_size vs
 have hS : ∀ q ∈ (pairsOf vs).toList,q.1 ∈ vs:=fun q hq=>by rw[pairsOf_toList] at hq;exact (mem_zip_self hq).2
 have e1':(pairsOf vs).toList.map (·.1)=vs:=by rw[pairsOf_toList,List.map_fst_zip (Nat.le_refl _)]
 have e2' : ∀ q ∈ (pairsOf vs).toList,q.2=q.1:=fun q hq=>by rw[pairsOf_toList] at hq;exact (mem_zip_self hq).1.symm
 refine wpAny_bind (wpAny_mono (OU (Q:=fun _ st'=>(∃ p g,∃ a':Array Keyed,st'=SortSt.mk' κ a' p g none/\a'.Perm (pairsOf vs)/\Up (fun p=>rv p.1) a' 0 a'.size)) hO hS
  (by show ((pairsOf vs).toList.map fun p=>rv p.1).Nodup;rw[show ((pairsOf vs).toList.map fun p=>rv p.1)=((pairsOf vs).toList.map (·.1)).map rv by rw[List.map_map];rfl,e1'];exact hn)
  (by show 1<=(pairsOf vs).size;rw[hz];omega) fun a' p g pm up=>⟨p,g,a',rfl,pm,up⟩) ?_ fun _ _ e=>e)
 rintro ⟨⟨⟩,st'⟩ s' ⟨rfl,p,g,a',rfl,pm,up⟩
 dsimp only
 have pl:=Array.perm_iff_toList_perm.mp pm
 have eo:a'.toList.map (·.2)=a'.toList.map (·.1):=List.map_congr_left fun q hq=>e2' q (pl.mem_iff.mp hq)
 have ho:=h (a'.toList.map (·.2)) (by rw[eo];have:=pl.map (·.1);rw[e1'] at this;exact this) (by rw[eo,List.pairwise_map];exact up.list)
 have ea:(a'.toList.map (·.2)).toArray=a'.map (·.2):=by rw[<- Array.toList_map]
 rw[ea] at ho
 refine wpAny_bind (seqEpoch_at hG rfl (wpAny_bind (listUpdate_at hG rfl ?_ (Nat.zero_le _) (by
  show (a'.map (·.2)).size<=_
  rw[Array.size_map,pm.size_eq,hz];exact Nat.le_succ_of_le line))))
 simp only [bne_self_eq_false,Bool.false_eq_true,if_false]
 exact wpAny_pure ho
theorem Jb {l:Addr} {Q:Value->Shared->Prop} (hl:s.heap.IsList l vs.toArray) (h2:2<=vs.length) (h9:vs.length<=4000) (hn:(vs.map rv).Nodup)
  (hc : ∀ (A':Around) (s':Shared),(∀ b o,s.heap.get? b=some o->s'.heap.get? b=some o)->Qg prog w A' s' vs rv)
  (h : ∀ out:List Value,out.Perm vs->out.Pairwise (fun a b=>rv a<=rv b)->Q (.ref (s.heap.objs.size+1)) { s with heap:=sortedAll s.heap vs out.toArray }) :
  wpAny (model prog w) A (call (.builtin "sorted") [.ref l]) Q E s:= by
 have line:vs.length<=sizeLine:=Ak (Nat.le_trans h9 (by decide))
 have sz : ((s.heap.push (seqObj "list" #[] 0)).update s.heap.objs.size (Obj.mapSeq (· ++ vs.toArray))).objs.size = s.heap.objs.size + 1:=by rw[Heap.size_update,size_push']
 have at1 : (((s.heap.push (seqObj "list" #[] 0)).update s.heap.objs.size (Obj.mapSeq (· ++ vs.toArray))).push (seqObj "list" vs.toArray 0)).get? (s.heap.objs.size + 1) = some (seqObj "list" vs.toArray 0):= by
  rw[<- sz];exact Heap.get?_push_size _ rfl
 refine Calls.call_function_entry kind_sorted plain_sorted entry_sorted (args_sorted1 _) ?_
 unfold Builtin.«sorted»
 refine wpAny_bind (m:=checkCount "sorted" 1 1 _) (wpAny_pure (wpAny_bind (collect_list hl (wpAny_bind (wpAny_newList ?_ line)) line)))
 show wpAny _ _ _ _ _ { s with heap:=((s.heap.push (seqObj "list" #[] 0)).update s.heap.objs.size (Obj.mapSeq (· ++ vs.toArray))).push (seqObj "list" vs.toArray 0) }
 rw[sz]
 refine wpAny_bind (wpAny_holding (wpAny_call_entry slot_list_sort ⟨_,at1,rfl⟩ entry_list_sort (JT at1 h2 h9 hn (fun s' hs'=>hc _ s' fun b o e=>hs' b o ?_ ?_) fun out o1 o2=>⟨_,rfl,?_⟩) (args_list_sort _)))
 ·exact Nat.ne_of_lt (Nat.lt_succ_of_lt (Heap.lt_size e))
 ·have q:=Heap.lt_size e
  refine Heap.get?_push_of_some _ ?_
  rw[Heap.get?_update_ne _ _ _ _ (Nat.ne_of_lt q)]
  exact Heap.get?_push_of_some _ e
 ·exact wpAny_pure ⟨_,rfl,h out o1 o2⟩
end
end L2
namespace L2
open PySem PySem.Spec PyProof.Rows
section
variable {X:Cx} {K:PySem.W.Frag}
theorem Io : ∀ {xs ys:List Int},xs.map V.int=ys.map V.int->xs=ys
 | [],[],_=>rfl
 | [],_::_,h=>by cases h
 | _::_,[],h=>by cases h
 | x::xs,y::ys,h=>by
  rw[List.map_cons,List.map_cons] at h
  obtain ⟨h1,h2⟩:=List.cons.inj h
  cases h1
  rw[Io h2]
noncomputable def GI (ps:List Addr) (xss:List (List Int)) (b:Addr):List Int:=xss.getD (ps.idxOf b) []
theorem CB {ps:List Addr} {b:Addr} (h:b ∈ ps):ps.idxOf b<ps.length/\ps.getD (ps.idxOf b) 0=b:= by
 have:=List.idxOf_lt_length_of_mem h
 exact ⟨this,by rw[List.getD_eq_getElem?_getD,List.getElem?_eq_getElem this,List.getElem_idxOf];rfl⟩
theorem FS {H:Hp} {ps:List Addr} {xss:List (List Int)} (h:DM H ps xss) {b:Addr} (hb:b ∈ ps):H b=some (.tup ((GI ps xss b).map V.int)):= by
 have:=Eo h (CB hb).1
 rwa [(CB hb).2] at this
theorem MN {H:Hp} {ps:List Addr} {xss:List (List Int)} (h:DM H ps xss) {i:Nat} (hi:i<ps.length):GI ps xss (ps.getD i 0)=xss.getD i []:= by
 have e1:=Eo h hi
 have e2:=FS h (b:=ps.getD i 0) (by rw[List.getD_eq_getElem?_getD,List.getElem?_eq_getElem hi];exact List.getElem_mem hi)
 rw[e1] at e2
 injection e2 with e2
 injection e2 with e2
 exact (Io e2).symm
theorem HQ {H:Hp} {ps:List Addr} {xss:List (List Int)} (h:DM H ps xss):ps.map (GI ps xss)=xss:= by
 have hl:=Paired.length h
 refine List.ext_getElem (by rw[List.length_map,hl]) fun i h1 h2=>?_
 rw[List.length_map] at h1
 rw[List.getElem_map]
 have:=MN h h1
 rw[List.getD_eq_getElem?_getD,List.getElem?_eq_getElem h1,List.getD_eq_getElem?_getD,List.getElem?_eq_getElem h2] at this
 exact this
noncomputable def rv9 (ps:List Addr) (xss:List (List Int)):Value->Int
 | .ref b=>Cv xss (ps.idxOf b)
 | _=>0
theorem JO {H:Hp} {ps:List Addr} {f:Addr->List Int} : ∀ {qs:List Addr},(∀ b ∈ qs,H b=some (.tup ((f b).map V.int)))->DM H qs (qs.map f)
 | [],_=>.nil
 | b::qs,h=>.cons (h b List.mem_cons_self) (JO (ps:=ps) fun c hc=>h c (List.mem_cons_of_mem _ hc))
theorem Kp {ps:List Addr} : ∀ {out:List Value},(∀ v ∈ out,v ∈ ps.map Value.ref) -> ∃ qs:List Addr,out=qs.map Value.ref
 | [],_=>⟨[],rfl⟩
 | v::out,h=>by
  obtain ⟨qs,e⟩:=Kp (ps:=ps) (out:=out) fun w hw=>h w (List.mem_cons_of_mem _ hw)
  obtain ⟨b,_,eb⟩:=List.mem_map.mp (h v List.mem_cons_self)
  exact ⟨b::qs,by rw[e,<- eb];rfl⟩
theorem KB {ps qs:List Addr} (h:(qs.map Value.ref).Perm (ps.map Value.ref)):qs.Perm ps:= by
 have:=h.map fun v=>match v with
  | Value.ref b=>b
  | _=>0
 rw[List.map_map,List.map_map] at this
 have e : ∀ l:List Addr,l.map ((fun v=>match v with | Value.ref b=>b | _=>0)∘Value.ref)=l:=fun l=>(List.map_congr_left fun b _=>rfl).trans (List.map_id l)
 rw[e,e] at this;exact this
def Mt (h : Heap) (b : Addr) (xs : List Int) : Prop:=∃ o its n,h.get? b = some o /\ o.cls = .type "tuple" /\ o.data = .seq its n /\ AH (xs.map V.int) its.toList
theorem Is {h:Heap} {f:Addr->List Int} : ∀ {ps:List Addr},(∀ b ∈ ps,Mt h b (f b)/\f b≠[]) -> ∃ fs:List Value,PySem.W.KatTups h (ps.map Value.ref) fs/\fs.length=ps.length /\ ∀ v ∈ fs,∃ i t,v=Value.int i t
 | [],_=>⟨[],PySem.W.KatTups.nil,rfl,fun v hv=>by cases hv⟩
 | b::ps,k=>by
  obtain ⟨fs,f1,f2,f3⟩:=Is (ps:=ps) fun c hc=>k c (List.mem_cons_of_mem _ hc)
  obtain ⟨⟨o,its,n,e1,e2,e3,r⟩,ne⟩:=k b List.mem_cons_self
  cases ex:f b with
  | nil=>exact absurd ex ne
  | cons x xs=>
   rw[ex] at r
   cases el:its.toList with
   | nil=>rw[el] at r;cases r
   | cons v vr=>
    rw[el] at r
    cases r with
    | cons r1 _=>
     obtain ⟨t,rfl⟩:=r1
     refine ⟨_::fs,PySem.W.KatTups.cons e1 e2 e3 (f:=Value.int x t) (by rw[<- Array.getElem?_toList,el];rfl) f1,congrArg Nat.succ f2,fun u hu=>?_⟩
     rcases List.mem_cons.mp hu with e | e
     ·exact ⟨_,_,e⟩
     ·exact f3 u e
theorem Gw (h : X.K = K:=by rfl) : AO X (.builtin "sorted") (fun xs H Q=>∃ (p : Addr) (ps : List Addr) (xss : List (List Int)),xs = [.ref p] /\ SqL K H p (ps.map V.ref) /\ DM H ps xss /\ ps.length <= 4000 /\ xss.Nodup /\ (∀ x ∈ xss,x ≠ []) /\
  ∀ (l:Addr) (qs:List Addr) (yss:List (List Int)),DM H qs yss->yss.Perm xss->BC yss->H l=none->Q (.ref l) (upd H l (.lst (qs.map V.ref)))):= by
 subst h
 intro pins s σ H xs us Q I r h
 obtain ⟨p,ps,xss,rfl,hq,hU,h9,nd,hne,q⟩:=h
 by_cases h64:ps.length<64
 ·exact Dx (K:=X.K) rfl pins s σ H _ us Q I r ⟨p,ps,xss,rfl,hq,hU,h64,hne,q⟩
 obtain ⟨u,rfl,ru⟩:=FL r
 cases ru
 obtain ⟨its,r',pl,hz⟩:=I.list hq
 obtain rfl:=GE r'
 have hxl:=Paired.length hU
 have nz : ∀ b ∈ ps,GI ps xss b≠[]:=fun b hb=>hne _ (by
  have:=(CB hb).1
  unfold GI
  rw[List.getD_eq_getElem?_getD,List.getElem?_eq_getElem (by omega)];exact List.getElem_mem _)
 have row : ∀ b ∈ ps,Mt s.heap b (GI ps xss b):=fun b hb=>by
  obtain ⟨its,rv,⟨o,ho,hc,n,hd⟩,_⟩:=I.tuple (SqT.of (FS hU hb))
  exact ⟨o,its.toArray,n,ho,hc,hd,rv⟩
 have rows : ∀ s':Shared,(∀ b o,s.heap.get? b=some o->s'.heap.get? b=some o) -> ∀ b ∈ ps,Mt s'.heap b (GI ps xss b):=fun s' k b hb=>by
  obtain ⟨o,its,n,e1,e2⟩:=row b hb
  exact ⟨o,its,n,k _ _ e1,e2⟩
 have inj : ∀ b ∈ ps,∀ c ∈ ps,Cv xss (ps.idxOf b)=Cv xss (ps.idxOf c)->GI ps xss b=GI ps xss c:=fun b hb c hc e=>by
  have e1:=Cd (xss:=xss) (i:=ps.idxOf b) (j:=ps.idxOf c) (by have:=(CB hb).1;omega)
  have e2:=Cd (xss:=xss) (i:=ps.idxOf c) (j:=ps.idxOf b) (by have:=(CB hc).1;omega)
  rw[e,decide_eq_false (Int.lt_irrefl _)] at e1
  rw[e,decide_eq_false (Int.lt_irrefl _)] at e2
  exact Bj _ _ e1.symm e2.symm
 refine Jb (rv:=rv9 ps xss) pl.isList (by rw[List.length_map];omega) (by rw[List.length_map];exact h9) ?_ (fun A' s' k=>?_) fun out o1 o2=>?_
 ·rw[List.map_map]
  have nd2:(ps.map (GI ps xss)).Nodup:=by rw[HQ hU];exact nd
  have nd3:=List.pairwise_map.mp nd2
  refine List.pairwise_map.mpr ((List.Pairwise.and_mem.mp nd3).imp fun {b c} h e=>h.2.2 (inj b h.1 c h.2.1 e))
 ·refine ⟨tuples' (Value.type "int" != Value.type "tuple"),fun Q E hQ=>?_,fun x y hx hy Q E hQ=>?_⟩
  ·obtain ⟨fs,f1,f2,f3⟩:=Is (h:=s'.heap) (f:=GI ps xss) (ps:=ps) fun b hb=>⟨rows s' k b hb,nz b hb⟩
   refine PySem.W.kat_kind (T:=.type "int") f1 (by omega) (fun v hv=>?_) (by decide) hQ
   obtain ⟨i,t,rfl⟩:=f3 v hv
   exact PySem.W.Looks.of_pure rfl
  ·obtain ⟨x1,x2⟩:=x
   obtain ⟨y1,y2⟩:=y
   obtain ⟨b,hb,rfl⟩:=List.mem_map.mp (show x1 ∈ ps.map Value.ref from hx)
   obtain ⟨c,hc,rfl⟩:=List.mem_map.mp (show y1 ∈ ps.map Value.ref from hy)
   obtain ⟨o1,i1,n1,a1,_,a3,a4⟩:=rows s' k b hb
   obtain ⟨o2,i2,n2,b1,_,b3,b4⟩:=rows s' k c hc
   have e:=Cd (xss:=xss) (i:=ps.idxOf b) (j:=ps.idxOf c) (by have:=(CB hb).1;omega)
   refine PySem.W.kat_lt a1 a3 b1 b3 (Hr 0 a4 b4 rfl ?_)
   rw[show HT.lexLt (GI ps xss b) (GI ps xss c)=_ from e.symm]
   exact hQ
 ·obtain ⟨qs,rfl⟩:=Kp (ps:=ps) fun v hv=>o1.mem_iff.mp hv
  have pq:=KB o1
  have hin : ∀ b ∈ qs,b ∈ ps:=fun b hb=>pq.mem_iff.mp hb
  obtain ⟨e,he⟩:=sortedAll_at s.heap (ps.map Value.ref) (qs.map Value.ref).toArray
  refine ⟨.ref (s.heap.objs.size+1),_,I.laid (t':=s.toks) (fun _ _=>sortedAll_old) (Nat.le_succ _) (show AV X.prog X.w _ _ _ (.lst (qs.map V.ref)) from ⟨Ak (by rw[List.length_map,pq.length_eq];exact Nat.le_trans h9 (by decide)),qs.map Value.ref,e,DV qs,he⟩),rfl,q _ qs (qs.map (GI ps xss)) (JO (ps:=ps) fun b hb=>FS hU (hin b hb)) ?_ ?_ (I.hok.fresh (Nat.le_succ _))⟩
  ·have:=pq.map (GI ps xss)
   rw[HQ hU] at this
   exact this
  ·unfold BC
   rw[List.pairwise_map]
   rw[List.pairwise_map] at o2
   refine (List.Pairwise.and_mem.mp o2).imp fun {b c} h=>?_
   have e:=Cd (xss:=xss) (i:=ps.idxOf c) (j:=ps.idxOf b) (by have:=(CB (hin c h.2.1)).1;omega)
   rw[show HT.lexLt (GI ps xss c) (GI ps xss b)=_ from e.symm]
   exact decide_eq_false (Int.not_lt.mpr h.2.2)
end
end L2
namespace L2
open PySem PySem.Spec PyProof.Rows
noncomputable def chs (l:List Int):List (List Int):=l.foldl (fun f c=>f++f.map (· ++ [c])) [[]]
theorem Bo (l:List Int) (c:Int):chs (l++[c])=chs l++(chs l).map (· ++ [c]):=by unfold chs;rw[List.foldl_append];rfl
theorem Hl : ∀ l:List Int,(chs l).length=2 ^ l.length:=AD rfl fun l c ih=>by
 rw[Bo,List.length_append,List.length_map,ih,List.length_append]
 show 2 ^ l.length+2 ^ l.length=2 ^ (l.length+1)
 rw[Nat.pow_succ];omega
theorem LB : ∀ l:List Int,∃ t,chs l=[]::t /\ ∀ c ∈ t,c≠[]:=AD ⟨[],rfl,fun c h=>nomatch h⟩ fun l c ih=>by
 obtain ⟨t,e,ht⟩:=ih
 refine ⟨t++(chs l).map (· ++ [c]),by rw[Bo,e];rfl,fun d hd=>?_⟩
 rcases List.mem_append.mp hd with hd | hd
 ·exact ht d hd
 ·obtain ⟨x,_,rfl⟩:=List.mem_map.mp hd
  simp
theorem Hw : ∀ l:List Int,∀ c ∈ chs l,∀ x ∈ c,x ∈ l:=AD (fun c h x hx=>by rw[List.mem_singleton.mp (show c ∈ [[]] from h)] at hx;cases hx) fun l a ih c hc x hx=>by
 rw[Bo,List.mem_append,List.mem_map] at hc
 rcases hc with hc | ⟨d,hd,rfl⟩
 ·exact List.mem_append_left _ (ih c hc x hx)
 ·rcases List.mem_append.mp hx with hx | hx
  ·exact List.mem_append_left _ (ih d hd x hx)
  ·exact List.mem_append_right _ hx
theorem Ji (p:Int->Bool) : ∀ l:List Int,l.filter p ∈ chs l:=AD (List.mem_singleton.mpr rfl) fun l a ih=>by
 rw[Bo,List.filter_append,List.mem_append]
 by_cases h:p a=true
 ·exact .inr (List.mem_map.mpr ⟨_,ih,by rw[List.filter_cons_of_pos h];rfl⟩)
 ·refine .inl ?_
  rw[List.filter_cons_of_neg h]
  show _++[] ∈ _
  rw[List.append_nil];exact ih
theorem ER {l:List Int} {a:Int} (h:(l++[a]).Nodup):l.Nodup/\a ∉ l:= by
 obtain ⟨h1,_,h3⟩:=List.nodup_append.mp h
 exact ⟨h1,fun z=>h3 a z a (List.mem_singleton.mpr rfl) rfl⟩
theorem Ie : ∀ l:List Int,l.Nodup -> ∀ c ∈ chs l,c=l.filter fun x=>decide (x ∈ c):=AD (fun _ c h=>by rw[List.mem_singleton.mp (show c ∈ [[]] from h)];rfl) fun l a ih hn c hc=>by
 obtain ⟨n1,n2⟩:=ER hn
 rw[Bo,List.mem_append,List.mem_map] at hc
 rw[List.filter_append]
 rcases hc with hc | ⟨d,hd,rfl⟩
 ·have:a ∉ c:=fun z=>n2 (Hw l c hc a z)
  rw[List.filter_cons_of_neg (by simpa using this)]
  show c=_++[]
  rw[List.append_nil];exact ih n1 c hc
 ·rw[List.filter_cons_of_pos (by simp)]
  show d++[a]=_++[a]
  congr 1
  refine (ih n1 d hd).trans (List.filter_congr fun x hx=>?_)
  have:x≠a:=fun z=>n2 (z ▸ hx)
  simp [this]
theorem Na {l:List Int} (hn:l.Nodup) {c d:List Int} (hc:c ∈ chs l) (hd:d ∈ chs l) (h : ∀ x,x ∈ c ↔ x ∈ d):c=d:= by
 rw[Ie l hn c hc,Ie l hn d hd]
 exact List.filter_congr fun x _=>decide_eq_decide.mpr (h x)
theorem Jr : ∀ l:List Int,l.Nodup->(chs l).Nodup:=AD (fun _=>List.pairwise_singleton _ _) fun l a ih hn=>by
 obtain ⟨n1,n2⟩:=ER hn
 rw[Bo]
 refine List.nodup_append.mpr ⟨ih n1,Bl (ih n1) fun x _ y _ e=>List.append_cancel_right e,fun x hx y hy e=>?_⟩
 obtain ⟨d,hd,rfl⟩:=List.mem_map.mp hy
 exact n2 (Hw l x hx a (by rw[e];exact List.mem_append_right _ (List.mem_singleton.mpr rfl)))
theorem GR : ∀ {l c:List Int},c ∈ chs l->c.length<=l.length:=fun {l c}=>by
 revert c
 refine AD (P:=fun l=>∀ {c:List Int},c ∈ chs l->c.length<=l.length) (fun {c} h=>by rw[List.mem_singleton.mp (show c ∈ [[]] from h)];exact Nat.le_refl 0) (fun l a ih c hc=>?_) l
 rw[Bo,List.mem_append,List.mem_map] at hc
 rw[List.length_append]
 rcases hc with hc | ⟨d,hd,rfl⟩
 ·exact Nat.le_trans (ih hc) (Nat.le_add_right _ _)
 ·rw[List.length_append];exact Nat.add_le_add_right (ih hd) _
noncomputable def LH (l:List Int):List (List Int):=(chs l).filter fun c=>decide (c≠[])
theorem Ft (l:List Int):(LH l).length=2 ^ l.length-1:= by
 obtain ⟨t,e,ht⟩:=LB l
 have h:=Hl l
 unfold LH
 rw[e] at h ⊢
 rw[List.filter_cons_of_neg (by simp),List.filter_eq_self.mpr fun c hc=>decide_eq_true (ht c hc)]
 rw[List.length_cons] at h
 omega
noncomputable def prw (ws S:List Int):List Int:=(List.range ws.length).map fun (i:Nat)=>if (i:Int) ∈ S then (ws.length:Int) else ws.getD i 0
noncomputable def prt (ws S:List Int):List Int:=Ax (prw ws S)
theorem Ao (ws S:List Int):(prw ws S).length=ws.length:=by unfold prw;rw[List.length_map,List.length_range]
theorem Cb (ws S:List Int):(prt ws S).length=ws.length:=by unfold prt;rw[Bg,Ao]
theorem Bp {ws S:List Int} {i:Nat} (h:i<ws.length):(prw ws S).getD i 0=if (i:Int) ∈ S then (ws.length:Int) else ws.getD i 0:= by
 rw[AZ (by rw[Ao];exact h)]
 unfold prw
 rw[List.getElem_map,List.getElem_range]
theorem KL {ws S:List Int} (hw:As ws=true):As (prt ws S)=true:= by
 obtain ⟨w1,w9,_⟩:=Am.mp hw
 exact BU (by rw[Ao];exact w1) (by rw[Ao];exact w9)
noncomputable def DK (ws:List Int) (k:Int):Nat:=(FD ws k ws.length).headD 0
structure InL (ws:List Int) (k:Int) (S:List Int):Prop where
 ne:S≠[]
 sub : ∀ x ∈ S,∃ i:Nat,i<ws.length/\x=(i:Int)/\ws.getD i 0=k
 fl:DK ws k<ws.length
 fk:ws.getD (DK ws k) 0=k
 fs:((DK ws k:Nat):Int) ∉ S
theorem EY (ws:List Int) (k:Int) (n:Nat):(FD ws k n).Nodup:=List.nodup_range.filter _
theorem IB (ws:List Int) (k:Int) (n:Nat):(BR ws k n).Nodup:=Bl (EY ws k n) fun a _ b _ e=>Int.ofNat.inj e
theorem La {ws:List Int} (hw:As ws=true) {k:Nat} (hk:k<(fresh 0 ws).toNat):FD ws (k:Int) ws.length=DK ws k::(FD ws (k:Int) ws.length).drop 1:= by
 unfold DK
 cases h:FD ws (k:Int) ws.length with
 | nil=>exact absurd h (MR hw hk)
 | cons a l=>rfl
theorem Ge {ws:List Int} (hw:As ws=true) {k:Nat} (hk:k<(fresh 0 ws).toNat) {S:List Int} (hS:S ∈ LH ((BR ws (k:Int) ws.length).drop 1)):InL ws (k:Int) S:= by
 obtain ⟨h1,h2⟩:=List.mem_filter.mp hS
 have hc:=La hw hk
 have sb:=Hw _ S h1
 have hf:DK ws k ∈ FD ws (k:Int) ws.length:=by rw[hc];exact List.mem_cons_self
 obtain ⟨f1,f2⟩:=BP.mp hf
 refine ⟨of_decide_eq_true h2,fun x hx=>?_,f1,f2,fun z=>?_⟩
 ·have:=List.mem_of_mem_drop (sb x hx)
  obtain ⟨i,hi,rfl⟩:=List.mem_map.mp this
  obtain ⟨i1,i2⟩:=BP.mp hi
  exact ⟨i,i1,rfl,i2⟩
 ·have hz:=sb _ z
  unfold BR at hz
  rw[<- List.map_drop] at hz
  obtain ⟨i,hi,e⟩:=List.mem_map.mp hz
  have e:i=DK ws k:=Int.ofNat.inj e
  have nd:=EY ws (k:Int) ws.length
  rw[hc] at nd
  exact (List.nodup_cons.mp nd).1 (e ▸ hi)
section
variable {ws S:List Int} {k:Int}
theorem InL.at (h:InL ws k S) {i:Nat} (hi:i<ws.length) (hm:(i:Int) ∈ S):ws.getD i 0=k:= by
 obtain ⟨j,_,e,g⟩:=h.sub _ hm
 obtain rfl:i=j:=Int.ofNat.inj e
 exact g
theorem InL.some (h:InL ws k S) : ∃ i:Nat,i<ws.length/\(i:Int) ∈ S/\ws.getD i 0=k:= by
 obtain ⟨x,t,e⟩:=List.exists_cons_of_ne_nil h.ne
 obtain ⟨i,hi,rfl,g⟩:=h.sub x (by rw[e];exact List.mem_cons_self)
 exact ⟨i,hi,by rw[e];exact List.mem_cons_self,g⟩
theorem GK (hw:As ws=true) {i:Nat} (hi:i<ws.length):ws.getD i 0<(ws.length:Int):= by
 have:=BA hw hi
 have:=Bf ws
 omega
theorem InL.within (h:InL ws k S) (hw:As ws=true):Within ws.length (prw ws S) ws:=fun i j hi hj e=>by
 rw[Bp hi,Bp hj] at e
 by_cases hi2:(i:Int) ∈ S
 ·by_cases hj2:(j:Int) ∈ S
  ·rw[h.at hi hi2,h.at hj hj2]
  ·rw[if_pos hi2,if_neg hj2] at e
   have:=GK hw hj
   omega
 ·rw[if_neg hi2] at e
  by_cases hj2:(j:Int) ∈ S
  ·rw[if_pos hj2] at e
   have:=GK hw hi
   omega
  ·rwa [if_neg hj2] at e
theorem IJ (hw:As ws=true) (h:InL ws k S):Within ws.length (prt ws S) ws:=fun i j hi hj e=>
 h.within hw i j hi hj ((BB (by rw[Ao];exact hi) (by rw[Ao];exact hj)).mp e)
theorem InL.back (h:InL ws k S) (hw:As ws=true) {i:Nat} (hi:i<ws.length) (hm:(i:Int) ∈ S):mg (prw ws S) (DK ws k,i)=ws:= by
 refine List.ext_getElem (by rw[Bx,Ao]) fun a a1 a2=>?_
 have e1:=AZ a1 (0:Int)
 have e2:=AZ a2 (0:Int)
 rw[<- e1,<- e2]
 rw[Bx] at a1
 unfold mg
 rw[CP a1,Bp a2]
 show (if _=(prw ws S).getD i 0 then (prw ws S).getD (DK ws k) 0 else _)=_
 rw[Bp hi,Bp h.fl,if_pos hm,if_neg h.fs]
 by_cases ha:(a:Int) ∈ S
 ·rw[if_pos ha,if_pos rfl,h.fk,h.at a2 ha]
 ·rw[if_neg ha,if_neg (by have:=GK hw a2;omega)]
theorem KC (hw:As ws=true) (h:InL ws k S):Bv (prt ws S) ws:= by
 obtain ⟨w1,w9,w0⟩:=Am.mp hw
 obtain ⟨i,hi,hm,_⟩:=h.some
 refine ⟨?_,by rw[Cb];exact IJ hw h⟩
 have c1:=JZ (L:=prw ws S) (p:=(DK ws k,i)) (by rw[Ao];exact h.fl) (by rw[Ao];exact hi)
 rw[h.back hw hi hm] at c1
 have ne:(prw ws S).getD (DK ws k) 0≠(prw ws S).getD i 0:= by
  rw[Bp h.fl,Bp hi,if_neg h.fs,if_pos hm]
  have:=GK hw h.fl
  omega
 rw[if_neg ne] at c1
 have c2:cnt (prt ws S)=cnt (prw ws S):=(ET (by rw[Ao];exact w1) (by rw[Ao];exact w9)).2
 omega
end
noncomputable def Jk (ws:List Int):List (List Int):=(List.range (fresh 0 ws).toNat).flatMap fun (k:Nat)=>(LH ((BR ws (k:Int) ws.length).drop 1)).map (prt ws)
theorem E6 {ws p:List Int} (hw:As ws=true):p ∈ Jk ws ↔ As p=true/\p.length=ws.length/\Bv p ws:= by
 obtain ⟨w1,w9,w0⟩:=Am.mp hw
 constructor
 ·intro h
  obtain ⟨k,hk,h⟩:=List.mem_flatMap.mp h
  obtain ⟨S,hS,rfl⟩:=List.mem_map.mp h
  have hk:=List.mem_range.mp hk
  exact ⟨KL hw,Cb _ _,KC hw (Ge hw hk hS)⟩
 ·rintro ⟨hp,lp,cp,wp⟩
  rw[lp] at wp
  obtain ⟨i,j,hi,hj,e,ne⟩:=ES (P:=ws) (Q:=p) (n:=ws.length) (fun c=>by have:=E8 rfl lp c;omega)
  obtain ⟨k,hk⟩ : ∃ k:Nat,ws.getD i 0=(k:Int):=⟨(ws.getD i 0).toNat,by have:=BA hw hi;omega⟩
  have hkf:k<(fresh 0 ws).toNat:=by have:=BA hw hi;omega
  have hc:=La hw hkf
  have hf:DK ws k ∈ FD ws (k:Int) ws.length:=by rw[hc];exact List.mem_cons_self
  obtain ⟨f1,f2⟩:=BP.mp hf
  refine List.mem_flatMap.mpr ⟨k,List.mem_range.mpr hkf,List.mem_map.mpr ⟨((BR ws (k:Int) ws.length).drop 1).filter fun x=>decide (p.getD x.toNat 0≠p.getD (DK ws k) 0),?_,?_⟩⟩
  all_goals
   have mm : ∀ a:Nat,((a:Int) ∈ ((BR ws (k:Int) ws.length).drop 1).filter fun x=>decide (p.getD x.toNat 0≠p.getD (DK ws k) 0)) ↔ (a<ws.length/\ws.getD a 0=(k:Int))/\p.getD a 0≠p.getD (DK ws k) 0:=fun a=>by
    rw[List.mem_filter]
    constructor
    ·rintro ⟨h1,h2⟩
     have:=List.mem_of_mem_drop h1
     obtain ⟨b,hb,eb⟩:=List.mem_map.mp this
     obtain rfl:b=a:=Int.ofNat.inj eb
     exact ⟨BP.mp hb,of_decide_eq_true h2⟩
    ·rintro ⟨h1,h2⟩
     refine ⟨?_,decide_eq_true h2⟩
     have:=BP.mpr h1
     rw[hc] at this
     rcases List.mem_cons.mp this with h | h
     ·rw[h] at h2;exact absurd rfl h2
     ·unfold BR
      rw[<- List.map_drop]
      exact List.mem_map.mpr ⟨a,h,rfl⟩
   generalize hS:((BR ws (k:Int) ws.length).drop 1).filter (fun x=>decide (p.getD x.toNat 0≠p.getD (DK ws k) 0))=S at mm ⊢
  ·refine List.mem_filter.mpr ⟨hS ▸ Ji _ _,decide_eq_true fun z=>?_⟩
   by_cases pi:p.getD i 0=p.getD (DK ws k) 0
   ·have:=(mm j).mpr ⟨⟨hj,e ▸ hk⟩,fun z=>ne (pi.trans z.symm)⟩
    rw[z] at this;cases this
   ·have:=(mm i).mpr ⟨⟨hi,hk⟩,pi⟩
    rw[z] at this;cases this
  ·have hin:InL ws (k:Int) S:= by
    refine ⟨fun z=>?_,fun x hx=>?_,f1,f2,fun z=>((mm _).mp z).2 rfl⟩
    ·by_cases pi:p.getD i 0=p.getD (DK ws k) 0
     ·have:=(mm j).mpr ⟨⟨hj,e ▸ hk⟩,fun z=>ne (pi.trans z.symm)⟩
      rw[z] at this;cases this
     ·have:=(mm i).mpr ⟨⟨hi,hk⟩,pi⟩
      rw[z] at this;cases this
    ·have h1:=List.mem_of_mem_drop (List.mem_filter.mp (hS ▸ hx)).1
     obtain ⟨b,hb,rfl⟩:=List.mem_map.mp h1
     obtain ⟨b1,b2⟩:=BP.mp hb
     exact ⟨b,b1,rfl,b2⟩
   have o2:=KC hw hin
   have wpq:Within ws.length p (prt ws S):=fun a b ha hb eab=>by
    refine (BB (by rw[Ao];exact ha) (by rw[Ao];exact hb)).mpr ?_
    have ew:=wp a b ha hb eab
    rw[Bp ha,Bp hb]
    have:(a:Int) ∈ S ↔ (b:Int) ∈ S:=by rw[mm,mm,ew,eab];exact ⟨fun h=>⟨⟨hb,h.1.2⟩,h.2⟩,fun h=>⟨⟨ha,h.1.2⟩,h.2⟩⟩
    by_cases h:(a:Int) ∈ S
    ·rw[if_pos h,if_pos (this.mp h)]
    ·rw[if_neg h,if_neg fun z=>h (this.mpr z),ew]
   have wqp:=HR lp (Cb ws S) wpq (by have:=o2.1;omega)
   exact Ej (KL hw) hp (Cb ws S) lp wqp wpq
theorem Hq {ws:List Int} (hw:As ws=true) {k k':Nat} {S S':List Int} (h:InL ws (k:Int) S) (h':InL ws (k':Int) S') (e:prt ws S=prt ws S') : ∀ i:Nat,(i:Int) ∈ S->(i:Int) ∈ S'/\k=k':=fun i hm=>by
 obtain ⟨j,hi,ej,hik⟩:=h.sub _ hm
 obtain rfl:i=j:=Int.ofNat.inj ej
 have pat:(prw ws S).getD i 0=(prw ws S).getD (DK ws k) 0 ↔ (prw ws S').getD i 0=(prw ws S').getD (DK ws k) 0:= by
  have a:=BB (xs:=prw ws S) (i:=i) (j:=DK ws k) (by rw[Ao];exact hi) (by rw[Ao];exact h.fl)
  have b:=BB (xs:=prw ws S') (i:=i) (j:=DK ws k) (by rw[Ao];exact hi) (by rw[Ao];exact h.fl)
  unfold prt at e
  rw[<- a,<- b,e]
 rw[Bp hi,Bp h.fl,Bp hi,Bp h.fl,if_pos hm,if_neg h.fs] at pat
 have ne : ¬ (ws.length:Int)=ws.getD (DK ws k) 0:=fun z=>by have:=GK hw h.fl;omega
 by_cases hf:((DK ws k:Nat):Int) ∈ S'
 ·have ek:((k:Nat):Int)=(k':Int):=by rw[<- h'.at h.fl hf,h.fk]
  obtain rfl:k=k':=Int.ofNat.inj ek
  exact absurd hf h'.fs
 ·by_cases hi':(i:Int) ∈ S'
  ·exact ⟨hi',Int.ofNat.inj (hik.symm.trans (h'.at hi hi'))⟩
  ·rw[if_neg hf,if_neg hi',hik,h.fk] at pat
   exact absurd (pat.mpr rfl) (by rw[h.fk] at ne;exact ne)
theorem Dt {ws:List Int} (hw:As ws=true):(Jk ws).Nodup:= by
 unfold Jk List.Nodup
 rw[List.pairwise_flatMap]
 refine ⟨fun k hk=>?_,(List.Pairwise.and_mem.mp (List.nodup_range (n:=(fresh 0 ws).toNat))).imp fun {k k'} hkk p hp q hq epq=>?_⟩
 ·have hk:=List.mem_range.mp hk
  have nd:((BR ws (k:Int) ws.length).drop 1).Nodup:=(IB ws k ws.length).sublist (List.drop_sublist _ _)
  refine Bl ((Jr _ nd).filter _) fun S hS S' hS' e=>?_
  have i1:=Ge hw hk hS
  have i2:=Ge hw hk hS'
  refine Na nd (List.mem_filter.mp hS).1 (List.mem_filter.mp hS').1 fun x=>⟨fun hx=>?_,fun hx=>?_⟩
  ·obtain ⟨i,_,rfl,_⟩:=i1.sub x hx
   exact (Hq hw i1 i2 e i hx).1
  ·obtain ⟨i,_,rfl,_⟩:=i2.sub x hx
   exact (Hq hw i2 i1 e.symm i hx).1
 ·obtain ⟨S,hS,rfl⟩:=List.mem_map.mp hp
  obtain ⟨S',hS',rfl⟩:=List.mem_map.mp hq
  have i1:=Ge hw (List.mem_range.mp hkk.1) hS
  have i2:=Ge hw (List.mem_range.mp hkk.2.1) hS'
  obtain ⟨i,_,hm,_⟩:=i1.some
  exact hkk.2.2 (Hq hw i1 i2 epq i hm).2
theorem Lb {ws p:List Int} (hw:As ws=true) (hp:As p=true) (lp:p.length=ws.length) (o:Bv p ws):ws ∈ DU p:= by
 obtain ⟨cp,wp⟩:=o
 obtain ⟨p1,p9,p0⟩:=Am.mp hp
 obtain ⟨i,j,hi,hj,e,ne⟩:=ES (P:=ws) (Q:=p) (n:=ws.length) (fun c=>by have:=E8 rfl lp c;omega)
 rw[lp] at wp
 have key : ∀ i j,i<ws.length->j<ws.length->ws.getD i 0=ws.getD j 0->p.getD i 0<p.getD j 0->ws ∈ DU p:=fun i j hi hj e lt=>by
  have s1:=BA hp (i:=i) (by omega)
  have s2:=BA hp (i:=j) (by omega)
  refine List.mem_map.mpr ⟨((p.getD i 0).toNat,(p.getD j 0).toNat),GD.mpr ⟨?_,?_⟩,?_⟩
  ·show (p.getD i 0).toNat<(p.getD j 0).toNat;omega
  ·show (p.getD j 0).toNat<_;omega
  ·show mrg p ((p.getD i 0).toNat:Int) ((p.getD j 0).toNat:Int)=ws
   rw[Int.toNat_of_nonneg s1.1,Int.toNat_of_nonneg s2.1]
   have ml:=Bx p (i,j)
   have z1:As (mrg p (p.getD i 0) (p.getD j 0))=true:=BU (by rw[AK];omega) (by rw[AK];omega)
   have c1:=JZ (L:=p) (p:=(i,j)) (by show i<_;omega) (by show j<_;omega)
   rw[if_neg (by show ¬ p.getD i 0=p.getD j 0;omega)] at c1
   have c2:cnt (mrg p (p.getD i 0) (p.getD j 0))=cnt (mg p (i,j)):=(ET (L:=mg p (i,j)) (by omega) (by omega)).2
   have w1:Within ws.length (mrg p (p.getD i 0) (p.getD j 0)) ws:=fun a b ha hb eab=>
    Ir (p:=(i,j)) (g:=fun i=>ws.getD i 0) (by show i<_;omega) (by show j<_;omega) (fun a b ha hb=>wp a b (by omega) (by omega)) e a b (by omega) (by omega) ((BB (xs:=mg p (i,j)) (by omega) (by omega)).mp eab)
   have l1:(mrg p (p.getD i 0) (p.getD j 0)).length=ws.length:=by rw[EV,lp]
   exact Ej z1 hw l1 rfl w1 (HR l1 rfl w1 (by omega))
 rcases Int.lt_or_gt_of_ne ne with h | h
 ·exact key i j hi hj e h
 ·exact key j i hj hi e.symm h
end L2
namespace L2
open PySem PySem.Spec PyProof.Rows
end L2
namespace L2
open PySem
end L2
namespace L2
open PySem PySem.Spec PyProof.Rows
open PySem.StrLaws (occBody occ_eq subAt_one partsFrom partsBetween_eq strSub_toList)
end L2
namespace L2
open PySem
end L2
namespace L2
open PySem PySem.Spec PyProof.Rows
end L2
namespace L2
open PySem
end L2
namespace L2
open PySem PySem.Spec PyProof.Rows
end L2
namespace L2
open PySem PySem.Spec PyProof.Rows
end L2
namespace L2
open PySem PySem.Spec PyProof.Rows
end L2
namespace L2
open PySem PySem.Spec PyProof.Rows
theorem Hn {te:TE} {i:Nat} {B:TS} {D:IG} {σ:St} {H:Hp} (h:te σ H fun x H1=>B D (σ.set i (some x)) H1):OL (O6 te (Fe i)) B D σ H:=h
theorem Kd {A B:TS} {D:IG} {σ:St} {H:Hp} (P:St->Hp->Prop) (hA : ∀ N:St->Hp->Prop,(∀ σ H,P σ H->N σ H)->A { D with nx:=N } σ H) (hB : ∀ σ H,P σ H->B D σ H):OL A B D σ H:=hA _ hB
end L2
namespace L2
open PySem PySem.Spec PyProof.Rows
end L2
namespace L2
open PySem PySem.Spec PyProof.Rows
end L2
namespace L2
open PySem PySem.Spec PyProof.Rows
end L2
namespace L2
open PySem PySem.Spec PyProof.Rows
end L2
namespace L2
open PySem PySem.Spec PyProof.Rows
section
variable {c:TT} {t u B:TS} {D:IG} {σ:St} {H H':Hp}
theorem Qs (b:Bool) (P:Hp->Prop) (hc : ∀ N:Bool->Hp->Prop,(∀ H',P H'->N b H')->c σ H N) (ht:b=true -> ∀ H',P H'->t D σ H') (hu:b=false -> ∀ H',P H'->u D σ H'):Pn c t u D σ H:= by
 refine hc _ fun H' p=>?_
 cases b
 ·exact MQ (hu rfl H' p)
 ·exact Jj (ht rfl H' p)
theorem Fg (b:Bool) (P:Hp->Prop) (hc : ∀ N:Bool->Hp->Prop,(∀ H',P H'->N b H')->c σ H N) (ht:b=true -> ∀ H',P H'->t { D with nx:=B D } σ H') (hu:b=false -> ∀ H',P H'->B D σ H'):OL (Pn c t Ow) B D σ H:=Qs b P hc ht hu
end
theorem OF {rs:List Int} {j:Nat} {r:Int} (h:rs[j]?=some r):atI (rs.map V.int) (j:Int)=some (V.int r):=FG (by rw[List.getElem?_map,h];rfl)
theorem FF {rs:List Int} {i:Int} {j:Nat} {r:Int} (e:i=(j:Int)) (h:rs[j]?=some r):atI (rs.map V.int) i=some (V.int r):=by rw[e];exact OF h
theorem N0 {ls:List Int} (h:ls.all (fun l=>decide (0<l)&&decide (l.natAbs.log2<9000))=true) : ∀ l ∈ ls,L6 l:=fun l hl=>by
 have:=List.all_eq_true.mp h l hl
 rw[Bool.and_eq_true,decide_eq_true_iff,decide_eq_true_iff] at this
 exact this
end L2
namespace L2
open PySem PySem.Spec PyProof.Rows
end L2
namespace L2
open PySem PySem.Spec PyProof.Rows
theorem nrm {B:TS} {D:IG} {σ σ':St} {H:Hp} (e:σ=σ') (h:B D σ' H):B D σ H:=e ▸ h
end L2
namespace L2
open PySem PySem.Spec PyProof.Rows
end L2
namespace L2
open PySem PySem.Spec PyProof.Rows
end L2
namespace L2
open PySem PySem.Spec PyProof.Rows
end L2
namespace L2
open PySem PySem.Spec PyProof.Rows
end L2
namespace L2
open PySem PySem.Spec PyProof.Rows
end L2
namespace L2
open PySem PySem.Spec PyProof.Rows
end L2
namespace L2
open PySem PySem.Spec PyProof.Rows
end L2
namespace L2
open PySem PySem.Spec PyProof.Rows
end L2
namespace PySem
open Sem (wp)
end PySem
namespace L2
open PySem PySem.Spec PyProof.Rows
end L2
namespace PySem
open Sem (wp)
open AutoSeq1 (wpAny_loadPart')
end PySem
namespace L2
open PySem PySem.Spec PyProof.Rows
end L2
namespace L2
open PySem PySem.Spec PyProof.Rows
end L2
namespace L2
open PySem PySem.Spec PyProof.Rows
end L2
namespace L2
open PySem PySem.Spec PyProof.Rows
end L2
namespace PySem
open Sem (wp)
end PySem
namespace PySem
open Sem (wp)
end PySem
namespace PySem
end PySem
namespace L2
open PySem PySem.Spec PyProof.Rows
end L2
namespace L2
open PySem PySem.Spec PyProof.Rows
end L2
namespace L2
open PySem PySem.Spec PyProof.Rows
end L2
namespace L2
open PySem PySem.Spec PyProof.Rows
end L2
namespace L2
open PySem PySem.Spec PyProof.Rows
end L2
namespace PySem
open Sem (wp)
end PySem
namespace L2
open PySem PySem.Spec PyProof.Rows
end L2
namespace L2
open PySem PySem.Spec PyProof.Rows
end L2
namespace L2
open PySem PySem.Spec PyProof.Rows
end L2
namespace L2
open PySem PySem.Spec PyProof.Rows
end L2
namespace L2
open PySem PySem.Spec PyProof.Rows
end L2
namespace L2
open PySem PySem.Spec PyProof.Rows
end L2
namespace PySem
open Sem (wp)
end PySem
namespace L2
open PySem PySem.Spec PyProof.Rows
end L2
namespace PySem
open Sem (wp)
end PySem
namespace L2
open PySem PySem.Spec PyProof.Rows
end L2
namespace L2
open PySem PySem.Spec PyProof.Rows
end L2
namespace L2
open PySem PySem.Spec PyProof.Rows
end L2
namespace L2
open PySem PySem.Spec PyProof.Rows
end L2
namespace L2
open PySem PySem.Spec PyProof.Rows
end L2
namespace L2
end L2
namespace L2
open PySem PySem.Spec PyProof.Rows
end L2
namespace L2
open PySem PySem.Spec PyProof.Rows
end L2
namespace L2
open PySem PySem.Spec PyProof.Rows
end L2
namespace L2
open PySem PySem.Spec PyProof.Rows
end L2
namespace L2
open PySem PySem.Spec PyProof.Rows
end L2
namespace L2
open PySem PySem.Spec PyProof.Rows
end L2
namespace L2
open PySem PySem.Spec PyProof.Rows
end L2
namespace L2
open PySem PySem.Spec PyProof.Rows
end L2
namespace L2
open PySem PySem.Spec PyProof.Rows
end L2
namespace L2
open PySem PySem.Spec PyProof.Rows
end L2
namespace L2
open PySem PySem.Spec PyProof.Rows
end L2
namespace L2
open PySem PySem.Spec PyProof.Rows
end L2
namespace L2
open PySem PySem.Spec PyProof.Rows
end L2
namespace L2
open PySem PySem.Spec PyProof.Rows
end L2
namespace L2
open PySem PySem.Spec PyProof.Rows
end L2
namespace L2
open PySem PySem.Spec PyProof.Rows
end L2
namespace L2
open PySem PySem.Spec PyProof.Rows
end L2
namespace L2
open PySem PySem.Spec PyProof.Rows
end L2
namespace PyProof.Rows
open PySem
end PyProof.Rows
namespace PyProof.Rows
open PySem
end PyProof.Rows
namespace L2
open PySem PySem.Spec PyProof.Rows
end L2
namespace L2
open PySem PySem.Spec PyProof.Rows
end L2
namespace L2
open PySem PySem.Spec PyProof.Rows
end L2
namespace L2
open PySem PySem.Spec PyProof.Rows
end L2
namespace L2
open PySem PySem.Spec PyProof.Rows
end L2
namespace L2
open PySem PySem.Spec PyProof.Rows
end L2
namespace L2
open PySem PySem.Spec PyProof.Rows
end L2
namespace L2
open PySem PySem.Spec PyProof.Rows
end L2
namespace L2
open PySem PySem.Spec PyProof.Rows
end L2
namespace L2
open PySem PySem.Spec PyProof.Rows
end L2
namespace L2
open PySem PySem.Spec PyProof.Rows
end L2
namespace L2
open PySem PySem.Spec PyProof.Rows
end L2
namespace PySem
end PySem
namespace PySem
end PySem
namespace PySem
end PySem
namespace PyProof.Rows
open PySem
end PyProof.Rows
namespace PySem
end PySem
namespace PySem
open PyProof.Rows
end PySem
namespace L2
open PySem PySem.Spec PyProof.Rows
end L2
namespace PySem.F
end PySem.F
namespace PySem
open Sem (wp)
end PySem
namespace PySem.W
open PySem PySem.Calls PyProof.Rows PyProof.V PySem.Spec
end PySem.W
namespace L2
open PySem PySem.Spec PyProof.Rows
end L2
namespace L2
open PySem PySem.Spec PyProof.Rows
end L2
namespace L2
open PySem PySem.Spec PyProof.Rows
end L2
namespace PySem
end PySem
namespace L2
open PySem PySem.Spec PyProof.Rows
section
variable {X:Cx} {K:PySem.W.Frag}
theorem Kn : ∀ {v v':V} {u:Value},AR v u->AR v' u->v=v':= by
 intro v v' u h h'
 cases v <;> cases v' <;> simp only [AR] at h h' <;> first
  | rfl
  | (subst h;cases h';rfl)
  | (obtain ⟨t,rfl⟩:=h;obtain ⟨t',e⟩:=h';cases e;rfl)
  | (subst h;obtain ⟨t',e⟩:=h';cases e)
  | (obtain ⟨t,rfl⟩:=h;cases h';done)
  | (obtain ⟨t,rfl⟩:=h;obtain ⟨t',e⟩:=h';cases e)
def Qw (K:PySem.W.Frag) (g:Bool->V):R2:=fun x y H Q=>∃ (p:Addr) (vs:List V) (ds:List Dd) (d:Dd),y = .ref p/\SqL K H p vs/\CC K H ds vs/\DAt K H d x/\CO ds<=30/\Q (g (ds.any fun e=>eqD e d)) H
open Classical in
theorem Nz {pins:List (Addr × Obj)} {σ:St} {H:Hp} {s:Shared} {vs:List V} {ds:List Dd} {its:List Value} (I:Inv X pins σ H s) (r:AH vs its) (hD:CC X.K H ds vs) (d:Dd) :
  ∃ e:Value->Bool,(∀ j u,its[j]?=some u->e u=eqD (ds.getD j .non) d)/\its.toArray.any e=ds.any fun e=>eqD e d:= by
 have hl:its.length=ds.length:=by rw[<- r.length,hD.length]
 have key : ∀ j u,its[j]?=some u->(decide (∃ i,its[i]?=some u/\eqD (ds.getD i .non) d=true))=eqD (ds.getD j .non) d:= by
  intro j u hj
  have hjl:j<its.length:=(List.getElem?_eq_some_iff.mp hj).1
  rw[Bool.eq_iff_iff,decide_eq_true_iff]
  constructor
  ·rintro ⟨i,hi,e⟩
   have hil:i<its.length:=(List.getElem?_eq_some_iff.mp hi).1
   obtain ⟨v,hv,dv⟩:=hD.get (j:=j) (by lia)
   obtain ⟨v',hv',dv'⟩:=hD.get (j:=i) (by lia)
   obtain ⟨u1,e1,R1⟩:=r.get hv
   obtain ⟨u2,e2,R2⟩:=r.get hv'
   rw[hj] at e1;cases e1
   rw[hi] at e2;cases e2
   have:=Kn R1 R2
   subst this
   rw[DI I _ _ _ dv dv'];exact e
  ·exact fun e=>⟨j,hj,e⟩
 refine ⟨fun u=>decide (∃ i,its[i]?=some u/\eqD (ds.getD i .non) d=true),key,?_⟩
 rw[List.any_toArray,Bool.eq_iff_iff,List.any_eq_true,List.any_eq_true]
 constructor
 ·rintro ⟨u,hu,e⟩
  obtain ⟨j,hj,e2⟩:=List.getElem_of_mem hu
  rw[key j u (by rw[List.getElem?_eq_getElem hj,e2])] at e
  refine ⟨ds.getD j .non,?_,e⟩
  rw[List.getD_eq_getElem?_getD,List.getElem?_eq_getElem (by lia)]
  exact List.getElem_mem _
 ·rintro ⟨e,he,h⟩
  obtain ⟨j,hj,e2⟩:=List.getElem_of_mem he
  refine ⟨its[j]'(by lia),List.getElem_mem _,?_⟩
  rw[key j _ (List.getElem?_eq_getElem (by lia)),List.getD_eq_getElem?_getD,List.getElem?_eq_getElem hj,e2]
  exact h
theorem NZ (hu:X.A.units+40<cLine) (h:X.K=K:=by rfl):OpR X (compareOp .In) (Qw K V.bl):= by
 subst h
 intro pins s σ H x y v u Q I rx ry h
 refine N6 h fun p vs ds d e90 hS hD hd hdep q=>?_;subst e90
 cases ry
 refine AM (I.list hS) fun its r pl _=>?_
 refine xEA (Nz I r hD d) fun e he ha=>?_
 refine SeqAt.in_listAt e pl.isList (fun w hw=>?_) ⟨.bl _,H,I,rfl,by rw[ha];exact q⟩
 refine xE2 (Array.mem_iff_getElem.mp hw) fun j hj e90=>?_;subst e90
 have hj':j<its.length:=by simpa using hj
 have ej:its[j]?=some (its.toArray[j]):=by rw[List.getElem?_eq_getElem hj'];simp
 rw[he j _ ej]
 refine xEA (hD.get (j:=j) (by rw[<- hD.length,r.length];exact hj')) fun v1 g1 d1=>?_
 refine xEA (r.get g1) fun u1 e1 R1=>?_
 rw[ej] at e1;cases e1
 exact Lc I 30 _ _ (Nat.le_trans (B7 (by rw[<- hD.length,r.length];exact hj')) hdep) (show X.A.units+1+30<cLine by lia) d1 hd R1 rx
end
end L2
namespace L2
open PySem PySem.Spec PyProof.Rows
def Qp (K:PySem.W.Frag) (ta:TE):TT:=fun σ H Q=>ta σ H fun x H1=>∃ k,PB K x H1 k/\Q k H1
theorem Kc {X:Cx} {K:PySem.W.Frag} {a:Expr} {ta:TE} (ha:PE X a ta) (he : ∀ whole,isTrue a X.env whole=(do let v <- whole;standAt a.pos;holding [v] (truthy v))) (h:X.K=K:=by rfl):PT X a (Qp K ta):= by
 subst h
 exact LD ha he
def Ly:V->List V->Hp->VK->Prop:=fun x vs H Q=>∃ l xs i y,x = .ref l/\vs=[.int i,y]/\H l=some (.lst xs)/\0<=i/\i<=xs.length/\xs.length<=4000/\Q .non (upd H l (.lst (xs.take i.toNat++y::xs.drop i.toNat)))
section
variable {X:Cx}
theorem IQ : MtM X "list.insert" Ly:= by
 intro pins s σ H x vs v us Q I rx rv h
 refine ON h fun l xs i y e94 e95 hH h0 h1 hz q=>?_;subst e94;subst e95
 cases rx
 refine Ar rv.two fun u w e92 n93 rw'=>?_;subst e92;obtain ⟨t,rfl⟩:=n93
 refine xA (I.lstM hH) fun z m92=>Ar m92 fun its n r hl e=>?_
 have hfit : ¬ (!Builtin.List.listFitsIndex i)=true:= by
  rw[fitsIndex_both (by lia) (by lia)];decide
 refine call_meets F.slot_list_insert ⟨_,e,rfl⟩ F.entry_list_insert (F.args_list_insert_3 _ _ _) (AutoSeq1.list_insert_list_int_val_1 l its.toArray n i t w hfit (by rw[List.size_toArray];lia)) ⟨e,?_⟩
 refine ⟨.non,_,I.lset (its':=its.take i.toNat++w::its.drop i.toNat) hH e ?_ (Ik i.toNat r rw') ?_,rfl,q⟩
 ·have hk:(if i<0 then (i+(its.toArray.size:Int)).toNat else min i.toNat its.toArray.size)=i.toNat:= by
   rw[if_neg (by lia),List.size_toArray];lia
  show (its.toArray.extract 0 (if i<0 then (i+(its.toArray.size:Int)).toNat else min i.toNat its.toArray.size)).push w++its.toArray.extract (if i<0 then (i+(its.toArray.size:Int)).toNat else min i.toNat its.toArray.size)=_
  rw[hk]
  apply Array.toList_inj.mp
  simp
  exact List.take_of_length_le (by simp)
 ·exact Ak (by simp;lia)
end
theorem L0 (z:Int) : ∀ S:List Int,inV (.int z) (S.map V.int)=decide (z ∈ S):=fun S=>by
 unfold inV
 rw[List.any_map,Bool.eq_iff_iff,List.any_eq_true,decide_eq_true_iff]
 constructor
 ·rintro ⟨y,hy,e⟩
  have e:(y==z)=true:=e
  exact (beq_iff_eq.mp e) ▸ hy
 ·intro h
  exact ⟨z,h,show (z==z)=true from beq_iff_eq.mpr rfl⟩
theorem EL {K:PySem.W.Frag} {H:Hp} : ∀ {ps:List Addr} {xss:List (List Int)},Paired (fun a row=>SqT K H a (row.map V.int)) ps xss->CC K H (xss.map Fj) (ps.map V.ref)
 | _,_,.nil=>by rw[List.map_nil,List.map_nil,CC]
 | _,_,.cons h t=>by rw[List.map_cons,List.map_cons,CC];exact ⟨_,_,rfl,HG h,EL t⟩
theorem JK {K:PySem.W.Frag} {H:Hp} {p:Addr} {ps:List Addr} {xss:List (List Int)} (hp:SqL K H p (ps.map V.ref)) (h:Paired (fun a row=>SqT K H a (row.map V.int)) ps xss):DAt K H (CG xss) (.ref p):= by
 rw[CG,DAt];exact ⟨p,_,rfl,hp,EL h⟩
theorem LO (R:List (List Int)) (w:List Int):((R.map Fj).any fun e=>eqD e (Fj w))=decide (w ∈ R):= by
 rw[List.any_map,Bool.eq_iff_iff,List.any_eq_true,decide_eq_true_iff]
 constructor
 ·rintro ⟨x,hx,e⟩
  have e:eqD (Fj x) (Fj w)=true:=e
  rw[GY] at e
  exact of_decide_eq_true e ▸ hx
 ·intro h
  exact ⟨w,h,by show eqD (Fj w) (Fj w)=true;rw[GY];exact decide_eq_true rfl⟩
theorem PD {α:Type} [DecidableEq α] {l m:List α} (hl:l.Nodup) (hm:m.Nodup) (h : ∀ x,x ∈ l ↔ x ∈ m):l.Perm m:= by
 refine List.perm_iff_count.mpr fun a=>?_
 by_cases ha:a ∈ l
 ·rw[List.Nodup.count hl,List.Nodup.count hm,if_pos ha,if_pos ((h a).mp ha)]
 ·rw[List.count_eq_zero_of_not_mem ha,List.count_eq_zero_of_not_mem fun z=>ha ((h a).mpr z)]
noncomputable def Ex (ws:List Int) (k:Nat):Int:=((List.range k).map fun (k:Nat)=>(2:Int) ^ ((BR ws (k:Int) ws.length).length-1)-1).sum
theorem IW (ws:List Int) (k:Nat):Ex ws (k+1)=Ex ws k+((2:Int) ^ ((BR ws (k:Int) ws.length).length-1)-1):= by
 unfold Ex;rw[List.range_succ,List.map_append,List.sum_append];simp
theorem L5 (n:Nat):((2 ^ n-1:Nat):Int)=(2:Int) ^ n-1:= by
 have:1<=2 ^ n:=Nat.one_le_two_pow
 rw[Int.natCast_sub this,Int.natCast_pow];rfl
theorem LN (ws:List Int):((Jk ws).length:Int)=Ex ws (fresh 0 ws).toNat:= by
 unfold Jk Ex
 rw[List.length_flatMap]
 generalize List.range (fresh 0 ws).toNat=l
 induction l with
 | nil=>rfl
 | cons k l ih=>
  rw[List.map_cons,List.map_cons,List.sum_cons,List.sum_cons,<- ih,Int.natCast_add]
  congr 1
  rw[List.length_map,Ft,List.length_drop]
  exact L5 _
theorem FC (ws:List Int) (k:Int):(BR ws k ws.length).length<=ws.length:=by rw[Cp];exact Bw _ _ _
theorem JG {ws:List Int} (hw:As ws=true):(Jk ws).length<=2400:= by
 obtain ⟨w1,w9,w0⟩:=Am.mp hw
 unfold Jk
 rw[List.length_flatMap]
 have fl:=Bf ws
 have go : ∀ l:List Nat,((l.map fun (k:Nat)=>((LH ((BR ws (k:Int) ws.length).drop 1)).map (prt ws)).length)).sum<=256*l.length:=fun l=>by
  induction l with
  | nil=>exact Nat.le_refl _
  | cons k l ih=>
   rw[List.map_cons,List.sum_cons,List.length_cons,List.length_map,Ft,List.length_drop]
   have h1:=FC ws (k:Int)
   have:2 ^ ((BR ws (k:Int) ws.length).length-1)<=2 ^ 8:=Nat.pow_le_pow_right (by decide) (by omega)
   omega
 have:=go (List.range (fresh 0 ws).toNat)
 rw[List.length_range] at this
 omega
noncomputable def NH (ws:List Int) (k:Nat):List (List Int):=(List.range k).flatMap fun (k:Nat)=>(LH ((BR ws (k:Int) ws.length).drop 1)).map (prt ws)
theorem Gj (ws:List Int) (k:Nat):NH ws (k+1)=NH ws k++(LH ((BR ws (k:Int) ws.length).drop 1)).map (prt ws):= by
 unfold NH;rw[List.range_succ,List.flatMap_append,List.flatMap_cons,List.flatMap_nil,List.append_nil]
theorem Ld {ws:List Int} (hw:As ws=true) (k:Nat):(LH ((BR ws (k:Int) ws.length).drop 1)).length<=256:= by
 obtain ⟨_,w9,_⟩:=Am.mp hw
 rw[Ft,List.length_drop]
 have h1:=FC ws (k:Int)
 have:2 ^ ((BR ws (k:Int) ws.length).length-1)<=2 ^ 8:=Nat.pow_le_pow_right (by decide) (by omega)
 omega
theorem MU {ws:List Int} (hw:As ws=true) {k:Nat} (hk:k<=9):(NH ws k).length<=256*k:= by
 clear hk
 induction k with
 | zero=>exact Nat.le_refl _
 | succ k ih=>
  rw[Gj,List.length_append,List.length_map]
  have:=Ld hw k
  omega
theorem L3 {xs ys:List Int} (h:HT.lexLt xs ys=true):HT.lexLt ys xs=false:= by
 cases e:HT.lexLt ys xs with
 | false=>rfl
 | true=>have:=BO xs ys xs h e;rw[Br] at this;cases this
theorem Mq {m:Nat} (hm:m<=4):(Bk m).Pairwise fun a b=>HT.lexLt a b=true:= by
 obtain ⟨_,_,h3,h4,_⟩:=Py hm
 refine List.pairwise_iff_getElem.mpr fun i j hi hj hij=>?_
 have a1:=h3 _ (List.getElem_mem hi)
 have a2:=h3 _ (List.getElem_mem hj)
 have e1:=h4 i hi
 have e2:=h4 j hj
 rw[AZ hi] at e1
 rw[AZ hj] at e2
 rw[<- (Im _ _ 0 (Int.le_refl 0) (by rw[a1.1,a2.1]) a1.2 a2.2).1,e1,e2]
 exact decide_eq_true (by omega)
open Classical in
noncomputable def Ou (ws:List Int):List (List Int):=(Bk (ws.length-1)).filter fun p=>decide (Bv p ws)
open Classical in
theorem OD {ws:List Int} {R:List (List Int)} (hw:As ws=true) (h5:ws.length<=5) (hp:R.Perm (Jk ws)) (hu:BC R):R=Ou ws:= by
 obtain ⟨w1,w9,w0⟩:=Am.mp hw
 have up:=Mq (m:=ws.length-1) (by omega)
 obtain ⟨_,_,h3,_,_⟩:=Py (m:=ws.length-1) (by omega)
 have nd:(Bk (ws.length-1)).Nodup:=up.imp fun {a b} h e=>by rw[e,Br] at h;cases h
 refine D6 hu ((up.imp fun {a b} h=>L3 h).filter _) (hp.trans (PD (Dt hw) (nd.filter _) fun p=>?_))
 rw[E6 hw]
 unfold Ou
 rw[List.mem_filter,decide_eq_true_iff]
 constructor
 ·rintro ⟨p1,p2,p3⟩
  exact ⟨Hh _ p (by omega) (Am.mp p1).2.2,p3⟩
 ·rintro ⟨p1,p2⟩
  obtain ⟨a,b⟩:=h3 p p1
  exact ⟨Am.mpr ⟨by omega,by omega,b⟩,by omega,p2⟩
open Classical in
noncomputable def Jq (ws:List Int) (j:Nat):List (List Int):=((Bk (ws.length-1)).take j).filter fun p=>decide (Bv p ws)
theorem ME (ws:List Int) (j:Nat):(Jq ws j).length<=j:= by
 unfold Jq
 refine Nat.le_trans (List.length_filter_le _ _) ?_
 rw[List.length_take];omega
theorem LL {ws r:List Int} {j:Nat} (h:(Bk (ws.length-1))[j]?=some r) (o:Bv r ws):Jq ws (j+1)=Jq ws j++[r]:= by
 unfold Jq
 rw[Aw h,List.filter_append,List.filter_cons_of_pos (by simpa using o)];rfl
theorem Nl {ws r:List Int} {j:Nat} (h:(Bk (ws.length-1))[j]?=some r) (o : ¬ Bv r ws):Jq ws (j+1)=Jq ws j:= by
 unfold Jq
 rw[Aw h,List.filter_append,List.filter_cons_of_neg (by simpa using o),List.filter_nil,List.append_nil]
theorem LI {ws:List Int}:Jq ws (Bk (ws.length-1)).length=Ou ws:=by unfold Jq Ou;rw[List.take_length]
theorem MY {R:List (List Int)} (hu:BC R) (nd:R.Nodup) {j:Nat} (h:j+1<R.length):HT.lexLt (R.getD j []) (R.getD (j+1) [])=true:= by
 have h1:=List.pairwise_iff_getElem.mp hu j (j+1) (by omega) h (by omega)
 have h2:=List.pairwise_iff_getElem.mp nd j (j+1) (by omega) h (by omega)
 rw[AZ (by omega),AZ h]
 cases e:HT.lexLt R[j] R[j+1] with
 | true=>rfl
 | false=>exact absurd (Bj _ _ e h1) h2
end L2
set_option maxHeartbeats 4000000
local macro_rules | `(tactic| trivial)=>`(tactic| exact ⟨rfl,rfl,rfl,by decide +kernel,rfl,by decide +kernel,by decide +kernel⟩)
namespace Lw
open PySem L2
noncomputable def top (i:Nat):Stmt:=PySem.Challenge.pw_censers_k19_partings.main.body.getD i (.Pass ⟨0,0,0,0⟩)
noncomputable abbrev Dp:Stmt:=top 17
noncomputable abbrev Dr:Stmt:=top 18
noncomputable abbrev Do:Stmt:=top 19
noncomputable abbrev Hj:Stmt:=top 5
noncomputable abbrev Dm:Stmt:=top 6
noncomputable abbrev Kt:Stmt:=top 7
noncomputable abbrev slots:Stmt:=top 8
noncomputable abbrev Hc:Stmt:=top 9
noncomputable abbrev Cu:Stmt:=top 10
noncomputable abbrev Em:Stmt:=top 12
noncomputable abbrev Fc:Stmt:=top 13
noncomputable abbrev HL:Stmt:=top 14
noncomputable abbrev DW:Stmt:=top 15
noncomputable abbrev Ey:Stmt:=top 20
noncomputable abbrev B1:Stmt:=top 21
noncomputable abbrev B5:Stmt:=top 22
noncomputable abbrev Ec:Stmt:=top 23
noncomputable abbrev Ew:Stmt:=top 24
noncomputable abbrev Cw:Stmt:=top 25
noncomputable abbrev Dq:Stmt:=top 26
noncomputable abbrev A5:Stmt:=top 27
noncomputable abbrev A4:Stmt:=top 28
noncomputable abbrev Cq:Stmt:=top 29
noncomputable abbrev BJ:Stmt:=top 30
noncomputable abbrev A6:Stmt:=top 31
noncomputable abbrev Dg:Stmt:=top 32
noncomputable abbrev LM:Stmt:=top 33
structure Bs (mg:Str->Option Value):Prop where
 all : mg "all" = none
 bool : mg "bool" = none
 enumerate : mg "enumerate" = none
 int : mg "int" = none
 isinstance : mg "isinstance" = none
 len : mg "len" = none
 list : mg "list" = none
 max : mg "max" = none
 min : mg "min" = none
 range : mg "range" = none
 sorted : mg "sorted" = none
 sum : mg "sum" = none
 tuple : mg "tuple" = none
structure Gs (mg:Str->Option Value):Prop where
 yes:True
 MOST_CENSERS : ∃ t,mg "MOST_CENSERS" = some (.int 9 t)
inductive G6 (K:PySem.W.Frag) (vs:List V) (H:Hp) (Q:VK) (E9:XK):Prop
 | mk (a:Addr) (ns:List Int) (_:vs=[.ref a]) (_:SqT K H a (ns.map V.int)) (_:ns.length<=1000) (_ : ∀ H',An H H'->Q (.bl (Gp ns)) H')
inductive Lm (K:PySem.W.Frag) (vs:List V) (H:Hp) (Q:VK) (E9:XK):Prop
 | mk (a:Addr) (ns:List Int) (_:vs=[.ref a]) (_:SqL K H a (ns.map V.int)) (_:ns.length<=63) (_ : ∀ H',Q (.bl true) H')
inductive Ni (vs:List V) (H:Hp) (Q:VK) (E9:XK):Prop
 | mk (z:Int) (_:vs=[.int z]) (_:Q (.bl true) H)
inductive Hg (K:PySem.W.Frag) (vs:List V) (H:Hp) (Q:VK) (E9:XK):Prop
 | mk (a:Addr) (ns:List Int) (n:Int) (_:vs=[.ref a,.int n]) (_:H a=some (.tup (ns.map V.int))) (_:ns.length<=1000) (_ : ∀ H',An H H'->Q (.bl (decide ((ns.length:Int)=n)&&Gp ns)) H')
inductive G5 (K:PySem.W.Frag) (vs:List V) (H:Hp) (Q:VK) (E9:XK):Prop
 | mk (a:Addr) (ns:List Int) (_:vs=[.ref a]) (_:SqT K H a (ns.map V.int)) (_:Q (.bl (As ns)) H)
inductive Di (K:PySem.W.Frag) (vs:List V) (H:Hp) (Q:VK) (E9:XK):Prop
 | mk (a:Addr) (ns:List Int) (_:vs=[.ref a]) (_:SqT K H a (ns.map V.int)) (_:As ns=true) (_:Q .non H)
inductive Fv (K:PySem.W.Frag) (vs:List V) (H:Hp) (Q:VK) (E9:XK):Prop
 | mk (a:Addr) (ns:List Int) (_:vs=[.ref a]) (_:SqT K H a (ns.map V.int)) (_:As ns=true) (_:Q (.int (fresh 0 ns)) H)
inductive DP (K:PySem.W.Frag) (vs:List V) (H:Hp) (Q:VK) (E9:XK):Prop
 | mk (a:Addr) (ns:List Int) (_:vs=[.ref a]) (_:SqL K H a (ns.map V.int)) (_:1<=ns.length) (_:ns.length<=9) (_ : ∀ (p:Addr) (H':Hp),H p=none->An H H'->H' p=some (.tup ((Ax ns).map V.int))->Q (.ref p) H')
inductive JW (K:PySem.W.Frag) (vs:List V) (H:Hp) (Q:VK) (E9:XK):Prop
 | mk (a:Addr) (ws:List Int) (_:vs=[.ref a]) (_:SqT K H a (ws.map V.int)) (_:As ws=true) (_ : ∀ (p:Addr) (qs:List Addr) (H':Hp),H p=none->An H H'->H' p=some (.lst (qs.map V.ref))->qs.length=(fresh 0 ws).toNat->(∀ (k:Nat) q,qs[k]?=some q->H q=none/\H' q=some (.lst ((BR ws (k:Int) ws.length).map V.int)))->qs.Nodup->p ∉ qs->Q (.ref p) H')
inductive FJ (K:PySem.W.Frag) (vs:List V) (H:Hp) (Q:VK) (E9:XK):Prop
 | mk (a:Addr) (L:List Int) (o n:Int) (_:vs=[.ref a,.int o,.int n]) (_:SqT K H a (L.map V.int)) (_:L.length<=900) (_ : ∀ (p:Addr) (H':Hp),H p=none->An H H'->H' p=some (.lst ((EB L o n).map V.int))->Q (.ref p) H')
inductive Hm (K:PySem.W.Frag) (vs:List V) (H:Hp) (Q:VK) (E9:XK):Prop
 | mk (n:Int) (_:vs=[.int n]) (_:0<=n) (_:n<=9) (_ : ∀ (p:Addr) (ps:List Addr) (H':Hp),An H H'->H' p=some (.lst (ps.map V.ref))->Paired (fun a (q:Nat × Nat)=>SqT K H' a [.int ((q.1:Nat):Int),.int ((q.2:Nat):Int)]) ps (BE n.toNat)->Q (.ref p) H')
inductive Fz (K:PySem.W.Frag) (vs:List V) (H:Hp) (Q:VK) (E9:XK):Prop
 | mk (a:Addr) (ws:List Int) (_:vs=[.ref a]) (_:SqT K H a (ws.map V.int)) (_:ws.length<=9) (_ : ∀ (p:Addr) (ps:List Addr) (H':Hp),An H H'->H' p=some (.lst (ps.map V.ref))->Paired (fun a (q:Nat × Nat)=>SqT K H' a [.int ((q.1:Nat):Int),.int ((q.2:Nat):Int)]) ps (D4 ws)->Q (.ref p) H')
inductive G1 (K:PySem.W.Frag) (vs:List V) (H:Hp) (Q:VK) (E9:XK):Prop
 | mk (a b:Addr) (ws us:List Int) (_:vs=[.ref a,.ref b]) (_:SqT K H a (ws.map V.int)) (_:SqT K H b (us.map V.int)) (_:As ws=true) (_:As us=true) (_:us.length=ws.length) (_ : ∀ (r:Bool) (H':Hp),An H H'->(r=true ↔ Within ws.length ws us)->Q (.bl r) H')
inductive KM (K:PySem.W.Frag) (vs:List V) (H:Hp) (Q:VK) (E9:XK):Prop
 | mk (a b:Addr) (ws us:List Int) (_:vs=[.ref a,.ref b]) (_:SqT K H a (ws.map V.int)) (_:SqT K H b (us.map V.int)) (_:As ws=true) (_:As us=true) (_:us.length=ws.length) (_ : ∀ (r:Bool) (H':Hp),An H H'->(r=true ↔ Bv ws us)->Q (.bl r) H')
inductive G2 (K:PySem.W.Frag) (vs:List V) (H:Hp) (Q:VK) (E9:XK):Prop
 | mk (a:Addr) (ws:List Int) (_:vs=[.ref a]) (_:SqT K H a (ws.map V.int)) (_:As ws=true) (_ : ∀ (p:Addr) (qs:List Addr) (H':Hp),An H H'->H' p=some (.lst (qs.map V.ref))->qs.length=(fresh 0 ws).toNat->(∀ (k:Nat) q,qs[k]?=some q->H' q=some (.lst ((BR ws (k:Int) ws.length).map V.int)))->Q (.ref p) H')
inductive Nn (K:PySem.W.Frag) (vs:List V) (H:Hp) (Q:VK) (E9:XK):Prop
 | mk (n:Int) (_:vs=[.int n]) (_:1<=n) (_:n<=6) (_ : ∀ (p:Addr) (ps:List Addr) (H':Hp),An H H'->H' p=some (.lst (ps.map V.ref))->Paired (fun a row=>SqT K H' a (row.map V.int)) ps (Bk (n.toNat-1))->Q (.ref p) H')
inductive G9 (K:PySem.W.Frag) (vs:List V) (H:Hp) (Q:VK) (E9:XK):Prop
 | mk (a:Addr) (ws:List Int) (_:vs=[.ref a]) (_:SqT K H a (ws.map V.int)) (_:As ws=true) (_ : ∀ (p:Addr) (ps:List Addr) (R:List (List Int)) (H':Hp),H p=none->An H H'->H' p=some (.lst (ps.map V.ref))->DM H' ps R->R.Perm (DU ws)->BC R->Q (.ref p) H')
inductive D7 (K:PySem.W.Frag) (vs:List V) (H:Hp) (Q:VK) (E9:XK):Prop
 | mk (a:Addr) (ps:List Addr) (R:List (List Int)) (n:Int) (_:vs=[.ref a,.int n]) (_:H a=some (.lst (ps.map V.ref))) (_:DM H ps R) (_:R.length<=4000) (_:(∀ r ∈ R,As r=true/\(r.length:Int)=n)) (_ : ∀ H',An H H'->Q (.bl true) H')
inductive Et (K:PySem.W.Frag) (vs:List V) (H:Hp) (Q:VK) (E9:XK):Prop
 | mk (a:Addr) (ls:List Int) (_:vs=[.ref a]) (_:SqL K H a (ls.map V.int)) (_:ls.length<=8) (_ : ∀ (p:Addr) (qs:List Addr) (H':Hp),An H H'->H' p=some (.lst (qs.map V.ref))->Paired (fun b c=>H' b=some (.lst (c.map V.int))) qs (chs ls)->Q (.ref p) H')
inductive Fm (K:PySem.W.Frag) (vs:List V) (H:Hp) (Q:VK) (E9:XK):Prop
 | mk (a b:Addr) (ws S:List Int) (_:vs=[.ref a,.ref b]) (_:SqT K H a (ws.map V.int)) (_:H b=some (.lst (S.map V.int))) (_:As ws=true) (_:S.length<=9) (_ : ∀ (p:Addr) (H':Hp),An H H'->H' p=some (.tup ((prt ws S).map V.int))->Q (.ref p) H')
inductive Ds (K:PySem.W.Frag) (vs:List V) (H:Hp) (Q:VK) (E9:XK):Prop
 | mk (a:Addr) (ws:List Int) (_:vs=[.ref a]) (_:SqT K H a (ws.map V.int)) (_:As ws=true) (_ : ∀ (p:Addr) (ps:List Addr) (R:List (List Int)) (H':Hp),H p=none->An H H'->H' p=some (.lst (ps.map V.ref))->DM H' ps R->R.Perm (Jk ws)->BC R->Q (.ref p) H')
inductive JJ (K:PySem.W.Frag) (vs:List V) (H:Hp) (Q:VK) (E9:XK):Prop
 | mk (a:Addr) (ws:List Int) (_:vs=[.ref a]) (_:SqT K H a (ws.map V.int)) (_:As ws=true) (_ : ∀ H',An H H'->Q (.int (Ex ws (fresh 0 ws).toNat)) H')
theorem AN {α β:Type} {R:α->β->Prop} : ∀ {l1:List α} {l2:List β} {j:Nat} {a:α},Paired R l1 l2->l1[j]?=some a -> ∃ b,R a b/\l2[j]?=some b
 | _,_,_,_,.nil,h=>by simp at h
 | _,_,0,_,.cons r t,h=>by simp at h;subst h;exact ⟨_,r,rfl⟩
 | _,_,j+1,_,.cons r t,h=>by
  obtain ⟨b,q,e⟩:=AN (j:=j) t (by simpa using h)
  exact ⟨b,q,by simpa using e⟩
theorem By {α β:Type} {R:α->β->Prop} : ∀ {l1:List α} {l2:List β} {k1:List α} {k2:List β},Paired R l1 l2->Paired R k1 k2->Paired R (l1++k1) (l2++k2)
 | _,_,_,_,.nil,h=>h
 | _,_,_,_,.cons r t,h=>.cons r (By t h)
section
variable {P:Program} {w:World} {K:PySem.W.Frag} {mg:Str->Option Value} {base:Heap}
theorem Hu : Aq (["_law_cell_here","_law_limits","_law_rest","_law_seed","_law_row","_law_limit"]) (["_law_cell_here","_law_limits"]) (Ai Dp):=by trivial
theorem GZ {f : Addr} {fd : FuncData} (F : Fun K "_law_draw" "_law_draw" Dp f fd) (B : Bs mg) (T : Gs mg)    : BQ P w K mg base CX0 1 f fd ["_law_cell_here","_law_limits"] (Ig K):= by
 have sc:=Hu
 refine F.ok sc (fun vs H Q E h=>?_) (fun cdv A outer s H vs Q E hr h=>?_)
 ·obtain ⟨c,a,ls,rfl,_⟩:=h;rfl
 ·obtain ⟨c,a,ls,rfl,hS,hL,hlen,k⟩:=h
  refine ⟨_,(Ae (Av (i:=2) sc.nd rfl (Or.inl rfl) (Dc (AT Ob (pv 0) (Ap E4 Af Af) (A2 _)) (pv 0) Af))
   (Ae (Av (i:=3) sc.nd rfl (Or.inl rfl) (Ap Cj (Ap AY (Ap AU (Ap Cj (pv 0) Af) Af) Af) Af))
   (Ae (Av (i:=4) sc.nd rfl (Or.inl rfl) (Be Ac))
   (Ae (Bq PassesOwn.never rfl (AA (K:=K) (pv 1)) (Al (i:=5) sc.nd rfl (Or.inl rfl))
   (Ae (Av (i:=3) sc.nd rfl (Or.inl rfl) (Ap Cj (Ap AY (Ap AU (Ap Cj (Ap AU (pv 3) (pv 3)) Af) (Ap AY (pv 3) Af)) Af) Af))
   (Ae (BM (DA (K:=K) PySem.F.plainAttrs_list PySem.F.slot_list_append PySem.F.type_list_append BV (pv 4) (Aa (Dc (AT O8 (pv 2) Af (A2 _)) (Ap Cj (pv 2) (pv 5)) (Ap Cj (Ap AY (Ap Fu (pv 3) Af) (Ap AU (Ap Cj (pv 3) Af) Af)) (pv 5))) Ac)))
   (Ag (Av (i:=2) sc.nd rfl (Or.inl rfl) (Ap Fu (pv 2) (pv 5)))))))
   (Ag (At (pv 4))))))),?_⟩
  refine ⟨_,rfl,_,_,rfl,rfl,⟨by decide,by decide,by decide⟩,_,_,rfl,rfl,_,rfl,?_⟩
  refine OA (fun _=>True) (fun r _=>?_) (fun Q' h=>⟨_,rfl,h _ trivial⟩) (fun Q' h=>h _ trivial)
  refine ⟨_,rfl,_,_,rfl,rfl,p0,_,_,rfl,rfl,BK ⟨by decide,by decide⟩,_,_,rfl,rfl,_,_,rfl,rfl,p0,?_⟩
  refine ⟨Nat.zero_le _,fun p hp=>?_⟩
  have hS1:SqL K (upd H p (.lst [])) a (ls.map V.int):=(An.new hp).seq hS
  refine ⟨_,rfl,a,rfl,⟨_,hS1⟩,BN (K:=K) (a:=a) (xs:=ls.map V.int) (fun i σ H2=>∃ (r seed:Int) (rs:List Int) (v:Option V),σ=[some (.int c),some (.ref a),some (.int r),some (.int seed),some (.ref p),v]/\0<=seed/\seed<2147483647/\An H H2/\H2 p=some (.lst (rs.map V.int))/\DY (ls.take i) rs)
   ⟨r,_,[],none,rfl,(MC _ (by decide)).1,(MC _ (by decide)).2,An.new hp,Ab,.nil⟩ (fun i σ H2 _ ⟨_,_,_,_,_,_,_,s2,_,_⟩=>s2.seq hS) ?_ ?_⟩
  ·rintro i y σ H2 hi ⟨r,seed,rs,v,rfl,hs0,hs1,s2,hp2,hD⟩
   obtain ⟨l,rfl,hl,hil⟩:=Lf hi
   have hlim:=hL l (List.mem_of_getElem? hl)
   have hrl:rs.length=i:=by have:=hD.length;rw[List.length_take] at this;lia
   refine ⟨_,rfl,_,rfl,_,_,rfl,rfl,BK ⟨by lia,by lia⟩,_,_,rfl,rfl,p0,_,rfl,_,_,rfl,rfl,_,_,rfl,rfl,BK ⟨by lia,by lia⟩,_,_,rfl,rfl,_,_,rfl,rfl,p0,?_⟩
   refine ⟨_,rfl,.inl ⟨rfl,_,SqL.of hp2⟩,_,rfl,_,_,rfl,rfl,_,rfl,?_⟩
   refine OA (fun q=>0<=q/\q<l) (fun q hq=>?_) (fun Q' h=>⟨_,rfl,_,rfl,_,_,rfl,rfl,hlim.1,h _ (MC _ hlim.1)⟩)
    (fun Q' h=>⟨_,rfl,_,_,rfl,rfl,⟨by decide,by decide⟩,_,rfl,_,_,rfl,rfl,p0,_,_,rfl,rfl,BK ⟨by decide,by decide⟩,_,_,rfl,rfl,_,rfl,_,_,rfl,rfl,hlim.1,h _ (MC _ hlim.1)⟩)
   obtain ⟨q0,q1⟩:=hq
   refine ⟨p,_,_,rfl,rfl,hp2,Cz (by rw[ltm];lia),?_⟩
   refine ⟨_,rfl,_,rfl,_,_,rfl,rfl,hlim,?_⟩
   refine ⟨_,_,rs++[q],_,rfl,(MC _ (by decide)).1,(MC _ (by decide)).2,s2.put hp,by rw[Ab,L4],?_⟩
   rw[Aw hl]
   exact IN hD q0 q1
  ·rintro σ H2 ⟨r,seed,rs,v,rfl,hs0,hs1,s2,hp2,hD⟩
   rw[ltm,List.take_length] at hD
   exact ⟨_,rfl,k p rs H2 hp s2 hp2 hD⟩
theorem Hd : Aq (["_law_script","_law_k"]) (["_law_script","_law_k"]) (Ai Dr):=by trivial
theorem Ho {f : Addr} {fd : FuncData} (F : Fun K "_law_cell" "_law_cell" Dr f fd) (B : Bs mg) (T : Gs mg)    : BQ P w K mg base CX0 1 f fd ["_law_script","_law_k"] (Km K):= by
 have sc:=Hd
 refine F.ok sc (fun vs H Q E h=>?_) (fun cdv A outer s H vs Q E hr h=>?_)
 ·obtain ⟨a,ns,kk,rfl,_⟩:=h;rfl
 ·obtain ⟨a,ns,kk,rfl,hS,h0,h1,hl,k⟩:=h
  refine ⟨_,(Ae (BZ (AT Pr (pv 1) (Aj (Bb (K:=K)) (by rfl) B.len PyProof.Rows.Boot.«len» (Aa (pv 0) Ac)) (A2 _)) (Ag (At (BW (A7 (K:=K)) (pv 0) (pv 1) (fun _ _=>rfl)))) AQ)
   (Ag (At (Ap AY (Ap AY (Ap AU (Ap Cj (Aj (NV (K:=K)) (by rfl) B.sum PyProof.Rows.Boot.«sum» (Aa (pv 0) Ac)) Af) Af) (Ap AU (Aj (Bb (K:=K)) (by rfl) B.len PyProof.Rows.Boot.«len» (Aa (pv 0) Ac)) Af)) (Ap AU (pv 1) Af))))),?_⟩
  refine ⟨_,rfl,_,rfl,a,_,rfl,.inl hS,_,_,rfl,rfl,_,rfl,?_⟩
  rw[ltm]
  refine D5 (fun hk=>?_) (fun _=>?_)
  ·have hk:kk<(ns.length:Int):=of_decide_eq_true hk
   obtain ⟨j,rfl⟩:=Int.eq_ofNat_of_zero_le h0
   have hj:j<ns.length:=by lia
   refine ⟨_,rfl,_,rfl,a,_,_,_,rfl,rfl,hS,FG (v:=V.int (ns[j])) (by rw[List.getElem?_map,List.getElem?_eq_getElem hj];rfl),k _⟩
  ·refine ⟨_,rfl,a,ns,rfl,.inl hS,_,_,rfl,rfl,p0,_,_,rfl,rfl,BK ⟨by decide,by decide⟩,_,rfl,a,_,rfl,.inl hS,_,_,rfl,rfl,BK ⟨by decide,by decide⟩,_,_,rfl,rfl,_,rfl,_,_,rfl,rfl,BK ⟨by decide,by decide⟩,_,_,rfl,rfl,k _⟩
theorem Hz : Aq (["_law_script","_law_few"]) (["_law_script","_law_few"]) (Ai Do):=by trivial
theorem HC {f : Addr} {fd : FuncData} (F : Fun K "_law_many" "_law_many" Do f fd) (B : Bs mg) (T : Gs mg)    : BQ P w K mg base CX0 1 f fd ["_law_script","_law_few"] (K6 K):= by
 have sc:=Hz
 refine F.ok sc (fun vs H Q E h=>?_) (fun cdv A outer s H vs Q E hr h=>?_)
 ·obtain ⟨a,ns,f,rfl,_⟩:=h;rfl
 ·obtain ⟨a,ns,f,rfl,hS,k⟩:=h
  refine ⟨_,(Ag (At (Aj MS (by rfl) B.max PyProof.Rows.Boot.«max» (Aa (pv 1) (Aa (Aj HK (by rfl) B.min PyProof.Rows.Boot.«min» (Aa (Aj (Bb (K:=K)) (by rfl) B.len PyProof.Rows.Boot.«len» (Aa (pv 0) Ac)) (Aa Af Ac))) Ac))))),?_⟩
  refine ⟨_,rfl,_,rfl,a,_,rfl,.inl hS,_,_,rfl,_,_,rfl,k _ ?_ ?_⟩
  ·split <;> lia
  ·split <;> split <;> lia
theorem LJ : Aq (["row","fresh","wood"]) (["row"]) (Ai Hj):=by trivial
theorem LX {f : Addr} {fd : FuncData} (F : Fun K "is_way" "is_way" Hj f fd) (B : Bs mg) (T : Gs mg)    : BQ P w K mg base CX0 1 f fd ["row"] (G5 K):= by
 have sc:=LJ
 refine F.ok sc (fun vs H Q E h=>?_) (fun cdv A outer s H vs Q E hr h=>?_)
 ·obtain ⟨a,ns,rfl,_⟩:=h;rfl
 ·obtain ⟨a,ns,rfl,hS,k⟩:=h
  obtain ⟨tM,gMOST_CENSERS⟩:=T.MOST_CENSERS
  refine ⟨_,(Ae (BZ (B2 (DR DT DT Af (Aj (Bb (K:=K)) (by rfl) B.len PyProof.Rows.Boot.«len» (Aa (pv 0) Ac)) (KU (v:=.int 9) rfl gMOST_CENSERS ⟨_,rfl⟩))) (Ag (At DF)) AQ)
   (Ae (Av (i:=1) sc.nd rfl (Or.inl rfl) Af)
   (Ae (Bq PassesOwn.never rfl (Hs (K:=K) (pv 0)) (Al (i:=2) sc.nd rfl (Or.inl rfl))
   (Ae (BZ (B2 (DR DT DT Af (pv 2) (pv 1))) (Ag (At DF)) AQ)
   (Ag (BZ (AT G8 (pv 2) (pv 1) (A2 _)) (Ag (Ol (i:=1) sc.nd rfl (Or.inl rfl) Af N9)) AQ))))
   (Ag (At DF))))),?_⟩
  refine ⟨_,rfl,a,_,rfl,.inr hS,_,_,rfl,rfl,_,rfl,?_⟩
  rw[ltm]
  have no : ¬ (1<=ns.length/\ns.length<=9)->As ns=false:=fun z=>by
   unfold As
   rw[<- Bool.decide_and,decide_eq_false z];rfl
  refine D5 (fun h1=>⟨_,_,rfl,rfl,_,rfl,D5 (fun h2=>?_) (fun h2=>?_)⟩) (fun h1=>⟨_,rfl,Jj ?_⟩)
  ·rw[no (by simp at h2;lia)] at k
   exact k
  ·have h1:(1:Int)<=(ns.length:Int):=of_decide_eq_true h1
   have h2:(ns.length:Int)<=9:=by simp at h2;lia
   have e0:As ns=AF 0 ns:= by
    unfold As
    rw[decide_eq_true (show 1<=ns.length by lia),decide_eq_true (show ns.length<=9 by lia)];rfl
   rw[e0] at k
   refine ⟨_,rfl,a,rfl,⟨_,hS⟩,MT (K:=K) (a:=a) (xs:=ns.map V.int) (fun i σ H2=>∃ (f:Int) (v:Option V),σ=[some (.ref a),some (.int f),v]/\H2=H/\AF 0 ns=AF f (ns.drop i))
    ⟨0,none,rfl,rfl,by rw[List.drop_zero]⟩ (fun i σ H2 _ ⟨_,_,_,e,_⟩=>by rw[e];exact hS) ?_ ?_⟩
   ·rintro i y σ H2 hi ⟨f,v,rfl,e,hw⟩
    subst e
    obtain ⟨z,rfl,hz,hil⟩:=Lf hi
    have hd:ns.drop i=z::ns.drop (i+1):= by
     rw[List.drop_eq_getElem_cons hil]
     rw[List.getElem?_eq_getElem hil] at hz
     rw[Option.some.inj hz]
    rw[hd] at hw
    have hw':AF 0 ns=(decide (0<=z)&&decide (z<=f)&&AF (if z=f then f+1 else f) (ns.drop (i+1))):=hw
    refine ⟨_,rfl,_,_,rfl,rfl,_,rfl,?_⟩
    refine D5 (fun g1=>⟨_,rfl,_,_,rfl,rfl,_,rfl,D5 (fun g2=>?_) (fun g2=>?_)⟩) (fun g1=>⟨_,rfl,Jj ?_⟩)
    ·have g2 : ¬ z<=f:=by simp at g2;lia
     rw[hw',decide_eq_false g2,Bool.and_false,Bool.false_and] at k
     exact k
    ·have g1:0<=z:=of_decide_eq_true g1
     have g2:z<=f:=by simp at g2;lia
     rw[decide_eq_true g1,decide_eq_true g2,Bool.and_true,Bool.true_and] at hw'
     refine ⟨_,rfl,_,rfl,rfl,_,rfl,D5 (fun g=>?_) (fun g=>?_)⟩
     ·have g:z=f:=by have:=of_decide_eq_true g;cases this;rfl
      rw[if_pos g] at hw'
      exact ⟨_,rfl,_,_,rfl,rfl,f+1,_,rfl,rfl,hw'⟩
     ·have g : ¬ z=f:=fun e=>g (decide_eq_true (by rw[e]))
      rw[if_neg g] at hw'
      exact ⟨f,_,rfl,rfl,hw'⟩
    ·have g1 : ¬ 0<=z:=fun e=>g1 (decide_eq_true e)
     rw[hw',decide_eq_false g1,Bool.false_and,Bool.false_and] at k
     exact k
   ·rintro σ H2 ⟨f,v,rfl,e,hw⟩
    subst e
    rw[ltm,List.drop_length] at hw
    rw[show AF 0 ns=true from hw] at k
    exact k
  ·have h1 : ¬ (1:Int)<=(ns.length:Int):=fun e=>h1 (decide_eq_true e)
   rw[no (by lia)] at k
   exact k
theorem Hy : Aq (["way"]) (["way"]) (Ai Dm):=by trivial
theorem HI {f : Addr} {fd : FuncData} (F : Fun K "check_way" "check_way" Dm f fd) (B : Bs mg) (T : Gs mg)   (cis_way : Cal P w K mg base 1 "is_way" [] (G5 K)) : BQ P w K mg base CX0 2 f fd ["way"] (Di K):= by
 have sc:=Hy
 refine F.ok sc (fun vs H Q E h=>?_) (fun cdv A outer s H vs Q E hr h=>?_)
 ·obtain ⟨a,ns,rfl,_⟩:=h;rfl
 ·obtain ⟨a,ns,rfl,hS,hw,k⟩:=h
  refine ⟨_,(Ag (BZ (B2 (CF (Au cis_way (hr.mono (by decide)) rfl (Aa (pv 0) Ac)))) (Ag Ip) AQ)),?_⟩
  refine ⟨_,rfl,a,ns,rfl,hS,_,rfl,?_⟩
  rw[hw]
  exact MQ k
theorem Mr : Aq (["way"]) (["way"]) (Ai Kt):=by trivial
theorem Nd {f : Addr} {fd : FuncData} (F : Fun K "woods" "woods" Kt f fd) (B : Bs mg) (T : Gs mg)   (ccheck_way : Cal P w K mg base 2 "check_way" [] (Di K)) : BQ P w K mg base CX0 3 f fd ["way"] (Fv K):= by
 have sc:=Mr
 refine F.ok sc (fun vs H Q E h=>?_) (fun cdv A outer s H vs Q E hr h=>?_)
 ·obtain ⟨a,ns,rfl,_⟩:=h;rfl
 ·obtain ⟨a,ns,rfl,hS,hw,k⟩:=h
  refine ⟨_,(Ae (BM (Au ccheck_way (hr.mono (by decide)) rfl (Aa (pv 0) Ac)))
   (Ag (At (Ap AY (Aj (D9 (K:=K)) (by rfl) B.max PyProof.Rows.Boot.«max» (Aa (pv 0) Ac)) Af)))),?_⟩
  refine ⟨_,rfl,a,ns,rfl,hS,hw,?_⟩
  have hw0:AF 0 ns=true:=by unfold As at hw;rw[Bool.and_eq_true] at hw;exact hw.2
  have hne:ns≠[]:=fun e=>by rw[e] at hw;exact absurd hw (by decide)
  refine ⟨_,rfl,a,ns,rfl,.inr hS,hne,fun m hm=>⟨_,_,rfl,rfl,?_⟩⟩
  have:=hm.uniq (AL hw0 hne).2
  have e:m+1=fresh 0 ns:=by lia
  show Q (V.int (m+1)) H
  rw[e]
  exact k
theorem Om : Aq (["way","gathered","censer","wood"]) (["way"]) (Ai slots):=by trivial
theorem Oq {f : Addr} {fd : FuncData} (F : Fun K "lots" "lots" slots f fd) (B : Bs mg) (T : Gs mg)   (cwoods : Cal P w K mg base 3 "woods" [] (Fv K)) : BQ P w K mg base CX0 4 f fd ["way"] (JW K):= by
 have sc:=Om
 refine F.ok sc (fun vs H Q E h=>?_) (fun cdv A outer s H vs Q E hr h=>?_)
 ·obtain ⟨a,ws,rfl,_⟩:=h;rfl
 ·obtain ⟨a,ws,rfl,hS,hw,k⟩:=h
  refine ⟨_,(Ae (Of (i:=1) sc.nd rfl rfl (N':=["wood"]) (M:=[none]) (AC (by rfl)) rfl (AB rfl B.range (Aa (Au cwoods (hr.mono (by decide)) rfl (Aa (pv 0) Ac)) Ac)) (fun _ _ _ _ _=>Al (i:=0) (show (["wood"] : List Str).Nodup by decide +kernel) rfl (Or.inl rfl) (.inr rfl)) (Az rfl) (fun _ _ _ _ _=>AG) (fun _ _ _ _ _=>(Be Ac)))
   (Ae (Bq PassesOwn.never rfl (Ib (K:=K) rfl B.enumerate (Aa (pv 0) Ac)) (Eb (K:=K) (n:=2) rfl (AS (Al (i:=2) sc.nd rfl (Or.inl rfl)) (AS (Al (i:=3) sc.nd rfl (Or.inl rfl)) Dh)))
   (Ag (BM (DA (K:=K) PySem.F.plainAttrs_list PySem.F.slot_list_append PySem.F.type_list_append BV (BW (A7 (K:=K)) (pv 1) (pv 3) (fun _ _=>rfl)) (Aa (pv 2) Ac)))))
   (Ag (At (pv 1))))),?_⟩
  obtain ⟨w1,w9,w0⟩:=Am.mp hw
  have f0:=(AL w0 (fun e=>by rw[e] at w1;simp at w1)).1
  have fl:=Bf ws
  refine ⟨_,rfl,a,ws,rfl,hS,hw,_,rfl,by lia,by lia,?_⟩
  refine Bn (fun j ys H2=>An H H2 /\ ∃ qs:List Addr,ys=qs.map V.ref/\qs.length=j/\(∀ q ∈ qs,H q=none/\H2 q=some (.lst []))/\qs.Nodup) (Ak (by lia)) ⟨An.refl H,[],rfl,rfl,fun q hq=>by simp at hq,List.nodup_nil⟩
   (fun j ys H2 _ h=>by obtain ⟨_,qs,e,e2,_⟩:=h;rw[e,List.length_map,e2];exact Nat.le_refl _) ?_ ?_
  ·rintro j ys H2 hj ⟨s2,qs,rfl,hql,hq,hnd⟩
   refine lcN ?_
   refine ⟨Nat.zero_le _,fun l hl=>⟨s2.new2 hl,qs++[l],by rw[List.map_append];rfl,by rw[List.length_append,hql];rfl,fun q hm=>?_,?_⟩⟩
   ·rcases List.mem_append.mp hm with hm | hm
    ·exact ⟨(hq q hm).1,An.new hl q _ (hq q hm).2⟩
    ·rw[List.mem_singleton.mp hm];exact ⟨s2.free hl,Ab⟩
   ·refine List.nodup_append.mpr ⟨hnd,by simp,fun x hx y hy e=>?_⟩
    rw[List.mem_singleton.mp hy] at e
    have:=(hq x hx).2
    rw[e,hl] at this;cases this
  ·rintro ys H2 ⟨s2,qs,rfl,hql,hq,hnd⟩ p hp
   have hpH:H p=none:=s2.free hp
   have hpq:p ∉ qs:=fun z=>by have:=(hq p z).2;rw[hp] at this;cases this
   have s3:=s2.new2 (o:=HO.lst (qs.map V.ref)) hp
   refine ⟨_,rfl,a,rfl,⟨_,s3.seqT hS⟩,OC (n:=ws.length) (fun i σ H4=>∃ (o1 o2:Option V),σ=[some (.ref a),some (.ref p),o1,o2]/\An H H4/\H4 p=some (.lst (qs.map V.ref)) /\ ∀ (k:Nat) q,qs[k]?=some q->H4 q=some (.lst ((BR ws (k:Int) i).map V.int)))
    ⟨none,none,rfl,s3,Ab,fun k q hk=>by have hm:=List.mem_of_getElem? hk;rw[Ah (show q≠p from fun e=>hpq (by rw[<- e];exact hm))];exact (hq q hm).2⟩ ?_ ?_ ?_ ?_⟩
   ·rintro i σ H4 hi ⟨o1,o2,rfl,s4,_⟩
    exact ⟨_,_,s4.seqT hS,by rw[List.getElem?_map,List.getElem?_eq_getElem hi];rfl⟩
   ·rintro σ H4 ⟨o1,o2,rfl,s4,_⟩
    exact ⟨_,s4.seqT hS,by rw[ltm];exact Nat.le_refl _⟩
   ·rintro i x σ H4 H5 hi ⟨o1,o2,rfl,s4,hp4,hk4⟩ ⟨Tt,y,hT,rfl,rfl,hy⟩
    obtain ⟨w,rfl,hw',_⟩:=Lf (hy _ (s4.seqT hS))
    have ewd:ws.getD i 0=w:=by rw[List.getD_eq_getElem?_getD,hw'];rfl
    have hsm:=BA hw hi
    rw[ewd] at hsm
    have s5:=An.new (o:=HO.tup [V.int (i:Int),V.int w]) hT
    refine ⟨Tt,_,rfl,SqT.of Ab,rfl,_,_,rfl,_,_,rfl,rfl,?_⟩
    generalize upd H4 Tt (HO.tup [V.int (i:Int),V.int w])=H5 at s5
    have hwn:w.toNat<qs.length:=by lia
    have hqw:=List.getElem?_eq_getElem hwn
    generalize qs[w.toNat]=q at hqw
    have eat:=HM hqw
    rw[Int.toNat_of_nonneg hsm.1] at eat
    have hp5:=s5 p _ hp4
    have hq5:=s5 q _ (hk4 w.toNat q hqw)
    have hqm:=List.mem_of_getElem? hqw
    rw[Int.toNat_of_nonneg hsm.1] at hq5
    have ll:=Bw ws w i
    have ll2:=Cp ws w i
    refine ⟨_,rfl,_,rfl,p,_,_,_,rfl,rfl,SqL.of hp5,eat,.inl ⟨rfl,_,SqL.of hq5⟩,_,rfl,q,_,_,rfl,rfl,hq5,Cz (by rw[ltm];lia),?_⟩
    refine ⟨_,_,rfl,(s4.trans s5).put (hq q hqm).1,?_,fun k q' hk=>?_⟩
    ·rw[Ah (show p≠q from fun e=>hpq (by rw[e];exact hqm))];exact hp5
    ·rw[GP,ewd]
     by_cases e:q'=q
     ·subst e
      have ek:=GH hnd hk hqw
      subst ek
      rw[Ab,if_pos (by lia),Int.toNat_of_nonneg hsm.1,L4]
     ·rw[Ah e,if_neg (fun z=>e (by
       have:k=w.toNat:=by lia
       rw[this,hqw] at hk;exact (Option.some.inj hk).symm))]
      exact s5 q' _ (hk4 k q' hk)
   ·rintro σ H4 ⟨o1,o2,rfl,s4,hp4,hk4⟩
    exact ⟨_,rfl,k p qs H4 hpH s4 hp4 hql (fun k q hk=>⟨(hq q (List.mem_of_getElem? hk)).1,hk4 k q hk⟩) hnd hpq⟩
theorem Ll : Aq (["numbers","renamed","given"]) (["numbers"]) (Ai Hc):=by trivial
theorem LV {f : Addr} {fd : FuncData} (F : Fun K "way_of" "way_of" Hc f fd) (B : Bs mg) (T : Gs mg)    : BQ P w K mg base CX0 1 f fd ["numbers"] (DP K):= by
 have sc:=Ll
 refine F.ok sc (fun vs H Q E h=>?_) (fun cdv A outer s H vs Q E hr h=>?_)
 ·obtain ⟨a,ns,rfl,_⟩:=h;rfl
 ·obtain ⟨a,ns,rfl,hS,m1,m9,k0⟩:=h
  obtain ⟨tM,gMOST_CENSERS⟩:=T.MOST_CENSERS
  have k:=fun (_:1<=ns.length/\ns.length<=9)=>k0
  refine ⟨_,(Ae (BZ (B2 (DR DT DT Af (Aj (Bb (K:=K)) (by rfl) B.len PyProof.Rows.Boot.«len» (Aa (pv 0) Ac)) (KU (v:=.int 9) rfl gMOST_CENSERS ⟨_,rfl⟩))) (Ag Ip) AQ)
   (Ae (Av (i:=1) sc.nd rfl (Or.inr rfl) Lh)
   (Ae (Bq PassesOwn.never rfl (AA (K:=K) (pv 0)) (Al (i:=2) sc.nd rfl (Or.inl rfl))
   (Ag (BZ (NL (KJ (MG hr) (pv 2) (pv 1))) (Ag (M3 (MG hr) (pv 1) (pv 2) (Aj JS (by rfl) B.len PyProof.Rows.Boot.«len» (Aa (pv 1) Ac)) rfl)) AQ)))
   (Ag (At (D1 (HY (K:=K)) (by rfl) B.tuple PyProof.Rows.Boot.«tuple» (Aa (BS (N':=["given","renamed"]) (M:=[none,some 1]) (AC (by rfl)) rfl (AA (K:=K) (pv 0)) (fun _ _ _ _ _=>Al (i:=0) (show (["given","renamed"] : List Str).Nodup by decide +kernel) rfl (Or.inl rfl) (.inr rfl)) (Az rfl) (fun _ _ _ _ _=>AG) (fun _ _ _ _ _=>(M0 (MG hr) (pv 1) (pv 0) (fun _ _=>rfl)))) Ac))))))),?_⟩
  refine ⟨_,rfl,a,_,rfl,.inl hS,_,_,rfl,rfl,_,rfl,?_⟩
  rw[ltm]
  refine D5 (fun h1=>⟨_,_,rfl,rfl,_,rfl,D5 (fun h2=>?_) (fun h2=>?_)⟩) (fun h1=>⟨_,rfl,Jj ?_⟩)
  ·exact absurd h2 (by simp;lia)
  ·have h1:(1:Int)<=(ns.length:Int):=of_decide_eq_true h1
   have h2:(ns.length:Int)<=9:=by simp at h2;lia
   intro d hd
   refine ⟨_,rfl,a,rfl,⟨_,(An.new hd).seq hS⟩,BN (K:=K) (a:=a) (xs:=ns.map V.int) (fun i σ H2=>∃ (v:Option V),σ=[some (.ref a),some (.ref d),v]/\H2=upd H d (.dK (FU (Bi (ns.take i)) 0)))
    ⟨none,rfl,by rw[List.take_zero];rfl⟩ (fun i σ H2 _ ⟨_,_,e⟩=>by rw[e];exact (An.new hd).seq hS) ?_ ?_⟩
   ·rintro i y σ H2 hi ⟨v,rfl,rfl⟩
    obtain ⟨z,rfl,hz,hil⟩:=Lf hi
    refine ⟨_,rfl,_,rfl,d,_,rfl,Lk.k (k:=Sum.inl z) Ab,_,rfl,?_⟩
    rw[Df]
    have hts:=Aw hz
    by_cases hm:z ∈ Bi (ns.take i)
    ·rw[if_pos hm]
     refine MQ ?_
     refine ⟨_,rfl,?_⟩
     rw[hts,Ba];unfold BI;rw[if_pos hm]
    ·rw[if_neg hm]
     refine Jj ?_
     have hsl:(Bi (ns.take i)).length<=9:=by have:=HA (ns.take i);rw[List.length_take] at this;lia
     refine ⟨_,rfl,d,_,rfl,Ab,_,rfl,_,rfl,d,_,rfl,N8.k (k:=Sum.inl z) Ab (Cz (by rw[Cn];lia)),?_⟩
     refine ⟨_,rfl,?_⟩
     rw[MI,Cn,LY _ (by rw[Df,if_neg hm]),hts,Ba]
     have e2:BI (Bi (ns.take i)) z=Bi (ns.take i)++[z]:=by unfold BI;rw[if_neg hm]
     rw[e2,GS,Nat.zero_add]
   ·rintro σ H2 ⟨v,rfl,rfl⟩
    rw[ltm,List.take_length]
    have hS2:SqL K (upd H d (.dK (FU (Bi ns) 0))) a (ns.map V.int):=(An.new hd).seq hS
    refine ⟨_,rfl,a,rfl,⟨_,hS2⟩,Bu (xs:=ns.map V.int) (fun i ys H4=>H4=upd H d (.dK (FU (Bi ns) 0))/\ys=(Ax ns |>.take i).map V.int) (Ak (by rw[ltm];lia)) ⟨rfl,rfl⟩
     (fun i ys H4 _ ⟨e,e2⟩=>⟨by rw[e];exact hS2,by rw[e2,ltm,List.length_take];lia⟩) ?_ ?_⟩
    ·rintro i y ys H4 hi ⟨rfl,rfl⟩
     obtain ⟨z,rfl,hz,hil⟩:=Lf hi
     refine lcN ?_
     have hzs:z ∈ Bi ns:=(A8 ns z).mpr (List.mem_of_getElem? hz)
     refine ⟨_,rfl,_,rfl,d,V.int ((Bi ns).idxOf z:Int),rfl,?_,rfl,?_⟩
     ·have:=Lk.k (k:=Sum.inl z) (kvs:=FU (Bi ns) 0) (H:=upd H d (.dK (FU (Bi ns) 0))) (a:=d) Ab
      rw[Df,if_pos hzs,Nat.zero_add] at this
      exact this
     ·have:(Ax ns)[i]?=some ((Bi ns).idxOf z:Int):=by unfold Ax;rw[List.getElem?_map,hz];rfl
      rw[Aw this,L4]
    ·rintro ys H4 ⟨rfl,rfl⟩ p hp
     rw[ltm,<- Bg,List.take_length]
     refine ⟨p,_,rfl,.inl ⟨SqL.of Ab,fun t ht=>?_⟩⟩
     have S1:An H (upd (upd H d (.dK (FU (Bi ns) 0))) p (.lst ((Ax ns).map V.int))):=(An.new hd).new2 hp
     exact k (by lia) t _ (S1.free ht) (S1.new2 ht) Ab
  ·have h1 : ¬ (1:Int)<=(ns.length:Int):=fun e=>h1 (decide_eq_true e)
   exact absurd m1 (by lia)
theorem GJ : Aq (["labels","old","new"]) (["labels","old","new"]) (Ai Cu):=by trivial
theorem Gm {f : Addr} {fd : FuncData} (F : Fun K "relabelled" "relabelled" Cu f fd) (B : Bs mg) (T : Gs mg)    : BQ P w K mg base CX0 1 f fd ["labels","old","new"] (FJ K):= by
 have sc:=GJ
 refine F.ok sc (fun vs H Q E h=>?_) (fun cdv A outer s H vs Q E hr h=>?_)
 ·obtain ⟨a,L,o,n,rfl,_⟩:=h;rfl
 ·obtain ⟨a,L,o,n,rfl,hS,hl,k⟩:=h
  refine ⟨_,(Ag (At (BS (N':=["label","new","old"]) (M:=[none,some 2,some 1]) (AC (by rfl)) rfl (Hs (K:=K) (pv 0)) (fun _ _ _ _ _=>Al (i:=0) (show (["label","new","old"] : List Str).Nodup by decide +kernel) rfl (Or.inl rfl) (.inr rfl)) (Az rfl) (fun _ _ _ _ _=>AG) (fun _ _ _ _ _=>(Dc (AT G8 (pv 0) (pv 2) (A2 _)) (pv 1) (pv 0)))))),?_⟩
  refine ⟨_,rfl,a,rfl,⟨_,hS⟩,Me (xs:=L.map V.int) (fun i ys H4=>H4=H/\ys=((EB L o n).take i).map V.int) (Ak (by rw[ltm];lia)) ⟨rfl,rfl⟩
   (fun i ys H4 _ ⟨e,e2⟩=>⟨by rw[e];exact hS,by rw[e2,ltm,List.length_take];lia⟩) ?_ ?_⟩
  ·rintro i y ys H4 hi ⟨rfl,rfl⟩
   obtain ⟨z,rfl,hz,hil⟩:=Lf hi
   refine lcN ?_
   have hr:(EB L o n)[i]?=some (if z=o then n else z):=by unfold EB;rw[List.getElem?_map,hz];rfl
   refine ⟨_,rfl,_,rfl,rfl,_,rfl,D5 (fun g=>⟨_,rfl,rfl,?_⟩) (fun g=>⟨_,rfl,rfl,?_⟩)⟩
   ·have g:z=o:=V.int.inj (of_decide_eq_true g)
    rw[if_pos g] at hr
    rw[Aw hr,L4]
   ·have g : ¬ z=o:=fun e=>g (decide_eq_true (congrArg V.int e))
    rw[if_neg g] at hr
    rw[Aw hr,L4]
  ·rintro ys H4 ⟨rfl,rfl⟩ p hp
   rw[ltm,<- AK L o n,List.take_length]
   exact k p _ hp (An.new hp) Ab
theorem Jd : Aq (["way","pairs"]) (["way"]) (Ai Em):=by trivial
theorem Iy {f : Addr} {fd : FuncData} (F : Fun K "joinings" "joinings" Em f fd) (B : Bs mg) (T : Gs mg)   (crelabelled : Cal P w K mg base 1 "relabelled" [] (FJ K)) (cway_of : Cal P w K mg base 1 "way_of" [] (DP K)) (cwoods : Cal P w K mg base 3 "woods" [] (Fv K)) : BQ P w K mg base CX0 5 f fd ["way"] (G9 K):= by
 have sc:=Jd
 refine F.ok sc (fun vs H Q E h=>?_) (fun cdv A outer s H vs Q E hr h=>?_)
 ·obtain ⟨a,ws,rfl,_⟩:=h;rfl
 ·obtain ⟨a,ws,rfl,hS,hw,k⟩:=h
  refine ⟨_,(Ae (On (i:=1) sc.nd rfl rfl (N':=["second","first"]) (M:=[none,none]) (AC (by rfl)) rfl (AB rfl B.range (Aa (Au cwoods (hr.mono (by decide)) rfl (Aa (pv 0) Ac)) Ac)) (fun _ _ _ _ _=>Al (i:=0) (show (["second","first"] : List Str).Nodup by decide +kernel) rfl (Or.inl rfl) (.inr rfl)) Il (fun _ _ _ _ _=>AG) (by decide) (by decide) (fun _ _ _ _ _=>(AB rfl B.range (Aa (pv 0) Ac))) (fun _ _ _ _ _=>Al (i:=1) (show (["second","first"] : List Str).Nodup by decide +kernel) rfl (Or.inl rfl) (.inr rfl)) Il (fun _ _ _ _ _=>AG) (fun _ _ _ _ _=>(GG (Aa (pv 1) (Aa (pv 0) Ac)))))
   (Ag (At (Aj (Dx (K:=K)) (by rfl) B.sorted PyProof.Rows.Boot.«sorted» (Aa (BS (N':=["first","second","way"]) (M:=[none,none,some 0]) (AC (by rfl)) rfl (AA (K:=K) (pv 1)) (fun _ _ _ _ _=>Eb (K:=K) (n:=2) rfl (AS (Al (i:=0) (show (["first","second","way"] : List Str).Nodup by decide +kernel) rfl (Or.inl rfl) (.inr rfl)) (AS (Al (i:=1) (show (["first","second","way"] : List Str).Nodup by decide +kernel) rfl (Or.inl rfl) (.inr rfl)) Dh))) Fx (fun _ _ _ _ _=>AG) (fun _ _ _ _ _=>(Au cway_of (hr.mono (by decide)) rfl (Aa (Au crelabelled (hr.mono (by decide)) rfl (Aa (pv 2) (Aa (pv 1) (Aa (pv 0) Ac)))) Ac)))) Ac))))),?_⟩
  obtain ⟨w1,w9,w0⟩:=Am.mp hw
  have f0:=(AL w0 (fun e=>by rw[e] at w1;simp at w1)).1
  have fl:=Bf ws
  have hlp : ∀ s,s<=9->(EF s).length<=36:=fun s hs=>by
   have h:=Er s
   have:s*(s-1)<=9*8:=Nat.mul_le_mul hs (by lia)
   lia
  refine ⟨_,rfl,a,ws,rfl,hS,hw,_,rfl,by lia,by lia,?_⟩
  refine Gi (lo:=0) (n:=(fresh 0 ws).toNat) (fun s ys H2=>An H H2 /\ ∃ ps:List Addr,ys=ps.map V.ref/\Paired (fun a (q:Nat × Nat)=>H2 a=some (.tup [.int ((q.1:Nat):Int),.int ((q.2:Nat):Int)])) ps (EF s)) ⟨An.refl H,[],rfl,.nil⟩ (fun s ys H2 hs h=>by
    obtain ⟨_,ps,e,hP⟩:=h
    have:=hP.length
    have:=hlp s (by lia)
    rw[e,List.length_map];exact Ak (by lia)) ?_ ?_
  ·rintro s ys H2 hs ⟨s2,ps,rfl,hP⟩
   refine lcM ?_
   have hb:=hlp (s+1) (by lia)
   rw[Dk,List.length_append,List.length_map,List.length_range] at hb
   refine ⟨_,rfl,_,rfl,by lia,by lia,?_⟩
   refine Gi (lo:=0) (n:=((0:Int)+(s:Int)).toNat) (fun f ys H3=>An H2 H3 /\ ∃ ps:List Addr,ys=ps.map V.ref/\Paired (fun a (q:Nat × Nat)=>H3 a=some (.tup [.int ((q.1:Nat):Int),.int ((q.2:Nat):Int)])) ps (EF s++(List.range f).map fun f=>(f,s))) ⟨An.refl _,ps,rfl,by simpa using hP⟩ (fun f ys H3 hf h=>by
     obtain ⟨_,ps,e,hP⟩:=h
     have:=hP.length
     rw[List.length_append,List.length_map,List.length_range] at this
     rw[e,List.length_map];exact Ak (by lia)) ?_ ?_
   ·rintro f ys H3 hf ⟨s3,ps,rfl,hP⟩
    have hpl:=hP.length
    rw[List.length_append,List.length_map,List.length_range] at hpl
    refine lcM ⟨Cz (by rw[List.length_map];lia),?_⟩
    refine ⟨_,rfl,_,rfl,Ak (by simp),fun t ht=>⟨s3.new2 ht,ps++[t],by rw[List.map_append];rfl,?_⟩⟩
    rw[List.range_succ,List.map_append,<- List.append_assoc]
    refine Paired.snoc (L2.Paired.mapP hP fun a' q z=>An.new ht a' _ z) ?_
    rw[Ab,Int.zero_add,Int.zero_add]
   ·rintro ys H3 ⟨s3,ps,rfl,hP⟩
    refine ⟨s2.trans s3,ps,rfl,?_⟩
    rw[Dk]
    rw[show ((0:Int)+(s:Int)).toNat=s by lia] at hP
    exact hP
  rintro ys H2 ⟨s2,ps,rfl,hP⟩ p hp
  have hpl:=hP.length
  have hb:=hlp (fresh 0 ws).toNat (by lia)
  have s3:=An.new (o:=HO.lst (ps.map V.ref)) hp
  have hp3:upd H2 p (HO.lst (ps.map V.ref)) p=some (.lst (ps.map V.ref)):=Ab
  generalize upd H2 p (HO.lst (ps.map V.ref))=H3 at s3 hp3
  have S3:=s2.trans s3
  refine ⟨_,rfl,p,rfl,⟨_,SqL.of hp3⟩,Bu (xs:=ps.map V.ref) (fun j ys H4=>An H3 H4 /\ ∃ qs:List Addr,ys=qs.map V.ref/\DM H4 qs ((DU ws).take j)) (Ak (by rw[List.length_map];lia)) ⟨An.refl _,[],rfl,.nil⟩
   (fun j ys H4 hj ⟨s4,qs,e,hQ⟩=>⟨SqL.of (s4 p _ hp3),by rw[e,List.length_map,hQ.length,List.length_take];lia⟩) ?_ ?_⟩
  ·rintro j y ys H4 hj ⟨s4,qs,rfl,hQ⟩
   obtain ⟨q,rfl,hq,hjl⟩:=BY hj
   obtain ⟨fs,hfs,hfj⟩:=HE hP hq
   have hm:=GD.mp (List.mem_of_getElem? hfj)
   have hq4:=s4 q _ (s3 q _ hfs)
   refine ⟨q,_,rfl,SqT.of hq4,rfl,_,_,rfl,_,_,rfl,rfl,lcY ?_⟩
   refine ⟨_,rfl,_,rfl,_,rfl,a,ws,_,_,rfl,(S3.trans s4).seqT hS,by lia,fun r H5 _ s5 hr5=>?_⟩
   refine ⟨r,_,rfl,SqL.of hr5,by rw[AK];exact w1,by rw[AK];exact w9,fun t H6 _ s6 ht6=>?_⟩
   have s46:=s5.trans s6
   refine ⟨s4.trans s46,qs++[t],by rw[List.map_append];rfl,?_⟩
   have hjj:(DU ws)[j]?=some (mrg ws fs.1 fs.2):=by unfold DU;rw[List.getElem?_map,hfj];rfl
   rw[Aw hjj]
   exact Paired.snoc (L2.Paired.mapP hQ fun a' x z=>s46 a' _ z) ht6
  ·rintro ys H4 ⟨s4,qs,rfl,hQ⟩ u hu
   have hjl:(DU ws).length=(ps.map V.ref).length:=by unfold DU;rw[List.length_map,List.length_map,hpl]
   rw[<- hjl,List.take_length] at hQ
   have hql:=hQ.length
   have hj36:=Kr hw
   have s5:=An.new (o:=HO.lst (qs.map V.ref)) hu
   refine ⟨u,qs,DU ws,rfl,SqL.of Ab,L2.Paired.mapP hQ fun a' x z=>s5 a' _ z,by lia,fun x hx=>?_,fun l os yss hO hperm hup hl=>?_⟩
   ·obtain ⟨fs,_,rfl⟩:=List.mem_map.mp hx
    intro e
    have:=EV ws (fs.1:Int) (fs.2:Int)
    rw[e] at this
    simp at this;lia
   ·have S5:=(S3.trans s4).trans s5
    exact k l os yss _ (S5.free hl) (S5.new2 hl) Ab (L2.Paired.mapP hO fun a' x z=>An.new hl a' _ z) hperm hup
theorem K1 : Aq (["censers","found","censer"]) (["censers"]) (Ai Fc):=by trivial
theorem Ka {f : Addr} {fd : FuncData} (F : Fun K "choices" "choices" Fc f fd) (B : Bs mg) (T : Gs mg)    : BQ P w K mg base CX0 1 f fd ["censers"] (Et K):= by
 have sc:=K1
 refine F.ok sc (fun vs H Q E h=>?_) (fun cdv A outer s H vs Q E hr h=>?_)
 ·obtain ⟨a,ls,rfl,_⟩:=h;rfl
 ·obtain ⟨a,ls,rfl,hS,h8,k⟩:=h
  refine ⟨_,(Ae (Av (i:=1) sc.nd rfl (Or.inl rfl) (Be (Aa (Be Ac) Ac)))
   (Ae (Bq PassesOwn.never rfl (AA (K:=K) (pv 0)) (Al (i:=2) sc.nd rfl (Or.inr rfl))
   (Ag (Av (i:=1) sc.nd rfl (Or.inl rfl) (Ap EW (pv 1) (BS (N':=["chosen","censer"]) (M:=[none,some 2]) (AC (by rfl)) rfl (AA (K:=K) (pv 1)) (fun _ _ _ _ _=>Al (i:=0) (show (["chosen","censer"] : List Str).Nodup by decide +kernel) rfl (Or.inl rfl) (.inr rfl)) (Az rfl) (fun _ _ _ _ _=>AG) (fun _ _ _ _ _=>(Ap EW (pv 0) (Be (Aa (pv 1) Ac)))))))))
   (Ag (At (pv 1))))),?_⟩
  refine Hn ⟨Ak (by simp),fun e he=>⟨Ak (by simp),fun p hp=>?_⟩⟩
  have s2:=(An.new (o:=HO.lst []) he).new2 (o:=HO.lst [V.ref e]) hp
  have he2:upd (upd H e (HO.lst [])) p (HO.lst [V.ref e]) e=some (.lst (([]:List Int).map V.int)):=An.new hp e _ Ab
  have hp2:upd (upd H e (HO.lst [])) p (HO.lst [V.ref e]) p=some (.lst ([e].map V.ref)):=Ab
  generalize upd (upd H e (HO.lst [])) p (HO.lst [V.ref e])=H2 at s2 he2 hp2
  have cl : ∀ i,(chs (ls.take i)).length<=256:=fun i=>by
   rw[Hl,List.length_take]
   exact Nat.pow_le_pow_right (n:=2) (j:=8) (by decide) (by lia)
  refine ⟨_,rfl,a,rfl,⟨_,s2.seq hS⟩,BN (K:=K) (a:=a) (xs:=ls.map V.int) (fun i σ H3=>∃ (o2:Option V) (f:Addr) (qs:List Addr),σ=[some (.ref a),some (.ref f),o2]/\An H H3/\H3 f=some (.lst (qs.map V.ref))/\Paired (fun b c=>H3 b=some (.lst (c.map V.int))) qs (chs (ls.take i)))
   ⟨none,p,[e],rfl,s2,hp2,.cons he2 .nil⟩ (fun i σ H3 _ h=>by obtain ⟨_,_,_,_,s3,_⟩:=h;exact s3.seq hS) ?_ ?_⟩
  ·rintro i y σ H3 hi ⟨o2,f,qs,rfl,s3,hf,hP⟩
   obtain ⟨z,rfl,hz,hil⟩:=Lf hi
   have hql:=hP.length
   have c1:=cl i
   refine ⟨_,rfl,_,rfl,f,rfl,⟨_,SqL.of hf⟩,Bu (xs:=qs.map V.ref) (fun j ys H4=>An H3 H4 /\ ∃ us:List Addr,ys=us.map V.ref/\Paired (fun b c=>H4 b=some (.lst (c.map V.int))) us (((chs (ls.take i)).take j).map (· ++ [z])))
    (Ak (by rw[List.length_map];lia)) ⟨An.refl _,[],rfl,.nil⟩ (fun j ys H4 hj h=>by
     obtain ⟨s4,us,e,hU⟩:=h
     exact ⟨SqL.of (s4 f _ hf),by rw[e,List.length_map,hU.length,List.length_map,List.length_take];lia⟩) ?_ ?_⟩
   ·rintro j y ys H4 hj ⟨s4,us,rfl,hU⟩
    obtain ⟨b,rfl,hb,hjl⟩:=BY hj
    obtain ⟨c,hc,hcj⟩:=AN hP hb
    refine lcN ?_
    have hl2:c.length<=8:= by
     have h1:=GR (List.mem_of_getElem? hcj)
     rw[List.length_take] at h1
     lia
    refine ⟨_,rfl,_,rfl,Ak (by simp),fun t ht=>⟨b,t,_,_,rfl,rfl,An.new ht b _ (s4 b _ hc),Ab,Ak (by rw[List.length_map];show c.length+1<=_;lia),fun u hu=>?_⟩⟩
    have s5:=(An.new (o:=HO.lst [V.int z]) ht).new2 (o:=HO.lst (c.map V.int++[V.int z])) hu
    refine ⟨s4.trans s5,us++[u],by rw[List.map_append];rfl,?_⟩
    rw[Aw hcj,List.map_append]
    exact Paired.snoc (L2.Paired.mapP hU fun a' x q=>s5 a' _ q) (by rw[Ab,List.map_append];rfl)
   ·rintro ys H4 ⟨s4,us,rfl,hU⟩ r hr'
    rw[List.length_map,hql,List.take_length] at hU
    have hul:=hU.length
    rw[List.length_map] at hul
    refine ⟨f,r,_,_,rfl,rfl,An.new hr' f _ (s4 f _ hf),Ab,Ak (by rw[List.length_map,List.length_map];lia),fun q hq=>?_⟩
    have s5:=(An.new (o:=HO.lst (us.map V.ref)) hr').new2 (o:=HO.lst (qs.map V.ref++us.map V.ref)) hq
    refine ⟨_,q,qs++us,rfl,(s3.trans s4).trans s5,by rw[Ab,List.map_append],?_⟩
    rw[Aw hz,Bo]
    exact By (L2.Paired.mapP hP fun a' x g=>s5 a' _ (s4 a' _ g)) (L2.Paired.mapP hU fun a' x g=>s5 a' _ g)
  ·rintro σ H3 ⟨o2,f,qs,rfl,s3,hf,hP⟩
   rw[List.length_map,List.take_length] at hP
   exact ⟨_,rfl,k f qs H3 s3 hf hP⟩
theorem Lo : Aq (["way","chosen"]) (["way","chosen"]) (Ai HL):=by trivial
theorem LP {f : Addr} {fd : FuncData} (F : Fun K "parted" "parted" HL f fd) (B : Bs mg) (T : Gs mg)   (cway_of : Cal P w K mg base 1 "way_of" [] (DP K)) : BQ P w K mg base CX0 4 f fd ["way","chosen"] (Fm K):= by
 have sc:=Lo
 refine F.ok sc (fun vs H Q E h=>?_) (fun cdv A outer s H vs Q E hr h=>?_)
 ·obtain ⟨a,b,ws,S,rfl,_⟩:=h;rfl
 ·obtain ⟨a,b,ws,S,rfl,hS,hL,hw,h8,k⟩:=h
  refine ⟨_,(Ag (At (Au cway_of (hr.mono (by decide)) rfl (Aa (BS (N':=["censer","wood","chosen","way"]) (M:=[none,none,some 1,some 0]) (AC (by rfl)) rfl (Ib (K:=K) rfl B.enumerate (Aa (pv 0) Ac)) (fun _ _ _ _ _=>Eb (K:=K) (n:=2) rfl (AS (Al (i:=0) (show (["censer","wood","chosen","way"] : List Str).Nodup by decide +kernel) rfl (Or.inl rfl) (.inr rfl)) (AS (Al (i:=1) (show (["censer","wood","chosen","way"] : List Str).Nodup by decide +kernel) rfl (Or.inl rfl) (.inr rfl)) Dh))) Fx (fun _ _ _ _ _=>AG) (fun _ _ _ _ _=>(Dc (AT (NU (K:=K)) (pv 0) (pv 2) rfl) (Aj (Bb (K:=K)) (by rfl) B.len PyProof.Rows.Boot.«len» (Aa (pv 3) Ac)) (pv 1)))) Ac)))),?_⟩
  obtain ⟨w1,w9,w0⟩:=Am.mp hw
  refine ⟨_,rfl,a,rfl,⟨_,hS⟩,OP (n:=ws.length) (fun i ys H4=>An H H4/\ys=((prw ws S).take i).map V.int) (Ak (by lia)) ⟨An.refl _,rfl⟩
   (fun i ys H4 hi h=>⟨_,_,h.1.seqT hS,by rw[List.getElem?_map,List.getElem?_eq_getElem hi];rfl⟩) (fun ys H4 h=>⟨_,h.1.seqT hS,by rw[ltm];exact Nat.le_refl _⟩)
   (fun i ys H4 hi h=>by rw[h.2,List.length_map,List.length_take];lia) ?_ ?_⟩
  ·rintro i x ys H4 H5 hi ⟨s4,rfl⟩ ⟨Tt,y,hT,rfl,rfl,hy⟩
   obtain ⟨w,rfl,hw',_⟩:=Lf (hy _ (s4.seqT hS))
   have ewd:ws.getD i 0=w:=by rw[List.getD_eq_getElem?_getD,hw'];rfl
   have s5:=s4.new2 (o:=HO.tup [V.int (i:Int),V.int w]) hT
   refine ⟨Tt,_,rfl,SqT.of Ab,rfl,_,_,rfl,_,_,rfl,rfl,?_⟩
   generalize upd H4 Tt (HO.tup [V.int (i:Int),V.int w])=H5 at s5
   refine lcY ?_
   have hp:(prw ws S)[i]?=some (if (i:Int) ∈ S then (ws.length:Int) else w):= by
    have:=Bp (S:=S) hi
    rw[List.getD_eq_getElem?_getD,List.getElem?_eq_getElem (by rw[Ao];exact hi)] at this
    rw[List.getElem?_eq_getElem (by rw[Ao];exact hi),<- ewd]
    exact congrArg some this
   rw[Aw hp]
   refine ⟨_,rfl,_,rfl,b,S.map V.int,rfl,.inl (SqL.of (s5 b _ hL)),rfl,Kq S,_,rfl,?_⟩
   rw[if_neg Bool.false_ne_true,L0]
   refine D5 (fun g=>?_) (fun g=>?_)
   ·rw[if_pos (of_decide_eq_true g)]
    exact ⟨_,rfl,a,_,rfl,.inr (s5.seqT hS),s5,by rw[List.map_append,ltm];rfl⟩
   ·rw[if_neg (fun z=>g (decide_eq_true z))]
    exact ⟨_,rfl,s5,by rw[List.map_append];rfl⟩
  ·rintro ys H4 ⟨s4,rfl⟩ r hr'
   rw[List.take_of_length_le (by rw[Ao];exact Nat.le_refl _)]
   refine ⟨r,prw ws S,rfl,SqL.of Ab,by rw[Ao];exact w1,by rw[Ao];exact w9,fun p H' _ s6 hp=>?_⟩
   exact k p H' ((s4.new2 hr').trans s6) hp
theorem Jc : Aq (["way","found","lot"]) (["way"]) (Ai DW):=by trivial
theorem Ja {f : Addr} {fd : FuncData} (F : Fun K "partings" "partings" DW f fd) (B : Bs mg) (T : Gs mg)   (cchoices : Cal P w K mg base 1 "choices" [] (Et K)) (clots : Cal P w K mg base 4 "lots" [] (JW K)) (cparted : Cal P w K mg base 4 "parted" [] (Fm K)) : BQ P w K mg base CX0 5 f fd ["way"] (Ds K):= by
 have sc:=Jc
 refine F.ok sc (fun vs H Q E h=>?_) (fun cdv A outer s H vs Q E hr h=>?_)
 ·obtain ⟨a,ws,rfl,_⟩:=h;rfl
 ·obtain ⟨a,ws,rfl,hS,hw,k⟩:=h
  refine ⟨_,(Ae (Av (i:=1) sc.nd rfl (Or.inl rfl) (Be Ac))
   (Ae (Bq PassesOwn.never rfl (AA (K:=K) (Au clots (hr.mono (by decide)) rfl (Aa (pv 0) Ac))) (Al (i:=2) sc.nd rfl (Or.inl rfl))
   (Ag (Av (i:=1) sc.nd rfl (Or.inl rfl) (Ap EW (pv 1) (BS (N':=["chosen","way"]) (M:=[none,some 0]) (AC (by rfl)) rfl (AA (K:=K) (Au cchoices (hr.mono (by decide)) rfl (Aa (De (DN (K:=K)) (pv 2) (DZ Af) D2) Ac))) (fun _ _ _ _ _=>Al (i:=0) (show (["chosen","way"] : List Str).Nodup by decide +kernel) rfl (Or.inl rfl) (.inr rfl)) (Az rfl) (fun _ _ _ _ _=>FE (Kc (K:=K) (pv 0) (fun _=>rfl))) (fun _ _ _ _ _=>(Au cparted (hr.mono (by decide)) rfl (Aa (pv 1) (Aa (pv 0) Ac)))))))))
   (Ag (At (Aj (Gw (K:=K)) (by rfl) B.sorted PyProof.Rows.Boot.«sorted» (Aa (pv 1) Ac)))))),?_⟩
  obtain ⟨w1,w9,w0⟩:=Am.mp hw
  have fl:=Bf ws
  refine Hn ⟨Nat.zero_le _,fun f0 hf0=>?_⟩
  have s1:=An.new (o:=HO.lst []) hf0
  have hf1:upd H f0 (HO.lst []) f0=some (.lst (([]:List Addr).map V.ref)):=Ab
  generalize upd H f0 (HO.lst [])=H1 at s1 hf1
  refine ⟨_,rfl,a,ws,rfl,s1.seqT hS,hw,fun p qs H2 _ s2 hp hql hqs _ _=>⟨p,rfl,⟨_,SqL.of hp⟩,BN (K:=K) (a:=p) (xs:=qs.map V.ref) (fun i σ H3=>∃ (o2:Option V) (f:Addr) (ps:List Addr),σ=[some (.ref a),some (.ref f),o2]/\An H2 H3/\H3 f=some (.lst (ps.map V.ref))/\DM H3 ps (NH ws i))
   ⟨none,f0,[],rfl,An.refl _,s2 _ _ hf1,.nil⟩ (fun i σ H3 _ h=>by obtain ⟨_,_,_,_,s3,_⟩:=h;exact SqL.of (s3 p _ hp)) ?_ ?_⟩⟩
  ·rintro i y σ H3 hi ⟨o2,f,ps,rfl,s3,hf,hP⟩
   obtain ⟨q,rfl,hq,hil⟩:=BY hi
   have hl:=s3 q _ (hqs i q hq).2
   have hle:=FC ws (i:Int)
   have hik:i<(fresh 0 ws).toNat:=by lia
   have hkl:=MU hw (k:=i) (by lia)
   have hpl:=hP.length
   refine ⟨_,rfl,_,rfl,_,rfl,q,_,rfl,SqL.of hl,fun t ht=>?_⟩
   have s5:=An.new (o:=HO.lst (DE ((BR ws (i:Int) ws.length).map V.int) (some 1) none)) ht
   have ht5:upd H3 t (HO.lst (DE ((BR ws (i:Int) ws.length).map V.int) (some 1) none)) t=some (.lst (((BR ws (i:Int) ws.length).drop 1).map V.int)):= by
    rw[Ab,show (some (1:Int))=some ((1:Nat):Int) from rfl,Dv]
   generalize upd H3 t (HO.lst (DE ((BR ws (i:Int) ws.length).map V.int) (some 1) none))=H5 at s5 ht5
   have cn:=Ld hw i
   generalize hLg:(BR ws (i:Int) ws.length).drop 1=L at ht5
   have hL8:L.length<=8:=by rw[<- hLg,List.length_drop];lia
   have hL256:(chs L).length<=256:=by rw[Hl];exact Nat.pow_le_pow_right (n:=2) (j:=8) (by decide) hL8
   refine ⟨t,L,rfl,SqL.of ht5,hL8,fun pc cs H6 s6 hpc hC=>?_⟩
   have hcl:=hC.length
   refine ⟨pc,rfl,⟨_,SqL.of hpc⟩,Bu (xs:=cs.map V.ref) (fun j ys H7=>An H6 H7 /\ ∃ us:List Addr,ys=us.map V.ref/\DM H7 us ((((chs L).take j).filter fun c=>decide (c≠[])).map (prt ws)))
    (Ak (by rw[List.length_map];lia)) ⟨An.refl _,[],rfl,.nil⟩ (fun j ys H7 hj h=>by
     obtain ⟨s7,us,e,hU⟩:=h
     have h1:=hU.length
     have h2:=List.length_filter_le (fun c:List Int=>decide (c≠[])) ((chs L).take j)
     rw[List.length_take] at h2
     rw[List.length_map] at h1
     exact ⟨SqL.of (s7 pc _ hpc),by rw[e,List.length_map];lia⟩) ?_ ?_⟩
   ·rintro j y ys H7 hj ⟨s7,us,rfl,hU⟩
    obtain ⟨b,rfl,hb,hjl⟩:=BY hj
    obtain ⟨c,hc,hcj⟩:=AN hC hb
    have hc7:=s7 b _ hc
    have hcl8:=GR (List.mem_of_getElem? hcj)
    refine ⟨_,rfl,_,.inl ⟨_,SqL.of hc7,rfl⟩,?_⟩
    rw[Aw hcj,List.filter_append]
    refine D5 (fun g=>?_) (fun g=>?_)
    ·have g:c≠[]:=fun e=>by rw[e] at g;cases g
     rw[List.filter_cons_of_pos (by simpa using g)]
     refine ⟨_,rfl,_,rfl,a,b,ws,c,rfl,((((s1.trans s2).trans s3).trans s5).trans (s6.trans s7)).seqT hS,hc7,hw,by lia,fun u H8 s8 hu=>?_⟩
     refine ⟨s7.trans s8,us++[u],by rw[List.map_append];rfl,?_⟩
     rw[List.map_append]
     exact Paired.snoc (L2.Paired.mapP hU fun a' x z=>s8 a' _ z) hu
    ·have g:c=[]:= by
      cases c with
      | nil=>rfl
      | cons x c=>exact absurd rfl g
     rw[List.filter_cons_of_neg (by simpa using g)]
     refine ⟨s7,us,rfl,?_⟩
     rw[List.filter_nil,List.append_nil];exact hU
   ·rintro ys H7 ⟨s7,us,rfl,hU⟩ r hr'
    rw[List.length_map,hcl,List.take_length] at hU
    have hul:=hU.length
    rw[List.length_map] at hul
    rw[hLg] at cn
    have hul:us.length=(LH L).length:=hul
    have S7:=(s5.trans s6).trans s7
    refine ⟨f,r,_,_,rfl,rfl,An.new hr' f _ (S7 f _ hf),Ab,Ak (by rw[List.length_map,List.length_map];lia),fun v hv=>?_⟩
    have s9:=(An.new (o:=HO.lst (us.map V.ref)) hr').new2 (o:=HO.lst (ps.map V.ref++us.map V.ref)) hv
    refine ⟨_,v,ps++us,rfl,(s3.trans S7).trans s9,by rw[Ab,List.map_append],?_⟩
    rw[Gj,hLg]
    exact By (L2.Paired.mapP hP fun a' x z=>s9 a' _ (S7 a' _ z)) (L2.Paired.mapP hU fun a' x z=>s9 a' _ z)
  ·rintro σ H3 ⟨o2,f,ps,rfl,s3,hf,hP⟩
   rw[List.length_map,hql] at hP
   have hP:DM H3 ps (Jk ws):=hP
   have hpl:=hP.length
   have hl9:=JG hw
   refine ⟨_,rfl,f,ps,Jk ws,rfl,SqL.of hf,hP,by lia,Dt hw,fun x hx e=>?_,fun l us yss hU hperm hup hl=>?_⟩
   ·have:=(E6 hw).mp hx
    rw[e] at this
    simp at this;lia
   ·have S3:=(s1.trans s2).trans s3
    exact k l us yss _ (S3.free hl) (S3.new2 hl) Ab (L2.Paired.mapP hU fun a' x z=>An.new hl a' _ z) hperm hup
theorem Ix : Aq (["_law_found"]) (["_law_found"]) (Ai Ey):=by trivial
theorem IS {f : Addr} {fd : FuncData} (F : Fun K "_law_num" "_law_num" Ey f fd) (B : Bs mg) (T : Gs mg)    : BQ P w K mg base CX0 1 f fd ["_law_found"] Ni:= by
 have sc:=Ix
 refine F.ok sc (fun vs H Q E h=>?_) (fun cdv A outer s H vs Q E hr h=>?_)
 ·obtain ⟨z,rfl,_⟩:=h;rfl
 ·obtain ⟨z,rfl,k⟩:=h
  refine ⟨_,(Ag (At (K8 (Aj (HX (K:=K)) (by rfl) B.isinstance PyProof.Rows.Boot.«isinstance» (Aa (pv 0) (Aa (FQ (v:=.ty "int") rfl B.int PyProof.Rows.Boot.«int» rfl) Ac))) (JP (Oh (Aj (HX (K:=K)) (by rfl) B.isinstance PyProof.Rows.Boot.«isinstance» (Aa (pv 0) (Aa (FQ (v:=.ty "bool") rfl B.bool PyProof.Rows.Boot.«bool» rfl) Ac)))))))),?_⟩
  refine ⟨_,rfl,.int z,"int",_,true,rfl,FV.int z,rfl,_,rfl,Jj ?_⟩
  exact ⟨_,rfl,.int z,"bool",_,false,rfl,FV.int z,rfl,_,rfl,k⟩
theorem Fh : Aq (["_law_row"]) (["_law_row"]) (Ai B1):=by trivial
theorem FK {f : Addr} {fd : FuncData} (F : Fun K "_law_row_ok" "_law_row_ok" B1 f fd) (B : Bs mg) (T : Gs mg)    : BQ P w K mg base CX0 1 f fd ["_law_row"] (G6 K):= by
 have sc:=Fh
 refine F.ok sc (fun vs H Q E h=>?_) (fun cdv A outer s H vs Q E hr h=>?_)
 ·obtain ⟨a,ns,rfl,_⟩:=h;rfl
 ·obtain ⟨a,ns,rfl,hS,hln,k⟩:=h
  refine ⟨_,(Ae (BZ (PW.pt (LZ (B2 (DR DT DT Af (Aj (Bb (K:=K)) (by rfl) B.len PyProof.Rows.Boot.«len» (Aa (pv 0) Ac)) Af)) (JB (AT Nc (BW (Ck (K:=K)) (pv 0) Af (fun _ _=>rfl)) Af (A2 _))))) (Ag (At DF)) AQ)
   (Ag (At (Aj (Es (K:=K)) (by rfl) B.all PyProof.Rows.Boot.«all» (Aa (BS (N':=["_law_k","_law_row"]) (M:=[none,some 0]) (AC (by rfl)) rfl (Kk rfl B.range (Aa Af (Aa (Aj (Bb (K:=K)) (by rfl) B.len PyProof.Rows.Boot.«len» (Aa (pv 0) Ac)) Ac))) (fun _ _ _ _ _=>Al (i:=0) (show (["_law_k","_law_row"] : List Str).Nodup by decide +kernel) rfl (Or.inl rfl) (.inr rfl)) (Az rfl) (fun _ _ _ _ _=>AG) (fun _ _ _ _ _=>(Lj DT DT Af (BW (Ck (K:=K)) (pv 1) (pv 0) (fun _ _=>rfl)) (Ap AY (Aj (D9 (K:=K)) (by rfl) B.max PyProof.Rows.Boot.«max» (Aa (De (Nk (K:=K)) (pv 1) D2 (DZ (pv 0))) Ac)) Af)))) Ac))))),?_⟩
  refine ⟨_,rfl,a,_,rfl,.inr hS,_,_,rfl,rfl,_,rfl,?_⟩
  rw[ltm]
  have no : ¬ (1<=ns.length/\ns.length<=9)->Gp ns=false:=fun z=>by
   unfold Gp
   rw[<- Bool.decide_and,decide_eq_false z];rfl
  refine D5 (fun h1=>⟨_,_,rfl,rfl,_,rfl,D5 (fun h2=>Jj ?_) (fun h2=>?_)⟩) (fun h1=>⟨_,rfl,Jj (Jj ?_)⟩)
  ·have k:=k H (An.refl H)
   rw[no (by simp at h2;lia)] at k
   exact k
  ·have h1:(1:Int)<=(ns.length:Int):=of_decide_eq_true h1
   have h2:(ns.length:Int)<=9:=by simp at h2;lia
   have e0:Gp ns=(decide (ns.getD 0 1=0)&&CV ns):= by
    unfold Gp
    rw[decide_eq_true (show 1<=ns.length by lia),decide_eq_true (show ns.length<=9 by lia)];rfl
   have hp0:0<ns.length:=by lia
   have g0:ns.getD 0 1=ns.getD 0 0:= by
    rw[List.getD_eq_getElem?_getD,List.getD_eq_getElem?_getD,List.getElem?_eq_getElem hp0];rfl
   rw[e0,g0] at k
   refine ⟨_,rfl,a,_,_,_,rfl,rfl,hS,D8 (i:=0) (by decide) (by lia),rfl,_,rfl,D5 (fun g=>?_) (fun g=>?_)⟩
   ·have g : ¬ ns.getD 0 0=0:=fun e=>by
     have e':ns.getD (0:Int).toNat 0=0:=e
     rw[e'] at g
     exact absurd g (by decide)
    have k:=k H (An.refl H)
    rw[decide_eq_false g,Bool.false_and] at k
    exact k
   ·have g:ns.getD 0 0=0:= by
     have g' : ¬ (!decide (V.int (ns.getD 0 0)=V.int 0))=true:=g
     rw[Bool.not_eq_true,Bool.not_eq_false'] at g'
     exact V.int.inj (of_decide_eq_true g')
    rw[decide_eq_true g,Bool.true_and] at k
    refine ⟨_,rfl,a,_,rfl,.inr hS,_,_,rfl,⟨by decide,by decide,by rw[ltm];lia,by rw[ltm];lia⟩,?_⟩
    rw[ltm,show ((ns.length:Int)-1).toNat=ns.length-1 by lia]
    refine Bn (fun i ys H2=>An H H2/\ys=(List.range i).map fun j=>V.bl (decide (0<=ns.getD (j+1) 0)&&decide (ns.getD (j+1) 0<=FX (ns.take (j+1))+1))) (Ak (by lia)) ⟨An.refl H,rfl⟩
     (fun i ys H2 _ h=>by rw[h.2,List.length_map,List.length_range];exact Nat.le_refl _) ?_ ?_
    ·rintro i ys H2 hi ⟨s2,rfl⟩
     have e1:(1:Int)+(i:Int)=((i+1:Nat):Int):=by lia
     have hS2:=s2.seqT hS
     rw[e1]
     refine lcN ?_
     refine ⟨_,rfl,_,rfl,a,_,_,_,rfl,rfl,hS2,D8 (by lia) (by lia),_,_,rfl,rfl,_,rfl,?_⟩
     rw[Int.toNat_natCast]
     refine D5 (fun g1=>?_) (fun g1=>?_)
     ·refine ⟨_,rfl,_,rfl,_,rfl,a,_,rfl,hS2,fun p H3 s3 hp3=>?_⟩
      rw[Gz] at hp3
      refine ⟨p,_,rfl,.inr hp3,(fun e=>by have:=congrArg List.length e;rw[List.length_take,List.length_nil] at this;lia),fun m hm=>?_⟩
      refine ⟨_,_,rfl,rfl,_,_,rfl,rfl,s2.trans s3,?_⟩
      rw[<- DQ]
      rw[hm.eq,of_decide_eq_true g1 |> decide_eq_true,Bool.true_and]
     ·refine ⟨s2,?_⟩
      rw[<- DQ]
      rw[Bool.not_eq_true] at g1
      rw[g1,Bool.false_and]
    ·rintro ys H2 ⟨s2,rfl⟩ p hp
     refine ⟨p,_,rfl,.inl (SqL.of (by rw[Ab,Pw])),?_⟩
     have e2:((List.range (ns.length-1)).map fun j=>decide (0<=ns.getD (j+1) 0)&&decide (ns.getD (j+1) 0<=FX (ns.take (j+1))+1)).all id=CV ns:= by
      rw[List.all_map];rfl
     rw[e2]
     exact k _ (s2.new2 hp)
  ·have h1 : ¬ (1:Int)<=(ns.length:Int):=fun e=>h1 (decide_eq_true e)
   have k:=k H (An.refl H)
   rw[no (by lia)] at k
   exact k
theorem FT : Aq (["_law_found","_law_size"]) (["_law_found","_law_size"]) (Ai B5):=by trivial
theorem Fs {f : Addr} {fd : FuncData} (F : Fun K "_law_way_ok" "_law_way_ok" B5 f fd) (B : Bs mg) (T : Gs mg)   (c_law_num : Cal P w K mg base 1 "_law_num" [] Ni) (c_law_row_ok : Cal P w K mg base 1 "_law_row_ok" [] (G6 K)) : BQ P w K mg base CX0 2 f fd ["_law_found","_law_size"] (Hg K):= by
 have sc:=FT
 refine F.ok sc (fun vs H Q E h=>?_) (fun cdv A outer s H vs Q E hr h=>?_)
 ·obtain ⟨a,ns,n,rfl,_⟩:=h;rfl
 ·obtain ⟨a,ns,n,rfl,hT,hl,k⟩:=h
  refine ⟨_,(Ae (BZ (PW.pt (LZ (B2 (CF (Aj (HX (K:=K)) (by rfl) B.isinstance PyProof.Rows.Boot.«isinstance» (Aa (pv 0) (Aa (FQ (v:=.ty "tuple") rfl B.tuple PyProof.Rows.Boot.«tuple» rfl) Ac))))) (LZ (AT Nc (Aj (Bb (K:=K)) (by rfl) B.len PyProof.Rows.Boot.«len» (Aa (pv 0) Ac)) (pv 1) (A2 _)) (JB (B2 (CF (Aj (Es (K:=K)) (by rfl) B.all PyProof.Rows.Boot.«all» (Aa (BS (N':=["_law_one"]) (M:=[none]) (AC (by rfl)) rfl (Hs (K:=K) (pv 0)) (fun _ _ _ _ _=>Al (i:=0) (show (["_law_one"] : List Str).Nodup by decide +kernel) rfl (Or.inl rfl) (.inr rfl)) (Az rfl) (fun _ _ _ _ _=>AG) (fun _ _ _ _ _=>(Au c_law_num (hr.mono (by decide)) rfl (Aa (pv 0) Ac)))) Ac)))))))) (Ag (At DF)) AQ)
   (Ag (At (Au c_law_row_ok (hr.mono (by decide)) rfl (Aa (pv 0) Ac))))),?_⟩
  refine ⟨_,rfl,.ref a,"tuple",_,true,rfl,FV.tup hT,rfl,_,rfl,MQ ?_⟩
  refine ⟨_,rfl,a,_,rfl,.inr (SqT.of hT),_,rfl,rfl,_,rfl,?_⟩
  rw[ltm]
  refine D5 (fun g=>Jj ?_) (fun g=>?_)
  ·have g : ¬ (ns.length:Int)=n:=fun e=>by rw[e] at g;exact absurd g (by simp)
   have k:=k H (An.refl H)
   rw[decide_eq_false g,Bool.false_and] at k
   exact k
  ·have g:(ns.length:Int)=n:= by
    have g' : ¬ (!decide (V.int (ns.length:Int)=V.int n))=true:=g
    rw[Bool.not_eq_true,Bool.not_eq_false'] at g'
    exact V.int.inj (of_decide_eq_true g')
   rw[decide_eq_true g,Bool.true_and] at k
   refine ⟨_,rfl,a,rfl,⟨_,SqT.of hT⟩,Me (xs:=ns.map V.int) (fun i ys H4=>H4=H/\ys=(List.replicate i true).map V.bl) (Ak (by rw[ltm];lia)) ⟨rfl,rfl⟩
    (fun i ys H4 _ ⟨e,e2⟩=>⟨by rw[e];exact SqT.of hT,by rw[e2,List.length_map,List.length_replicate];exact Nat.le_refl _⟩) ?_ ?_⟩
   ·rintro i y ys H4 hi ⟨rfl,rfl⟩
    obtain ⟨z,rfl,hz,hil⟩:=Lf hi
    refine lcN ?_
    refine ⟨_,rfl,z,rfl,rfl,?_⟩
    rw[List.replicate_succ',List.map_append];rfl
   ·rintro ys H4 ⟨rfl,rfl⟩ p hp
    refine ⟨p,_,rfl,.inl (SqL.of Ab),_,rfl,?_⟩
    rw[show (List.replicate (List.map V.int ns).length true).all id=true by simp]
    refine MQ ?_
    exact ⟨_,rfl,a,ns,rfl,(An.new hp).seqT (SqT.of hT),hl,fun H5 s5=>k H5 ((An.new hp).trans s5)⟩
theorem IV : Aq (["_law_cell_here","_law_size","_law_row","_law_cap","_law_way_here","_law_one"]) (["_law_cell_here","_law_size"]) (Ai Ec):=by trivial
theorem IY {f : Addr} {fd : FuncData} (F : Fun K "_law_way" "_law_way" Ec f fd) (B : Bs mg) (T : Gs mg)   (c_law_draw : Cal P w K mg base 1 "_law_draw" [] (Ig K)) : BQ P w K mg base CX0 2 f fd ["_law_cell_here","_law_size"] (MV K):= by
 have sc:=IV
 refine F.ok sc (fun vs H Q E h=>?_) (fun cdv A outer s H vs Q E hr h=>?_)
 ·obtain ⟨c,n,rfl,_⟩:=h;rfl
 ·obtain ⟨c,n,rfl,hn1,hn9,k⟩:=h
  refine ⟨_,(Ae (Av (i:=2) sc.nd rfl (Or.inl rfl) (Au c_law_draw (hr.mono (by decide)) rfl (Aa (pv 0) (Aa (Ap EW (Be (Aa Af Ac)) (BS (N':=["_law_k"]) (M:=[none]) (AC (by rfl)) rfl (AB rfl B.range (Aa (pv 1) Ac)) (fun _ _ _ _ _=>Al (i:=0) (show (["_law_k"] : List Str).Nodup by decide +kernel) rfl (Or.inl rfl) (.inr rfl)) (Az rfl) (fun _ _ _ _ _=>AG) (fun _ _ _ _ _=>(Ap AY (pv 0) Af)))) Ac))))
   (Ae (Av (i:=3) sc.nd rfl (Or.inl rfl) (BW (A7 (K:=K)) (Be (Aa Af (Aa Af (Aa Af (Aa Af Ac))))) (BW (A7 (K:=K)) (pv 2) Af (fun _ _=>rfl)) (fun _ _=>rfl)))
   (Ae (Av (i:=4) sc.nd rfl (Or.inl rfl) (Be Ac))
   (Ae (Bq PassesOwn.never rfl (AA (K:=K) (De (DN (K:=K)) (pv 2) (DZ Af) D2)) (Al (i:=5) sc.nd rfl (Or.inl rfl))
   (Ag (BM (DA (K:=K) PySem.F.plainAttrs_list PySem.F.slot_list_append PySem.F.type_list_append BV (pv 4) (Aa (Aj HK (by rfl) B.min PyProof.Rows.Boot.«min» (Aa (Ap GT (pv 3) Af) (Aa (Ap Cj (pv 5) (Ap AY (Aj (D9 (K:=K)) (by rfl) B.max PyProof.Rows.Boot.«max» (Aa (Ap EW (Be (Aa (OG Mi Af) Ac)) (pv 4)) Ac)) Af)) Ac))) Ac)))))
   (Ag (At (D1 (HY (K:=K)) (by rfl) B.tuple PyProof.Rows.Boot.«tuple» (Aa (pv 4) Ac)))))))),?_⟩
  refine ⟨_,rfl,Ak (by decide),fun p hp=>⟨_,rfl,_,rfl,by lia,by lia,?_⟩⟩
  refine Bn (fun i ys H2=>H2=upd H p (.lst [.int 4])/\ys=(List.range i).map fun (j:Nat)=>V.int (0+(j:Int)+1)) (Ak (by lia)) ⟨rfl,rfl⟩ (fun i ys H2 _ h=>by rw[h.2,List.length_map,List.length_range];exact Nat.le_refl _) ?_ ?_
  ·rintro i ys H2 hi ⟨rfl,rfl⟩
   refine lcN ?_
   exact ⟨_,rfl,_,_,rfl,rfl,rfl,DQ (fun (j:Nat)=>V.int (0+(j:Int)+1)) i⟩
  rintro ys H2 ⟨rfl,rfl⟩ q hq
  have hpq:p≠q:=Ad Ab hq
  refine ⟨p,q,_,_,rfl,rfl,by rw[Ah hpq,Ab],Ab,Ak (by rw[List.length_map,List.length_range];show 1+_<=_;lia),fun l hl=>?_⟩
  have sq:An H (upd (upd (upd H p (.lst [.int 4])) q (.lst ((List.range n.toNat).map fun (j:Nat)=>V.int (0+(j:Int)+1)))) l (.lst ([V.int 4]++(List.range n.toNat).map fun (j:Nat)=>V.int (0+(j:Int)+1)))):=((An.new hp).new2 hq).new2 hl
  refine ⟨c,l,4::(List.range n.toNat).map fun (j:Nat)=>0+(j:Int)+1,rfl,SqL.of (by rw[Ab,Pk];rfl),fun z hz=>?_,by rw[List.length_cons,List.length_map,List.length_range];lia,fun d rs H1 hd s1 hd1 hD=>?_⟩
  ·rcases List.mem_cons.mp hz with e | e
   ·rw[e];exact El (by decide) (by decide)
   ·obtain ⟨j,hj,rfl⟩:=List.mem_map.mp e
    have:=List.mem_range.mp hj
    exact El (by lia) (by lia)
  obtain ⟨r0,rs',rfl,hr0,hr1,hD'⟩:=hD.uncons
  have s1':An H H1:=sq.trans s1
  have hrl:rs'.length=n.toNat:=by have:=hD'.length;rw[List.length_map,List.length_range] at this;exact this.symm
  refine ⟨Ak (by decide),fun e he=>⟨_,rfl,d,_,_,_,rfl,rfl,SqL.of ((An.new he) d _ hd1),KQ (i:=0) (by decide) rfl,?_⟩⟩
  obtain ⟨cap,hcap,hc2⟩ : ∃ cap:Int,atI [V.int 9,V.int 2,V.int 3,V.int 9] r0=some (V.int cap)/\2<=cap:= by
   have:r0=0\/r0=1\/r0=2\/r0=3:=by lia
   rcases this with rfl | rfl | rfl | rfl
   ·exact ⟨9,rfl,by decide⟩
   ·exact ⟨2,rfl,by decide⟩
   ·exact ⟨3,rfl,by decide⟩
   ·exact ⟨9,rfl,by decide⟩
  refine ⟨e,_,_,_,rfl,rfl,SqL.of Ab,hcap,?_⟩
  refine ⟨Nat.zero_le _,fun u hu=>?_⟩
  generalize hH2:upd H1 e (.lst [V.int 9,V.int 2,V.int 3,V.int 9])=H2 at hu ⊢
  have s2:An H1 H2:=by rw[<- hH2];exact An.new he
  refine ⟨_,rfl,_,rfl,d,_,rfl,SqL.of (An.new hu d _ (s2 d _ hd1)),fun v hv=>?_⟩
  have huv:u≠v:=Ad Ab hv
  have e3:DE ((r0::rs').map V.int) (some 1) none=rs'.map V.int:=Dv (r0::rs') 1
  rw[e3]
  refine ⟨v,rfl,⟨_,SqL.of Ab⟩,BN (K:=K) (a:=v) (xs:=rs'.map V.int) (fun i σ H4=>∃ (ws:List Int) (o:Option V),σ=[some (.int c),some (.int n),some (.ref d),some (.int cap),some (.ref u),o]/\An H H4/\H4 v=some (.lst (rs'.map V.int))/\H4 u=some (.lst (ws.map V.int))/\ws.length=i/\AF 0 ws=true)
   ⟨[],none,rfl,(((s1'.trans s2).new2 hu).new2 hv),Ab,by rw[Ah huv,Ab];rfl,rfl,rfl⟩ (fun i σ H4 _ ⟨_,_,_,_,z,_⟩=>SqL.of z) ?_ ?_⟩
  ·rintro i y σ H4 hi ⟨ws,o,rfl,s4,hv4,hu4,hwl,hw⟩
   obtain ⟨one,rfl,hone,hil⟩:=Lf hi
   have huH:H u=none:=(s1'.trans s2).free hu
   refine ⟨_,rfl,.inl ⟨rfl,_,SqL.of hu4⟩,_,rfl,_,_,rfl,rfl,_,rfl,_,rfl,Ak (by decide),fun t ht=>?_⟩
   have htu:u≠t:=Ad hu4 ht
   refine ⟨_,rfl,t,u,_,_,rfl,rfl,Ab,by rw[Ah htu];exact hu4,Ak (by rw[ltm];show 1+_<=_;lia),fun t2 ht2=>?_⟩
   have ht2u:u≠t2:= by
    have:upd H4 t (HO.lst [V.int (-1)]) u=some (.lst (ws.map V.int)):=by rw[Ah htu];exact hu4
    exact Ad this ht2
   refine ⟨t2,-1::ws,rfl,.inl (SqL.of Ab),(by simp),fun m hm=>?_⟩
   have em:m=fresh 0 ws-1:=hm.uniq (C0 ws hw)
   have fp:0<=fresh 0 ws:=by have:=(C0 ws hw).2 (-1) List.mem_cons_self;lia
   refine ⟨_,_,rfl,rfl,_,_,rfl,rfl,(by show 0<m+2;lia),_,_,rfl,?_⟩
   have hmod:=MC one (show 0<m+2 by lia)
   have hval : ∃ z:Int,(if one % (m+2)<cap-1 then one % (m+2) else cap-1)=z/\0<=z/\z<=fresh 0 ws:= by
    refine ⟨_,rfl,?_,?_⟩ <;> split <;> lia
   obtain ⟨z,hz,hz0,hz1⟩:=hval
   rw[hz]
   refine ⟨u,_,_,rfl,rfl,by rw[Ah ht2u,Ah htu];exact hu4,Cz (by rw[ltm];lia),?_⟩
   refine ⟨ws++[z],_,rfl,((s4.new2 ht).new2 ht2).put huH,?_,by rw[Ab,L4],by rw[List.length_append,hwl];rfl,?_⟩
   ·have hvt:v≠t:=Ad hv4 ht
    have hvt2:v≠t2:=Ad (show upd H4 t (HO.lst [V.int (-1)]) v=some _ by rw[Ah hvt];exact hv4) ht2
    rw[Ah huv.symm,Ah hvt2,Ah hvt];exact hv4
   ·rw[AX,hw,decide_eq_true hz0,decide_eq_true hz1];rfl
  ·rintro σ H4 ⟨ws,o,rfl,s4,hv4,hu4,hwl,hw⟩
   rw[ltm] at hwl
   refine ⟨_,rfl,u,_,rfl,.inl ⟨SqL.of hu4,fun l2 hl2=>?_⟩⟩
   refine k l2 ws _ (s4.free hl2) (s4.new2 hl2) Ab (by rw[hwl,hrl]) ?_
   unfold As
   rw[hw,decide_eq_true (show 1<=ws.length by lia),decide_eq_true (show ws.length<=9 by lia)];rfl
theorem IE : Aq (["_law_size","_law_rows","_law_step","_law_longer","_law_row"]) (["_law_size"]) (Ai Ew):=by trivial
theorem I8 {f : Addr} {fd : FuncData} (F : Fun K "_law_all" "_law_all" Ew f fd) (B : Bs mg) (T : Gs mg)    : BQ P w K mg base CX0 1 f fd ["_law_size"] (Nn K):= by
 have sc:=IE
 refine F.ok sc (fun vs H Q E h=>?_) (fun cdv A outer s H vs Q E hr h=>?_)
 ·obtain ⟨n,rfl,_⟩:=h;rfl
 ·obtain ⟨n,rfl,h1,h6,k⟩:=h
  refine ⟨_,(Ae (Av (i:=1) sc.nd rfl (Or.inl rfl) (Be (Aa (GG (Aa Af Ac)) Ac)))
   (Ae (Bq PassesOwn.never rfl (AB rfl B.range (Aa (Ap GT (pv 0) Af) Ac)) (Al (i:=2) sc.nd rfl (Or.inl rfl))
   (Ae (Av (i:=3) sc.nd rfl (Or.inl rfl) (Be Ac))
   (Ae (Bq PassesOwn.never rfl (AA (K:=K) (pv 1)) (Al (i:=4) sc.nd rfl (Or.inr rfl))
   (Ag (BM (DA (K:=K) PySem.F.plainAttrs_list PySem.F.slot_list_extend PySem.F.type_list_extend Gx (pv 3) (Aa (BS (N':=["_law_lot","_law_row"]) (M:=[none,some 4]) (AC (by rfl)) rfl (AB rfl B.range (Aa (Ap AY (Aj (D9 (K:=K)) (by rfl) B.max PyProof.Rows.Boot.«max» (Aa (pv 4) Ac)) Af) Ac)) (fun _ _ _ _ _=>Al (i:=0) (show (["_law_lot","_law_row"] : List Str).Nodup by decide +kernel) rfl (Or.inl rfl) (.inr rfl)) (Az rfl) (fun _ _ _ _ _=>AG) (fun _ _ _ _ _=>(Ap (MO (K:=K)) (pv 1) (GG (Aa (pv 0) Ac))))) Ac)))))
   (Ag (Av (i:=1) sc.nd rfl (Or.inl rfl) (pv 3))))))
   (Ag (At (pv 1))))),?_⟩
  refine ⟨Ak (by simp),fun t ht=>⟨Ak (by simp),fun p hp=>?_⟩⟩
  have htp:t≠p:=Ad Ab hp
  refine ⟨_,rfl,_,_,rfl,rfl,_,rfl,by lia,by lia,BX (lo:=0) (n:=(n-1).toNat) (fun i σ H2=>∃ (r:Addr) (ps:List Addr) (o1 o2 o3:Option V),σ=[some (.int n),some (.ref r),o1,o2,o3]/\An H H2/\H2 r=some (.lst (ps.map V.ref))/\Paired (fun a row=>SqT K H2 a (row.map V.int)) ps (Bk i))
   ⟨p,[t],none,none,none,rfl,(An.new ht).new2 hp,Ab,.cons (SqT.of (by rw[Ah htp,Ab];rfl)) .nil⟩ ?_ ?_⟩
  ·rintro i σ H2 hi ⟨r,ps,o1,o2,o3,rfl,s2,hr',hP⟩
   obtain ⟨hl203,hfine⟩:=Iu (m:=i) (by lia)
   have hl203':=(Iu (m:=i+1) (by lia)).1
   have hpl:ps.length=(Bk i).length:=hP.length
   refine ⟨Nat.zero_le _,fun lg hlg=>?_⟩
   have hrl:r≠lg:=Ad hr' hlg
   have hlgH:H lg=none:=s2.free hlg
   have hlg2:H2 lg=none:=hlg
   refine ⟨_,rfl,r,rfl,⟨_,SqL.of (by rw[Ah hrl];exact hr')⟩,BN (K:=K) (a:=r) (xs:=ps.map V.ref) (fun j σ H3=>∃ (qs:List Addr) (o:Option V),σ=[some (.int n),some (.ref r),some (.int (0+(i:Int))),some (.ref lg),o]/\An H2 H3/\H3 lg=some (.lst (qs.map V.ref))/\Paired (fun a row=>SqT K H3 a (row.map V.int)) qs (((Bk i).take j).flatMap Jm))
    ⟨[],o3,rfl,An.new hlg,Ab,.nil⟩ (fun j σ H3 _ ⟨_,_,_,s3,_⟩=>SqL.of (s3 r _ hr')) ?_ ?_⟩
   ·rintro j y σ H3 hj ⟨qs,o,rfl,s3,hlg3,hQ⟩
    obtain ⟨a,rfl,haj⟩ : ∃ a,y=V.ref a/\ps[j]?=some a:= by
     rw[List.getElem?_map] at hj
     cases e:ps[j]? with
     | none=>rw[e] at hj;cases hj
     | some a=>rw[e] at hj;exact ⟨a,(Option.some.inj hj).symm,rfl⟩
    obtain ⟨row,hrow,hrj⟩ : ∃ row,SqT K H2 a (row.map V.int)/\(Bk i)[j]?=some row:= by
     have hjl:j<ps.length:=(List.getElem?_eq_some_iff.mp haj).1
     exact AN hP haj
    obtain ⟨rne,rl6,rm0,rm5⟩:=hfine row (List.mem_of_getElem? hrj)
    have hrow3:=s3.seqT hrow
    have hql:=hQ.length
    have hbound:(((Bk i).take j).flatMap Jm).length<=203:=Nat.le_trans (KF Jm (Bk i) j) hl203'
    have hbound2:(((Bk i).take (j+1)).flatMap Jm).length<=203:=Nat.le_trans (KF Jm (Bk i) (j+1)) hl203'
    have ets:((Bk i).take (j+1)).flatMap Jm=((Bk i).take j).flatMap Jm++Jm row:= by
     rw[Aw hrj,List.flatMap_append];simp
    refine ⟨_,rfl,.inl ⟨rfl,_,SqL.of hlg3⟩,_,rfl,a,row,rfl,.inr hrow3,rne,fun m hm=>⟨_,_,rfl,rfl,_,rfl,?_,?_,?_⟩⟩
    ·rw[hm.eq];lia
    ·rw[hm.eq];lia
    have emm:=hm.eq
    subst emm
    refine Bn (fun b ys H4=>An H3 H4 /\ ∃ as:List Addr,ys=as.map V.ref/\as.length=b/\Paired (fun a rw'=>SqT K H4 a (rw'.map V.int)) as ((List.range b).map fun (c:Nat)=>row++[(c:Int)])) (Ak (by lia)) ⟨An.refl _,[],rfl,rfl,.nil⟩ (fun b ys H4 _ h=>by obtain ⟨_,as,e,e2,_⟩:=h;rw[e,List.length_map,e2];exact Nat.le_refl _) ?_ ?_
    ·rintro b ys H4 hb ⟨s4,as,rfl,hal,hA⟩
     rw[Int.zero_add]
     refine lcN ?_
     refine ⟨_,rfl,_,rfl,Ak (by simp),fun u hu=>?_⟩
     refine ⟨a,u,_,_,rfl,rfl,(An.new hu).seqT (s4.seqT hrow3),SqT.of Ab,Ak (by rw[ltm];show _+1<=_;lia),fun v H5 s5 hv=>?_⟩
     refine ⟨s4.trans ((An.new hu).trans s5),as++[v],by rw[List.map_append];rfl,by rw[List.length_append,hal];rfl,?_⟩
     rw[<- DQ (fun (c:Nat)=>row++[(c:Int)]) b]
     refine Paired.snoc (L2.Paired.mapP hA fun a' rw' z=>((An.new hu).trans s5).seqT z) ?_
     rw[List.map_append];exact hv
    ·rintro ys H4 ⟨s4,as,rfl,hal,hA⟩ u hu
     have hlg4:=s4 lg _ hlg3
     have hlu:lg≠u:=Ad hlg4 hu
     have hQ4:Paired (fun a row=>SqT K (upd H4 u (HO.lst (as.map V.ref))) a (row.map V.int)) (qs++as) (((Bk i).take (j+1)).flatMap Jm):= by
      rw[ets]
      exact By (L2.Paired.mapP hQ fun a' rw' z=>(s4.new2 hu).seqT z) (L2.Paired.mapP hA fun a' rw' z=>(An.new hu).seqT z)
     have hlen2:=hQ4.length
     have hlg5:upd H4 u (HO.lst (as.map V.ref)) lg=some (.lst (qs.map V.ref)):=by rw[Ah hlu];exact hlg4
     refine ⟨lg,u,_,_,rfl,rfl,hlg5,Ab,Ak (by rw[List.length_map,List.length_map];rw[List.length_append] at hlen2;lia),?_⟩
     refine ⟨qs++as,_,rfl,?_,by rw[Ab,List.map_append],L2.Paired.mapP hQ4 fun a' rw' z=>z.put hlg5⟩
     exact (s3.trans (s4.new2 hu)).put hlg2
   ·rintro σ H3 ⟨qs,o,rfl,s3,hlg3,hQ⟩
    rw[List.length_map,hpl,List.take_length] at hQ
    exact ⟨_,rfl,lg,qs,_,_,_,rfl,s2.trans s3,hlg3,hQ⟩
  ·rintro σ H2 ⟨r,ps,o1,o2,o3,rfl,s2,hr',hP⟩
   rw[show (n-1).toNat=n.toNat-1 by lia] at hP
   exact ⟨_,rfl,k r ps H2 s2 hr' hP⟩
theorem Gg : Aq (["_law_size","_law_found","_law_k"]) (["_law_size"]) (Ai Cw):=by trivial
theorem GM {f : Addr} {fd : FuncData} (F : Fun K "_law_pairs" "_law_pairs" Cw f fd) (B : Bs mg) (T : Gs mg)    : BQ P w K mg base CX0 1 f fd ["_law_size"] (Hm K):= by
 have sc:=Gg
 refine F.ok sc (fun vs H Q E h=>?_) (fun cdv A outer s H vs Q E hr h=>?_)
 ·obtain ⟨n,rfl,_⟩:=h;rfl
 ·obtain ⟨n,rfl,h0,h9,k⟩:=h
  refine ⟨_,(Ae (Av (i:=1) sc.nd rfl (Or.inl rfl) (Be Ac))
   (Ae (Bq PassesOwn.never rfl (AB rfl B.range (Aa (pv 0) Ac)) (Al (i:=2) sc.nd rfl (Or.inr rfl))
   (Ag (BM (DA (K:=K) PySem.F.plainAttrs_list PySem.F.slot_list_extend PySem.F.type_list_extend Gx (pv 1) (Aa (BS (N':=["_law_j","_law_k"]) (M:=[none,some 2]) (AC (by rfl)) rfl (AB rfl B.range (Aa (pv 2) Ac)) (fun _ _ _ _ _=>Al (i:=0) (show (["_law_j","_law_k"] : List Str).Nodup by decide +kernel) rfl (Or.inl rfl) (.inr rfl)) (Az rfl) (fun _ _ _ _ _=>AG) (fun _ _ _ _ _=>(GG (Aa (pv 0) (Aa (pv 1) Ac))))) Ac)))))
   (Ag (At (pv 1))))),?_⟩
  refine ⟨Nat.zero_le _,fun p hp=>?_⟩
  refine ⟨_,rfl,_,rfl,by lia,by lia,BX (lo:=0) (n:=n.toNat) (fun i σ H2=>∃ (ps:List Addr) (o:Option V),σ=[some (.int n),some (.ref p),o]/\An H H2/\H2 p=some (.lst (ps.map V.ref))/\Paired (fun a q=>SqT K H2 a [.int ((q.1:Nat):Int),.int ((q.2:Nat):Int)]) ps (BE i))
   ⟨[],none,rfl,An.new hp,Ab,.nil⟩ ?_ ?_⟩
  ·rintro i σ H2 hi ⟨ps,o,rfl,s2,hp2,hP⟩
   have hpl:=hP.length
   have hb:=CW i
   have hb':i*i<=81:=Nat.mul_le_mul (show i<=9 by lia) (show i<=9 by lia)
   refine ⟨_,rfl,.inl ⟨rfl,_,SqL.of hp2⟩,_,rfl,_,rfl,by lia,by lia,?_⟩
   rw[show ((0:Int)+(i:Int)).toNat=i by lia]
   refine Bn (fun b ys H4=>An H2 H4 /\ ∃ as:List Addr,ys=as.map V.ref/\as.length=b/\Paired (fun a (q:Nat × Nat)=>SqT K H4 a [.int ((q.1:Nat):Int),.int ((q.2:Nat):Int)]) as ((List.range b).map fun j=>(j,i))) (Ak (by lia)) ⟨An.refl _,[],rfl,rfl,.nil⟩ (fun b ys H4 _ h=>by obtain ⟨_,as,e,e2,_⟩:=h;rw[e,List.length_map,e2];exact Nat.le_refl _) ?_ ?_
   ·rintro b ys H4 hb ⟨s4,as,rfl,hal,hA⟩
    refine lcN ?_
    refine ⟨_,rfl,_,rfl,Ak (by simp),fun u hu=>⟨s4.new2 hu,as++[u],by rw[List.map_append];rfl,by rw[List.length_append,hal];rfl,?_⟩⟩
    rw[List.range_succ,List.map_append]
    refine Paired.snoc (L2.Paired.mapP hA fun a' q z=>(An.new hu).seqT z) (SqT.of ?_)
    rw[Ab,Int.zero_add,Int.zero_add]
   ·rintro ys H4 ⟨s4,as,rfl,hal,hA⟩ u hu
    have hp4:=s4 p _ hp2
    have hpu:p≠u:=Ad hp4 hu
    have hpH:H p=none:=hp
    have hp5:upd H4 u (HO.lst (as.map V.ref)) p=some (.lst (ps.map V.ref)):=by rw[Ah hpu];exact hp4
    have hQ:Paired (fun a (q:Nat × Nat)=>SqT K (upd H4 u (HO.lst (as.map V.ref))) a [.int ((q.1:Nat):Int),.int ((q.2:Nat):Int)]) (ps++as) (BE (i+1)):= by
     rw[ED]
     exact By (L2.Paired.mapP hP fun a' q z=>(s4.new2 hu).seqT z) (L2.Paired.mapP hA fun a' q z=>(An.new hu).seqT z)
    refine ⟨p,u,_,_,rfl,rfl,hp5,Ab,Ak (by rw[List.length_map,List.length_map];lia),?_⟩
    exact ⟨ps++as,_,rfl,(s2.trans (s4.new2 hu)).put hpH,by rw[Ab,List.map_append],L2.Paired.mapP hQ fun a' q z=>z.put hp5⟩
  ·rintro σ H2 ⟨ps,o,rfl,s2,hp2,hP⟩
   exact ⟨_,rfl,k p ps H2 s2 hp2 hP⟩
theorem G4 : Aq (["_law_way_here"]) (["_law_way_here"]) (Ai Dq):=by trivial
theorem Hx {f : Addr} {fd : FuncData} (F : Fun K "_law_lots" "_law_lots" Dq f fd) (B : Bs mg) (T : Gs mg)    : BQ P w K mg base CX0 1 f fd ["_law_way_here"] (G2 K):= by
 have sc:=G4
 refine F.ok sc (fun vs H Q E h=>?_) (fun cdv A outer s H vs Q E hr h=>?_)
 ·obtain ⟨a,ws,rfl,_⟩:=h;rfl
 ·obtain ⟨a,ws,rfl,hS,hw,k⟩:=h
  refine ⟨_,(Ag (At (NQ (N':=["_law_lot","_law_way_here"]) (M:=[none,some 0]) (L7 (by rfl)) rfl (AB rfl B.range (Aa (Ap AY (Aj (D9 (K:=K)) (by rfl) B.max PyProof.Rows.Boot.«max» (Aa (pv 0) Ac)) Af) Ac)) (fun _ _ _ _ _=>Al (i:=0) (show (["_law_lot","_law_way_here"] : List Str).Nodup by decide +kernel) rfl (Or.inr rfl) (.inl rfl)) (Az rfl) (fun _ _ _ _ _=>AG) (fun _ _ _ _ _=>(Oc (N':=["_law_k","_law_lot","_law_way_here"]) (M:=[none,some 0,some 1]) (AC (by rfl)) rfl (AB rfl B.range (Aa (Aj (Bb (K:=K)) (by rfl) B.len PyProof.Rows.Boot.«len» (Aa (pv 1) Ac)) Ac)) (fun _ _ _ _ _=>Al (i:=0) (show (["_law_k","_law_lot","_law_way_here"] : List Str).Nodup by decide +kernel) rfl (Or.inl rfl) (.inr rfl)) (Az rfl) (fun _ _ _ _ _=>FE (AT G8 (BW (Ck (K:=K)) (pv 2) (pv 0) (fun _ _=>rfl)) (pv 1) (A2 _))) (fun _ _ _ _ _=>(pv 0))))))),?_⟩
  obtain ⟨w1,w9,w0⟩:=Am.mp hw
  have wne:ws≠[]:=fun e=>by rw[e] at w1;simp at w1
  have f0:=(AL w0 wne).1
  have fl:=Bf ws
  refine ⟨_,rfl,a,ws,rfl,.inr hS,wne,fun m hm=>⟨_,_,rfl,rfl,_,rfl,?_,?_,?_⟩⟩
  ·have:=hm.uniq (AL w0 wne).2;lia
  ·have:=hm.uniq (AL w0 wne).2;lia
  have em:m+1=fresh 0 ws:=by have:=hm.uniq (AL w0 wne).2;lia
  rw[em]
  refine Bn (n:=(fresh 0 ws).toNat) (fun j ys H4=>An H H4 /\ ∃ qs:List Addr,ys=qs.map V.ref/\qs.length=j /\ ∀ (k:Nat) q,qs[k]?=some q->H4 q=some (.lst ((BR ws (k:Int) ws.length).map V.int))) (Ak (by lia)) ⟨An.refl _,[],rfl,rfl,fun k q h=>by simp at h⟩
   (fun j ys H4 _ h=>by obtain ⟨_,qs,e,e2,_⟩:=h;rw[e,List.length_map,e2];exact Nat.le_refl _) ?_ ?_
  ·rintro j ys H4 hj ⟨s4,qs,rfl,hql,hqs⟩
   refine lcN ?_
   have hS4:=s4.seqT hS
   refine ⟨_,rfl,a,_,rfl,.inr hS4,_,rfl,by lia,by rw[ltm];lia,?_⟩
   rw[ltm,Int.toNat_natCast]
   refine Bn (fun b zs H5=>H5=H4/\zs=(BR ws (j:Int) b).map V.int) (Ak (by lia)) ⟨rfl,rfl⟩ (fun b zs H5 _ h=>by rw[h.2,ltm,Cp];exact Bw ws (j:Int) b) ?_ ?_
   ·rintro b zs H5 hb ⟨rfl,rfl⟩
    have a1:=D8 (ns:=ws) (i:=(0:Int)+(b:Int)) (by lia) (by lia)
    rw[show ((0:Int)+(b:Int)).toNat=b by lia] at a1
    refine ⟨_,rfl,_,rfl,a,_,_,_,rfl,rfl,hS4,a1,_,rfl,rfl,_,rfl,?_⟩
    rw[GP]
    refine D5 (fun g=>⟨_,rfl,rfl,?_⟩) (fun g=>⟨rfl,?_⟩)
    ·have g:ws.getD b 0=0+(j:Int):=V.int.inj (of_decide_eq_true g)
     rw[if_pos (by lia),L4,Int.zero_add]
    ·have g : ¬ ws.getD b 0=0+(j:Int):=fun e=>g (decide_eq_true (congrArg V.int e))
     rw[if_neg (by lia)]
   ·rintro zs H5 ⟨rfl,rfl⟩ t ht
    refine ⟨s4.new2 ht,qs++[t],by rw[List.map_append];rfl,by rw[List.length_append,hql];rfl,fun k q' hk=>?_⟩
    by_cases e:k<qs.length
    ·rw[List.getElem?_append_left e] at hk
     exact An.new ht q' _ (hqs k q' hk)
    ·have hkl:k<(qs++[t]).length:=(List.getElem?_eq_some_iff.mp hk).1
     rw[List.length_append] at hkl
     have ek:k=qs.length:=by simp at hkl;lia
     subst ek
     rw[List.getElem?_append_right (Nat.le_refl _),Nat.sub_self] at hk
     have:t=q':=by simpa using hk
     subst this
     rw[Ab,hql]
  ·rintro ys H4 ⟨s4,qs,rfl,hql,hqs⟩ p hp
   exact k p qs _ (s4.new2 hp) Ab hql (fun k q hk=>An.new hp q _ (hqs k q hk))
theorem GV : Aq (["_law_cell_here","_law_parts","_law_wide","_law_side","_law_size","_law_found","_law_big","_law_k"]) (["_law_cell_here","_law_parts","_law_wide"]) (Ai A5):=by trivial
theorem Dw {f : Addr} {fd : FuncData} {ds : List Value} (F : Np K "_law_split" "_law_split" A5 f fd ds) (B : Bs mg) (T : Gs mg)    : BQ P w K mg base CX0 1 f fd ["_law_cell_here","_law_parts","_law_wide"] E7:= by
 have sc:=GV
 refine F.ok sc (fun vs H Q E h=>?_) (fun cdv A outer s H vs Q E hr h=>?_)
 ·obtain ⟨c,n,w,rfl,_⟩:=h;rfl
 ·obtain ⟨c,n,wd,rfl,hn0,hn1,hw0,hw2,k⟩:=h
  refine ⟨_,(Ae (Av (i:=3) sc.nd rfl (Or.inl rfl) (Ap AU (Ap E4 Af Af) (Ap E4 Af Af)))
   (Ae (Av (i:=4) sc.nd rfl (Or.inl rfl) (BW (A7 (K:=K)) (Be (Aa (Ap E4 Af Af) (Aa (pv 3) (Aa (Ap AU (Ap AU (Ap AU (pv 3) (pv 3)) (pv 3)) (pv 3)) Ac)))) (pv 2) (fun _ _=>rfl)))
   (Ae (Av (i:=5) sc.nd rfl (Or.inl rfl) (Be Ac))
   (Ae (Av (i:=6) sc.nd rfl (Or.inl rfl) (Ea Ob (pv 0) (Ap E4 Af Af) (A2 _)))
   (Ae (Bq PassesOwn.never rfl (AB rfl B.range (Aa (pv 1) Ac)) (Al (i:=7) sc.nd rfl (Or.inl rfl))
   (Ag (BZ (CF (pv 6)) (Ae (BM (DA (K:=K) PySem.F.plainAttrs_list PySem.F.slot_list_append PySem.F.type_list_append BV (pv 5) (Aa (Ap AY (Ap E4 Af Af) (Ap Cj (pv 0) (pv 4))) Ac)))
   (Ag (Av (i:=0) sc.nd rfl (Or.inl rfl) (Ap Fu (pv 0) (pv 4))))) (Ag (BM (DA (K:=K) PySem.F.plainAttrs_list PySem.F.slot_list_append PySem.F.type_list_append BV (pv 5) (Aa (Ap AY (Ap AU (pv 0) (Ap AY (Ap AU Af (pv 7)) Af)) (Ap AU Af (pv 7))) Ac)))))))
   (Ag (At (pv 5)))))))),?_⟩
  refine ⟨_,_,rfl,rfl,⟨by decide,by decide,by decide⟩,_,_,rfl,rfl,⟨by decide,by decide,by decide⟩,_,_,rfl,rfl,DH (by decide +kernel),?_⟩
  refine ⟨_,_,rfl,rfl,⟨by decide,by decide,by decide⟩,_,rfl,_,rfl,_,rfl,_,_,rfl,rfl,DH (by decide +kernel),_,rfl,_,_,rfl,rfl,DH (by decide +kernel),_,rfl,_,_,rfl,rfl,DH (by decide +kernel),Ak (by decide),fun e he=>?_⟩
  obtain ⟨S,hS,hL⟩ : ∃ S:Int,atI [V.int (10 ^ (30:Int).toNat),V.int (10 ^ (60:Int).toNat*10 ^ (60:Int).toNat),V.int (10 ^ (60:Int).toNat*10 ^ (60:Int).toNat*(10 ^ (60:Int).toNat*10 ^ (60:Int).toNat)*(10 ^ (60:Int).toNat*10 ^ (60:Int).toNat)*(10 ^ (60:Int).toNat*10 ^ (60:Int).toNat))] wd=some (V.int S)/\L6 S:= by
   have:wd=0\/wd=1\/wd=2:=by lia
   rcases this with rfl | rfl | rfl
   ·exact ⟨_,rfl,by decide +kernel,by decide +kernel⟩
   ·exact ⟨_,rfl,by decide +kernel,by decide +kernel⟩
   ·exact ⟨_,rfl,by decide +kernel,by decide +kernel⟩
  refine ⟨_,rfl,e,_,_,_,rfl,rfl,SqL.of Ab,hS,?_⟩
  refine ⟨Nat.zero_le _,fun p hp=>?_⟩
  refine ⟨_,rfl,_,_,rfl,rfl,⟨by decide,by decide,by decide⟩,_,_,rfl,rfl,?_⟩
  have hpH:H p=none:=(An.new he).free hp
  refine ⟨_,rfl,_,rfl,by lia,by lia,BX (lo:=0) (n:=n.toNat) (fun i σ H2=>∃ (c':Int) (rs:List Int) (o:Option V),σ=[some (.int c'),some (.int n),some (.int wd),some (.int (10 ^ (60:Int).toNat*10 ^ (60:Int).toNat)),some (.int S),some (.ref p),some (.bl (decide ((10:Int) ^ (18:Int).toNat<=c))),o]/\An H H2/\H2 p=some (.lst (rs.map V.int))/\rs.length=i)
   ⟨c,[],none,rfl,(An.new he).new2 hp,Ab,rfl⟩ ?_ ?_⟩
  ·rintro i σ H2 hi ⟨c',rs,o,rfl,s2,hp2,hl⟩
   refine ⟨_,rfl,_,rfl,?_⟩
   refine D5 (fun _=>?_) (fun _=>?_)
   ·refine ⟨_,rfl,.inl ⟨rfl,_,SqL.of hp2⟩,_,_,rfl,rfl,⟨by decide,by decide,by decide⟩,_,rfl,_,rfl,_,_,rfl,rfl,hL.1,_,_,rfl,rfl,p,_,_,rfl,rfl,hp2,Cz (by rw[ltm];lia),?_⟩
    refine ⟨_,rfl,_,rfl,_,_,rfl,rfl,hL,?_⟩
    exact ⟨_,rs++[_],_,rfl,s2.put hpH,by rw[Ab,L4],by rw[List.length_append,hl];rfl⟩
   ·refine ⟨_,rfl,.inl ⟨rfl,_,SqL.of hp2⟩,_,rfl,_,rfl,_,_,rfl,rfl,KD ⟨by decide,by decide⟩,_,_,rfl,rfl,_,_,rfl,rfl,BK ⟨by lia,by lia⟩,_,rfl,_,_,rfl,rfl,KD ⟨by decide,by decide⟩,_,_,rfl,rfl,p,_,_,rfl,rfl,hp2,Cz (by rw[ltm];lia),?_⟩
    exact ⟨_,rs++[_],_,rfl,s2.put hpH,by rw[Ab,L4],by rw[List.length_append,hl];rfl⟩
  ·rintro σ H2 ⟨c',rs,o,rfl,s2,hp2,hl⟩
   exact ⟨_,rfl,k p rs H2 hpH s2 hp2 hl⟩
theorem CN : Aq (["_law_way_here"]) (["_law_way_here"]) (Ai A4):=by trivial
theorem CQ {f : Addr} {fd : FuncData} (F : Fun K "_law_alike_pairs" "_law_alike_pairs" A4 f fd) (B : Bs mg) (T : Gs mg)   (c_law_pairs : Cal P w K mg base 1 "_law_pairs" [] (Hm K)) : BQ P w K mg base CX0 2 f fd ["_law_way_here"] (Fz K):= by
 have sc:=CN
 refine F.ok sc (fun vs H Q E h=>?_) (fun cdv A outer s H vs Q E hr h=>?_)
 ·obtain ⟨a,ws,rfl,_⟩:=h;rfl
 ·obtain ⟨a,ws,rfl,hS,hl9,k⟩:=h
  refine ⟨_,(Ag (At (BS (N':=["_law_j","_law_k","_law_way_here"]) (M:=[none,none,some 0]) (AC (by rfl)) rfl (AA (K:=K) (Au c_law_pairs (hr.mono (by decide)) rfl (Aa (Aj (Bb (K:=K)) (by rfl) B.len PyProof.Rows.Boot.«len» (Aa (pv 0) Ac)) Ac))) (fun _ _ _ _ _=>Eb (K:=K) (n:=2) rfl (AS (Al (i:=0) (show (["_law_j","_law_k","_law_way_here"] : List Str).Nodup by decide +kernel) rfl (Or.inl rfl) (.inr rfl)) (AS (Al (i:=1) (show (["_law_j","_law_k","_law_way_here"] : List Str).Nodup by decide +kernel) rfl (Or.inl rfl) (.inr rfl)) Dh))) Fx (fun _ _ _ _ _=>FE (AT G8 (BW (Ck (K:=K)) (pv 2) (pv 0) (fun _ _=>rfl)) (BW (Ck (K:=K)) (pv 2) (pv 1) (fun _ _=>rfl)) (A2 _))) (fun _ _ _ _ _=>(GG (Aa (pv 0) (Aa (pv 1) Ac))))))),?_⟩
  refine ⟨_,rfl,a,_,rfl,.inr hS,?_⟩
  rw[ltm]
  refine ⟨_,rfl,by lia,by lia,fun p ps H2 s2 hp2 hP=>?_⟩
  rw[Int.toNat_natCast] at hP
  have hpl:=hP.length
  have hb:=CW ws.length
  have hb':ws.length*ws.length<=81:=Nat.mul_le_mul hl9 hl9
  refine ⟨p,rfl,⟨_,SqL.of hp2⟩,Bu (xs:=ps.map V.ref) (fun j ys H4=>An H2 H4 /\ ∃ as:List Addr,ys=as.map V.ref/\Paired (fun a (q:Nat × Nat)=>SqT K H4 a [.int ((q.1:Nat):Int),.int ((q.2:Nat):Int)]) as (((BE ws.length).take j).filter fun q=>decide (ws.getD q.1 0=ws.getD q.2 0))) (Ak (by rw[List.length_map];lia)) ⟨An.refl _,[],rfl,.nil⟩
   (fun j ys H4 hj ⟨s4,as,e,hA⟩=>⟨SqL.of (s4 p _ hp2),by rw[e,List.length_map,hA.length];exact Nat.le_trans (List.length_filter_le _ _) (by rw[List.length_take];lia)⟩) ?_ ?_⟩
  ·rintro j y ys H4 hj ⟨s4,as,rfl,hA⟩
   obtain ⟨pa,rfl,haj,_⟩:=BY hj
   obtain ⟨q,hq,hqj⟩:=AN hP haj
   have hq4:=s4.seqT hq
   obtain ⟨q1,q2⟩:=KG _ (List.mem_of_getElem? hqj)
   have a1:=D8 (ns:=ws) (i:=((q.1:Nat):Int)) (by lia) (by lia)
   have a2:=D8 (ns:=ws) (i:=((q.2:Nat):Int)) (by lia) (by lia)
   rw[Int.toNat_natCast] at a1 a2
   have hS4:=(s2.trans s4).seqT hS
   refine ⟨pa,_,rfl,hq4,rfl,_,_,rfl,_,_,rfl,rfl,?_⟩
   refine ⟨_,rfl,_,rfl,a,_,_,_,rfl,rfl,hS4,a1,_,rfl,_,rfl,a,_,_,_,rfl,rfl,hS4,a2,rfl,_,rfl,?_⟩
   rw[Aw hqj,List.filter_append]
   refine D5 (fun g=>?_) (fun g=>⟨s4,as,rfl,?_⟩)
   ·have g:ws.getD q.1 0=ws.getD q.2 0:=V.int.inj (of_decide_eq_true g)
    refine ⟨_,rfl,_,rfl,Ak (by simp),fun u hu=>⟨s4.new2 hu,as++[u],by rw[List.map_append];rfl,?_⟩⟩
    have:[q].filter (fun q=>decide (ws.getD q.1 0=ws.getD q.2 0))=[q]:=by rw[List.filter_cons,if_pos (decide_eq_true g)];rfl
    rw[this]
    exact Paired.snoc (L2.Paired.mapP hA fun a' q z=>(An.new hu).seqT z) (SqT.of Ab)
   ·have g : ¬ ws.getD q.1 0=ws.getD q.2 0:=fun e=>g (decide_eq_true (congrArg V.int e))
    have:[q].filter (fun q=>decide (ws.getD q.1 0=ws.getD q.2 0))=[]:=by rw[List.filter_cons,if_neg (fun z=>g (of_decide_eq_true z))];rfl
    rw[this,List.append_nil]
    exact hA
  ·rintro ys H4 ⟨s4,as,rfl,hA⟩ u hu
   rw[List.length_map,hpl,List.take_length] at hA
   exact k u as _ ((s2.trans s4).new2 hu) Ab (L2.Paired.mapP hA fun a' q z=>(An.new hu).seqT z)
theorem GC : Aq (["_law_one","_law_other"]) (["_law_one","_law_other"]) (Ai Cq):=by trivial
theorem GA {f : Addr} {fd : FuncData} (F : Fun K "_law_below" "_law_below" Cq f fd) (B : Bs mg) (T : Gs mg)   (c_law_alike_pairs : Cal P w K mg base 2 "_law_alike_pairs" [] (Fz K)) : BQ P w K mg base CX0 3 f fd ["_law_one","_law_other"] (G1 K):= by
 have sc:=GC
 refine F.ok sc (fun vs H Q E h=>?_) (fun cdv A outer s H vs Q E hr h=>?_)
 ·obtain ⟨a,b,ws,vs,rfl,_⟩:=h;rfl
 ·obtain ⟨a,b,ws,vs,rfl,hS,hT,hw,hv,hl,k⟩:=h
  refine ⟨_,(Ag (At (Aj (Es (K:=K)) (by rfl) B.all PyProof.Rows.Boot.«all» (Aa (BS (N':=["_law_j","_law_k","_law_other"]) (M:=[none,none,some 1]) (AC (by rfl)) rfl (AA (K:=K) (Au c_law_alike_pairs (hr.mono (by decide)) rfl (Aa (pv 0) Ac))) (fun _ _ _ _ _=>Eb (K:=K) (n:=2) rfl (AS (Al (i:=0) (show (["_law_j","_law_k","_law_other"] : List Str).Nodup by decide +kernel) rfl (Or.inl rfl) (.inr rfl)) (AS (Al (i:=1) (show (["_law_j","_law_k","_law_other"] : List Str).Nodup by decide +kernel) rfl (Or.inl rfl) (.inr rfl)) Dh))) Fx (fun _ _ _ _ _=>AG) (fun _ _ _ _ _=>(Ea G8 (BW (Ck (K:=K)) (pv 2) (pv 0) (fun _ _=>rfl)) (BW (Ck (K:=K)) (pv 2) (pv 1) (fun _ _=>rfl)) (A2 _)))) Ac)))),?_⟩
  obtain ⟨w1,w9,w0⟩:=Am.mp hw
  refine ⟨_,rfl,a,ws,rfl,hS,w9,fun p ps H2 s2 hp2 hP=>?_⟩
  have hpl:=hP.length
  have hb:=JH ws
  have hb':ws.length*ws.length<=81:=Nat.mul_le_mul w9 w9
  refine ⟨p,rfl,⟨_,SqL.of hp2⟩,Bu (xs:=ps.map V.ref) (fun j ys H4=>H4=H2/\ys=(((D4 ws).take j).map fun q=>decide (vs.getD q.1 0=vs.getD q.2 0)).map V.bl) (Ak (by rw[List.length_map];lia)) ⟨rfl,rfl⟩
   (fun j ys H4 hj ⟨e,e2⟩=>⟨by rw[e];exact SqL.of hp2,by rw[e2,List.length_map,List.length_map,List.length_take];lia⟩) ?_ ?_⟩
  ·rintro j y ys H4 hj ⟨rfl,rfl⟩
   obtain ⟨pa,rfl,haj,_⟩:=BY hj
   obtain ⟨q,hq,hqj⟩:=AN hP haj
   obtain ⟨q1,q2⟩:=K9 _ (List.mem_of_getElem? hqj)
   have a1:=D8 (ns:=vs) (i:=((q.1:Nat):Int)) (by lia) (by lia)
   have a2:=D8 (ns:=vs) (i:=((q.2:Nat):Int)) (by lia) (by lia)
   rw[Int.toNat_natCast] at a1 a2
   have hT4:=s2.seqT hT
   refine ⟨pa,_,rfl,hq,rfl,_,_,rfl,_,_,rfl,rfl,?_⟩
   refine lcY ?_
   refine ⟨_,rfl,_,rfl,b,_,_,_,rfl,rfl,hT4,a1,_,rfl,_,rfl,b,_,_,_,rfl,rfl,hT4,a2,rfl,rfl,?_⟩
   rw[Aw hqj,List.map_append,List.map_append]
   have:decide (V.int (vs.getD q.1 0)=V.int (vs.getD q.2 0))=decide (vs.getD q.1 0=vs.getD q.2 0):=decide_eq_decide.mpr ⟨fun e=>V.int.inj e,fun e=>congrArg V.int e⟩
   rw[this];rfl
  ·rintro ys H4 ⟨rfl,rfl⟩ u hu
   rw[List.length_map,hpl,List.take_length]
   refine ⟨u,_,rfl,.inl (SqL.of Ab),?_⟩
   refine k _ _ (s2.new2 hu) ?_
   rw[List.all_map,List.all_eq_true]
   constructor
   ·intro h i j hi hj e
    exact IM (L:=fun i=>vs.getD i 0) (fun q hq=>of_decide_eq_true (h q hq)) hi hj e
   ·intro h q hq
    have:=Ca.mp hq
    exact decide_eq_true (h q.1 q.2 (by lia) (by lia) this.2)
theorem EI : Aq (["_law_found","_law_size"]) (["_law_found","_law_size"]) (Ai BJ):=by trivial
theorem EH {f : Addr} {fd : FuncData} (F : Fun K "_law_ways_ok" "_law_ways_ok" BJ f fd) (B : Bs mg) (T : Gs mg)   (c_law_way_ok : Cal P w K mg base 2 "_law_way_ok" [] (Hg K)) : BQ P w K mg base CX0 3 f fd ["_law_found","_law_size"] (D7 K):= by
 have sc:=EI
 refine F.ok sc (fun vs H Q E h=>?_) (fun cdv A outer s H vs Q E hr h=>?_)
 ·obtain ⟨a,ps,R,n,rfl,_⟩:=h;rfl
 ·obtain ⟨a,ps,R,n,rfl,hA,hP,hl,hok,k⟩:=h
  refine ⟨_,(Ag (At (K8 (Aj (HX (K:=K)) (by rfl) B.isinstance PyProof.Rows.Boot.«isinstance» (Aa (pv 0) (Aa (FQ (v:=.ty "list") rfl B.list PyProof.Rows.Boot.«list» rfl) Ac))) (JP (Aj (Es (K:=K)) (by rfl) B.all PyProof.Rows.Boot.«all» (Aa (BS (N':=["_law_one","_law_size"]) (M:=[none,some 1]) (AC (by rfl)) rfl (AA (K:=K) (pv 0)) (fun _ _ _ _ _=>Al (i:=0) (show (["_law_one","_law_size"] : List Str).Nodup by decide +kernel) rfl (Or.inl rfl) (.inr rfl)) (Az rfl) (fun _ _ _ _ _=>AG) (fun _ _ _ _ _=>(Au c_law_way_ok (hr.mono (by decide)) rfl (Aa (pv 0) (Aa (pv 1) Ac))))) Ac)))))),?_⟩
  refine ⟨_,rfl,.ref a,"list",_,true,rfl,FV.lst hA,rfl,_,rfl,Jj ?_⟩
  have hpl:=hP.length
  refine ⟨_,rfl,a,rfl,⟨_,SqL.of hA⟩,Bu (xs:=ps.map V.ref) (fun i ys H4=>An H H4/\ys=(List.replicate i true).map V.bl) (Ak (by rw[List.length_map];lia)) ⟨An.refl _,rfl⟩
   (fun i ys H4 _ ⟨s4,e2⟩=>⟨SqL.of (s4 a _ hA),by rw[e2,List.length_map,List.length_replicate];exact Nat.le_refl _⟩) ?_ ?_⟩
  ·rintro i y ys H4 hi ⟨s4,rfl⟩
   obtain ⟨q,rfl,hq,hil⟩:=BY hi
   obtain ⟨xs,hx,hxj⟩:=Mf hP hq
   obtain ⟨xw,xl⟩:=hok xs (List.mem_of_getElem? hxj)
   obtain ⟨x1,x9,x0⟩:=Am.mp xw
   refine lcN ?_
   refine ⟨_,rfl,_,rfl,q,xs,n,rfl,s4 q _ hx,by lia,fun H5 s5=>⟨s4.trans s5,?_⟩⟩
   rw[decide_eq_true xl,<- Jx,xw,List.replicate_succ',List.map_append];rfl
  ·rintro ys H4 ⟨s4,rfl⟩ p hp
   refine ⟨p,_,rfl,.inl (SqL.of Ab),?_⟩
   rw[show (List.replicate (List.map V.ref ps).length true).all id=true by simp]
   exact k _ (s4.new2 hp)
theorem CK : Aq (["_law_one","_law_other"]) (["_law_one","_law_other"]) (Ai A6):=by trivial
theorem Da {f : Addr} {fd : FuncData} (F : Fun K "_law_one_joining" "_law_one_joining" A6 f fd) (B : Bs mg) (T : Gs mg)   (c_law_below : Cal P w K mg base 3 "_law_below" [] (G1 K)) : BQ P w K mg base CX0 4 f fd ["_law_one","_law_other"] (KM K):= by
 have sc:=CK
 refine F.ok sc (fun vs H Q E h=>?_) (fun cdv A outer s H vs Q E hr h=>?_)
 ·obtain ⟨a,b,ws,vs,rfl,_⟩:=h;rfl
 ·obtain ⟨a,b,ws,vs,rfl,hS,hT,hw,hv,hl,k⟩:=h
  refine ⟨_,(Ag (At (K8 (Ea G8 (Aj (D9 (K:=K)) (by rfl) B.max PyProof.Rows.Boot.«max» (Aa (pv 0) Ac)) (Ap AY (Aj (D9 (K:=K)) (by rfl) B.max PyProof.Rows.Boot.«max» (Aa (pv 1) Ac)) Af) (A2 _)) (JP (Au c_law_below (hr.mono (by decide)) rfl (Aa (pv 0) (Aa (pv 1) Ac))))))),?_⟩
  obtain ⟨w1,w9,w0⟩:=Am.mp hw
  obtain ⟨v1,v9,v0⟩:=Am.mp hv
  have wne:ws≠[]:=fun e=>by rw[e] at w1;simp at w1
  have vne:vs≠[]:=fun e=>by rw[e] at v1;simp at v1
  refine ⟨_,rfl,a,ws,rfl,.inr hS,wne,fun m hm=>⟨_,rfl,b,vs,rfl,.inr hT,vne,fun m2 hm2=>?_⟩⟩
  have e1:=hm.uniq (AL w0 wne).2
  have e2:=hm2.uniq (AL v0 vne).2
  have c1:=Eg hw
  have c2:=Eg hv
  refine ⟨_,_,rfl,rfl,rfl,_,rfl,?_⟩
  refine D5 (fun g=>?_) (fun g=>?_)
  ·have g:m=m2+1:=V.int.inj (of_decide_eq_true g)
   refine ⟨_,rfl,_,rfl,a,b,ws,vs,rfl,hS,hT,hw,hv,hl,fun r H1 s1 hr1=>k r H1 s1 ?_⟩
   rw[hr1]
   unfold Bv
   exact ⟨fun h=>⟨by lia,h⟩,fun h=>h.2⟩
  ·have g : ¬ m=m2+1:=fun e=>g (decide_eq_true (congrArg V.int e))
   refine k false H (An.refl H) ⟨fun h=>(by cases h),fun h=>absurd h.1 (by lia)⟩
theorem HD : Aq (["_law_way_here","_law_total","_law_lot","_law_cuts_here","_law_step"]) (["_law_way_here"]) (Ai Dg):=by trivial
theorem He {f : Addr} {fd : FuncData} (F : Fun K "_law_cuts" "_law_cuts" Dg f fd) (B : Bs mg) (T : Gs mg)   (c_law_lots : Cal P w K mg base 1 "_law_lots" [] (G2 K)) : BQ P w K mg base CX0 2 f fd ["_law_way_here"] (JJ K):= by
 have sc:=HD
 refine F.ok sc (fun vs H Q E h=>?_) (fun cdv A outer s H vs Q E hr h=>?_)
 ·obtain ⟨a,ws,rfl,_⟩:=h;rfl
 ·obtain ⟨a,ws,rfl,hS,hw,k⟩:=h
  refine ⟨_,(Ae (Av (i:=1) sc.nd rfl (Or.inl rfl) Af)
   (Ae (Bq PassesOwn.never rfl (AA (K:=K) (Au c_law_lots (hr.mono (by decide)) rfl (Aa (pv 0) Ac))) (Al (i:=2) sc.nd rfl (Or.inl rfl))
   (Ae (Av (i:=3) sc.nd rfl (Or.inl rfl) Af)
   (Ae (Bq PassesOwn.never rfl (AB rfl B.range (Aa (Ap GT (Aj (Bb (K:=K)) (by rfl) B.len PyProof.Rows.Boot.«len» (Aa (pv 2) Ac)) Af) Ac)) (Al (i:=4) sc.nd rfl (Or.inl rfl))
   (Ag (Av (i:=3) sc.nd rfl (Or.inl rfl) (Ap AU (pv 3) Af))))
   (Ag (Av (i:=1) sc.nd rfl (Or.inl rfl) (Ap GT (Ap AY (pv 1) (pv 3)) Af))))))
   (Ag (At (pv 1))))),?_⟩
  obtain ⟨w1,w9,w0⟩:=Am.mp hw
  have fl:=Bf ws
  refine Hn ?_
  refine ⟨_,rfl,a,ws,rfl,hS,hw,fun p qs H2 s2 hp hql hqs=>⟨p,rfl,⟨_,SqL.of hp⟩,BN (K:=K) (a:=p) (xs:=qs.map V.ref) (fun i σ H3=>∃ (o2 o3 o4:Option V),σ=[some (.ref a),some (.int (Ex ws i)),o2,o3,o4]/\An H2 H3)
   ⟨none,none,none,rfl,An.refl _⟩ (fun i σ H3 _ h=>by obtain ⟨_,_,_,_,s3⟩:=h;exact SqL.of (s3 p _ hp)) ?_ ?_⟩⟩
  ·rintro i y σ H3 hi ⟨o2,o3,o4,rfl,s3⟩
   obtain ⟨q,rfl,hq,hil⟩:=BY hi
   have hl:=s3 q _ (hqs i q hq)
   have hle:=FC ws (i:Int)
   refine Hn ?_
   refine ⟨_,rfl,q,_,rfl,.inl (SqL.of hl),_,_,rfl,rfl,_,rfl,?_,?_,?_⟩
   ·rw[ltm];lia
   ·rw[ltm];lia
   rw[ltm]
   refine BX (lo:=0) (n:=(((BR ws (i:Int) ws.length).length:Int)-1).toNat) (fun j σ H4=>∃ o4:Option V,σ=[some (.ref a),some (.int (Ex ws i)),some (.ref q),some (.int (2 ^ j)),o4]/\An H2 H4) ⟨o4,rfl,s3⟩ ?_ ?_
   ·rintro j σ H4 hj ⟨o4,rfl,s4⟩
    exact ⟨_,rfl,_,_,rfl,rfl,BK ⟨by decide,by decide⟩,_,rfl,s4⟩
   ·rintro σ H4 ⟨o4,rfl,s4⟩
    refine ⟨_,rfl,_,rfl,_,_,rfl,rfl,_,_,rfl,rfl,?_⟩
    have e:Ex ws i+2 ^ (((BR ws (i:Int) ws.length).length:Int)-1).toNat-1=Ex ws (i+1):= by
     rw[IW,show (((BR ws (i:Int) ws.length).length:Int)-1).toNat=(BR ws (i:Int) ws.length).length-1 by lia]
     lia
    rw[e]
    exact ⟨_,_,_,rfl,s4⟩
  ·rintro σ H3 ⟨o2,o3,o4,rfl,s3⟩
   rw[List.length_map,hql]
   exact ⟨_,rfl,k _ (s2.trans s3)⟩
theorem O2 : Aq (["_law_script","_law_k","_law_first","_law_second","_law_row","_law_way_here","_law_found","_law_due"]) (["_law_script"]) (Ai LM):=by trivial
theorem OV {f : Addr} {fd : FuncData} (F : Fun K "law" "law" LM f fd) (B : Bs mg) (T : Gs mg)   (c_law_all : Cal P w K mg base 1 "_law_all" [] (Nn K)) (c_law_cell : Cal P w K mg base 1 "_law_cell" [] (Km K)) (c_law_cuts : Cal P w K mg base 2 "_law_cuts" [] (JJ K)) (c_law_draw : Cal P w K mg base 1 "_law_draw" [] (Ig K)) (c_law_many : Cal P w K mg base 1 "_law_many" [] (K6 K)) (c_law_one_joining : Cal P w K mg base 4 "_law_one_joining" [] (KM K)) (c_law_split : Cal P w K mg base 1 "_law_split" [.int 0] E7) (c_law_way : Cal P w K mg base 2 "_law_way" [] (MV K)) (c_law_ways_ok : Cal P w K mg base 3 "_law_ways_ok" [] (D7 K)) (cjoinings : Cal P w K mg base 5 "joinings" [] (G9 K)) (cpartings : Cal P w K mg base 5 "partings" [] (Ds K)) : BQ P w K mg base CX0 6 f fd ["_law_script"] (Lm K):= by
 have sc:=O2
 refine F.ok sc (fun vs H Q E h=>?_) (fun cdv A outer s H vs Q E hr h=>?_)
 ·obtain ⟨a,ns,rfl,_⟩:=h;rfl
 ·obtain ⟨a,ns,rfl,hS,hlen,k⟩:=h
  refine ⟨_,(Ae (Bq PassesOwn.never rfl (AB rfl B.range (Aa (Aj HK (by rfl) B.min PyProof.Rows.Boot.«min» (Aa Af (Aa (Au c_law_many (hr.mono (by decide)) rfl (Aa (pv 0) (Aa Af Ac))) Ac))) Ac)) (Al (i:=1) sc.nd rfl (Or.inl rfl))
   (Ae (Nu (Au c_law_split (hr.mono (by decide)) rfl (Aa (Au c_law_cell (hr.mono (by decide)) rfl (Aa (pv 0) (Aa (pv 1) Ac))) (Aa Af Ac))) (Mu (K:=K) (n:=2) rfl (AS (Al (i:=2) sc.nd rfl (Or.inl rfl)) (AS (Al (i:=3) sc.nd rfl (Or.inl rfl)) Dh))))
   (Ae (Av (i:=4) sc.nd rfl (Or.inl rfl) (Au c_law_draw (hr.mono (by decide)) rfl (Aa (pv 2) (Aa (Be (Aa Af (Aa Af (Aa Af Ac)))) Ac))))
   (Ae (Av (i:=5) sc.nd rfl (Or.inr rfl) (Au c_law_way (hr.mono (by decide)) rfl (Aa (pv 3) (Aa (Dc (AT G8 (BW (A7 (K:=K)) (pv 4) Af (fun _ _=>rfl)) Af (A2 _)) (Ap AY Af (BW (A7 (K:=K)) (pv 4) Af (fun _ _=>rfl))) (Ap AY Af (BW (A7 (K:=K)) (pv 4) Af (fun _ _=>rfl)))) Ac))))
   (Ae (Av (i:=6) sc.nd rfl (Or.inr rfl) (Au cpartings (hr.mono (by decide)) rfl (Aa (pv 5) Ac)))
   (Ae (BZ (PW.pt (LZ (B2 (CF (Au c_law_ways_ok (hr.mono (by decide)) rfl (Aa (pv 6) (Aa (Aj (Bb (K:=K)) (by rfl) B.len PyProof.Rows.Boot.«len» (Aa (pv 5) Ac)) Ac))))) (JB (AT Nc (Aj (Bb (K:=K)) (by rfl) B.len PyProof.Rows.Boot.«len» (Aa (pv 6) Ac)) (Au c_law_cuts (hr.mono (by decide)) rfl (Aa (pv 5) Ac)) (A2 _))))) (Ag (At DF)) AQ)
   (Ae (BZ (B2 (CF (Aj (Es (K:=K)) (by rfl) B.all PyProof.Rows.Boot.«all» (Aa (BS (N':=["_law_one","_law_way_here"]) (M:=[none,some 5]) (AC (by rfl)) rfl (AA (K:=K) (pv 6)) (fun _ _ _ _ _=>Al (i:=0) (show (["_law_one","_law_way_here"] : List Str).Nodup by decide +kernel) rfl (Or.inl rfl) (.inr rfl)) (Az rfl) (fun _ _ _ _ _=>AG) (fun _ _ _ _ _=>(Au c_law_one_joining (hr.mono (by decide)) rfl (Aa (pv 0) (Aa (pv 1) Ac))))) Ac)))) (Ag (At DF)) AQ)
   (Ae (BZ (B2 (CF (Aj (Es (K:=K)) (by rfl) B.all PyProof.Rows.Boot.«all» (Aa (BS (N':=["_law_j","_law_found"]) (M:=[none,some 6]) (AC (by rfl)) rfl (AB rfl B.range (Aa (Ap GT (Aj (Bb (K:=K)) (by rfl) B.len PyProof.Rows.Boot.«len» (Aa (pv 6) Ac)) Af) Ac)) (fun _ _ _ _ _=>Al (i:=0) (show (["_law_j","_law_found"] : List Str).Nodup by decide +kernel) rfl (Or.inl rfl) (.inr rfl)) (Az rfl) (fun _ _ _ _ _=>AG) (fun _ _ _ _ _=>(Ea (MH (K:=K) hr.units0) (BW (A7 (K:=K)) (pv 1) (pv 0) (fun _ _=>rfl)) (BW (A7 (K:=K)) (pv 1) (Ap AY (pv 0) Af) (fun _ _=>rfl)) (A2 _)))) Ac)))) (Ag (At DF)) AQ)
   (Ae (BZ (AT DT (Aj (Bb (K:=K)) (by rfl) B.len PyProof.Rows.Boot.«len» (Aa (pv 5) Ac)) Af (A2 _)) (Ae (Of (i:=7) sc.nd rfl rfl (N':=["_law_one","_law_way_here"]) (M:=[none,some 5]) (AC (by rfl)) rfl (AA (K:=K) (Au c_law_all (hr.mono (by decide)) rfl (Aa (Aj (Bb (K:=K)) (by rfl) B.len PyProof.Rows.Boot.«len» (Aa (pv 5) Ac)) Ac))) (fun _ _ _ _ _=>Al (i:=0) (show (["_law_one","_law_way_here"] : List Str).Nodup by decide +kernel) rfl (Or.inl rfl) (.inr rfl)) (Az rfl) (fun _ _ _ _ _=>FE (CF (Au c_law_one_joining (hr.mono (by decide)) rfl (Aa (pv 0) (Aa (pv 1) Ac))))) (fun _ _ _ _ _=>(pv 0)))
   (Ag (BZ (AT (Ma (K:=K) (Pp hr)) (pv 6) (pv 7) (A2 _)) (Ag (At DF)) AQ))) AQ)
   (Ae (BZ (B2 (CF (Aj (Es (K:=K)) (by rfl) B.all PyProof.Rows.Boot.«all» (Aa (BS (N':=["_law_one","_law_way_here"]) (M:=[none,some 5]) (AC (by rfl)) rfl (AA (K:=K) (Ap EW (De (DN (K:=K)) (pv 6) D2 (DZ Af)) (De (DN (K:=K)) (pv 6) (DZ (OG Mi Af)) D2))) (fun _ _ _ _ _=>Al (i:=0) (show (["_law_one","_law_way_here"] : List Str).Nodup by decide +kernel) rfl (Or.inl rfl) (.inr rfl)) (Az rfl) (fun _ _ _ _ _=>AG) (fun _ _ _ _ _=>(Ea (NZ (K:=K) (Pp hr)) (pv 1) (Au cjoinings (hr.mono (by decide)) rfl (Aa (pv 0) Ac)) rfl))) Ac)))) (Ag (At DF)) AQ)
   (Ae (Av (i:=7) sc.nd rfl (Or.inl rfl) (D1 (MA (K:=K)) (by rfl) B.list PyProof.Rows.Boot.«list» (Aa (pv 6) Ac)))
   (Ae (BM (DA (K:=K) PySem.F.plainAttrs_list PySem.F.slot_list_insert PySem.F.type_list_insert IQ (pv 6) (Aa Af (Aa (pv 5) Ac))))
   (Ag (BZ (AT (Ma (K:=K) (Pp hr)) (Au cpartings (hr.mono (by decide)) rfl (Aa (pv 5) Ac)) (pv 7) (A2 _)) (Ag (At DF)) AQ))))))))))))))
   (Ag (At DF))),?_⟩
  refine ⟨_,rfl,a,ns,1,rfl,hS,fun z hz0 hz1=>⟨_,_,rfl,?_⟩⟩
  have hz7:0<=(if z<4 then z else 4)/\(if z<4 then z else 4)<=4:=by split <;> lia
  generalize (if z<4 then z else 4)=z7 at hz7
  refine ⟨_,rfl,by lia,by lia,BX (lo:=0) (n:=z7.toNat) (fun i σ H2=>∃ (o1 o2 o3 o4 o5 o6 o7:Option V),σ=[some (.ref a),o1,o2,o3,o4,o5,o6,o7]/\An H H2)
   ⟨none,none,none,none,none,none,none,rfl,An.refl H⟩ ?_ ?_⟩
  ·rintro i σ H2 hi ⟨o1,o2,o3,o4,o5,o6,o7,rfl,s2⟩
   refine ⟨_,rfl,_,rfl,a,ns,_,rfl,s2.seq hS,by lia,by lia,by lia,fun cell=>⟨cell,2,0,rfl,by decide,by decide,by decide,by decide,fun p3 sp3 H3 _ s3 hp3 hl3=>?_⟩⟩
   obtain ⟨f1,f2,rfl⟩ : ∃ f1 f2,sp3=[f1,f2]:= by
    match sp3,hl3 with
    | [x,y],_=>exact ⟨x,y,rfl⟩
   refine ⟨p3,_,rfl,SqL.of hp3,rfl,_,_,rfl,_,_,rfl,rfl,?_⟩
   try dsimp only
   refine nrm (σ':=[some (.ref a),some (.int (0+(i:Int))),some (.int f1),some (.int f2),o4,o5,o6,o7]) rfl ?_
   refine Hn ⟨_,rfl,Ak (by simp),fun q0 hq0=>⟨f1,q0,[6,7,2],rfl,SqL.of Ab,N0 (by decide +kernel),by decide,fun row rs H4 _ s4 hrow hD=>?_⟩⟩
   have S4:=(s2.trans s3).trans ((An.new (o:=HO.lst [V.int 6,V.int 7,V.int 2]) hq0).trans s4)
   obtain ⟨r0,t0,rfl,r00,r09,hD⟩:=hD.uncons
   obtain ⟨r1,t1,rfl,r10,r19,hD⟩:=hD.uncons
   obtain ⟨r2,t2,rfl,r20,r29,hD⟩:=hD.uncons
   have a0:atI ((r0::r1::r2::t2).map V.int) 0=some (V.int r0):=FF (j:=0) rfl rfl
   have a1:atI ((r0::r1::r2::t2).map V.int) 1=some (V.int r1):=FF (j:=1) rfl rfl
   have a2:atI ((r0::r1::r2::t2).map V.int) 2=some (V.int r2):=FF (j:=2) rfl rfl
   generalize (r0::r1::r2::t2).map V.int=row9 at hrow a0 a1 a2
   try dsimp only
   refine nrm (σ':=[some (.ref a),some (.int (0+(i:Int))),some (.int f1),some (.int f2),some (.ref row),o5,o6,o7]) rfl ?_
   refine Kd (fun σ H5=>∃ (wa:Addr) (ws:List Int),σ=[some (.ref a),some (.int (0+(i:Int))),some (.int f1),some (.int f2),some (.ref row),some (.ref wa),o6,o7]/\An H H5/\H5 wa=some (.tup (ws.map V.int))/\As ws=true) (fun Z hZ=>?_) ?_
   ·refine ⟨_,rfl,_,rfl,row,_,_,_,rfl,rfl,SqL.of hrow,a0,rfl,_,rfl,D5 (fun _=>?_) (fun _=>?_)⟩
    ·exact ⟨_,rfl,row,_,_,_,rfl,rfl,SqL.of hrow,a2,_,_,rfl,rfl,f2,_,rfl,by lia,by lia,fun wa ws H5 _ s5 hw5 hwl hww=>hZ _ _ ⟨wa,ws,rfl,S4.trans s5,hw5,hww⟩⟩
    ·exact ⟨_,rfl,row,_,_,_,rfl,rfl,SqL.of hrow,a1,_,_,rfl,rfl,f2,_,rfl,by lia,by lia,fun wa ws H5 _ s5 hw5 hwl hww=>hZ _ _ ⟨wa,ws,rfl,S4.trans s5,hw5,hww⟩⟩
   rintro σ H5 ⟨wa,ws,rfl,S5,hw5,hww⟩
   obtain ⟨w1,w9,w0⟩:=Am.mp hww
   refine Hn ⟨_,rfl,wa,ws,rfl,SqT.of hw5,hww,fun pf psf R H6 hpfn s6 hpf hPF hperm hup=>?_⟩
   have nd:R.Nodup:=hperm.nodup_iff.mpr (Dt hww)
   have hRl:R.length=(Jk ws).length:=hperm.length_eq
   have hR9:=JG hww
   have hpl:=hPF.length
   have hok : ∀ r ∈ R,As r=true/\r.length=ws.length/\Bv r ws:=fun r hr=>(E6 hww).mp (hperm.mem_iff.mp hr)
   have S6:=S5.trans s6
   have hw6:=s6 wa _ hw5
   have hc9:=LN ws
   try dsimp only
   refine nrm (σ':=[some (.ref a),some (.int (0+(i:Int))),some (.int f1),some (.int f2),some (.ref row),some (.ref wa),some (.ref pf),o7]) rfl ?_
   refine Fg (b:=false) (P:=fun H'=>An H6 H') (fun N hN=>⟨_,rfl,_,rfl,wa,_,rfl,.inr (SqT.of hw6),pf,psf,R,_,rfl,hpf,hPF,by lia,fun r hr=>⟨(hok r hr).1,by rw[(hok r hr).2.1,ltm]⟩,fun H7 s7=>⟨_,rfl,MQ ⟨_,rfl,pf,_,rfl,.inl (SqL.of (s7 pf _ hpf)),_,rfl,wa,ws,rfl,SqT.of (s7 wa _ hw6),hww,fun H8 s8=>?_⟩⟩⟩) (fun e=>absurd e (by decide)) (fun _ H7 s7=>?_)
   ·refine ⟨rfl,_,rfl,?_⟩
    rw[show (!decide (V.int ((psf.map V.ref).length:Int)=V.int (Ex ws (fresh 0 ws).toNat)))=false by rw[Bool.not_eq_false',decide_eq_true_iff,List.length_map,hpl,hRl,hc9]]
    exact hN _ (s7.trans s8)
   have hpf7:=s7 pf _ hpf
   have hw7:=s7 wa _ hw6
   refine Fg (b:=false) (P:=fun H'=>An H7 H') (fun N hN=>⟨_,rfl,pf,rfl,⟨_,SqL.of hpf7⟩,Bu (xs:=psf.map V.ref) (fun j ys H8=>An H7 H8/\ys=(List.replicate j true).map V.bl) (Ak (by rw[List.length_map];lia)) ⟨An.refl _,rfl⟩
    (fun j ys H8 _ h=>⟨SqL.of (h.1 pf _ hpf7),by rw[h.2,List.length_map,List.length_replicate];exact Nat.le_refl _⟩) ?_ ?_⟩) (fun e=>absurd e (by decide)) (fun _ H8 s8=>?_)
   ·rintro j y ys H8 hj ⟨s8,rfl⟩
    obtain ⟨q,rfl,hq,hjl⟩:=BY hj
    obtain ⟨r,hr,hrj⟩:=AN hPF hq
    have hr8:=s8 q _ (s7 q _ hr)
    obtain ⟨k1,k2,k3⟩:=hok r (List.mem_of_getElem? hrj)
    refine lcN ⟨_,rfl,_,rfl,q,wa,r,ws,rfl,SqT.of hr8,SqT.of (s8 wa _ hw7),k1,hww,k2.symm,fun b H9 s9 hb=>⟨s8.trans s9,?_⟩⟩
    rw[hb.mpr k3,List.replicate_succ',List.map_append];rfl
   ·rintro ys H8 ⟨s8,rfl⟩ t ht
    refine ⟨t,_,rfl,.inl (SqL.of Ab),?_⟩
    rw[show (List.replicate (List.map V.ref psf).length true).all id=true by simp]
    exact ⟨_,rfl,hN _ (s8.new2 ht)⟩
   have hpf8:=s8 pf _ hpf7
   have hw8:=s8 wa _ hw7
   refine Fg (b:=false) (P:=fun H'=>An H8 H') (fun N hN=>⟨_,rfl,pf,_,rfl,.inl (SqL.of hpf8),_,_,rfl,rfl,_,rfl,by rw[List.length_map];lia,by rw[List.length_map];lia,Bn (lo:=0) (n:=(((psf.map V.ref).length:Int)-1).toNat) (fun j ys H9=>H9=H8/\ys=(List.replicate j true).map V.bl) (Ak (by rw[List.length_map];lia)) ⟨rfl,rfl⟩
    (fun j ys H9 _ h=>by rw[h.2,List.length_map,List.length_replicate];exact Nat.le_refl _) ?_ ?_⟩) (fun e=>absurd e (by decide)) (fun _ H9 s9=>?_)
   ·rintro j ys H9 hj ⟨rfl,rfl⟩
    rw[List.length_map] at hj
    have j1:=Eo hPF (i:=j) (by lia)
    have j2:=Eo hPF (i:=j+1) (by lia)
    have b1:psf[j]?=some (psf.getD j 0):=by rw[List.getD_eq_getElem?_getD,List.getElem?_eq_getElem (by lia)];rfl
    have b2:psf[j+1]?=some (psf.getD (j+1) 0):=by rw[List.getD_eq_getElem?_getD,List.getElem?_eq_getElem (by lia)];rfl
    have c1:=HM b1
    have c2:=HM b2
    refine lcN ⟨_,rfl,_,rfl,pf,_,_,_,rfl,rfl,SqL.of hpf8,by rw[Int.zero_add];exact c1,_,rfl,_,rfl,_,_,rfl,rfl,pf,_,_,_,rfl,rfl,SqL.of hpf8,by rw[show (0+(j:Int)+1)=((j+1:Nat):Int) by lia];exact c2,_,_,R.getD j [],R.getD (j+1) [],rfl,rfl,SqT.of (s8 _ _ (s7 _ _ j1)),SqT.of (s8 _ _ (s7 _ _ j2)),rfl,?_⟩
    rw[MY hup nd (by lia),List.replicate_succ',List.map_append];rfl
   ·rintro ys H9 ⟨rfl,rfl⟩ t ht
    refine ⟨t,_,rfl,.inl (SqL.of Ab),?_⟩
    rw[show (List.replicate ((((psf.map V.ref).length:Int)-1).toNat) true).all id=true by simp]
    exact ⟨_,rfl,hN _ (An.new ht)⟩
   have hpf9:=s9 pf _ hpf8
   have hw9:=s9 wa _ hw8
   have S9:=((S6.trans s7).trans s8).trans s9
   refine Kd (fun σ H'=>An H9 H' /\ ∃ o7:Option V,σ=[some (.ref a),some (.int (0+(i:Int))),some (.int f1),some (.int f2),some (.ref row),some (.ref wa),some (.ref pf),o7]) (fun Z hZ=>?_) ?_
   ·refine ⟨_,rfl,wa,_,rfl,.inr (SqT.of hw9),_,_,rfl,rfl,_,rfl,D5 (fun g=>?_) (fun g=>hZ _ _ ⟨An.refl _,_,rfl⟩)⟩
    have h5:ws.length<=5:= by
     have:=of_decide_eq_true g
     rw[ltm] at this;lia
    refine ⟨_,rfl,wa,_,rfl,.inr (SqT.of hw9),_,rfl,by rw[ltm];lia,by rw[ltm];lia,fun pa pas H10 s10 hpa hPA=>?_⟩
    rw[ltm,Int.toNat_natCast] at hPA
    obtain ⟨a5,_,a3,_,_⟩:=Py (m:=ws.length-1) (by lia)
    have hal:=hPA.length
    refine ⟨pa,rfl,⟨_,SqL.of hpa⟩,Bu (xs:=pas.map V.ref) (fun j ys H11=>An H10 H11 /\ ∃ us:List Addr,ys=us.map V.ref/\Paired (fun a row=>SqT K H11 a (row.map V.int)) us (Jq ws j)) (Ak (by rw[List.length_map];lia)) ⟨An.refl _,[],rfl,.nil⟩
     (fun j ys H11 _ h=>?_) ?_ ?_⟩
    ·obtain ⟨s11,us,e,hU⟩:=h
     have:=ME ws j
     exact ⟨SqL.of (s11 pa _ hpa),by rw[e,List.length_map,hU.length];exact this⟩
    ·rintro j y ys H11 hj ⟨s11,us,rfl,hU⟩
     obtain ⟨q,rfl,hq,hjl⟩:=BY hj
     obtain ⟨r,hr,hrj⟩:=AN hPA hq
     have hr11:=s11.seqT hr
     obtain ⟨e1,e2⟩:=a3 r (List.mem_of_getElem? hrj)
     refine ⟨_,rfl,_,rfl,q,wa,r,ws,rfl,hr11,SqT.of (s11 wa _ (s10 wa _ hw9)),Am.mpr ⟨by lia,by lia,e2⟩,hww,by lia,fun b H12 s12 hb=>⟨_,rfl,?_⟩⟩
     have hU12:=L2.Paired.mapP hU fun a' x z=>s12.seqT z
     refine D5 (fun g=>?_) (fun g=>?_)
     ·refine ⟨_,rfl,s11.trans s12,us++[q],by rw[List.map_append];rfl,?_⟩
      rw[LL hrj (hb.mp g)]
      exact Paired.snoc hU12 (s12.seqT hr11)
     ·refine ⟨s11.trans s12,us,rfl,?_⟩
      rw[Nl hrj fun z=>g (hb.mpr z)]
      exact hU12
    ·rintro ys H11 ⟨s11,us,rfl,hU⟩ t ht
     rw[List.length_map,hal,LI] at hU
     have hut:=An.new (o:=HO.lst (us.map V.ref)) ht
     have hU2:=L2.Paired.mapP hU fun a' x z=>hut.seqT z
     have S11:=(s10.trans s11).trans hut
     have ht2:upd H11 t (HO.lst (us.map V.ref)) t=some (.lst (us.map V.ref)):=Ab
     generalize upd H11 t (HO.lst (us.map V.ref))=H12 at hut hU2 S11 ht2
     have eR:=OD hww h5 hperm hup
     refine ⟨_,rfl,_,rfl,CG R,CG (Ou ws),Fq (SqL.of (S11 pf _ hpf9)) (L2.Paired.mapP hPF fun a' x z=>S11 a' _ (s9 a' _ (s8 a' _ (s7 a' _ z)))),JK (SqL.of ht2) hU2,Nat.le_trans (Iq _) (by decide),_,rfl,?_⟩
     rw[Ia]
     exact NP eR (hZ _ _ ⟨S11,_,rfl⟩)
   rintro σ H10 ⟨s10,o7,rfl⟩
   have hpf10:=s10 pf _ hpf9
   have hw10:=s10 wa _ hw9
   have hPF10:DM H10 psf R:=L2.Paired.mapP hPF fun a' x z=>s10 a' _ (s9 a' _ (s8 a' _ (s7 a' _ z)))
   refine Fg (b:=false) (P:=fun H'=>An H10 H') (fun N hN=>?_) (fun e=>absurd e (by decide)) (fun _ H11 s11=>?_)
   ·refine ⟨_,rfl,_,rfl,pf,_,rfl,SqL.of hpf10,fun t1 ht1=>?_⟩
    have n1:=An.new (o:=HO.lst (DE (psf.map V.ref) none (some 3))) ht1
    have g1:upd H10 t1 (HO.lst (DE (psf.map V.ref) none (some 3))) t1=some (.lst ((psf.take 3).map V.ref)):= by
     rw[Ab,show (some (3:Int))=some ((3:Nat):Int) from rfl,Ij,List.map_take]
    generalize upd H10 t1 (HO.lst (DE (psf.map V.ref) none (some 3)))=H11 at n1 g1
    have e2:DE (psf.map V.ref) (some (-3)) none=((psf.drop (HT.sIx (psf.map V.ref).length 0 (some (-3)))).take (HT.sIx (psf.map V.ref).length (psf.map V.ref).length none-HT.sIx (psf.map V.ref).length 0 (some (-3)))).map V.ref:= by
     unfold DE;rw[List.map_take,List.map_drop]
    have m2 : ∀ q ∈ (psf.drop (HT.sIx (psf.map V.ref).length 0 (some (-3)))).take (HT.sIx (psf.map V.ref).length (psf.map V.ref).length none-HT.sIx (psf.map V.ref).length 0 (some (-3))),q ∈ psf:=fun q hq=>List.mem_of_mem_drop (List.mem_of_mem_take hq)
    have l2:((psf.drop (HT.sIx (psf.map V.ref).length 0 (some (-3)))).take (HT.sIx (psf.map V.ref).length (psf.map V.ref).length none-HT.sIx (psf.map V.ref).length 0 (some (-3)))).length<=psf.length:=by rw[List.length_take,List.length_drop];lia
    refine ⟨_,rfl,_,rfl,_,rfl,pf,_,rfl,SqL.of (n1 pf _ hpf10),fun t2 ht2=>?_⟩
    rw[e2]
    generalize (psf.drop (HT.sIx (psf.map V.ref).length 0 (some (-3)))).take (HT.sIx (psf.map V.ref).length (psf.map V.ref).length none-HT.sIx (psf.map V.ref).length 0 (some (-3)))=qs2 at m2 l2
    refine ⟨t1,t2,_,_,rfl,rfl,An.new ht2 t1 _ g1,Ab,Ak (by rw[List.length_map,List.length_map,List.length_take];lia),fun t3 ht3=>?_⟩
    have n3:=(n1.new2 (o:=HO.lst (qs2.map V.ref)) ht2).new2 (o:=HO.lst ((psf.take 3).map V.ref++qs2.map V.ref)) ht3
    have g3:upd (upd H11 t2 (HO.lst (qs2.map V.ref))) t3 (HO.lst ((psf.take 3).map V.ref++qs2.map V.ref)) t3=some (.lst ((psf.take 3++qs2).map V.ref)):=by rw[Ab,List.map_append]
    generalize upd (upd H11 t2 (HO.lst (qs2.map V.ref))) t3 (HO.lst ((psf.take 3).map V.ref++qs2.map V.ref))=H12 at n3 g3
    have m3 : ∀ q ∈ psf.take 3++qs2,q ∈ psf:=fun q hq=>(List.mem_append.mp hq).elim (fun h=>List.mem_of_mem_take h) (m2 q)
    have l3:(psf.take 3++qs2).length<=5000:=by rw[List.length_append,List.length_take];lia
    generalize psf.take 3++qs2=qs3 at g3 m3 l3
    refine ⟨t3,rfl,⟨_,SqL.of g3⟩,Bu (xs:=qs3.map V.ref) (fun j ys H13=>An H12 H13/\ys=(List.replicate j true).map V.bl) (Ak (by rw[List.length_map];lia)) ⟨An.refl _,rfl⟩
     (fun j ys H13 _ h=>⟨SqL.of (h.1 t3 _ g3),by rw[h.2,List.length_map,List.length_replicate];exact Nat.le_refl _⟩) ?_ ?_⟩
    ·rintro j y ys H13 hj ⟨s13,rfl⟩
     obtain ⟨q,rfl,hq,hjl⟩:=BY hj
     obtain ⟨m,hm,em⟩:=List.getElem_of_mem (m3 q (List.mem_of_getElem? hq))
     obtain ⟨r,hr,hrj⟩:=AN hPF10 (by rw[List.getElem?_eq_getElem hm,em])
     obtain ⟨k1,k2,k3⟩:=hok r (List.mem_of_getElem? hrj)
     have S13:=n3.trans s13
     refine lcN ⟨_,rfl,_,rfl,q,r,rfl,SqT.of (S13 q _ hr),k1,fun pj psj RJ H14 _ s14 hpj hPJ hpermJ hupJ=>⟨pj,_,RJ.map Fj,Fj ws,rfl,SqL.of hpj,Eh hPJ,HG (SqT.of (s14 wa _ (S13 wa _ hw10))),Nat.le_trans (CD (fun x=>Jw x) RJ) (by decide),s13.trans s14,?_⟩⟩
     rw[LO,decide_eq_true (hpermJ.mem_iff.mpr (Lb hww k1 k2 k3)),List.replicate_succ',List.map_append];rfl
    ·rintro ys H13 ⟨s13,rfl⟩ t ht
     refine ⟨t,_,rfl,.inl (SqL.of Ab),?_⟩
     rw[show (List.replicate (List.map V.ref qs3).length true).all id=true by simp]
     exact ⟨_,rfl,hN _ ((n3.trans s13).new2 ht)⟩
   have hpf11:=s11 pf _ hpf10
   have hw11:=s11 wa _ hw10
   have hPF11:DM H11 psf R:=L2.Paired.mapP hPF10 fun a' x z=>s11 a' _ z
   refine Hn ⟨_,rfl,pf,_,rfl,.inl (SqL.of hpf11),fun pd hpd=>?_⟩
   have n12:=An.new (o:=HO.lst (psf.map V.ref)) hpd
   have hpd12:upd H11 pd (HO.lst (psf.map V.ref)) pd=some (.lst (psf.map V.ref)):=Ab
   have hdf:pd≠pf:=fun z=>by rw[z,hpf11] at hpd;cases hpd
   generalize upd H11 pd (HO.lst (psf.map V.ref))=H12 at n12 hpd12
   have hpf12:=n12 pf _ hpf11
   have hw12:=n12 wa _ hw11
   have S12:=((S9.trans s10).trans s11).trans n12
   try dsimp only
   refine nrm (σ':=[some (.ref a),some (.int (0+(i:Int))),some (.int f1),some (.int f2),some (.ref row),some (.ref wa),some (.ref pf),some (.ref pd)]) rfl ?_
   refine ⟨_,rfl,.inl ⟨rfl,_,SqL.of hpf12⟩,_,rfl,pf,_,0,_,rfl,rfl,hpf12,Int.le_refl 0,Int.natCast_nonneg _,by rw[List.length_map];lia,?_⟩
   have keepT : ∀ (q:Addr) (xs:List V) (o:HO),H12 q=some (.tup xs)->upd H12 pf o q=some (.tup xs):=fun q xs o e=>by
    rw[Ah (fun z=>by rw[z,hpf12] at e;cases e)];exact e
   have hw13:=keepT wa _ (HO.lst ((psf.map V.ref).take (0:Int).toNat++V.ref wa::(psf.map V.ref).drop (0:Int).toNat)) hw12
   have hPF13:DM (upd H12 pf (HO.lst ((psf.map V.ref).take (0:Int).toNat++V.ref wa::(psf.map V.ref).drop (0:Int).toNat))) psf R:=L2.Paired.mapP hPF11 fun a' x z=>keepT a' _ _ (n12 a' _ z)
   have hpd13:upd H12 pf (HO.lst ((psf.map V.ref).take (0:Int).toNat++V.ref wa::(psf.map V.ref).drop (0:Int).toNat)) pd=some (.lst (psf.map V.ref)):=by rw[Ah hdf];exact hpd12
   have S13:=S12.put (o:=HO.lst ((psf.map V.ref).take (0:Int).toNat++V.ref wa::(psf.map V.ref).drop (0:Int).toNat)) (S5.free hpfn)
   generalize upd H12 pf (HO.lst ((psf.map V.ref).take (0:Int).toNat++V.ref wa::(psf.map V.ref).drop (0:Int).toNat))=H13 at hw13 hPF13 hpd13 S13
   refine ⟨_,rfl,wa,ws,rfl,SqT.of hw13,hww,fun pf2 ps2 R2 H14 _ s14 hp2 hP2 hperm2 hup2=>⟨_,rfl,CG R2,CG R,Fq (SqL.of hp2) hP2,Fq (SqL.of (s14 pd _ hpd13)) (L2.Paired.mapP hPF13 fun a' x z=>s14 a' _ z),Nat.le_trans (Iq _) (by decide),_,rfl,?_⟩⟩
   rw[Ia]
   exact NP (D6 hup2 hup (hperm2.trans hperm.symm)) ⟨_,_,_,_,_,_,_,rfl,S13.trans s14⟩
  ·rintro σ H2 ⟨o1,o2,o3,o4,o5,o6,o7,rfl,s2⟩
   exact k H2
end
theorem EX {us:List Value} {n:Nat} (h:us.length=n+1) : ∃ (a:Value) (t:List Value),us=a::t/\t.length=n:= by
 cases us with
 | nil=>cases h
 | cons a t=>exact ⟨a,t,rfl,Nat.succ.inj h⟩
theorem Bh {us:List Value} (h:us.length=1) : ∃ a0:Value,us=[a0]:= by
 obtain ⟨a0,u0,rfl,h0⟩:=EX h
 obtain rfl:=List.eq_nil_of_length_eq_zero h0
 exact ⟨a0,rfl⟩
theorem Ch {us:List Value} (h:us.length=2) : ∃ a0 a1:Value,us=[a0,a1]:= by
 obtain ⟨a0,u0,rfl,h0⟩:=EX h
 obtain ⟨a1,u1,rfl,h1⟩:=EX h0
 obtain rfl:=List.eq_nil_of_length_eq_zero h1
 exact ⟨a0,a1,rfl⟩
theorem Mk {us:List Value} (h:us.length=3) : ∃ a0 a1 a2:Value,us=[a0,a1,a2]:= by
 obtain ⟨a0,u0,rfl,h0⟩:=EX h
 obtain ⟨a1,u1,rfl,h1⟩:=EX h0
 obtain ⟨a2,u2,rfl,h2⟩:=EX h1
 obtain rfl:=List.eq_nil_of_length_eq_zero h2
 exact ⟨a0,a1,a2,rfl⟩
theorem NC {l : PySem.W.OpenLaw} {w : World} {K : PySem.W.Frag} {h : Heap} {mg : Str -> Option Value} {fa : Addr} (X : K.In h) (G : h.Ns mainGlobals mg) (hfa : mg "law" = some (.ref fa))
  {f1:Addr} {fd1:FuncData} {f2:Addr} {fd2:FuncData} {f3:Addr} {fd3:FuncData} {f4:Addr} {fd4:FuncData} {f5:Addr} {fd5:FuncData} {f6:Addr} {fd6:FuncData} {f7:Addr} {fd7:FuncData} {f8:Addr} {fd8:FuncData} {f9:Addr} {fd9:FuncData} {f10:Addr} {fd10:FuncData} {f11:Addr} {fd11:FuncData} {f12:Addr} {fd12:FuncData} {f13:Addr} {fd13:FuncData} {f14:Addr} {fd14:FuncData} {f15:Addr} {fd15:FuncData} {f16:Addr} {fd16:FuncData} {f17:Addr} {fd17:FuncData} {f18:Addr} {fd18:FuncData} {f19:Addr} {fd19:FuncData} {f20:Addr} {fd20:FuncData} {f21:Addr} {od21 an21:Option Addr} {sl21:Array (Option Value)} {oc21 kV21 dc21 pm21 cd21 ct21:Value} {T21:Addr} {oT21:Obj} {nT21:Nat} {tk21:Tok} {f22:Addr} {fd22:FuncData} {f23:Addr} {fd23:FuncData} {f24:Addr} {fd24:FuncData} {f25:Addr} {fd25:FuncData} {f26:Addr} {fd26:FuncData} {f27:Addr} {od27 an27:Option Addr} {sl27:Array (Option Value)} {oc27 kV27 dc27 pm27 cd27 ct27:Value} {tg0:Tok}
  (a1 : PySem.W.nsIn K mainGlobals "_law_draw" = some (some (.ref f1)))
  (F1 : Fun K "_law_draw" "_law_draw" Dp f1 fd1)
  (a2 : PySem.W.nsIn K mainGlobals "_law_cell" = some (some (.ref f2)))
  (F2 : Fun K "_law_cell" "_law_cell" Dr f2 fd2)
  (a3 : PySem.W.nsIn K mainGlobals "_law_many" = some (some (.ref f3)))
  (F3 : Fun K "_law_many" "_law_many" Do f3 fd3)
  (a4 : PySem.W.nsIn K mainGlobals "is_way" = some (some (.ref f4)))
  (F4 : Fun K "is_way" "is_way" Hj f4 fd4)
  (a5 : PySem.W.nsIn K mainGlobals "check_way" = some (some (.ref f5)))
  (F5 : Fun K "check_way" "check_way" Dm f5 fd5)
  (a6 : PySem.W.nsIn K mainGlobals "woods" = some (some (.ref f6)))
  (F6 : Fun K "woods" "woods" Kt f6 fd6)
  (a7 : PySem.W.nsIn K mainGlobals "lots" = some (some (.ref f7)))
  (F7 : Fun K "lots" "lots" slots f7 fd7)
  (a8 : PySem.W.nsIn K mainGlobals "way_of" = some (some (.ref f8)))
  (F8 : Fun K "way_of" "way_of" Hc f8 fd8)
  (a9 : PySem.W.nsIn K mainGlobals "relabelled" = some (some (.ref f9)))
  (F9 : Fun K "relabelled" "relabelled" Cu f9 fd9)
  (a10 : PySem.W.nsIn K mainGlobals "joinings" = some (some (.ref f10)))
  (F10 : Fun K "joinings" "joinings" Em f10 fd10)
  (a11 : PySem.W.nsIn K mainGlobals "choices" = some (some (.ref f11)))
  (F11 : Fun K "choices" "choices" Fc f11 fd11)
  (a12 : PySem.W.nsIn K mainGlobals "parted" = some (some (.ref f12)))
  (F12 : Fun K "parted" "parted" HL f12 fd12)
  (a13 : PySem.W.nsIn K mainGlobals "partings" = some (some (.ref f13)))
  (F13 : Fun K "partings" "partings" DW f13 fd13)
  (a14 : PySem.W.nsIn K mainGlobals "_law_num" = some (some (.ref f14)))
  (F14 : Fun K "_law_num" "_law_num" Ey f14 fd14)
  (a15 : PySem.W.nsIn K mainGlobals "_law_row_ok" = some (some (.ref f15)))
  (F15 : Fun K "_law_row_ok" "_law_row_ok" B1 f15 fd15)
  (a16 : PySem.W.nsIn K mainGlobals "_law_way_ok" = some (some (.ref f16)))
  (F16 : Fun K "_law_way_ok" "_law_way_ok" B5 f16 fd16)
  (a17 : PySem.W.nsIn K mainGlobals "_law_way" = some (some (.ref f17)))
  (F17 : Fun K "_law_way" "_law_way" Ec f17 fd17)
  (a18 : PySem.W.nsIn K mainGlobals "_law_all" = some (some (.ref f18)))
  (F18 : Fun K "_law_all" "_law_all" Ew f18 fd18)
  (a19 : PySem.W.nsIn K mainGlobals "_law_pairs" = some (some (.ref f19)))
  (F19 : Fun K "_law_pairs" "_law_pairs" Cw f19 fd19)
  (a20 : PySem.W.nsIn K mainGlobals "_law_lots" = some (some (.ref f20)))
  (F20 : Fun K "_law_lots" "_law_lots" Dq f20 fd20)
  (a21 : PySem.W.nsIn K mainGlobals "_law_split" = some (some (.ref f21)))
  (l21 : K.lookup f21 = some ⟨oc21,od21,.func (PySem.W.fnOf "_law_split" "_law_split" (Bd A5) (A1 A5) (Ai A5) (.ref T21) kV21 dc21 pm21 an21 cd21 ct21),sl21⟩)
  (c21 : PySem.W.codeIn K cd21 "_law_split" = true) (k21 : PySem.W.keepIn K (.ref f21) = true)
  (lT21:K.lookup T21=some oT21) (dT21:oT21.data = .seq [Value.int 0 tk21].toArray nT21)
  (a22 : PySem.W.nsIn K mainGlobals "_law_alike_pairs" = some (some (.ref f22)))
  (F22 : Fun K "_law_alike_pairs" "_law_alike_pairs" A4 f22 fd22)
  (a23 : PySem.W.nsIn K mainGlobals "_law_below" = some (some (.ref f23)))
  (F23 : Fun K "_law_below" "_law_below" Cq f23 fd23)
  (a24 : PySem.W.nsIn K mainGlobals "_law_ways_ok" = some (some (.ref f24)))
  (F24 : Fun K "_law_ways_ok" "_law_ways_ok" BJ f24 fd24)
  (a25 : PySem.W.nsIn K mainGlobals "_law_one_joining" = some (some (.ref f25)))
  (F25 : Fun K "_law_one_joining" "_law_one_joining" A6 f25 fd25)
  (a26 : PySem.W.nsIn K mainGlobals "_law_cuts" = some (some (.ref f26)))
  (F26 : Fun K "_law_cuts" "_law_cuts" Dg f26 fd26)
  (a27 : PySem.W.nsIn K mainGlobals "law" = some (some (.ref f27)))
  (l27 : K.lookup f27 = some ⟨oc27,od27,.func (PySem.W.fnOf "law" "law" (Bd LM) (A1 LM) (Ai LM) .none kV27 dc27 pm27 an27 cd27 ct27),sl27⟩)
  (c27 : PySem.W.codeIn K cd27 "law" = true) (k27 : PySem.W.keepIn K (.ref f27) = true)
  (z0 : PySem.W.nsIn K mainGlobals "all" = some none)
  (z1 : PySem.W.nsIn K mainGlobals "bool" = some none)
  (z2 : PySem.W.nsIn K mainGlobals "enumerate" = some none)
  (z3 : PySem.W.nsIn K mainGlobals "int" = some none)
  (z4 : PySem.W.nsIn K mainGlobals "isinstance" = some none)
  (z5 : PySem.W.nsIn K mainGlobals "len" = some none)
  (z6 : PySem.W.nsIn K mainGlobals "list" = some none)
  (z7 : PySem.W.nsIn K mainGlobals "max" = some none)
  (z8 : PySem.W.nsIn K mainGlobals "min" = some none)
  (z9 : PySem.W.nsIn K mainGlobals "range" = some none)
  (z10 : PySem.W.nsIn K mainGlobals "sorted" = some none)
  (z11 : PySem.W.nsIn K mainGlobals "sum" = some none)
  (z12 : PySem.W.nsIn K mainGlobals "tuple" = some none)
  (mc0 : PySem.W.nsIn K mainGlobals "MOST_CENSERS" = some (some (.int 9 tg0))) :
  ∃ fd : FuncData,(∀ (s : Shared) (v : Value),BindsTo s fd ⟨[v],[]⟩ [("_law_script",v)]) /\ ∀ base : Heap,K.In base -> base.Ns mainGlobals mg -> BQ l.prog w K mg base CX0 6 fa fd ["_law_script"] (Lm K):= by
 have e:=hfa.symm.trans (PySem.W.mg_of X G a27)
 cases e
 have B:Bs mg:=⟨PySem.W.mg_none_of X G z0,PySem.W.mg_none_of X G z1,PySem.W.mg_none_of X G z2,PySem.W.mg_none_of X G z3,PySem.W.mg_none_of X G z4,PySem.W.mg_none_of X G z5,PySem.W.mg_none_of X G z6,PySem.W.mg_none_of X G z7,PySem.W.mg_none_of X G z8,PySem.W.mg_none_of X G z9,PySem.W.mg_none_of X G z10,PySem.W.mg_none_of X G z11,PySem.W.mg_none_of X G z12⟩
 have T:Gs mg:=⟨trivial,⟨_,PySem.W.mg_of X G mc0⟩⟩
 refine ⟨PySem.W.fnOf "law" "law" (Bd LM) (A1 LM) (Ai LM) .none kV27 dc27 pm27 an27 cd27 ct27,fun s v=>.of_eq rfl,fun base kb9 _=>?_⟩
 have C1 : Cal l.prog w K mg base 1 "_law_draw" [] (Ig K):=F1.cal (GZ F1 B T   ) (PySem.W.mg_of X G a1) (fun _ _ _ _ _ _ us hl=>by obtain ⟨_,_,rfl⟩:=Ch hl; exact rfl)
 have C2 : Cal l.prog w K mg base 1 "_law_cell" [] (Km K):=F2.cal (Ho F2 B T   ) (PySem.W.mg_of X G a2) (fun _ _ _ _ _ _ us hl=>by obtain ⟨_,_,rfl⟩:=Ch hl; exact rfl)
 have C3 : Cal l.prog w K mg base 1 "_law_many" [] (K6 K):=F3.cal (HC F3 B T   ) (PySem.W.mg_of X G a3) (fun _ _ _ _ _ _ us hl=>by obtain ⟨_,_,rfl⟩:=Ch hl; exact rfl)
 have C4 : Cal l.prog w K mg base 1 "is_way" [] (G5 K):=F4.cal (LX F4 B T   ) (PySem.W.mg_of X G a4) (fun _ _ _ _ _ _ us hl=>by obtain ⟨_,rfl⟩:=Bh hl; exact rfl)
 have C5 : Cal l.prog w K mg base 2 "check_way" [] (Di K):=F5.cal (HI F5 B T   C4) (PySem.W.mg_of X G a5) (fun _ _ _ _ _ _ us hl=>by obtain ⟨_,rfl⟩:=Bh hl; exact rfl)
 have C6 : Cal l.prog w K mg base 3 "woods" [] (Fv K):=F6.cal (Nd F6 B T   C5) (PySem.W.mg_of X G a6) (fun _ _ _ _ _ _ us hl=>by obtain ⟨_,rfl⟩:=Bh hl; exact rfl)
 have C7 : Cal l.prog w K mg base 4 "lots" [] (JW K):=F7.cal (Oq F7 B T   C6) (PySem.W.mg_of X G a7) (fun _ _ _ _ _ _ us hl=>by obtain ⟨_,rfl⟩:=Bh hl; exact rfl)
 have C8 : Cal l.prog w K mg base 1 "way_of" [] (DP K):=F8.cal (LV F8 B T   ) (PySem.W.mg_of X G a8) (fun _ _ _ _ _ _ us hl=>by obtain ⟨_,rfl⟩:=Bh hl; exact rfl)
 have C9 : Cal l.prog w K mg base 1 "relabelled" [] (FJ K):=F9.cal (Gm F9 B T   ) (PySem.W.mg_of X G a9) (fun _ _ _ _ _ _ us hl=>by obtain ⟨_,_,_,rfl⟩:=Mk hl; exact rfl)
 have C10 : Cal l.prog w K mg base 5 "joinings" [] (G9 K):=F10.cal (Iy F10 B T   C9 C8 C6) (PySem.W.mg_of X G a10) (fun _ _ _ _ _ _ us hl=>by obtain ⟨_,rfl⟩:=Bh hl; exact rfl)
 have C11 : Cal l.prog w K mg base 1 "choices" [] (Et K):=F11.cal (Ka F11 B T   ) (PySem.W.mg_of X G a11) (fun _ _ _ _ _ _ us hl=>by obtain ⟨_,rfl⟩:=Bh hl; exact rfl)
 have C12 : Cal l.prog w K mg base 4 "parted" [] (Fm K):=F12.cal (LP F12 B T   C8) (PySem.W.mg_of X G a12) (fun _ _ _ _ _ _ us hl=>by obtain ⟨_,_,rfl⟩:=Ch hl; exact rfl)
 have C13 : Cal l.prog w K mg base 5 "partings" [] (Ds K):=F13.cal (Ja F13 B T   C11 C7 C12) (PySem.W.mg_of X G a13) (fun _ _ _ _ _ _ us hl=>by obtain ⟨_,rfl⟩:=Bh hl; exact rfl)
 have C14 : Cal l.prog w K mg base 1 "_law_num" [] Ni:=F14.cal (IS F14 B T   ) (PySem.W.mg_of X G a14) (fun _ _ _ _ _ _ us hl=>by obtain ⟨_,rfl⟩:=Bh hl; exact rfl)
 have C15 : Cal l.prog w K mg base 1 "_law_row_ok" [] (G6 K):=F15.cal (FK F15 B T   ) (PySem.W.mg_of X G a15) (fun _ _ _ _ _ _ us hl=>by obtain ⟨_,rfl⟩:=Bh hl; exact rfl)
 have C16 : Cal l.prog w K mg base 2 "_law_way_ok" [] (Hg K):=F16.cal (Fs F16 B T   C14 C15) (PySem.W.mg_of X G a16) (fun _ _ _ _ _ _ us hl=>by obtain ⟨_,_,rfl⟩:=Ch hl; exact rfl)
 have C17 : Cal l.prog w K mg base 2 "_law_way" [] (MV K):=F17.cal (IY F17 B T   C1) (PySem.W.mg_of X G a17) (fun _ _ _ _ _ _ us hl=>by obtain ⟨_,_,rfl⟩:=Ch hl; exact rfl)
 have C18 : Cal l.prog w K mg base 1 "_law_all" [] (Nn K):=F18.cal (I8 F18 B T   ) (PySem.W.mg_of X G a18) (fun _ _ _ _ _ _ us hl=>by obtain ⟨_,rfl⟩:=Bh hl; exact rfl)
 have C19 : Cal l.prog w K mg base 1 "_law_pairs" [] (Hm K):=F19.cal (GM F19 B T   ) (PySem.W.mg_of X G a19) (fun _ _ _ _ _ _ us hl=>by obtain ⟨_,rfl⟩:=Bh hl; exact rfl)
 have C20 : Cal l.prog w K mg base 1 "_law_lots" [] (G2 K):=F20.cal (Hx F20 B T   ) (PySem.W.mg_of X G a20) (fun _ _ _ _ _ _ us hl=>by obtain ⟨_,rfl⟩:=Bh hl; exact rfl)
 have F21:=My (st:=A5) (ds:=[Value.int 0 tk21]) l21 c21 k21 lT21 dT21
 have D21 : Cal l.prog w K mg base 1 "_law_split" [] E7:=⟨f21,_,_,[],Dw F21 B T   , PySem.W.mg_of X G a21,k21,F21.binds (es:=[]) (fun _ _ _ _ _ _ _ us hl=>by obtain ⟨_,_,_,rfl⟩:=Mk (show us.length = 3 from by simpa using hl); exact ⟨_,rfl,rfl⟩),.nil⟩
 have C21 : Cal l.prog w K mg base 1 "_law_split" [.int 0] E7:=⟨f21,_,_,[Value.int 0 tk21],Dw F21 B T   , PySem.W.mg_of X G a21,k21,F21.binds (fun _ _ _ _ _ _ _ us hl=>by obtain ⟨_,_,rfl⟩:=Ch (show us.length = 2 from by simpa using hl); exact ⟨_,rfl,rfl⟩),.cons ⟨_,rfl⟩ .nil⟩
 have C22 : Cal l.prog w K mg base 2 "_law_alike_pairs" [] (Fz K):=F22.cal (CQ F22 B T   C19) (PySem.W.mg_of X G a22) (fun _ _ _ _ _ _ us hl=>by obtain ⟨_,rfl⟩:=Bh hl; exact rfl)
 have C23 : Cal l.prog w K mg base 3 "_law_below" [] (G1 K):=F23.cal (GA F23 B T   C22) (PySem.W.mg_of X G a23) (fun _ _ _ _ _ _ us hl=>by obtain ⟨_,_,rfl⟩:=Ch hl; exact rfl)
 have C24 : Cal l.prog w K mg base 3 "_law_ways_ok" [] (D7 K):=F24.cal (EH F24 B T   C16) (PySem.W.mg_of X G a24) (fun _ _ _ _ _ _ us hl=>by obtain ⟨_,_,rfl⟩:=Ch hl; exact rfl)
 have C25 : Cal l.prog w K mg base 4 "_law_one_joining" [] (KM K):=F25.cal (Da F25 B T   C23) (PySem.W.mg_of X G a25) (fun _ _ _ _ _ _ us hl=>by obtain ⟨_,_,rfl⟩:=Ch hl; exact rfl)
 have C26 : Cal l.prog w K mg base 2 "_law_cuts" [] (JJ K):=F26.cal (He F26 B T   C20) (PySem.W.mg_of X G a26) (fun _ _ _ _ _ _ us hl=>by obtain ⟨_,rfl⟩:=Bh hl; exact rfl)
 have F27:=Mc (st:=LM) l27 c27 k27
 exact OV F27 B T   C18 C2 C26 C1 C3 C25 C21 C17 C24 C10 C13
theorem Qj {l:PySem.W.OpenLaw} {q:Program} {loose:List Str} {XP:(Str->Option Value)->Heap->Prop} {YP:World->Heap->Prop} {d:DefRec} {K:Params->PySem.W.Frag} (hn:l.most=some 63) (hdf:d.params.defaults=[])
  (hY : ∀ (w:World) (h:Heap),YP w h->(K w.params).In h)
  (F : ∀ (w:World) (mg:Str->Option Value) (fa:Addr) (h:Heap),(K w.params).In h->h.Ns mainGlobals mg->mg d.name=some (.ref fa) ->
   ∃ fd : FuncData,(∀ (s : Shared) (u : Value),BindsTo s fd ⟨[u],[]⟩ [("_law_script",u)]) /\ ∀ base : Heap,(K w.params).In base -> base.Ns mainGlobals mg -> BQ l.prog w (K w.params) mg base CX0 6 fa fd ["_law_script"] (Lm (K w.params))) :
  PySem.W.WalkO q loose XP YP l.row.toRowW d [] (fun f vs=>PySem.call f vs):=
 L2.MZ (n:=63) (k:=6) (x:="_law_script") (CX:=fun _=>CX0) (sp:=fun w=>Lm (K w.params)) hn (by decide) hdf ⟨rfl,by decide,by decide⟩ hY F (fun _ _ a ns hl _ hS=>⟨a,ns,rfl,hS,hl,fun _=>rfl⟩) fun _ _ _ _ _ z=>z
end Lw
open PySem PySem.W PyProof.Rows
set_option maxRecDepth 100000 in
set_option maxHeartbeats 0 in
theorem PySem.Challenge.cw_censers_k19_partings_holds : PySem.Challenge.rw_censers_k19_partings.Holds := by
 w_on;o_law;k_head;(case hw=>w_witness2)
 k_fill
 refine Lw.Qj (l:=PySem.Challenge.rw_censers_k19_partings) rfl rfl (fun w h Y=>PySem.W.kIn_of Y) ?F
 case F=>
  intro w mg fa h KX G hmg
  refine' Lw.NC KX G hmg ?a1 ?F1 ?a2 ?F2 ?a3 ?F3 ?a4 ?F4 ?a5 ?F5 ?a6 ?F6 ?a7 ?F7 ?a8 ?F8 ?a9 ?F9 ?a10 ?F10 ?a11 ?F11 ?a12 ?F12 ?a13 ?F13 ?a14 ?F14 ?a15 ?F15 ?a16 ?F16 ?a17 ?F17 ?a18 ?F18 ?a19 ?F19 ?a20 ?F20 ?a21 ?l21 ?c21 ?k21 ?lT21 ?dT21 ?a22 ?F22 ?a23 ?F23 ?a24 ?F24 ?a25 ?F25 ?a26 ?F26 ?a27 ?l27 ?c27 ?k27 ?z0 ?z1 ?z2 ?z3 ?z4 ?z5 ?z6 ?z7 ?z8 ?z9 ?z10 ?z11 ?z12 ?mc0
  (case a1 | a2 | a3 | a4 | a5 | a6 | a7 | a8 | a9 | a10 | a11 | a12 | a13 | a14 | a15 | a16 | a17 | a18 | a19 | a20 | a21 | a22 | a23 | a24 | a25 | a26 | a27=>k_is)
  (case F1 | F2 | F3 | F4 | F5 | F6 | F7 | F8 | F9 | F10 | F11 | F12 | F13 | F14 | F15 | F16 | F17 | F18 | F19 | F20 | F22 | F23 | F24 | F25 | F26=>apply L2.Mc <;> k_is)
  (case l21 | c21 | k21 | lT21=>k_is)
  (case dT21=>rfl)
  (case l27 | c27 | k27 | z0 | z1 | z2 | z3 | z4 | z5 | z6 | z7 | z8 | z9 | z10 | z11 | z12 | mc0=>k_is)
